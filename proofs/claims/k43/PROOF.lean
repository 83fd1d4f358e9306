import PyProof.Rows.All
import Wide.All
import OpenK.AllK
import Wide.FinOn
import Lean
import PyProof.EqAt
import PyProof.EqKinds
import PyProof.TupleCall
import PyProof.NeKinds
import KE.KRevIter
import KE.KSortTup
import Wide.Txt2
import PyProof.FString4
import KE.KIntText
import PyProof.ZipIter
import PyProof.TupleIter
import PyProof.WalksMore
import PyProof.Rows.SortShell
import KE.KDictSum
import PyProof.Rows.SortStr
import KE.KIsAll
import PyProof.ExcArgsOwn
import PyProof.ExcAttrAll.ValueError
import OpenK.KDescr
import PyProof.StationsW
import OpenK.KOwn
import KE.KTryMore
import OpenK.KRaise
import PyProof.RulesDel
import PyProof.RulesAs
import PyProof.Rows.Catch
import PySem.Challenge.RW_flagroll_k43_marks_and_cells
set_option maxHeartbeats 8000000
set_option Elab.async false
set_option linter.all false
set_option maxRecDepth 100000
namespace L2
open PySem PySem.Spec PyProof.Rows
noncomputable abbrev Key:=Sum Int Str
noncomputable def fL:Key->Value->Bool
 | .inl k,v=>Value.isInt k v
 | .inr x,v=>Value.isStrOf x v
noncomputable def AW (w:World):Key->Int
 | .inl k=>hashInt k
 | .inr x=>hashStr w x
theorem aF:∀ {k:Key} {v:Value},fL k v=true->(∃ i t,k=Sum.inl i/\v=Value.int i t)∨(∃ x t,k=Sum.inr x/\v=Value.str x t)
 | .inl i,v,h=>by
  obtain⟨t,e⟩:=Value.isInt_shape (k:=i) (v:=v) h
  exact .inl ⟨i,t,rfl,e⟩
 | .inr x,v,h=>by
  obtain⟨t,e⟩:=Value.isStrOf_shape (x:=x) (v:=v) h
  exact .inr ⟨x,t,rfl,e⟩
theorem lJ (i:Int) (t:Tok):fL (.inl i) (.int i t)=true:=by simp[fL,Value.isInt]
theorem lL (x:Str) (t:Tok):fL (.inr x) (.str x t)=true:=by simp[fL,Value.isStrOf]
theorem u6 (a b:Int):decide ((Sum.inl a:Key)=Sum.inl b)=(a == b):=by
 by_cases e:a=b
 ·subst e;simp
 ·have h:¬ (Sum.inl a:Key)=Sum.inl b:=fun q=>e (Sum.inl.inj q)
  rw[decide_eq_false h]
  exact(beq_eq_false_iff_ne.mpr e).symm
theorem u7 (a b:Str):decide ((Sum.inr a:Key)=Sum.inr b)=decide (a=b):=by
 by_cases e:a=b
 ·subst e;simp
 ·have h:¬ (Sum.inr a:Key)=Sum.inr b:=fun q=>e (Sum.inr.inj q)
  rw[decide_eq_false h,decide_eq_false e]
theorem u9 (a:Int) (b:Str):decide ((Sum.inl a:Key)=Sum.inr b)=false:=decide_eq_false (fun q=>nomatch q)
theorem vc (a:Str) (b:Int):decide ((Sum.inr a:Key)=Sum.inl b)=false:=decide_eq_false (fun q=>nomatch q)
noncomputable def aQ (prog:Program) (w:World):PySem.KeyKind prog w Key where
 is:=fL
 hash:=AW w
 inj:=fun v a b ha hb=>by
  rcases aF ha with ⟨i,t,rfl,rfl⟩ | ⟨x,t,rfl,rfl⟩
  ·rcases aF hb with ⟨j,u,rfl,e⟩ | ⟨y,u,rfl,e⟩
   ·injection e with e1 _;rw[e1]
   ·exact nomatch e
  ·rcases aF hb with ⟨j,u,rfl,e⟩ | ⟨y,u,rfl,e⟩
   ·exact nomatch e
   ·injection e with e1 _;rw[e1]
 byValue:=fun k v h=>by
  rcases aF h with ⟨i,t,rfl,rfl⟩ | ⟨x,t,rfl,rfl⟩<;>rfl
 pyHash:=fun hv h=>by
  rcases aF hv with ⟨i,t,rfl,rfl⟩ | ⟨x,t,rfl,rfl⟩
  ·exact wpAny_pyHash_int h
  ·exact wpAny_pyHash_str h
 eqBool:=fun hu hv h=>by
  rcases aF hu with ⟨i,t,rfl,rfl⟩ | ⟨x,t,rfl,rfl⟩
  ·rcases aF hv with ⟨j,u,rfl,rfl⟩ | ⟨y,u,rfl,rfl⟩
   ·rw[u6] at h;exact wpAny_eqBool_int h
   ·rw[u9] at h;exact SeqAt.EqAt.int_str i t y u _ _ _ _ h
  ·rcases aF hv with ⟨j,u,rfl,rfl⟩ | ⟨y,u,rfl,rfl⟩
   ·rw[vc] at h;exact SeqAt.EqAt.str_int x t j u _ _ _ _ h
   ·rw[u7] at h;exact wpAny_eqBool_str h
 «strs»:=fun k x t v h=>by
  rcases aF h with ⟨i,u,rfl,e⟩ | ⟨y,u,rfl,e⟩
  ·exact nomatch e
  ·injection e with e1 _
   subst e1
   cases v<;>rfl
theorem ip (prog:Program) (w:World) (i:Int) (t:Tok):(aQ prog w).is (.inl i) (.int i t)=true:=lJ i t
theorem iq (prog:Program) (w:World) (x:Str) (t:Tok):(aQ prog w).is (.inr x) (.str x t)=true:=lL x t
inductive V where
 | non | bl (b:Bool) | int (i:Int) | str (x:Str) | byt (b:Array UInt8) | flt (b:UInt64) | ref (a:Addr) | ty (n:String)
 deriving DecidableEq
noncomputable def RelV:V->Value->Prop
 | .non,u=>u=Value.none
 | .bl b,u=>u=Value.bool b
 | .int i,u=>∃ t,u=Value.int i t
 | .str x,u=>∃ t,u=Value.str x t
 | .byt b,u=>∃ t,u=Value.bytes b t
 | .flt b,u=>∃ t,u=Value.float b t
 | .ref a,u=>u=Value.ref a
 | .ty n,u=>u=Value.type n
noncomputable abbrev Vals:List V->List Value->Prop:=Paired RelV
theorem Vals.length {xs:List V} {us:List Value} (r:Vals xs us):xs.length=us.length:=Paired.length r
theorem Vals.get:∀ {xs:List V} {us:List Value} {i:Nat} {x:V},Vals xs us->xs[i]? = some x->∃ u,us[i]? = some u/\RelV x u
 | _,_,_,_,.nil,e=>by simp at e
 | _,_,0,_,.cons r _,e=>by simp at e;subst e;exact⟨_,rfl,r⟩
 | _,_,i + 1,x,.cons _ t,e=>by
  obtain⟨u,h1,h2⟩:=Vals.get (i:=i) (x:=x) t (by simpa using e)
  exact⟨u,by simpa using h1,h2⟩
theorem Vals.append:∀ {xs ys:List V} {us ws:List Value},Vals xs us->Vals ys ws->Vals (xs++ys) (us++ws)
 | _,_,_,_,.nil,s=>s
 | _,_,_,_,.cons r t,s=>.cons r (Vals.append t s)
theorem Vals.take:∀ {xs:List V} {us:List Value} (n:Nat),Vals xs us->Vals (xs.take n) (us.take n)
 | _,_,0,_=>.nil
 | _,_,_ + 1,.nil=>.nil
 | _,_,n + 1,.cons r t=>.cons r (Vals.take n t)
theorem Vals.drop:∀ {xs:List V} {us:List Value} (n:Nat),Vals xs us->Vals (xs.drop n) (us.drop n)
 | _,_,0,r=>r
 | _,_,_ + 1,.nil=>.nil
 | _,_,n + 1,.cons _ t=>Vals.drop n t
noncomputable def lM:Option V->Option Value->Prop
 | some v,some u=>RelV v u
 | none,none=>True
 | _,_=>False
noncomputable def KV {κ:Type}:List (κ×V)->List (κ×Value)->Prop:=Paired fun (p:κ×V) (q:κ×Value)=>p.1=q.1/\RelV p.2 q.2
noncomputable def kV:Key->V
 | .inl i=>.int i
 | .inr x=>.str x
inductive HO where
 | lst (xs:List V)
 | tup (xs:List V)
 | dK (kvs:List (Key×V)) | dT (kvs:List (List Key×V))
 | set (S:Int->Bool) (n:Nat)
 | ins (C dx:Addr) (fs:List (Str×V))
 | own (x:Addr)
 | xd (fs:List (Str×V))
 | met (f x:Addr)
 | rng (lo hi:Int)
 | frz (o:Obj) (u:HO)
 | tbl (ps:Array Value)
 | ext (φ:Heap->Prop)
noncomputable abbrev Hp:=Addr->Option HO
noncomputable def upd (H:Hp) (a:Addr) (o:HO):Hp:=fun b=>if b=a then some o else H b
theorem ar {H:Hp} {a:Addr} {o:HO}:upd H a o a=some o:=by unfold upd;rw[if_pos rfl]
theorem aj {H:Hp} {a b:Addr} {o:HO} (h:b≠a):upd H a o b=H b:=by unfold upd;rw[if_neg h]
theorem xF {H:Hp} {a b:Addr} {o u:HO} (h:H a=some o) (h':H b=some u) (d:o≠u):a≠b:=by
 intro e;subst e;rw[h] at h';exact d (Option.some.inj h')
theorem aB {H:Hp} {a b:Addr} {o:HO} (h:H a=some o) (h':H b=none):a≠b:=by
 intro e;subst e;rw[h] at h';cases h'
section
variable (P:Program) (w:World)
noncomputable def aD (H:Hp) (h:Heap) (a:Addr):HO->Prop
 | .lst xs=>xs.length<=sizeLine/\∃ (its:List Value) (n:Nat),Vals xs its/\h.get? a=some {cls:=.type "list",data:=.seq its.toArray n}
 | .tup xs=>xs.length<=sizeLine/\∃ its:List Value,Vals xs its/\IsTup h a its.toArray
 | .dK kvs=>kvs.length<=sizeLine/\(a == sysModules)=false/\∃ vs,KV kvs vs/\h.DictOf (aQ P w) a vs
 | .dT kvs=>kvs.length<=sizeLine/\(a == sysModules)=false/\∃ xs:List (List Key×Addr×Value),
   Paired (fun (p:List Key×V) (q:List Key×Addr×Value)=>p.1=q.1/\H q.2.1=some (.tup (p.1.map kV))/\RelV p.2 q.2.2) kvs xs/\
   ∃ o es ep,h.get? a=some o/\o.ExactDict/\o.data=.dict es ep/\es.toList=xs.map (entryOfKey (tupleKind (aQ P w)))/\(xs.map (·.1)).Nodup
 | .set S n=>h.SetOf (intKind P w) a S n
 | .ins C dx fs=>H dx=some (.own a)/\fs.length<=1000/\dx≠a/\h.get? a=some (PySem.W.instObj C dx)/\
   ∃ mA,h.Ns1 dx mA/\(∀ f,lM (fs.lookup f) (mA f))/\PySem.Within mA (fs.map (·.1))
 | .own _=>∃ o,h.get? a=some o
 | .xd fs=>∃ mA,h.Ns1 a mA/\∀ f,lM (fs.lookup f) (mA f)
 | .rng lo hi=>∃ t u v,h.get? a=some {cls:=.type "range",data:=.fields #[.int lo t,.int hi u,.int 1 v]}
 | .frz o u=>h.get? a=some o/\aD H h a u
 | .tbl ps=>h.get? a=some {cls:=.none,data:=.fields ps}
 | .met f x=>h.get? a=some (PySem.W.methodObj (.ref f) (.ref x))
 | .ext φ=>φ h/\(∃ o,h.get? a=some o)/\∀ h1 h2:Heap,φ h1->(∀ o,h1.get? a=some o->h2.get? a=some o)->φ h2
noncomputable def HOk (H:Hp) (h:Heap):Prop:=∀ a o,H a=some o->aD P w H h a o
end
section
variable {P:Program} {w:World} {H H':Hp} {h h':Heap} {a:Addr} {o:HO}
theorem aD.lt (x:aD P w H h a o):a < h.objs.size:=by
 cases o with
 | lst xs=>obtain⟨_,_,_,_,e⟩:=x;exact Heap.lt_size e
 | tup xs=>obtain⟨_,_,_,p⟩:=x;exact p.lt
 | dK kvs=>obtain⟨_,_,_,_,o,_,_,e,_⟩:=x;exact Heap.lt_size e
 | dT kvs=>obtain⟨_,_,_,_,o,_,_,e,_⟩:=x;exact Heap.lt_size e
 | set S n=>obtain⟨o,_,_,_,e,_⟩:=x;exact Heap.lt_size e
 | ins C dx fs=>obtain⟨_,_,_,e,_⟩:=x;exact Heap.lt_size e
 | own y=>obtain⟨_,e⟩:=x;exact Heap.lt_size e
 | xd fs=>obtain⟨_,⟨_,_,_,e,_⟩,_⟩:=x;exact Heap.lt_size e
 | rng lo hi=>obtain⟨_,_,_,e⟩:=x;exact Heap.lt_size e
 | frz ob u=>obtain⟨e,_⟩:=x;exact Heap.lt_size e
 | tbl ps=>exact Heap.lt_size (show h.get? a=some _ from x)
 | met f y=>exact Heap.lt_size (show h.get? a=some _ from x)
 | ext φ=>obtain⟨_,⟨_,e⟩,_⟩:=x;exact Heap.lt_size e
theorem Paired.mapP {α β:Type} {F G:α->β->Prop}:∀ {l₁:List α} {l₂:List β},Paired F l₁ l₂->(∀ a b,F a b->G a b)->Paired G l₁ l₂
 | _,_,.nil,_=>.nil
 | _,_,.cons r t,f=>.cons (f _ _ r) (Paired.mapP t f)
theorem aD.stay (x:aD P w H h a o) (k:∀ b u,(b=a∨H b=some (.own a))->h.get? b=some u->h'.get? b=some u)
  (ho:∀ b,H b=some (.own a)->H' b=some (.own a)) (ht:∀ b xs,H b=some (.tup xs)->H' b=some (.tup xs)):aD P w H' h' a o:=by
 induction o with
 | lst xs=>obtain⟨z,its,n,r,e⟩:=x;exact⟨z,its,n,r,k _ _ (.inl rfl) e⟩
 | tup xs=>obtain⟨z,its,r,ob,e,c⟩:=x;exact⟨z,its,r,ob,k _ _ (.inl rfl) e,c⟩
 | dK kvs=>obtain⟨z,y,vs,r,ob,es,ep,e,c⟩:=x;exact⟨z,y,vs,r,ob,es,ep,k _ _ (.inl rfl) e,c⟩
 | dT kvs=>
  obtain⟨z,y,xs,r,ob,es,ep,e,c⟩:=x
  exact⟨z,y,xs,Paired.mapP r fun p q z=>⟨z.1,ht _ _ z.2.1,z.2.2⟩,ob,es,ep,k _ _ (.inl rfl) e,c⟩
 | set S n=>obtain⟨ob,es,ep,t,e,c⟩:=x;exact⟨ob,es,ep,t,k _ _ (.inl rfl) e,c⟩
 | ins C dx fs=>
  obtain⟨d,z,ne,e,mA,⟨od,es,ep,e2,c⟩,r⟩:=x
  exact⟨ho _ d,z,ne,k _ _ (.inl rfl) e,mA,⟨od,es,ep,k _ _ (.inr d) e2,c⟩,r⟩
 | own y=>obtain⟨ob,e⟩:=x;exact⟨ob,k _ _ (.inl rfl) e⟩
 | xd fs=>obtain⟨mA,⟨od,es,ep,e,c⟩,r⟩:=x;exact⟨mA,⟨od,es,ep,k _ _ (.inl rfl) e,c⟩,r⟩
 | rng lo hi=>obtain⟨t,u,v,e⟩:=x;exact⟨t,u,v,k _ _ (.inl rfl) e⟩
 | frz ob u ih=>obtain⟨e,q⟩:=x;exact⟨k _ _ (.inl rfl) e,ih q⟩
 | tbl ps=>
  have e:h.get? a=some {cls:=.none,data:=.fields ps}:=x
  show h'.get? a=some {cls:=.none,data:=.fields ps}
  exact k a _ (.inl rfl) e
 | met f y=>
  have e:h.get? a=some (PySem.W.methodObj (.ref f) (.ref y)):=x
  show h'.get? a=some (PySem.W.methodObj (.ref f) (.ref y))
  exact k a _ (.inl rfl) e
 | ext φ=>obtain⟨p,⟨o,e⟩,st⟩:=x;exact⟨st _ _ p fun o q=>k _ _ (.inl rfl) q,⟨o,k _ _ (.inl rfl) e⟩,st⟩
theorem HOk.lt (x:HOk P w H h) (e:H a=some o):a < h.objs.size:=(x a o e).lt
theorem HOk.fresh (x:HOk P w H h) (e:h.objs.size<=a):H a=none:=by
 cases q:H a with
 | none=>rfl
 | some u=>exact absurd (Nat.lt_of_lt_of_le (x.lt q) e) (Nat.lt_irrefl _)
theorem HOk.kept (x:HOk P w H h) (k:∀ b u,h.get? b=some u->h'.get? b=some u):HOk P w H h':=fun a o e=>
 (x a o e).stay (fun b u _ q=>k b u q) (fun _ q=>q) fun _ _ q=>q
theorem HOk.laid (x:HOk P w H h) (k:∀ b u,h.get? b=some u->h'.get? b=some u) (hp:h.objs.size<=a) (new:aD P w (upd H a o) h' a o):HOk P w (upd H a o) h':=fun b u e=>by
 have hn:=x.fresh hp
 by_cases hb:b=a
 ·subst hb;rw[ar] at e;cases e;exact new
 ·rw[aj hb] at e
  exact(x b u e).stay (fun c v _ q=>k c v q) (fun c q=>by rw[aj (aB q hn)];exact q) fun c xs q=>by rw[aj (aB q hn)];exact q
end
noncomputable def Rd (H:Hp) (a:Addr) (u:HO):Prop:=H a=some u∨∃ o,H a=some (.frz o u)
theorem Rd.ok {P:Program} {w:World} {H:Hp} {h:Heap} {a:Addr} {u:HO} (r:Rd H a u) (x:HOk P w H h):aD P w H h a u:=by
 rcases r with r | ⟨o,r⟩
 ·exact x a u r
 ·obtain⟨_,q⟩:=x a _ r
  exact q
noncomputable def Mut:Option HO->Prop
 | some (.lst _)=>True
 | some (.dK _)=>True
 | some (.dT _)=>True
 | some (.set _ _)=>True
 | some (.ins _ _ _)=>True
 | some (.ext _)=>True
 | _=>False
section
variable {P:Program} {w:World} {H:Hp} {h h':Heap} {x e:Addr} {o':HO}
theorem HOk.write (ok:HOk P w H h) (mu:Mut (H x)) (he:e=x∨H e=some (.own x)) (k:∀ b u,b≠e->h.get? b=some u->h'.get? b=some u) (heo:∃ u,h'.get? e=some u)
  (new:aD P w (upd H x o') h' x o'):HOk P w (upd H x o') h':=fun b u q=>by
 have nown:∀ c y,H c=some (.own y)->c≠x:=fun c y r z=>by subst z;rw[r] at mu;exact mu
 have ntup:∀ c xs,H c=some (.tup xs)->c≠x:=fun c xs r z=>by subst z;rw[r] at mu;exact mu
 by_cases hb:b=x
 ·subst hb;rw[ar] at q;cases q;exact new
 ·rw[aj hb] at q
  by_cases hbe:b=e
  ·have q':H b=some (.own x):=by
    rcases he with z | z
    ·exact absurd (hbe.trans z) hb
    ·rw[hbe];exact z
   rw[q] at q';cases q'
   obtain⟨v,hv⟩:=heo
   exact⟨v,by rw[hbe];exact hv⟩
  ·refine(ok b u q).stay (fun c v hc r=>k c v ?_ r) (fun c r=>by rw[aj (nown c b r)];exact r) fun c xs r=>by rw[aj (ntup c xs r)];exact r
   rcases hc with rfl | hc
   ·exact hbe
   ·rintro rfl
    rcases he with z | z
    ·exact nown c b hc z
    ·rw[hc] at z;cases z;exact hb rfl
end
structure Un (fs ex:List Addr) (H H':Hp) (h h':Heap):Prop where
 keep:∀ b o,h.get? b=some o->H b=none->b ∉ fs->b ∉ ex->h'.get? b=some o
 slot:∀ b o,h.get? b=some o->H b=none->b ∈ fs->b ∉ ex->∃ sl,h'.get? b=some {o with slots:=sl}
 free:∀ b o,h.get? b=some o->H b=none->b ∉ ex->H' b=none
 there:∀ b o,h.get? b=some o->b ∉ ex->∃ o',h'.get? b=some o'
 tups:∀ b xs,H b=some (.tup xs)->H' b=some (.tup xs)
 frzs:∀ b o u,H b=some (.frz o u)->H' b=some (.frz o u)
 tbls:∀ b ps,H b=some (.tbl ps)->∃ more,H' b=some (.tbl (ps++more))
section
variable {fs fs' ex ex':List Addr} {H H1 H2:Hp} {h h1 h2 h':Heap} {a x e:Addr} {o:HO}
theorem Un.any (u:Un fs ex H H1 h h1) {b:Addr} {ob:Obj} (q:h.get? b=some ob) (n:H b=none) (hx:b ∉ ex):∃ sl,h1.get? b=some {ob with slots:=sl}:=by
 by_cases hb:b ∈ fs
 ·exact u.slot b ob q n hb hx
 ·exact⟨ob.slots,u.keep b ob q n hb hx⟩
theorem Un.kept (k:∀ b u,h.get? b=some u->h'.get? b=some u):Un fs ex H H h h':=
 ⟨fun b ob q _ _ _=>k b ob q,fun b ob q _ _ _=>⟨ob.slots,k b ob q⟩,fun _ _ _ n _=>n,fun b ob q _=>⟨ob,k b ob q⟩,fun _ _ q=>q,fun _ _ _ q=>q,fun _ ps q=>⟨#[],by rw[q];simp⟩⟩
theorem Un.refl:Un fs ex H H h h:=Un.kept fun _ _ q=>q
theorem Un.laid (k:∀ b u,h.get? b=some u->h'.get? b=some u) (hp:h.objs.size<=a) (hn:H a=none):Un fs ex H (upd H a o) h h' where
 keep:=fun b u q _ _ _=>k b u q
 slot:=fun b u q _ _ _=>⟨u.slots,k b u q⟩
 free:=fun b u q n _=>by rw[aj (Nat.ne_of_lt (Nat.lt_of_lt_of_le (Heap.lt_size q) hp))];exact n
 there:=fun b u q _=>⟨u,k b u q⟩
 tups:=fun b xs q=>by rw[aj (aB q hn)];exact q
 frzs:=fun b u xs q=>by rw[aj (aB q hn)];exact q
 tbls:=fun b ps q=>⟨#[],by rw[aj (aB q hn),q];simp⟩
theorem Un.write (mu:Mut (H x)) (he:e=x∨H e=some (.own x)) (k:∀ b u,b≠e->h.get? b=some u->h'.get? b=some u) (heo:∃ u,h'.get? e=some u):Un fs ex H (upd H x o) h h':=by
 have hx:∀ b,H b=none->b≠x:=fun b n z=>by subst z;rw[n] at mu;exact mu
 have hb:∀ b,H b=none->b≠e:=fun b n z=>by
  subst z
  rcases he with r | r
  ·exact hx b n r
  ·rw[n] at r;cases r
 have hm:∀ b u,H b=some u->¬ Mut (some u)->b≠x:=fun b u q nm z=>by subst z;rw[q] at mu;exact nm mu
 refine⟨fun b u q n _ _=>k b u (hb b n) q,fun b u q n _ _=>⟨u.slots,k b u (hb b n) q⟩,fun b u q n _=>by rw[aj (hx b n)];exact n,fun b u q _=>?_,
  fun b xs q=>by rw[aj (hm b _ q fun z=>z)];exact q,fun b u xs q=>by rw[aj (hm b _ q fun z=>z)];exact q,fun b ps q=>⟨#[],by rw[aj (hm b _ q fun z=>z),q];simp⟩⟩
 by_cases hbe:b=e
 ·subst hbe;exact heo
 ·exact⟨u,k b u hbe q⟩
end
noncomputable def trk (h:Heap) (H:Hp):List Addr:=(List.range h.objs.size).filter fun a=>(H a).isSome
noncomputable def gA (h:Heap) (H:Hp):Heap:=PySem.W.hideAll h (trk h H)
theorem lN (h:Heap) (H:Hp):(gA h H).objs.size=h.objs.size:=PySem.W.hideAll_size _ _
theorem mz {h:Heap} {H:Hp} {b:Addr} {o:Obj} (e:h.get? b=some o) (n:H b=none):(gA h H).get? b=some o:=
 PySem.W.hideAll_get _ e fun hm=>by
  have q:(H b).isSome=true:=(List.mem_filter.mp hm).2
  rw[n] at q;simp at q
theorem qG {h:Heap} {H:Hp} {b:Addr} {o:Obj} (e:(gA h H).get? b=some o):h.get? b=some o/\H b=none:=by
 have e':h.get? b=some o:=PySem.W.of_hideAll (trk h H) e
 refine⟨e',?_⟩
 cases q:H b with
 | none=>rfl
 | some x=>
  have hm:b ∈ trk h H:=List.mem_filter.mpr ⟨List.mem_range.mpr (Heap.lt_size e'),by simp[q]⟩
  have z:(gA h H).get? b=none:=PySem.W.hideAll_none (trk h H) hm
  rw[z] at e;cases e
structure Mod (K:PySem.W.Frag) (mg:Str->Option Value) (base:Heap):Prop where
 kin:K.In base
 glob:base.Ns mainGlobals mg
 blt:∃ mb,base.Ns builtinsNs mb/\∀ x:Str,x≠"__name__"->mb x=bootBuiltins x
 nolimit:base.NoLimit
structure Cx where
 prog:Program
 w:World
 K:PySem.W.Frag
 mg:Str->Option Value
 base:Heap
 A:Around
 N:List Str
 s₀:Shared
 H₀:Hp
 env:Env
 outer:List Env
 stack:List Env
 ex:List Addr
 fn:Str->Bool
 calm:Bool
 pn:List (Addr×Obj)
 xe:Value->Shared->Prop
noncomputable def frs (l:List Env):List Addr:=l.filterMap (·.frame)
noncomputable abbrev Cx.fs (X:Cx):List Addr:=frs X.outer
noncomputable def Vis (sc:Scope) (x:Str):Prop:=sc.names.lookup x=some .local∨sc.names.lookup x=some .cell∨sc.names.lookup x=some .free
noncomputable def Loc (sc:Scope) (x:Str):Prop:=sc.names.lookup x=some .local∨sc.names.lookup x=some .cell
noncomputable def Look (env:Env) (h:Heap) (m:Str->Option Value) (x:Str) (u:Value):Prop:=
 (env.kindOf x=some .local/\m x=some u)∨((env.kindOf x=some .cell∨env.kindOf x=some .free)/\∃ c,env.cells.lookup x=some c/\h.IsCell c (some u))
structure Cx.Ok (X:Cx):Prop where
 mod:Mod X.K X.mg X.base
 kind:X.env.scope.kind=.function
 glob:X.env.globals=mainGlobals
 blt:X.env.builtins=builtinsNs
 above:X.s₀.heap.objs.size<=X.env.locals
 inj:∀ x y c,X.env.cells.lookup x=some c->X.env.cells.lookup y=some c->x=y
 has:∀ x,(X.env.kindOf x=some .cell∨X.env.kindOf x=some .free)->∃ c,X.env.cells.lookup x=some c
 cab:∀ x c,X.fn x=true->X.env.cells.lookup x=some c->X.s₀.heap.objs.size<=c
 hd:X.calm=true->X.A.handled=none
 frames:X.A.frames=some X.stack
 stk:X.stack=X.outer∨(X.stack=X.env::X.outer/\X.env.frame=some X.env.locals)
 exf:∀ b ∈ X.ex,b≠X.env.locals/\∀ x c,X.env.cells.lookup x=some c->c≠b
 bs:∀ b o,X.base.get? b=some o->X.s₀.heap.get? b=some o/\X.H₀ b=none
 bsz:X.base.objs.size<=X.s₀.heap.objs.size
 noex:∀ b o,X.base.get? b=some o->b ∉ X.ex
 exfs:∀ b ∈ X.ex,b ∉ X.fs
 funs:X.s₀.heap.FunFrames X.base X.outer
 frf:∀ b ∈ X.fs,X.H₀ b=none
structure Inv (X:Cx) (pins:List (Addr×Obj)) (σ:List (Option V)) (H:Hp) (s:Shared):Prop where
 ok:X.Ok
 os:s.os=X.s₀.os
 bare:AllBare s.gens
 base:Un X.fs X.ex X.H₀ H X.s₀.heap s.heap
 loc:∃ m,s.heap.Ns X.env.locals m/\∀ (i:Nat) (x:Str) (v:V),X.N[i]? = some x->σ[i]? = some (some v)->Vis X.env.scope x->∃ u,RelV v u/\Look X.env s.heap m x u
 cell:∀ x c,X.env.cells.lookup x=some c->∃ v,s.heap.IsCell c v
 free:H X.env.locals=none
 freeC:∀ x c,X.env.cells.lookup x=some c->H c=none
 pin:∀ p ∈ X.pn++pins,s.heap.get? p.1=some p.2/\H p.1=none/\p.1≠X.env.locals/\p.1 ∉ X.fs/\∀ v,p.2.data≠.cell v
 hok:HOk X.prog X.w H s.heap
 len:σ.length=X.N.length
section
variable {X:Cx} {pins:List (Addr×Obj)} {σ:List (Option V)} {H H':Hp} {s:Shared} {h':Heap}
theorem Cx.Ok.nofr (ok:X.Ok) {b:Addr} {o:Obj} (e:X.base.get? b=some o):b ∉ X.fs:=fun hb=>by
 have:=(ok.funs.mem hb).1
 rw[e] at this;cases this
theorem Inv.bs (I:Inv X pins σ H s):∀ b o,X.base.get? b=some o->s.heap.get? b=some o/\H b=none:=fun b o e=>
 ⟨I.base.keep b o (I.ok.bs b o e).1 (I.ok.bs b o e).2 (I.ok.nofr e) (I.ok.noex b o e),I.base.free b o (I.ok.bs b o e).1 (I.ok.bs b o e).2 (I.ok.noex b o e)⟩
theorem Inv.bk (I:Inv X pins σ H s):∀ b o,X.base.get? b=some o->s.heap.get? b=some o:=fun b o e=>(I.bs b o e).1
theorem Inv.mod (I:Inv X pins σ H s):Mod X.K X.mg X.base:=I.ok.mod
theorem Inv.kIn (I:Inv X pins σ H s):X.K.In s.heap:=I.ok.mod.kin.keeps I.bk
theorem Inv.lt (I:Inv X pins σ H s):X.env.locals < s.heap.objs.size:=let ⟨_,hn,_⟩:=I.loc;hn.lt
theorem Inv.sz (I:Inv X pins σ H s):X.s₀.heap.objs.size<=s.heap.objs.size:=Nat.le_trans I.ok.above (Nat.le_of_lt I.lt)
theorem Inv.nofs (I:Inv X pins σ H s) {a:Addr} (h:s.heap.objs.size<=a):a ∉ X.fs:=fun hb=>by
 obtain⟨_,o,ho,_⟩:=I.ok.funs.mem hb
 exact absurd (Nat.lt_of_lt_of_le (Heap.lt_size ho) (Nat.le_trans I.sz h)) (Nat.lt_irrefl _)
theorem Inv.cne (I:Inv X pins σ H s):∀ x c,X.env.cells.lookup x=some c->c≠X.env.locals:=fun x c e z=>by
 obtain⟨v,o,ho,hd⟩:=I.cell x c e
 obtain⟨m,⟨o',es,ep,ho',hd',_⟩,_⟩:=I.loc
 rw[z,ho'] at ho;cases ho;rw[hd'] at hd;cases hd
theorem Inv.funs (I:Inv X pins σ H s):s.heap.FunFrames X.base X.outer:=by
 have all:∀ (l:List Env),(∀ b ∈ frs l,b ∈ X.fs)->X.s₀.heap.FunFrames X.base l->s.heap.FunFrames X.base l:=by
  intro l
  induction l with
  | nil=>intro _ _;trivial
  | cons env r ih=>
   intro hs hl
   obtain⟨hk,⟨L,o,hf,hn,ho,hd⟩,hr⟩:=hl
   have hL:L ∈ X.fs:=hs L (by unfold frs;rw[List.filterMap_cons,hf];exact List.mem_cons_self)
   obtain⟨sl,e⟩:=I.base.slot L o ho (I.ok.frf L hL) hL fun z=>I.ok.exfs L z hL
   exact⟨hk,⟨L,_,hf,hn,e,hd⟩,ih (fun b hb=>hs b (by unfold frs;rw[List.filterMap_cons,hf];exact List.mem_cons_of_mem _ hb)) hr⟩
 exact all X.outer (fun _ hb=>hb) I.ok.funs
theorem Inv.stack (I:Inv X pins σ H s):s.heap.FunFrames X.base X.stack:=by
 rcases I.ok.stk with e | ⟨e,hf⟩
 ·rw[e];exact I.funs
 ·rw[e]
  obtain⟨m,hn,_⟩:=I.loc
  refine .cons (by rw[I.ok.kind];decide) hf hn ?_ I.funs
  exact Heap.get?_none_of_le (Nat.le_trans I.ok.bsz I.ok.above)
theorem Inv.stkSub (I:Inv X pins σ H s):∀ b ∈ frs X.stack,b ∈ X.env.locals::X.fs:=fun b hb=>by
 rcases I.ok.stk with e | ⟨e,hf⟩
 ·rw[e] at hb;exact List.mem_cons_of_mem _ hb
 ·rw[e] at hb
  unfold frs at hb
  rw[List.filterMap_cons,hf] at hb
  exact hb
theorem Inv.stkFree (I:Inv X pins σ H s):∀ b ∈ frs X.stack,H b=none:=fun b hb=>by
 rcases List.mem_cons.mp (I.stkSub b hb) with e | hb
 ·rw[e];exact I.free
 ·obtain⟨_,o,ho,_⟩:=I.ok.funs.mem hb
  exact I.base.free b o ho (I.ok.frf b hb) fun z=>I.ok.exfs b z hb
theorem Inv.step {g':Array GenState} {t':Nat} {d':Drawn} {ch:List Addr} (I:Inv X pins σ H s)
  (hch:∀ b ∈ ch,(b ∈ X.ex∨X.s₀.heap.objs.size<=b)/\b≠X.env.locals/\(∀ x c,X.env.cells.lookup x=some c->c≠b)/\∀ p ∈ X.pn++pins,p.1≠b)
  (keep:∀ b o,b≠X.env.locals->b ∉ X.fs->b ∉ ch->s.heap.get? b=some o->H b=none->h'.get? b=some o)
  (slot:∀ b o,b≠X.env.locals->b ∈ X.fs->b ∉ ch->s.heap.get? b=some o->H b=none->∃ sl,h'.get? b=some {o with slots:=sl}) (free:∀ b o,b ∉ ch->s.heap.get? b=some o->H b=none->H' b=none)
  (there:∀ b o,b ∉ ch->s.heap.get? b=some o->∃ o',h'.get? b=some o')
  (tups:∀ b xs,H b=some (.tup xs)->H' b=some (.tup xs)) (frzs:∀ b o u,H b=some (.frz o u)->H' b=some (.frz o u)) (tbls:∀ b ps,H b=some (.tbl ps)->∃ more,H' b=some (.tbl (ps++more)))
  (ns:∀ m,s.heap.Ns X.env.locals m->h'.Ns X.env.locals m) (hok:HOk X.prog X.w H' h') (hg:AllBare g') :
  Inv X pins σ H' {s with heap:=h',gens:=g',drawn:=d',toks:=t'}:=by
 have neL:∀ b o,X.s₀.heap.get? b=some o->b≠X.env.locals:=fun b o e=>Nat.ne_of_lt (Nat.lt_of_lt_of_le (Heap.lt_size e) I.ok.above)
 have neC:∀ b o,X.s₀.heap.get? b=some o->b ∉ X.ex->b ∉ ch:=fun b o e hx hb=>by
  rcases (hch b hb).1 with z | z
  ·exact hx z
  ·exact absurd (Nat.lt_of_lt_of_le (Heap.lt_size e) z) (Nat.lt_irrefl _)
 have cellK:∀ x c,X.env.cells.lookup x=some c->∀ v,s.heap.IsCell c v->h'.IsCell c v:=fun x c e v ⟨o,ho,hd⟩=>by
  have nch:c ∉ ch:=fun z=>(hch c z).2.2.1 x c e rfl
  by_cases hc:c ∈ X.fs
  ·obtain⟨sl,q⟩:=slot c o (I.cne x c e) hc nch ho (I.freeC x c e)
   exact⟨_,q,hd⟩
  ·exact⟨o,keep c o (I.cne x c e) hc nch ho (I.freeC x c e),hd⟩
 refine⟨I.ok,I.os,hg,⟨fun b o e n hb hx=>?_,fun b o e n hb hx=>?_,fun b o e n hx=>?_,fun b o e hx=>?_,fun b xs e=>tups b xs (I.base.tups b xs e),fun b o xs e=>frzs b o xs (I.base.frzs b o xs e),fun b ps e=>?_⟩,?_,fun x c e=>?_,?_,fun x c e=>?_,fun p hp=>?_,hok,I.len⟩
 ·exact keep b o (neL b o e) hb (neC b o e hx) (I.base.keep b o e n hb hx) (I.base.free b o e n hx)
 ·obtain⟨sl,e1⟩:=I.base.slot b o e n hb hx
  obtain⟨sl',e2⟩:=slot b _ (neL b o e) hb (neC b o e hx) e1 (I.base.free b o e n hx)
  exact⟨sl',e2⟩
 ·obtain⟨o',e1⟩:=I.base.there b o e hx
  exact free b o' (neC b o e hx) e1 (I.base.free b o e n hx)
 ·obtain⟨o',e1⟩:=I.base.there b o e hx
  exact there b o' (neC b o e hx) e1
 ·obtain⟨m1,e1⟩:=I.base.tbls b ps e
  obtain⟨m2,e2⟩:=tbls b _ e1
  exact⟨m1++m2,by rw[e2,Array.append_assoc]⟩
 ·obtain⟨m,hn,hl⟩:=I.loc
  refine⟨m,ns m hn,fun i x v e1 e2 e3=>?_⟩
  obtain⟨u,r,l⟩:=hl i x v e1 e2 e3
  refine⟨u,r,?_⟩
  rcases l with l | ⟨k,c,e,z⟩
  ·exact .inl l
  ·exact .inr ⟨k,c,e,cellK x c e _ z⟩
 ·obtain⟨v,z⟩:=I.cell x c e
  exact⟨v,cellK x c e v z⟩
 ·obtain⟨m,⟨o,_,_,ho,_⟩,_⟩:=I.loc
  exact free _ o (fun z=>(hch _ z).2.1 rfl) ho I.free
 ·obtain⟨v,o,ho,hd⟩:=I.cell x c e
  exact free c o (fun z=>(hch c z).2.2.1 x c e rfl) ho (I.freeC x c e)
 ·obtain⟨e,n,ne,nf,d⟩:=I.pin p hp
  have nch:p.1 ∉ ch:=fun z=>(hch p.1 z).2.2.2 p hp rfl
  exact⟨keep p.1 p.2 ne nf nch e n,free p.1 p.2 nch e n,ne,nf,d⟩
theorem Inv.un {t':Nat} (I:Inv X pins σ H s) (u:Un X.fs [] H H' s.heap h') (hok:HOk X.prog X.w H' h'):Inv X pins σ H' {s with heap:=h',toks:=t'}:=by
 obtain⟨m,⟨o,es,ep,ho,r⟩,_⟩:=id I.loc
 obtain⟨sl,hL⟩:=u.any ho I.free (by simp)
 exact I.step (g':=s.gens) (d':=s.drawn) (ch:=[]) (fun _ z=>nomatch z) (fun b o _ hb _ e n=>u.keep b o e n hb (by simp)) (fun b o _ hb _ e n=>u.slot b o e n hb (by simp)) (fun b o _ e n=>u.free b o e n (by simp)) (fun b o _ e=>u.there b o e (by simp)) u.tups u.frzs u.tbls (fun m' hm=>by
  obtain⟨o',es',ep',ho',r'⟩:=hm
  rw[ho] at ho';cases ho'
  exact⟨_,es',ep',hL,r'⟩) hok I.bare
theorem Inv.call {g':Array GenState} {t':Nat} {d':Drawn} {ch:List Addr} (I:Inv X pins σ H s) (u:Un (frs X.stack) ch H H' s.heap h') (hok:HOk X.prog X.w H' h') (hg:AllBare g')
  (hch:∀ b ∈ ch,(b ∈ X.ex∨X.s₀.heap.objs.size<=b)/\b≠X.env.locals/\(∀ x c,X.env.cells.lookup x=some c->c≠b)/\∀ p ∈ X.pn++pins,p.1≠b) :
  Inv X pins σ H' {s with heap:=h',gens:=g',drawn:=d',toks:=t'}:=by
 obtain⟨m,⟨o,es,ep,ho,r⟩,_⟩:=id I.loc
 obtain⟨sl,hL⟩:=u.any ho I.free fun z=>(hch _ z).2.1 rfl
 exact I.step (ch:=ch) hch (fun b o hL hb hc e n=>u.keep b o e n (fun z=>(List.mem_cons.mp (I.stkSub b z)).elim hL hb) hc) (fun b o _ _ hc e n=>u.any e n hc) (fun b o hc e n=>u.free b o e n hc) (fun b o hc e=>u.there b o e hc) u.tups u.frzs u.tbls (fun m' hm=>by
  obtain⟨o',es',ep',ho',r'⟩:=hm
  rw[ho] at ho';cases ho'
  exact⟨_,es',ep',hL,r'⟩) hok hg
theorem Inv.turned {t':Nat} {it:Addr} (I:Inv X pins σ H s) (k:∀ b o,b≠it->s.heap.get? b=some o->h'.get? b=some o) (hn:H it=none) (hL:it≠X.env.locals)
  (h1:it ∈ X.ex∨X.s₀.heap.objs.size<=it) (h2:∀ x c,X.env.cells.lookup x=some c->c≠it) (h3:∀ p ∈ X.pn++pins,p.1≠it):Inv X pins σ H {s with heap:=h',toks:=t'}:=by
 have nit:∀ b u,H b=some u->b≠it:=fun b u e z=>by rw[z,hn] at e;cases e
 refine I.step (g':=s.gens) (d':=s.drawn) (ch:=[it]) (fun b hb=>?_) (fun b o _ _ hc e _=>k b o (fun z=>hc (by simp[z])) e) (fun b o _ _ hc e _=>⟨o.slots,k b o (fun z=>hc (by simp[z])) e⟩) (fun _ _ _ _ n=>n)
  (fun b o hc e=>⟨o,k b o (fun z=>hc (by simp[z])) e⟩) (fun _ _ e=>e) (fun _ _ _ e=>e) (fun b ps e=>⟨#[],by rw[e];simp⟩) (fun m hm=>?_) (fun b u e=>?_) I.bare
 ·have e:b=it:=by simpa using hb
  subst e
  exact⟨h1,hL,h2,h3⟩
 ·obtain⟨o,es,ep,ho,r⟩:=hm
  exact⟨o,es,ep,k _ o (Ne.symm hL) ho,r⟩
 ·refine(I.hok b u e).stay (fun c v hc q=>k c v ?_ q) (fun _ q=>q) fun _ _ q=>q
  rcases hc with z | z
  ·rw[z];exact nit b u e
  ·exact nit c _ z
theorem Inv.tok (I:Inv X pins σ H s) (t:Nat):Inv X pins σ H {s with toks:=t}:=I.un (h':=s.heap) (t':=t) Un.refl I.hok
theorem Inv.kept {t':Nat} (I:Inv X pins σ H s) (k:∀ b u,s.heap.get? b=some u->h'.get? b=some u):Inv X pins σ H {s with heap:=h',toks:=t'}:=I.un (Un.kept k) (I.hok.kept k)
theorem Inv.laid {a:Addr} {o:HO} {t':Nat} (I:Inv X pins σ H s) (k:∀ b u,s.heap.get? b=some u->h'.get? b=some u) (hp:s.heap.objs.size<=a) (new:aD X.prog X.w (upd H a o) h' a o) :
  Inv X pins σ (upd H a o) {s with heap:=h',toks:=t'}:=I.un (Un.laid k hp (I.hok.fresh hp)) (I.hok.laid k hp new)
theorem Inv.write {x e:Addr} {o:HO} {t':Nat} (I:Inv X pins σ H s) (mu:Mut (H x)) (he:e=x∨H e=some (.own x)) (k:∀ b u,b≠e->s.heap.get? b=some u->h'.get? b=some u) (heo:∃ u,h'.get? e=some u)
  (new:aD X.prog X.w (upd H x o) h' x o):Inv X pins σ (upd H x o) {s with heap:=h',toks:=t'}:=I.un (Un.write mu he k heo) (I.hok.write mu he k heo new)
theorem Inv.pins_of {pins':List (Addr×Obj)} (I:Inv X pins σ H s) (h:∀ p ∈ pins',s.heap.get? p.1=some p.2/\H p.1=none/\p.1≠X.env.locals/\p.1 ∉ X.fs/\∀ v,p.2.data≠.cell v):Inv X pins' σ H s:=
 ⟨I.ok,I.os,I.bare,I.base,I.loc,I.cell,I.free,I.freeC,fun p hp=>(List.mem_append.mp hp).elim (fun z=>I.pin p (List.mem_append_left _ z)) (h p),I.hok,I.len⟩
theorem ir {N:List Str} (hN:N.Nodup) {i j:Nat} {x:Str} (a:N[i]? = some x) (b:N[j]? = some x):i=j:=by
 obtain⟨h1,e1⟩:=List.getElem?_eq_some_iff.mp a
 obtain⟨h2,e2⟩:=List.getElem?_eq_some_iff.mp b
 exact(List.getElem_inj hN).mp (e1.trans e2.symm)
theorem fM {M:Model} {A:Around} {E:Value->Shared->Prop} {i:Nat} {x:Str} {v:V} {u:Value} {Q:Unit->Shared->Prop} (I:Inv X pins σ H s) (hN:X.N.Nodup) (hi:X.N[i]? = some x) (hx:Loc X.env.scope x) (r:RelV v u)
  (h:∀ s',Inv X pins (σ.set i (some v)) H s'->(∃ a,Heap.SameBut a s.heap s'.heap/\(a=X.env.locals∨X.env.cells.lookup x=some a))->Q () s') (hf:X.fn x=true∨X.env.scope.names.lookup x=some .local:=by first | exact .inl rfl | exact .inr rfl | assumption):wpAny M A (storeName X.env x u) Q E s:=by
 obtain⟨m,hn,hl⟩:=id I.loc
 have hcls:(X.env.scope.kind == .class || (X.env.scope.kind == .module && X.env.locals != X.env.globals))=false:=by rw[I.ok.kind];rfl
 have hiσ:i < σ.length:=by rw[I.len];exact(List.getElem?_eq_some_iff.mp hi).1
 have cne:=I.cne
 have tracked:∀ {a:Addr} {h':Heap},(∃ o,s.heap.get? a=some o/\H a=none)->Heap.SameBut a s.heap h'->HOk X.prog X.w H h':=fun {a h'} ha hs b ob e=>by
  obtain⟨_,_,hfree⟩:=ha
  refine(I.hok b ob e).stay (fun c w' hc q=>(hs.2 c ?_).trans q) (fun _ q=>q) fun _ _ q=>q
  rintro rfl
  rcases hc with rfl | hc
  ·rw[hfree] at e;cases e
  ·rw[hfree] at hc;cases hc
 rcases hx with hk | hk
 ·refine wpAny_storeName_local hk hn (fun h' hn' hs=>?_) hcls
  obtain⟨oL,_,_,hoL,_⟩:=id hn
  refine h _ ⟨I.ok,I.os,I.bare,⟨fun b o e n hb hx=>?_,fun b o e n hb hx=>?_,I.base.free,fun b o e hx=>?_,I.base.tups,I.base.frzs,I.base.tbls⟩,⟨_,hn',fun j y v' e1 e2 e3=>?_⟩,fun y c e=>?_,I.free,I.freeC,fun p hp=>?_,tracked ⟨oL,hoL,I.free⟩ hs,by simpa using I.len⟩ ⟨_,hs,.inl rfl⟩
  ·exact(hs.2 b (Nat.ne_of_lt (Nat.lt_of_lt_of_le (Heap.lt_size e) I.ok.above))).trans (I.base.keep b o e n hb hx)
  ·obtain⟨sl,e1⟩:=I.base.slot b o e n hb hx
   exact⟨sl,(hs.2 b (Nat.ne_of_lt (Nat.lt_of_lt_of_le (Heap.lt_size e) I.ok.above))).trans e1⟩
  ·obtain⟨o',e1⟩:=I.base.there b o e hx
   exact⟨o',(hs.2 b (Nat.ne_of_lt (Nat.lt_of_lt_of_le (Heap.lt_size e) I.ok.above))).trans e1⟩
  ·by_cases hj:j=i
   ·subst hj
    rw[hi] at e1;cases e1
    rw[List.getElem?_set_self hiσ] at e2
    cases e2
    exact⟨u,r,.inl ⟨hk,by simp⟩⟩
   ·rw[List.getElem?_set_ne (Ne.symm hj)] at e2
    obtain⟨u',r',q⟩:=hl j y v' e1 e2 e3
    refine⟨u',r',?_⟩
    rcases q with ⟨k,e⟩ | ⟨k,c,e,z⟩
    ·refine .inl ⟨k,?_⟩
     have:y≠x:=fun e=>hj (ir hN e1 (e ▸ hi))
     simp[this,e]
    ·exact .inr ⟨k,c,e,z.sameBut hs (cne y c e)⟩
  ·obtain⟨w',z⟩:=I.cell y c e
   exact⟨w',z.sameBut hs (cne y c e)⟩
  ·obtain⟨e,n,ne,nf,d⟩:=I.pin p hp
   exact⟨(hs.2 p.1 ne).trans e,n,ne,nf,d⟩
 ·have hfn:X.fn x=true:=by
   rcases hf with z | z
   ·exact z
   ·rw[z] at hk;cases hk
  obtain⟨c,hc⟩:=I.ok.has x (.inl hk)
  obtain⟨w',z⟩:=I.cell x c hc
  refine wpAny_storeName_cell I.ok.kind hk hc z (fun h' hc' hs=>?_)
  obtain⟨oc,hoc,hocd⟩:=id z
  refine h {s with heap:=h'} ⟨I.ok,I.os,I.bare,⟨fun b o e n hb hx=>?_,fun b o e n hb hx=>?_,I.base.free,fun b o e hx=>?_,I.base.tups,I.base.frzs,I.base.tbls⟩,⟨m,hn.sameBut hs (Ne.symm (cne x c hc)),fun j y v' e1 e2 e3=>?_⟩,fun y c' e=>?_,I.free,I.freeC,fun p hp=>?_,tracked ⟨oc,hoc,I.freeC x c hc⟩ hs,by simpa using I.len⟩ ⟨c,hs,.inr hc⟩
  ·exact(hs.2 b (Nat.ne_of_lt (Nat.lt_of_lt_of_le (Heap.lt_size e) (I.ok.cab x c hfn hc)))).trans (I.base.keep b o e n hb hx)
  ·obtain⟨sl,e1⟩:=I.base.slot b o e n hb hx
   exact⟨sl,(hs.2 b (Nat.ne_of_lt (Nat.lt_of_lt_of_le (Heap.lt_size e) (I.ok.cab x c hfn hc)))).trans e1⟩
  ·obtain⟨o',e1⟩:=I.base.there b o e hx
   exact⟨o',(hs.2 b (Nat.ne_of_lt (Nat.lt_of_lt_of_le (Heap.lt_size e) (I.ok.cab x c hfn hc)))).trans e1⟩
  ·by_cases hj:j=i
   ·subst hj
    rw[hi] at e1;cases e1
    rw[List.getElem?_set_self hiσ] at e2
    cases e2
    exact⟨u,r,.inr ⟨.inl hk,c,hc,hc'⟩⟩
   ·rw[List.getElem?_set_ne (Ne.symm hj)] at e2
    obtain⟨u',r',q⟩:=hl j y v' e1 e2 e3
    refine⟨u',r',?_⟩
    rcases q with q | ⟨k,c',e,z'⟩
    ·exact .inl q
    ·refine .inr ⟨k,c',e,z'.sameBut hs ?_⟩
     rintro rfl
     exact hj (ir hN e1 (I.ok.inj _ _ _ e hc ▸ hi))
  ·by_cases hcc:c'=c
   ·subst hcc;exact⟨_,hc'⟩
   ·obtain⟨w2,z2⟩:=I.cell y c' e
    exact⟨w2,z2.sameBut hs hcc⟩
  ·obtain⟨e,n,ne,nf,d⟩:=I.pin p hp
   refine⟨(hs.2 p.1 ?_).trans e,n,ne,nf,d⟩
   intro q
   rw[q,hoc] at e
   have q':oc=p.2:=Option.some.inj e
   exact d w' (by rw[<- q'];exact hocd)
theorem iu {M:Model} {A:Around} {E:Value->Shared->Prop} {i:Nat} {x:Str} {v:V} {u:Value} {Q:Unit->Shared->Prop} (I:Inv X pins σ H s) (hN:X.N.Nodup) (hi:X.N[i]? = some x) (hx:Loc X.env.scope x) (r:RelV v u)
  (h:∀ s',Inv X pins (σ.set i (some v)) H s'->Q () s') (hf:X.fn x=true∨X.env.scope.names.lookup x=some .local:=by first | exact .inl rfl | exact .inr rfl | assumption):wpAny M A (storeName X.env x u) Q E s:=
 fM I hN hi hx r (fun s' I' _=>h s' I') hf
theorem Inv.call' {s':Shared} {ch:List Addr} (I:Inv X pins σ H s) (ho:s'.os=s.os) (u:Un (frs X.stack) ch H H' s.heap s'.heap) (hok:HOk X.prog X.w H' s'.heap) (hg:AllBare s'.gens)
  (hch:∀ b ∈ ch,(b ∈ X.ex∨X.s₀.heap.objs.size<=b)/\b≠X.env.locals/\(∀ x c,X.env.cells.lookup x=some c->c≠b)/\∀ p ∈ X.pn++pins,p.1≠b):Inv X pins σ H' s':=by
 obtain⟨h',g',d',t',o'⟩:=s'
 have e:o'=s.os:=ho
 subst e
 exact I.call (g':=g') (t':=t') (d':=d') u hok hg hch
end
noncomputable abbrev XK:=Value->Option Addr->Hp->Prop
noncomputable abbrev St:=List (Option V)
noncomputable abbrev VK:=V->Hp->Prop
noncomputable abbrev TE:=St->Hp->VK->Prop
noncomputable abbrev TT:=St->Hp->(Bool->Hp->Prop)->Prop
noncomputable abbrev TA:=St->Hp->(List V->Hp->Prop)->Prop
structure Ends where
 nx:St->Hp->Prop
 rt:VK
 bk:St->Hp->Prop:=fun _ _=>False
 ct:St->Hp->Prop:=fun _ _=>False
noncomputable abbrev TS:=Ends->St->Hp->Prop
noncomputable def EP (X:Cx) (pins:List (Addr×Obj)) (σ:St) (Q:VK) (u:Value) (s':Shared):Prop:=∃ v H',Inv X pins σ H' s'/\RelV v u/\Q v H'
noncomputable def TP (X:Cx) (pins:List (Addr×Obj)) (σ:St) (Q:Bool->Hp->Prop) (b:Bool) (s':Shared):Prop:=∃ H',Inv X pins σ H' s'/\Q b H'
noncomputable def AP (X:Cx) (pins:List (Addr×Obj)) (σ:St) (Q:List V->Hp->Prop) (us:List Value) (s':Shared):Prop:=∃ vs H',Inv X pins σ H' s'/\Vals vs us/\Q vs H'
noncomputable def SP (X:Cx) (pins:List (Addr×Obj)) (D:Ends) (f:Flow) (s':Shared):Prop:=
 match f with
 | .next=>∃ σ' H',Inv X pins σ' H' s'/\D.nx σ' H'
 | .brk=>∃ σ' H',Inv X pins σ' H' s'/\D.bk σ' H'
 | .cont=>∃ σ' H',Inv X pins σ' H' s'/\D.ct σ' H'
 | .ret u=>∃ v σ' H',Inv X pins σ' H' s'/\RelV v u/\D.rt v H'
noncomputable def PE (X:Cx) (e:Expr) (t:TE):Prop:=
 ∀ (pins:List (Addr×Obj)) (s:Shared) (σ:St) (H:Hp) (Q:VK),Inv X pins σ H s->t σ H Q->wpAny (model X.prog X.w) X.A (eval e X.env) (EP X pins σ Q) X.xe s
noncomputable def PT (X:Cx) (e:Expr) (t:TT):Prop:=
 ∀ (pins:List (Addr×Obj)) (s:Shared) (σ:St) (H:Hp) (Q:Bool->Hp->Prop),Inv X pins σ H s->t σ H Q->wpAny (model X.prog X.w) X.A (isTrue e X.env (eval e X.env)) (TP X pins σ Q) X.xe s
noncomputable def PW (X:Cx) (e:Expr) (t:TT):Prop:=
 ∀ (whole:Sem Value) (pins:List (Addr×Obj)) (s:Shared) (σ:St) (H:Hp) (Q:Bool->Hp->Prop),Inv X pins σ H s->t σ H Q->wpAny (model X.prog X.w) X.A (isTrue e X.env whole) (TP X pins σ Q) X.xe s
theorem PW.pt {X:Cx} {e:Expr} {t:TT} (h:PW X e t):PT X e t:=h _
noncomputable def PA (X:Cx) (es:List Expr) (t:TA):Prop:=
 ∀ (pos:Pos) (pins:List (Addr×Obj)) (s:Shared) (σ:St) (H:Hp) (Q:List V->Hp->Prop),Inv X pins σ H s->t σ H Q->wpAny (model X.prog X.w) X.A (spliced (backTo pos (starEach es X.env))) (AP X pins σ Q) X.xe s
noncomputable def PS (X:Cx) (st:Stmt) (t:TS):Prop:=
 ∀ (pins:List (Addr×Obj)) (s:Shared) (σ:St) (H:Hp) (D:Ends),Inv X pins σ H s->t D σ H->wpAny (model X.prog X.w) X.A (exec st X.env) (SP X pins D) X.xe s
noncomputable def PSs (X:Cx) (st:List Stmt) (t:TS):Prop:=
 ∀ (pins:List (Addr×Obj)) (s:Shared) (σ:St) (H:Hp) (D:Ends),Inv X pins σ H s->t D σ H->wpAny (model X.prog X.w) X.A (execs st X.env) (SP X pins D) X.xe s
theorem thn {α:Type} {t:Sem α} {Q Q':α->Shared->Prop} {M:Model} {A:Around} {E:Value->Shared->Prop} {s:Shared} (h:wpAny M A t Q E s) (hQ:∀ a s,Q a s->Q' a s):wpAny M A t Q' E s:=wpAny_mono h hQ fun _ _ x=>x
section
variable {X:Cx}
noncomputable def vd (i:Nat):TE:=fun σ H Q=>∃ v,σ[i]? = some (some v)/\Q v H
noncomputable def tC (v:V):TE:=fun _ H Q=>Q v H
theorem mB {i:Nat} {x:Str} {pos:Pos} (hN:X.N[i]? = some x) (hv:Vis X.env.scope x) (hd:(x == ("__debug__" : Str))=false:=by decide) (hcd:(x == ("__classdict__" : Str))=false:=by decide):PE X (.Name x pos) (vd i):=by
 intro pins s σ H Q I h
 obtain⟨v,e,h⟩:=h
 obtain⟨m,hn,hl⟩:=I.loc
 obtain⟨u,r,l⟩:=hl i x v hN e hv
 have fin:EP X pins σ Q u s:=⟨v,H,I,r,h⟩
 rcases l with ⟨hk,hm⟩ | ⟨hk,c,hc,hcell⟩
 ·exact wpAny_Name (wpAny_loadName_local I.ok.kind hk hn hm fin) hd
 ·rcases hk with hk | hk
  ·exact wpAny_Name (wpAny_loadName_cell I.ok.kind hk hc hcell fin) hd
  ·exact wpAny_Name (wpAny_loadName_free I.ok.kind hk hc hcell fin hcd) hd
theorem ve {i j pos}:PE X (.Constant (.int i) j pos) (tC (.int i)):=fun _ _ _ H _ I h=>wpAny_Constant_int ⟨.int i,H,I.tok _,⟨_,rfl⟩,h⟩
theorem xG {b j pos}:PE X (.Constant (.bool b) j pos) (tC (.bl b)):=fun _ _ _ H _ I h=>Constant_bool ⟨.bl b,H,I,rfl,h⟩
theorem vf {j pos}:PE X (.Constant .none j pos) (tC .non):=fun _ _ _ H _ I h=>Constant_none ⟨.non,H,I,rfl,h⟩
theorem vg {x j pos}:PE X (.Constant (.str x) j pos) (tC (.str x)):=fun _ _ _ H _ I h=>Calls.Constant_str ⟨.str x,H,I.tok _,⟨_,rfl⟩,h⟩
noncomputable def Gl (X:Cx) (x:Str):Prop:=X.env.kindOf x=some .globalImplicit
theorem j9 {E:Value->Shared->Prop} {pins:List (Addr×Obj)} {s:Shared} {σ:St} {H:Hp} {x:Str} {u:Value} {pos:Pos} {Q:Value->Shared->Prop} (I:Inv X pins σ H s) (hg:Gl X x) (hm:X.mg x=some u) (h:Q u s)
  (hd:(x == ("__debug__" : Str))=false:=by decide):wpAny (model X.prog X.w) X.A (eval (.Name x pos) X.env) Q E s:=
 Calls.Name_function_global I.ok.kind hg (Calls.loadGlobal_global (by rw[I.ok.glob];exact I.mod.glob.keeps I.bk) hm h) hd
theorem eD {E:Value->Shared->Prop} {pins:List (Addr×Obj)} {s:Shared} {σ:St} {H:Hp} {x:Str} {u:Value} {pos:Pos} {Q:Value->Shared->Prop} (I:Inv X pins σ H s) (hg:Gl X x) (hm:X.mg x=none) (hv:bootBuiltins x=some u) (h:Q u s)
  (hn:x≠"__name__":=by decide) (hd:(x == ("__debug__" : Str))=false:=by decide):wpAny (model X.prog X.w) X.A (eval (.Name x pos) X.env) Q E s:=by
 obtain⟨mb,h1,h2⟩:=I.mod.blt
 exact Calls.Name_function_global I.ok.kind hg (Calls.loadGlobal_builtin (by rw[I.ok.glob];exact I.mod.glob.keeps I.bk) hm (by rw[I.ok.blt];exact h1.keeps I.bk) ((h2 x hn).trans hv) h) hd
theorem qH {x:Str} {v:V} {u:Value} {pos:Pos} (hg:Gl X x) (hm:X.mg x=none) (hv:bootBuiltins x=some u) (r:RelV v u) (hn:x≠"__name__":=by decide) (hd:(x == ("__debug__" : Str))=false:=by decide):PE X (.Name x pos) (tC v):=
 fun _ _ _ H _ I h=>eD I hg hm hv ⟨v,H,I,r,h⟩ hn hd
variable {a b:Expr} {ta tb:TE} {pos:Pos}
noncomputable def PC (X:Cx) (op:CmpOp) (a b:Expr) (t:TE):Prop:=
 ∀ (pins:List (Addr×Obj)) (s:Shared) (σ:St) (H:Hp) (Q:VK),Inv X pins σ H s->t σ H Q->
  wpAny (model X.prog X.w) X.A (eval a X.env) (fun v s₁=>wpAny (model X.prog X.w) X.A (eval b X.env) (fun u s₂=>wpAny (model X.prog X.w) X.A (compareOp op v u) (EP X pins σ Q) X.xe s₂) X.xe s₁) X.xe s
noncomputable def tB (t:TE):TT:=fun σ H Q=>t σ H fun x H1=>∃ c,x=.bl c/\Q c H1
theorem mC {op:CmpOp} {t:TE} (h:PC X op a b t) (h1:behindInMarks op b=false:=by first | exact nobehind _ (by decide) (by decide) | rfl):PE X (.Compare a [op] [b] pos) t:=fun pins s σ H Q I hw=>wpAny_Compare1 (h pins s σ H Q I hw) h1
theorem mD {op:CmpOp} {t:TE} (h:PC X op a b t) (h1:behindInMarks op b=false:=by first | exact nobehind _ (by decide) (by decide) | rfl):PT X (.Compare a [op] [b] pos) (tB t):=by
 intro pins s σ H Q I hw
 refine wpAny_isTrue_Compare1 (thn (h pins s σ H _ I hw) fun v s1 h1=>thn h1 fun u s2 h2=>thn h2 fun c s3 ⟨x,H1,I1,r1,q1⟩=>?_) h1
 obtain⟨d,rfl,q⟩:=q1
 cases r1
 exact wpAny_truthy_bool ⟨H1,I1,q⟩
variable {tA tB':TT} {rest:List Expr}
noncomputable def xH (t u:TT):TT:=fun σ H Q=>t σ H fun c H1=>if c=true then u σ H1 Q else Q false H1
noncomputable def tOr (t u:TT):TT:=fun σ H Q=>t σ H fun c H1=>if c=true then Q true H1 else u σ H1 Q
noncomputable def AX (t:TT):TT:=fun σ H Q=>t σ H fun c H1=>Q (!c) H1
theorem qI (ha:PT X a tA):PW X (.BoolOp .And [a] pos) tA:=by
 intro wh pins s σ H Q I h
 refine isTrue_and (thn (ha pins s σ H Q I h) fun c s1 e=>?_)
 cases c with
 | true=>exact isTrue_and_nil e
 | false=>exact e
theorem vi (ha:PT X a tA):PW X (.BoolOp .Or [a] pos) tA:=by
 intro wh pins s σ H Q I h
 refine isTrue_or (thn (ha pins s σ H Q I h) fun c s1 e=>?_)
 cases c with
 | false=>exact isTrue_or_nil e
 | true=>exact e
theorem vj (ha:PT X a tA) (hb:PW X (.BoolOp .And (b::rest) pos) tB'):PW X (.BoolOp .And (a::b::rest) pos) (xH tA tB'):=by
 intro wh pins s σ H Q I h
 refine isTrue_and (thn (ha pins s σ H _ I h) fun c s1 ⟨H1,I1,q1⟩=>?_)
 cases c with
 | true=>exact hb wh pins s1 σ H1 Q I1 q1
 | false=>exact⟨H1,I1,q1⟩
theorem xI (ha:PT X a tA) (hb:PW X (.BoolOp .Or (b::rest) pos) tB'):PW X (.BoolOp .Or (a::b::rest) pos) (tOr tA tB'):=by
 intro wh pins s σ H Q I h
 refine isTrue_or (thn (ha pins s σ H _ I h) fun c s1 ⟨H1,I1,q1⟩=>?_)
 cases c with
 | true=>exact⟨H1,I1,q1⟩
 | false=>exact hb wh pins s1 σ H1 Q I1 q1
theorem vk (ha:PT X a tA):PT X (.UnaryOp .Not a pos) (AX tA):=by
 intro pins s σ H Q I h
 exact isTrue_not (ha pins s σ H (fun c H1=>Q (!c) H1) I h)
theorem mE {op} {t:TE} (h:PE X a t):PE X (.BoolOp op [a] pos) t:=fun pins s σ H Q I hw=>BoolOp_one (h pins s σ H Q I hw)
end
noncomputable def SqL (K:PySem.W.Frag) (H:Hp) (a:Addr) (xs:List V):Prop:=
 Rd H a (.lst xs)∨
  ∃ (o:Obj) (its:Array Value) (n:Nat),K.lookup a=some o/\o.cls=.type "list"/\o.dict=none/\o.data=.seq its n/\its.size<=sizeLine/\Vals xs its.toList
noncomputable def SqT (K:PySem.W.Frag) (H:Hp) (a:Addr) (xs:List V):Prop:=
 Rd H a (.tup xs)∨
  ∃ (o:Obj) (its:Array Value) (n:Nat),K.lookup a=some o/\o.cls=.type "tuple"/\o.data=.seq its n/\its.size<=sizeLine/\Vals xs its.toList
noncomputable def AY:Value->Option V
 | .none=>some .non
 | .bool b=>some (.bl b)
 | .int i _=>some (.int i)
 | .str x _=>some (.str x)
 | .bytes b _=>some (.byt b)
 | .float b _=>some (.flt b)
 | .ref a=>some (.ref a)
 | .type n=>some (.ty n)
 | _=>none
theorem RelV.abs {x:V} {u:Value} (r:RelV x u):AY u=some x:=by
 cases x with
 | non=>cases r;rfl
 | bl _=>cases r;rfl
 | int _=>obtain⟨t,rfl⟩:=r;rfl
 | str _=>obtain⟨t,rfl⟩:=r;rfl
 | byt _=>obtain⟨t,rfl⟩:=r;rfl
 | flt _=>obtain⟨t,rfl⟩:=r;rfl
 | ref _=>cases r;rfl
 | ty _=>cases r;rfl
theorem RelV.inj {x y:V} {u:Value} (r:RelV x u) (q:RelV y u):x=y:=Option.some.inj (r.abs.symm.trans q.abs)
theorem Vals.inj:∀ {xs ys:List V} {us:List Value},Vals xs us->Vals ys us->xs=ys
 | _,_,_,.nil,.nil=>rfl
 | _,_,_,.cons r t,.cons r' t'=>by rw[r.inj r',Vals.inj t t']
section
variable {X:Cx} {pins:List (Addr×Obj)} {σ:St} {H:Hp} {s:Shared} {a:Addr} {xs ys:List V}
theorem SqT.of {K:PySem.W.Frag} (h:H a=some (.tup xs)):SqT K H a xs:=.inl (.inl h)
theorem Inv.list (I:Inv X pins σ H s) (h:SqL X.K H a xs):∃ its:List Value,Vals xs its/\PlainL s.heap a its.toArray/\xs.length<=sizeLine:=by
 rcases h with h | ⟨o,its,n,hk,hc,hd,hs,hz,r⟩
 ·obtain⟨z,its,n,r,e⟩:=h.ok I.hok
  exact⟨its,r,⟨_,n,e,rfl,rfl,rfl⟩,z⟩
 ·refine⟨its.toList,r,⟨o,n,I.kIn a o hk,hc,hd,by simpa using hs⟩,?_⟩
  have e:=r.length
  simp only[Array.length_toList] at e
  omega
theorem Inv.tuple (I:Inv X pins σ H s) (h:SqT X.K H a xs):∃ its:List Value,Vals xs its/\IsTup s.heap a its.toArray/\xs.length<=sizeLine:=by
 rcases h with h | ⟨o,its,n,hk,hc,hs,hz,r⟩
 ·obtain⟨z,its,r,p⟩:=h.ok I.hok
  exact⟨its,r,p,z⟩
 ·refine⟨its.toList,r,⟨o,I.kIn a o hk,hc,n,by simpa using hs⟩,?_⟩
  have e:=r.length
  simp only[Array.length_toList] at e
  omega
theorem Inv.list_inj (I:Inv X pins σ H s) (h:SqL X.K H a xs) (h':SqL X.K H a ys):xs=ys:=by
 obtain⟨its,r,⟨o,n,e,_,_,d⟩,_⟩:=I.list h
 obtain⟨its',r',⟨o',n',e',_,_,d'⟩,_⟩:=I.list h'
 rw[e] at e';cases e'
 rw[d] at d'
 injection d' with d1 _
 have:its=its':=by simpa using congrArg Array.toList d1
 subst this
 exact r.inj r'
theorem Inv.tuple_inj (I:Inv X pins σ H s) (h:SqT X.K H a xs) (h':SqT X.K H a ys):xs=ys:=by
 obtain⟨its,r,⟨o,e,_,n,d⟩,_⟩:=I.tuple h
 obtain⟨its',r',⟨o',e',_,n',d'⟩,_⟩:=I.tuple h'
 rw[e] at e';cases e'
 rw[d] at d'
 injection d' with d1 _
 have:its=its':=by simpa using congrArg Array.toList d1
 subst this
 exact r.inj r'
end
section
variable {X:Cx} {pins:List (Addr×Obj)} {σ:St} {H:Hp} {s:Shared} {E:Value->Shared->Prop}
end
section
variable {X:Cx} {st:Stmt} {rest:List Stmt} {t u:TS} {e:Expr} {te:TE} {pos:Pos}
noncomputable def mF:TS:=fun D σ H=>D.nx σ H
noncomputable def AZ (t u:TS):TS:=fun D σ H=>t {D with nx:=u D} σ H
theorem ka:PSs X [] mF:=fun _ _ σ H _ I h=>wpAny_execs_nil ⟨σ,H,I,h⟩
theorem iy (h1:PS X st t) (h2:PSs X rest u):PSs X (st::rest) (AZ t u):=by
 intro pins s σ H D I h
 refine wpAny_execs_cons (thn (h1 pins s σ H {D with nx:=u D} I h) fun f s1 q=>?_)
 cases f with
 | next=>
  obtain⟨σ',H',I',q⟩:=q
  exact h2 pins s1 σ' H' D I' q
 | ret v=>exact q
 | brk=>exact q
 | cont=>exact q
noncomputable def vm:TS:=fun D σ H=>D.bk σ H
noncomputable def xJ:TS:=fun D σ H=>D.ct σ H
theorem qJ:PS X (.Pass pos) mF:=fun _ _ σ H _ I h=>wpAny_Pass ⟨σ,H,I,h⟩
theorem mG:PS X (.Break pos) vm:=fun _ _ σ H _ I h=>wpAny_Break ⟨σ,H,I,h⟩
theorem iz:PS X (.Continue pos) xJ:=fun _ _ σ H _ I h=>wpAny_Continue ⟨σ,H,I,h⟩
theorem Inv.quiet {pins:List (Addr×Obj)} {σ:St} {H:Hp} {s:Shared} (I:Inv X pins σ H s):interactive X.env=false:=by simp[interactive,I.ok.kind]
theorem vn {x j pos pos'}:PS X (.Expr (.Constant (.str x) j pos) pos') mF:=fun _ s σ H _ I h=>wpAny_Expr (Calls.Constant_str (show SP X _ _ .next {s with toks:=s.toks + 1} from ⟨σ,H,I.tok _,h⟩)) I.quiet
noncomputable def xK (te:TE):TS:=fun D σ H=>te σ H fun _ H1=>D.nx σ H1
theorem eh (he:PE X e te) (hs:swapsWith e none pos.line X.env=pure false:=by rfl):PS X (.Expr e pos) (xK te):=by
 intro pins s σ H D I h
 exact wpAny_Expr_any (thn (he pins s σ H _ I h) fun v s1 ⟨x,H1,I1,r1,q1⟩=>⟨σ,H1,I1,q1⟩) I.quiet hs
noncomputable def A1 (te:TE):TS:=fun D σ H=>te σ H D.rt
theorem vp (he:PE X e te):PS X (.Return (some e) pos) (A1 te):=by
 intro pins s σ H D I h
 exact wpAny_Return_some (thn (he pins s σ H _ I h) fun v s1 ⟨x,H1,I1,r1,q1⟩=>⟨x,σ,H1,I1,r1,q1⟩)
noncomputable def xM:TS:=fun D _ H=>D.rt .non H
theorem qK:PS X (.Return none pos) xM:=fun _ _ σ H _ I h=>wpAny_Return_none ⟨.non,σ,H,I,rfl,h⟩
noncomputable def A2 (c:TT) (t u:TS):TS:=fun D σ H=>c σ H fun b H1=>if b=true then t D σ H1 else u D σ H1
theorem xN {c:Expr} {a b:List Stmt} {tc:TT} (hc:PT X c tc) (ha:PSs X a t) (hb:PSs X b u):PS X (.If c a b pos) (A2 tc t u):=by
 intro pins s σ H D I h
 refine wpAny_If (thn (hc pins s σ H _ I h) fun d s1 ⟨H1,I1,q1⟩=>?_)
 cases d with
 | true=>exact ha pins s1 σ H1 D I1 q1
 | false=>exact hb pins s1 σ H1 D I1 q1
noncomputable def vq:TS:=fun _ _ _=>False
theorem mH:PS X st vq:=fun _ _ _ _ _ _ h=>h.elim
end
noncomputable abbrev TG:=V->St->Hp->(St->Hp->Prop)->Prop
noncomputable abbrev TGs:=List V->St->Hp->(St->Hp->Prop)->Prop
noncomputable def PG (X:Cx) (target:Expr) (t:TG):Prop:=
 ∀ (pins:List (Addr×Obj)) (s:Shared) (σ:St) (H:Hp) (v:V) (u:Value) (Q:St->Hp->Prop),Inv X pins σ H s->RelV v u->t v σ H Q->
  wpAny (model X.prog X.w) X.A (assign target X.env u) (fun _ s'=>∃ σ' H',Inv X pins σ' H' s'/\Q σ' H') X.xe s
noncomputable def PGs (X:Cx) (ts:List Expr) (t:TGs):Prop:=
 ∀ (pins:List (Addr×Obj)) (s:Shared) (σ:St) (H:Hp) (vs:List V) (us:List Value) (Q:St->Hp->Prop),Inv X pins σ H s->Vals vs us->t vs σ H Q->
  wpAny (model X.prog X.w) X.A (assignInOrder ((assignEach ts X.env).map (·.2)) us) (fun _ s'=>∃ σ' H',Inv X pins σ' H' s'/\Q σ' H') X.xe s
section
variable {X:Cx} {pos:Pos}
noncomputable def mI (i:Nat):TG:=fun v σ H Q=>Q (σ.set i (some v)) H
theorem qL {i:Nat} {x:Str} (hN:X.N.Nodup) (hi:X.N[i]? = some x) (hx:Loc X.env.scope x) (hf:X.fn x=true∨X.env.scope.names.lookup x=some .local:=by first | exact .inl rfl | exact .inr rfl | assumption):PG X (.Name x pos) (mI i):=by
 intro pins s σ H v u Q I r h
 exact wpAny_assign_Name (iu I hN hi hx r (fun s' I'=>⟨_,H,I',h⟩) hf)
noncomputable def xO:TGs:=fun vs σ H Q=>vs=[]/\Q σ H
noncomputable def sP (t:TG) (u:TGs):TGs:=fun vs σ H Q=>∃ v r,vs=v::r/\t v σ H fun σ' H'=>u r σ' H' Q
theorem qM:PGs X [] xO:=by
 intro pins s σ H vs us Q I r h
 obtain⟨e,h⟩:=h
 subst e
 cases r
 exact assignInOrder_nil ⟨σ,H,I,h⟩
theorem mJ {e:Expr} {es:List Expr} {t:TG} {u:TGs} (h1:PG X e t) (h2:PGs X es u)
  (hs:(assignEach (e::es) X.env).map (·.2)=assign e X.env::(assignEach es X.env).map (·.2):=by rfl):PGs X (e::es) (sP t u):=by
 intro pins s σ H vs us Q I r h
 obtain⟨v,vr,e1,h⟩:=h
 subst e1
 cases r with
 | cons r rr=>
  rw[hs]
  refine assignInOrder_cons (thn (h1 pins s σ H _ _ _ I r h) fun _ s1 ⟨σ1,H1,I1,q1⟩=>?_)
  exact h2 pins s1 σ1 H1 _ _ Q I1 rr q1
noncomputable def vt (te:TE) (g:TG):TS:=fun D σ H=>te σ H fun x H1=>g x σ H1 D.nx
theorem vw {tg e:Expr} {te:TE} {g:TG} (he:PE X e te) (hg:PG X tg g) (hs:swapsWithSole [tg] e pos.line X.env=pure false:=by rfl) (hw:swappedStores [tg] e X.env=pure none:=by rfl)
  (h1:(assignEach [tg] X.env).map (·.2)=[assign tg X.env]:=by rfl):PS X (.Assign [tg] e pos) (vt te g):=by
 intro pins s σ H D I h
 refine wpAny_Assign_stores (thn (he pins s σ H _ I h) fun v s1 ⟨x,H1,I1,r1,q1⟩=>?_) hs hw
 rw[h1]
 exact thn (hg pins s1 σ H1 x v _ I1 r1 q1) fun _ s2 q=>q
theorem vx {i:Nat} {x:Str} {e:Expr} {te:TE} {pos':Pos} (hN:X.N.Nodup) (hi:X.N[i]? = some x) (hx:Loc X.env.scope x) (he:PE X e te) (hs:swapsWith e (some (.Name x pos')) pos.line X.env=pure false:=by rfl) (hf:X.fn x=true∨X.env.scope.names.lookup x=some .local:=by first | exact .inl rfl | exact .inr rfl | assumption) :
  PS X (.Assign [.Name x pos'] e pos) (vt te (mI i)):=by
 intro pins s σ H D I h
 refine wpAny_Assign_Name (thn (he pins s σ H _ I h) fun v s1 ⟨y,H1,I1,r1,q1⟩=>?_) hs
 exact iu I1 hN hi hx r1 (fun s2 I2=>⟨_,H1,I2,q1⟩) hf
end
section
variable {X:Cx} {pos:Pos}
end
structure It where
 go:Nat->Hp->Prop
 yld:Nat->Hp->V->Hp->Prop
 stop:Nat->Hp->Prop
noncomputable def cN (X:Cx) (pins:List (Addr×Obj)) (H:Hp) (b:Addr):Prop:=
 H b=none/\b≠X.env.locals/\b ∉ X.fs/\(b ∈ X.ex∨X.s₀.heap.objs.size<=b)/\(∀ x c,X.env.cells.lookup x=some c->c≠b)/\∀ p ∈ X.pn++pins,p.1≠b
theorem Inv.fpOk {X:Cx} {pins:List (Addr×Obj)} {σ:St} {H H':Hp} {s:Shared} {b:Addr} (I:Inv X pins σ H s) (hb:s.heap.objs.size<=b) (hn:H' b=none):cN X pins H' b:=by
 refine⟨hn,Nat.ne_of_gt (Nat.lt_of_lt_of_le I.lt hb),I.nofs hb,.inr (Nat.le_trans I.sz hb),fun x c e z=>?_,fun p hp z=>?_⟩
 ·obtain⟨v,q⟩:=I.cell x c e
  exact absurd (Nat.lt_of_lt_of_le q.lt (by rw[z];exact hb)) (Nat.lt_irrefl _)
 ·exact absurd (Nat.lt_of_lt_of_le (Heap.lt_size (I.pin p hp).1) (by rw[z];exact hb)) (Nat.lt_irrefl _)
structure Turn (P:Program) (w:World) (K:PySem.W.Frag) (tg:Expr) (J:It) (fp:List Addr) (it:Addr) (tn:Nat->Heap->Prop):Prop where
 mem:it ∈ fp
 obj:∀ i h,tn i h->∀ b ∈ fp,∃ o,h.get? b=some o/\∀ v,o.data≠.cell v
 keep:∀ i h h',tn i h->(∀ b ∈ fp,∀ o,h.get? b=some o->h'.get? b=some o)->tn i h'
 item:∀ (X:Cx),X.prog=P->X.w=w->X.K=K->X.calm=true->∀ (i:Nat) (pins:List (Addr×Obj)) (s:Shared) (σ:St) (H:Hp) (E:Value->Shared->Prop),Inv X pins σ H s->(∀ b ∈ fp,cN X pins H b)->tn i s.heap->J.go i H->
  wpAny (model P w) X.A (pyNext (.ref it)) (fun r s1=>∃ u,r=some u/\
   wpAny (model P w) X.A (letOwnedTupleGo tg (.ref it) u) (fun _ s2=>∃ x H',Inv X pins σ H' s2/\RelV x u/\J.yld i H x H'/\tn (i + 1) s2.heap/\∀ b ∈ fp,H' b=none) E s1) E s
 done:∀ (X:Cx),X.prog=P->X.w=w->X.K=K->X.calm=true->∀ (i:Nat) (pins:List (Addr×Obj)) (s:Shared) (σ:St) (H:Hp) (E:Value->Shared->Prop),Inv X pins σ H s->(∀ b ∈ fp,cN X pins H b)->tn i s.heap->J.stop i H->
  wpAny (model P w) X.A (pyNext (.ref it)) (fun r s1=>r=none/\Inv X pins σ H s1) E s
 self:∀ (A:Around) (i:Nat) (s:Shared) (Q:Value->Shared->Prop) (E:Value->Shared->Prop),tn i s.heap->Q (.ref it) s->wpAny (model P w) A (pyIter (.ref it)) Q E s
noncomputable abbrev TI:=St->Hp->(It->Hp->Prop)->Prop
noncomputable def PIE (X:Cx) (pins:List (Addr×Obj)) (σ:St) (tg:Expr) (R:It->Hp->Prop) (itv:Value) (s2:Shared):Prop:=
 ∃ (it:Addr) (fp:List Addr) (tn:Nat->Heap->Prop) (J:It) (H':Hp),itv=.ref it/\Inv X pins σ H' s2/\Turn X.prog X.w X.K tg J fp it tn/\tn 0 s2.heap/\(∀ b ∈ fp,cN X pins H' b)/\R J H'
noncomputable def PI (X:Cx) (tg iter:Expr) (wi:TI):Prop:=
 ∀ (pins:List (Addr×Obj)) (s:Shared) (σ:St) (H:Hp) (R:It->Hp->Prop),Inv X pins σ H s->wi σ H R->
  wpAny (model X.prog X.w) X.A (eval iter X.env) (fun v s1=>wpAny (model X.prog X.w) X.A (pyIter v) (PIE X pins σ tg R) X.xe s1) X.xe s
theorem kb {M : Model} {A : Around} {E : Value -> Shared -> Prop} {s : Shared} {tg : Expr} {it : Addr} {u : Value} {o : Obj} {n : String} {vs : Array Value} {Q : Unit -> Shared -> Prop} (ho : s.heap.get? it = some o) (hc : o.cls = .type n) (hd : o.data = .fields vs)
    (hn : ["enumerate", "zip", "dict_itemiterator", "dict_reverseitemiterator", "odict_iterator", "itertools.zip_longest", "itertools.pairwise"].contains n = false) (hQ : Q () s) : wpAny M A (letOwnedTupleGo tg (.ref it) u) Q E s := by
  unfold letOwnedTupleGo
  cases tg <;> first
    | exact wpAny_pure hQ
    | (cases u <;> first
        | exact wpAny_pure hQ
        | (refine wpAny_bind (wpAny_load ho ?_)
           rw [hc, hd]
           show wpAny M A (if (["enumerate", "zip", "dict_itemiterator", "dict_reverseitemiterator", "odict_iterator", "itertools.zip_longest", "itertools.pairwise"].contains n && vs[0]? == some (rawInt _)) = true then _ else _) Q E s
           rw [if_neg (by intro h; rw [hn, Bool.false_and] at h; cases h)]
           exact wpAny_pure hQ))
noncomputable def Itl (K:PySem.W.Frag) (a:Addr):It:=
 ⟨fun i H=>∃ xs x,SqL K H a xs/\xs[i]? = some x,fun i H x H'=>H'=H/\∀ xs,SqL K H a xs->xs[i]? = some x,fun i H=>∃ xs,SqL K H a xs/\xs.length<=i⟩
noncomputable def Itt (K:PySem.W.Frag) (a:Addr):It:=
 ⟨fun i H=>∃ xs x,SqT K H a xs/\xs[i]? = some x,fun i H x H'=>H'=H/\∀ xs,SqT K H a xs->xs[i]? = some x,fun i H=>∃ xs,SqT K H a xs/\xs.length<=i⟩
noncomputable def Itr (lo:Int) (n:Nat):It:=⟨fun i _=>i < n,fun i H x H'=>H'=H/\x=.int (lo + i),fun i _=>n<=i⟩
theorem lO {P:Program} {w:World} {K:PySem.W.Frag} {tg:Expr} (a it:Addr):Turn P w K tg (Itl K a) [it] it (fun i h=>h.IsListIter it a i) where
 mem:=by simp
 obj:=fun i h st b hb=>by
  have e:b=it:=by simpa using hb
  subst e
  obtain⟨o,e,c,d⟩:=st
  exact⟨o,e,fun v z=>by rw[d] at z;cases z⟩
 keep:=fun i h h' st k=>st.at fun o e=>k it (by simp) o e
 item:=by
  intro X hP hw hK hc i pins s σ H E I hf st hg
  subst hP hw hK
  obtain⟨xs,x,hq,hx⟩:=hg
  obtain⟨its,rv,p,hz⟩:=I.list hq
  obtain⟨u,hu,ru⟩:=rv.get hx
  obtain⟨f0,f1,f2,f3,f4,f5⟩:=hf it (by simp)
  refine wpAny_pyNext_list_item st p.isList (x:=u) (by simpa using hu) fun h' st' sb=>?_
  have I1:Inv X pins σ H {s with heap:=h'}:=I.turned (t':=s.toks) (fun b o hb e=>(sb.2 b hb).trans e) f0 f1 f3 f4 f5
  obtain⟨o,e,c,d⟩:=id st'
  exact⟨u,rfl,kb (s:={s with heap:=h'}) e c d (by decide) ⟨x,H,I1,ru,⟨rfl,fun ys hy=>by rw[I.list_inj hy hq];exact hx⟩,st',fun b hb=>(hf b hb).1⟩⟩
 done:=by
  intro X hP hw hK hc i pins s σ H E I hf st hg
  subst hP hw hK
  obtain⟨xs,hq,hx⟩:=hg
  obtain⟨its,rv,p,hz⟩:=I.list hq
  obtain⟨f0,f1,f2,f3,f4,f5⟩:=hf it (by simp)
  have hl:=rv.length
  exact wpAny_pyNext_list_end (I.ok.hd hc) st p.isList (by simp;omega) fun h' eb=>⟨rfl,I.turned (t':=s.toks) (fun b o hb e=>eb b o hb e) f0 f1 f3 f4 f5⟩
 self:=fun _ _ _ _ _ st h=>wpAny_pyIter_listiter st h
theorem jq {P:Program} {w:World} {K:PySem.W.Frag} {tg:Expr} (a it:Addr):Turn P w K tg (Itt K a) [it] it (fun i h=>h.IsTupleIter it a i) where
 mem:=by simp
 obj:=fun i h st b hb=>by
  have e:b=it:=by simpa using hb
  subst e
  obtain⟨o,e,c,d⟩:=st
  exact⟨o,e,fun v z=>by rw[d] at z;cases z⟩
 keep:=fun i h h' st k=>st.at fun o e=>k it (by simp) o e
 item:=by
  intro X hP hw hK hc i pins s σ H E I hf st hg
  subst hP hw hK
  obtain⟨xs,x,hq,hx⟩:=hg
  obtain⟨its,rv,p,hz⟩:=I.tuple hq
  obtain⟨u,hu,ru⟩:=rv.get hx
  obtain⟨f0,f1,f2,f3,f4,f5⟩:=hf it (by simp)
  refine wpAny_pyNext_tuple_item st (show s.heap.IsTuple a its.toArray from p) (x:=u) (by simpa using hu) fun h' st' sb=>?_
  have I1:Inv X pins σ H {s with heap:=h'}:=I.turned (t':=s.toks) (fun b o hb e=>(sb.2 b hb).trans e) f0 f1 f3 f4 f5
  obtain⟨o,e,c,d⟩:=id st'
  exact⟨u,rfl,kb (s:={s with heap:=h'}) e c d (by decide) ⟨x,H,I1,ru,⟨rfl,fun ys hy=>by rw[I.tuple_inj hy hq];exact hx⟩,st',fun b hb=>(hf b hb).1⟩⟩
 done:=by
  intro X hP hw hK hc i pins s σ H E I hf st hg
  subst hP hw hK
  obtain⟨xs,hq,hx⟩:=hg
  obtain⟨its,rv,p,hz⟩:=I.tuple hq
  obtain⟨f0,f1,f2,f3,f4,f5⟩:=hf it (by simp)
  have hl:=rv.length
  exact wpAny_pyNext_tuple_end (I.ok.hd hc) st (show s.heap.IsTuple a its.toArray from p) (by simp;omega) fun h' eb=>⟨rfl,I.turned (t':=s.toks) (fun b o hb e=>eb b o hb e) f0 f1 f3 f4 f5⟩
 self:=fun _ _ _ _ _ st h=>wpAny_pyIter_tupleiter st h
theorem jr {P:Program} {w:World} {K:PySem.W.Frag} {tg:Expr} (it:Addr) (lo:Int) (n:Nat):Turn P w K tg (Itr lo n) [it] it (fun i h=>IsRangeIter h it (lo + (i:Nat) * 1) ((n:Int) - (i:Nat)) 1) where
 mem:=by simp
 obj:=fun i h st b hb=>by
  have e:b=it:=by simpa using hb
  subst e
  exact⟨_,st,fun v z=>by
   have z':Data.fields _=Data.cell v:=z
   cases z'⟩
 keep:=fun i h h' st k=>k it (by simp) _ st
 item:=by
  intro X hP hw hK hc i pins s σ H E I hf st hg
  subst hP hw hK
  obtain⟨f0,f1,f2,f3,f4,f5⟩:=hf it (by simp)
  have W:=Walks.range (prog:=X.prog) (w:=X.w) (I.ok.hd hc) it lo 1 n
  refine W.item i s _ _ hg st fun v h' tk hv st' kk=>?_
  obtain⟨t,rfl⟩:=hv
  have I1:Inv X pins σ H {s with heap:=h',toks:=tk}:=I.turned (fun b o hb e=>kk b o (by simpa using hb) e) f0 f1 f3 f4 f5
  refine⟨_,rfl,kb (s:={s with heap:=h',toks:=tk}) (n:="range_iterator") st' rfl rfl (by decide) ⟨.int (lo + i),H,I1,⟨t,?_⟩,⟨rfl,rfl⟩,st',fun b hb=>(hf b hb).1⟩⟩
  rw[Int.mul_one]
 done:=by
  intro X hP hw hK hc i pins s σ H E I hf st hg
  subst hP hw hK
  obtain⟨f0,f1,f2,f3,f4,f5⟩:=hf it (by simp)
  exact wpAny_pyNext_range_end (I.ok.hd hc) st (by have:n<=i:=hg;omega) fun h' eb=>⟨rfl,I.turned (t':=s.toks) (fun b o hb e=>eb b o hb e) f0 f1 f3 f4 f5⟩
 self:=fun _ _ _ _ _ st h=>wpAny_pyIter_rangeiter st h
section
variable {X:Cx} {tg:Expr}
theorem mK {pins:List (Addr×Obj)} {σ:St} {H:Hp} {s:Shared} {R:It->Hp->Prop} {E:Value->Shared->Prop} {lo hi:Int} {t u v:Tok} {tk:Nat} (I:Inv X pins σ H s) (h1 : -(2 ^ 62)<=lo) (h2:lo < 2 ^ 62) (h3 : -(2 ^ 62)<=hi) (h4:hi < 2 ^ 62)
  (q:R (Itr lo (hi - lo).toNat) H):wpAny (model X.prog X.w) X.A (pyIter (.ref s.heap.objs.size)) (PIE X pins σ tg R) E {s with heap:=s.heap.push {cls:=.type "range",data:=.fields #[.int lo t,.int hi u,.int 1 v]},toks:=tk}:=by
 refine wpAny_pyIter_range (IsRange.new ..) (small_one h1 h2 h3 h4) ?_
 have I1:Inv X pins σ H {s with heap:=s.heap.push {cls:=.type "range",data:=.fields #[.int lo t,.int hi u,.int 1 v]},toks:=tk}:=I.kept fun b o e=>Heap.get?_push_of_some _ e
 refine⟨(s.heap.push {cls:=.type "range",data:=.fields #[.int lo t,.int hi u,.int 1 v]}).objs.size,[(s.heap.push {cls:=.type "range",data:=.fields #[.int lo t,.int hi u,.int 1 v]}).objs.size],_,_,H,rfl,
  I1.kept (t':=tk) fun b o e=>Heap.get?_push_of_some _ e,jr _ lo (hi - lo).toNat,?_,fun b hb=>?_,q⟩
 ·have e1:lo + ((0:Nat):Int) * 1=lo:=by simp
  have e2:(((hi - lo).toNat:Nat):Int) - ((0:Nat):Int)=Builtin.Range.rangeSize lo hi 1:=by rw[rangeSize_one];split<;>omega
  show IsRangeIter _ _ (lo + ((0:Nat):Int) * 1) ((((hi - lo).toNat:Nat):Int) - ((0:Nat):Int)) 1
  rw[e1,e2]
  exact Heap.get?_push_size _ rfl
 ·have e:b=(s.heap.push {cls:=.type "range",data:=.fields #[.int lo t,.int hi u,.int 1 v]}).objs.size:=by simpa using hb
  subst e
  exact I1.fpOk (Nat.le_refl _) (I1.hok.fresh (Nat.le_refl _))
noncomputable def xP (ta:TA):TI:=fun σ H R=>ta σ H fun vs H1=>∃ j:Int,vs=[.int j]/\-(2 ^ 62)<=j/\j < 2 ^ 62/\R (Itr 0 j.toNat) H1
theorem fN {a:Expr} {ta:TA} {p pos:Pos} (hg:Gl X "range") (hm:X.mg "range" = none) (ha:PA X [a] ta) (hs:starEach [a] X.env=[(false,eval a X.env)]:=by rfl):PI X tg (.Call (.Name "range" p) [a] [] pos) (xP ta):=by
 intro pins s σ H R I h
 refine Call_ (eD I hg hm boot_range (PyProof.Rows.callWith_type1 (thn (ha pos pins s σ H _ I h) fun us s1 ⟨vs,H1,I1,r1,q1⟩=>?_) hs rfl))
 obtain⟨j,e,q1,q2,q⟩:=q1
 subst e
 cases r1 with
 | cons r rr=>
  cases rr
  obtain⟨t,rfl⟩:=r
  exact call_range_1 (mK I1 (by omega) (by omega) q1 q2 (by simpa using q))
noncomputable def A3 (wi:TI) (g:TG) (tb:TS):TS:=fun D σ H=>wi σ H fun J H1=>∃ W:Nat->Nat->St->Hp->Prop,(∃ m,W 0 m σ H1)/\∀ i m σ H,W i m σ H->
 (J.stop i H/\D.nx σ H)∨(J.go i H/\∃ N:St->Hp->Prop,(∀ σ' H',N σ' H'->∃ m',m' < m/\W (i + 1) m' σ' H')/\∀ x H',J.yld i H x H'->g x σ H' fun σ2 H2=>tb {D with nx:=N,ct:=N,bk:=D.nx} σ2 H2)
noncomputable def dD (fp:List Addr) (h:Heap):List (Addr×Obj):=fp.filterMap fun b=>(h.get? b).map fun o=>(b,o)
theorem cw {fp:List Addr} {h:Heap} {b:Addr} {o:Obj} (hb:b ∈ fp) (e:h.get? b=some o):(b,o) ∈ dD fp h:=List.mem_filterMap.mpr ⟨b,hb,by rw[e];rfl⟩
theorem lP {fp:List Addr} {h:Heap} {p:Addr×Obj} (hp:p ∈ dD fp h):p.1 ∈ fp/\h.get? p.1=some p.2:=by
 obtain⟨b,hb,e⟩:=List.mem_filterMap.mp hp
 cases q:h.get? b with
 | none=>rw[q] at e;cases e
 | some o=>
  rw[q] at e
  have e':(b,o)=p:=Option.some.inj e
  subst e'
  exact⟨hb,q⟩
theorem Inv.pinned {pins:List (Addr×Obj)} {σ:St} {H:Hp} {s:Shared} {fp:List Addr} (I:Inv X pins σ H s) (hf:∀ b ∈ fp,cN X pins H b) (ho:∀ b ∈ fp,∃ o,s.heap.get? b=some o/\∀ v,o.data≠.cell v):Inv X (pins++dD fp s.heap) σ H s:=
 I.pins_of fun p hp=>(List.mem_append.mp hp).elim (fun z=>I.pin p (List.mem_append_right _ z)) fun z=>by
  obtain⟨hb,e⟩:=lP z
  obtain⟨f0,f1,f2,_⟩:=hf p.1 hb
  obtain⟨o,e',d⟩:=ho p.1 hb
  rw[e] at e';cases e'
  exact⟨e,f0,f1,f2,d⟩
theorem Inv.unpinned {pins pl:List (Addr×Obj)} {σ:St} {H:Hp} {s:Shared} (I:Inv X (pins++pl) σ H s):Inv X pins σ H s:=I.pins_of fun p hp=>I.pin p (List.mem_append_right _ (List.mem_append_left _ hp))
theorem mL {iter:Expr} {body:List Stmt} {wi:TI} {g:TG} {tb:TS} {pos:Pos} (hp:PassesOwn (model X.prog X.w) X.A X.env X.xe) (hc:X.calm=true) (hi:PI X tg iter wi) (hg:PG X tg g) (hb:PSs X body tb)
  (hs:∀ x,foldedSetIterable iter X.env x=pure x:=by intro _;rfl):PS X (.For tg iter body [] pos) (A3 wi g tb):=by
 intro pins s σ H D I h
 refine wpAny_For (thn (hi pins s σ H _ I h) fun v s1 h1=>thn h1 fun itv s2 h2=>?_) hs
 obtain⟨it,fp,tn,J,H2,e,I2,T,st2,f2,W,⟨m0,w0⟩,turn⟩:=h2
 subst e
 -- what stays true of the iterator's objects through the loop
 have stat:∀ {H':Hp},(∀ b ∈ fp,H' b=none)->∀ b ∈ fp,cN X pins H' b:=fun hn b hb=>⟨hn b hb,(f2 b hb).2⟩
 refine codeAny_forLoop_any (fun n s'=>∃ i σ' H',Inv X pins σ' H' s'/\tn i s'.heap/\(∀ b ∈ fp,H' b=none)/\W i n σ' H') ?_ m0 ⟨0,σ,H2,I2,st2,fun b hb=>(f2 b hb).1,w0⟩
 rintro n s3 ⟨i,σ3,H3,I3,st3,fr3,w3⟩
 rcases turn i n σ3 H3 w3 with ⟨stop,qn⟩ | ⟨go,N,hN,step⟩
 ·refine wpAny_passesOwn hp (thn (T.done X rfl rfl rfl hc i pins s3 σ3 H3 X.xe I3 (stat fr3) st3 stop) fun r s4 ⟨hr,I4⟩=>?_)
  subst hr
  exact wpAny_execs_nil ⟨σ3,H3,I4,qn⟩
 ·refine wpAny_passesOwn hp (thn (T.item X rfl rfl rfl hc i pins s3 σ3 H3 X.xe I3 (stat fr3) st3 go) fun r s4 ⟨u,hr,h4⟩=>?_)
  subst hr
  refine wpAny_passesOwn hp (thn h4 fun _ s5 ⟨x,H5,I5,r5,y5,st5,fr5⟩=>?_)
  have I5':=I5.pinned (stat fr5) (T.obj _ _ st5)
  refine wpAny_passesOwn hp (thn (hg _ s5 σ3 H5 x u _ I5' r5 (step x H5 y5)) fun _ s6 ⟨σ6,H6,I6,q6⟩=>?_)
  refine wpAny_passesOwn hp (thn (hb _ s6 σ6 H6 _ I6 q6) fun f s7 q7=>?_)
  have again:∀ {σ7:St} {H7:Hp},Inv X (pins++dD fp s5.heap) σ7 H7 s7->N σ7 H7->∃ m,m < n/\∃ i σ' H',Inv X pins σ' H' s7/\tn i s7.heap/\(∀ b ∈ fp,H' b=none)/\W i m σ' H':=fun {σ7 H7} I7 n7=>by
   obtain⟨m',hm,w7⟩:=hN σ7 H7 n7
   refine⟨m',hm,i + 1,σ7,H7,I7.unpinned,T.keep _ _ _ st5 fun b hb o e=>(I7.pin (b,o) (List.mem_append_right _ (List.mem_append_right _ (cw hb e)))).1,fun b hb=>?_,w7⟩
   obtain⟨o,e,d⟩:=T.obj _ _ st5 b hb
   exact(I7.pin (b,o) (List.mem_append_right _ (List.mem_append_right _ (cw hb e)))).2.1
  cases f with
  | next=>obtain⟨σ7,H7,I7,n7⟩:=q7;exact again I7 n7
  | cont=>obtain⟨σ7,H7,I7,n7⟩:=q7;exact again I7 n7
  | brk=>obtain⟨σ7,H7,I7,q7⟩:=q7;exact⟨σ7,H7,I7.unpinned,q7⟩
  | ret v=>obtain⟨x7,σ7,H7,I7,r7,q7⟩:=q7;exact⟨x7,σ7,H7,I7.unpinned,r7,q7⟩
end
noncomputable abbrev R2:=V->V->Hp->VK->Prop
noncomputable def OpR (X:Cx) (f:Value->Value->Sem Value) (r:R2):Prop:=
 ∀ (pins:List (Addr×Obj)) (s:Shared) (σ:St) (H:Hp) (x y:V) (v u:Value) (Q:VK),Inv X pins σ H s->RelV x v->RelV y u->r x y H Q->
  wpAny (model X.prog X.w) X.A (f v u) (EP X pins σ Q) X.xe s
noncomputable def UnR (X:Cx) (f:Value->Sem Value) (r:V->Hp->VK->Prop):Prop:=
 ∀ (pins:List (Addr×Obj)) (s:Shared) (σ:St) (H:Hp) (x:V) (v:Value) (Q:VK),Inv X pins σ H s->RelV x v->r x H Q->
  wpAny (model X.prog X.w) X.A (f v) (EP X pins σ Q) X.xe s
noncomputable def bE (X:Cx) (f:Value) (r:List V->Hp->VK->Prop):Prop:=
 ∀ (pins:List (Addr×Obj)) (s:Shared) (σ:St) (H:Hp) (xs:List V) (us:List Value) (Q:VK),Inv X pins σ H s->Vals xs us->r xs H Q->
  wpAny (model X.prog X.w) X.A (call f us) (EP X pins σ Q) X.xe s
noncomputable def A4 (X:Cx) (r:V->Hp->(Bool->Hp->Prop)->Prop):Prop:=
 ∀ (pins:List (Addr×Obj)) (s:Shared) (σ:St) (H:Hp) (x:V) (v:Value) (Q:Bool->Hp->Prop),Inv X pins σ H s->RelV x v->r x H Q->
  wpAny (model X.prog X.w) X.A (truthy v) (TP X pins σ Q) X.xe s
noncomputable def tOp (r:R2) (ta tb:TE):TE:=fun σ H Q=>ta σ H fun x H1=>tb σ H1 fun y H2=>r x y H2 Q
noncomputable def tUn (r:V->Hp->VK->Prop) (ta:TE):TE:=fun σ H Q=>ta σ H fun x H1=>r x H1 Q
noncomputable def rI (C:Int->Int->Prop) (g:Int->Int->V):R2:=fun x y H Q=>∃ i j,x=.int i/\y=.int j/\C i j/\Q (g i j) H
noncomputable def rI0 (g:Int->Int->V):R2:=fun x y H Q=>∃ i j,x=.int i/\y=.int j/\Q (g i j) H
noncomputable def rU (g:Int->V):V->Hp->VK->Prop:=fun x H Q=>∃ i,x=.int i/\Q (g i) H
section
variable {X:Cx} {a b c:Expr} {ta tb tc:TE} {pos:Pos}
theorem vy (ha:PE X a ta) (hb:PE X b tb) {pins:List (Addr×Obj)} {s:Shared} {σ:St} {H:Hp} {R:V->V->Hp->Prop} (I:Inv X pins σ H s)
  (h:ta σ H fun x H1=>tb σ H1 fun y H2=>R x y H2) {Q:Value->Shared->Prop} {f:Value->Value->Sem Value}
  (hf:∀ v u s2 x y H2,Inv X pins σ H2 s2->RelV x v->RelV y u->R x y H2->wpAny (model X.prog X.w) X.A (f v u) Q X.xe s2) :
  wpAny (model X.prog X.w) X.A (eval a X.env) (fun v s₁=>wpAny (model X.prog X.w) X.A (eval b X.env) (fun u s₂=>wpAny (model X.prog X.w) X.A (f v u) Q X.xe s₂) X.xe s₁) X.xe s:=by
 refine thn (ha pins s σ H _ I h) fun v s1 ⟨x,H1,I1,r1,q1⟩=>?_
 refine thn (hb pins s1 σ H1 _ I1 q1) fun u s2 ⟨y,H2,I2,r2,q2⟩=>?_
 exact hf v u s2 x y H2 I2 r1 r2 q2
theorem sQ {op:Operator} {r:R2} (ho:OpR X (binaryOp op) r) (ha:PE X a ta) (hb:PE X b tb):PE X (.BinOp a op b pos) (tOp r ta tb):=by
 intro pins s σ H Q I h
 exact wpAny_BinOp (vy ha hb I h fun v u s2 x y H2 I2 rx ry q=>ho pins s2 σ H2 x y v u Q I2 rx ry q)
theorem xQ {op:UnaryOp} {r:V->Hp->VK->Prop} (ho:UnR X (unaryOp op) r) (ha:PE X a ta):PE X (.UnaryOp op a pos) (tUn r ta):=by
 intro pins s σ H Q I h
 exact UnaryOp_ (thn (ha pins s σ H _ I h) fun v s1 ⟨x,H1,I1,r1,q1⟩=>ho pins s1 σ H1 x v Q I1 r1 q1)
theorem opI {f:Value->Value->Sem Value} {C:Int->Int->Prop} {g:Int->Int->Int}
  (rule:∀ (i j:Int) (t u:Tok) (s:Shared) (Q:Value->Shared->Prop) (E:Value->Shared->Prop),C i j->Q (.int (g i j) s.toks) {s with toks:=s.toks + 1}->wpAny (model X.prog X.w) X.A (f (.int i t) (.int j u)) Q E s) :
  OpR X f (rI C fun i j=>.int (g i j)):=by
 intro pins s σ H x y v u Q I rx ry h
 obtain⟨i,j,rfl,rfl,hc,q⟩:=h
 obtain⟨t,rfl⟩:=rx
 obtain⟨t',rfl⟩:=ry
 exact rule i j t t' s _ _ hc ⟨.int (g i j),H,I.tok _,⟨_,rfl⟩,q⟩
theorem xR {f:Value->Value->Sem Value} {g:Int->Int->Int}
  (rule:∀ (i j:Int) (t u:Tok) (s:Shared) (Q:Value->Shared->Prop) (E:Value->Shared->Prop),Q (.int (g i j) s.toks) {s with toks:=s.toks + 1}->wpAny (model X.prog X.w) X.A (f (.int i t) (.int j u)) Q E s) :
  OpR X f (rI0 fun i j=>.int (g i j)):=by
 intro pins s σ H x y v u Q I rx ry h
 obtain⟨i,j,rfl,rfl,q⟩:=h
 obtain⟨t,rfl⟩:=rx
 obtain⟨t',rfl⟩:=ry
 exact rule i j t t' s _ _ ⟨.int (g i j),H,I.tok _,⟨_,rfl⟩,q⟩
noncomputable def A5 (i j:Int):Prop:=0 < j/\j < 1073741824
noncomputable def A6 (i j:Int):Prop:=0<=j/\j<=1000000/\i.natAbs < 2 ^ 64
noncomputable def vz (i j:Int):Prop:=(-(2 ^ 64) < i/\i < 2 ^ 64)∨(-(2 ^ 64) < j/\j < 2 ^ 64)
theorem vz.ok {i j:Int} (h:vz i j):IntMulOk i j:=by
 rcases h with ⟨h1,h2⟩ | ⟨h1,h2⟩
 ·exact .of_left (intBits_le_64 h1 h2)
 ·exact .of_right (intBits_le_64 h1 h2)
theorem vA:OpR X (binaryOp .Add) (rI0 fun i j=>.int (i + j)):=xR fun _ _ _ _ _ _ _ q=>add_int q
theorem vB:OpR X (binaryOp .Sub) (rI0 fun i j=>.int (i - j)):=xR fun _ _ _ _ _ _ _ q=>sub_int q
theorem vD:OpR X (binaryOp .Mult) (rI vz fun i j=>.int (i * j)):=opI fun _ _ _ _ _ _ _ hc q=>mul_int q hc.ok
theorem qN:OpR X (binaryOp .FloorDiv) (rI A5 fun i j=>.int (i / j)):=opI fun i j _ _ _ _ _ hc q=>by
 have h1:(0:Int) < j:=hc.1
 have h2:j < 1073741824:=hc.2
 exact floordiv_int (by omega) (by rw[Int.fdiv_eq_ediv_of_nonneg i (by omega)];exact q) (.inl (PyProof.noPylong_small (by omega)))
theorem vE:OpR X (binaryOp .Mod) (rI (fun _ j=>0 < j) fun i j=>.int (i % j)):=opI fun i j _ _ _ _ _ hc q=>by
 have h1:(0:Int) < j:=hc
 exact mod_int' (by omega) (by rw[Int.fmod_eq_emod_of_nonneg i (by omega)];exact q)
theorem vF:OpR X (binaryOp .Pow) (rI A6 fun i j=>.int (i ^ j.toNat)):=opI fun _ _ _ _ _ _ _ hc q=>pow_int_small hc.1 hc.2.1 hc.2.2 q
theorem unI {f:Value->Sem Value} {g:Int->Int}
  (rule:∀ (i:Int) (t:Tok) (s:Shared) (Q:Value->Shared->Prop) (E:Value->Shared->Prop),Q (.int (g i) s.toks) {s with toks:=s.toks + 1}->wpAny (model X.prog X.w) X.A (f (.int i t)) Q E s) :
  UnR X f (rU fun i=>.int (g i)):=by
 intro pins s σ H x v Q I rx h
 obtain⟨i,rfl,q⟩:=h
 obtain⟨t,rfl⟩:=rx
 exact rule i t s _ _ ⟨.int (g i),H,I.tok _,⟨_,rfl⟩,q⟩
theorem vG:UnR X (unaryOp .USub) (rU fun i=>.int (-i)):=unI fun _ _ _ _ _ q=>neg_int q
end
section
variable {X:Cx} {a b c:Expr} {ta tb tc:TE} {pos:Pos}
theorem qO {op:CmpOp} {r:R2} (ho:OpR X (compareOp op) r) (ha:PE X a ta) (hb:PE X b tb) (hm:behindInMarks op b=false):PE X (.Compare a [op] [b] pos) (tOp r ta tb):=by
 intro pins s σ H Q I h
 exact wpAny_Compare1 (vy ha hb I h fun v u s2 x y H2 I2 rx ry q=>ho pins s2 σ H2 x y v u Q I2 rx ry q) hm
noncomputable def xS (t:TE):TT:=fun σ H Q=>t σ H fun x H'=>∃ k,x=.bl k/\Q k H'
theorem qP {op:CmpOp} {r:R2} (ho:OpR X (compareOp op) r) (ha:PE X a ta) (hb:PE X b tb) (hm:behindInMarks op b=false):PT X (.Compare a [op] [b] pos) (xS (tOp r ta tb)):=by
 intro pins s σ H Q I h
 refine wpAny_isTrue_Compare1 (thn (ha pins s σ H _ I h) fun v s1 ⟨x,H1,I1,r1,q1⟩=>thn (hb pins s1 σ H1 _ I1 q1) fun u s2 ⟨y,H2,I2,r2,q2⟩=>
  thn (ho pins s2 σ H2 x y v u _ I2 r1 r2 q2) fun c s3 ⟨z,H3,I3,r3,k,e,q3⟩=>?_) hm
 subst e
 cases r3
 exact wpAny_truthy_bool ⟨H3,I3,q3⟩
noncomputable def A7 (K:PySem.W.Frag) (x:V) (H:Hp) (k:Bool):Prop:=
 match x with
 | .non=>k=false
 | .bl b=>k=b
 | .int i=>k=(i != 0)
 | .str y=>y.length<=sizeLine/\k=((y.length:Int) != 0)
 | .byt y=>y.size<=sizeLine/\k=((y.size:Int) != 0)
 | .ref p=>(∃ xs,SqL K H p xs/\k = !xs.isEmpty)∨(∃ xs,SqT K H p xs/\k = !xs.isEmpty)∨∃ kvs,H p=some (.dK kvs)/\k = !kvs.isEmpty
 | _=>False
theorem jt {κ:Type} {kvs:List (κ×V)} {vs:List (κ×Value)} (r:KV kvs vs):(!vs.isEmpty) = !kvs.isEmpty:=by
 cases r<;>rfl
theorem eE {xs:List V} {its:List Value} (r:Vals xs its):(!its.toArray.isEmpty) = !xs.isEmpty:=by
 cases r<;>simp
theorem eF:(sizeLine:Nat) < 2 ^ 63:=by rw[sizeLine_eq];decide
theorem vH:A4 X (fun x H Q=>∃ k,A7 X.K x H k/\Q k H):=by
 intro pins s σ H x v Q I rx h
 obtain⟨k,e,q⟩:=h
 have hl:=eF
 have hs:sizeLine=16777216:=sizeLine_eq
 cases x with
 | non=>
  cases rx
  have e':k=false:=e
  subst e'
  exact truthy_none ⟨H,I,q⟩
 | bl b=>
  cases rx
  have e':k=b:=e
  subst e'
  exact wpAny_truthy_bool ⟨H,I,q⟩
 | int i=>
  obtain⟨t,rfl⟩:=rx
  have e':k=(i != 0):=e
  subst e'
  exact PySem.P.truthy_int ⟨H,I,q⟩
 | str y=>
  obtain⟨t,rfl⟩:=rx
  obtain⟨hy,e'⟩:y.length<=sizeLine/\k=((y.length:Int) != 0):=e
  subst e'
  exact PySem.P.truthy_str (by omega) ⟨H,I.tok _,q⟩
 | byt y=>
  obtain⟨t,rfl⟩:=rx
  obtain⟨hy,e'⟩:y.size<=sizeLine/\k=((y.size:Int) != 0):=e
  subst e'
  exact PySem.W.truthy_bytes (by omega) ⟨H,I.tok _,q⟩
 | ref p=>
  cases rx
  have e':(∃ xs,SqL X.K H p xs/\k = !xs.isEmpty)∨(∃ xs,SqT X.K H p xs/\k = !xs.isEmpty)∨∃ kvs,H p=some (.dK kvs)/\k = !kvs.isEmpty:=e
  rcases e' with ⟨xs,hx,e'⟩ | ⟨xs,hx,e'⟩ | ⟨kvs,hx,e'⟩
  ·subst e'
   obtain⟨its,r,pl,hz⟩:=I.list hx
   have hlen:=r.length
   exact wpAny_truthy_list pl.isList (by simp only[List.size_toArray];omega) ⟨H,I.tok _,by rw[eE r];exact q⟩
  ·subst e'
   obtain⟨its,r,pl,hz⟩:=I.tuple hx
   have hlen:=r.length
   exact truthy_tuple pl (by simp only[List.size_toArray];omega) ⟨H,I.tok _,by rw[eE r];exact q⟩
  ·subst e'
   obtain⟨hz,hS,vs,r,m⟩:kvs.length<=sizeLine/\(p == sysModules)=false/\∃ vs,KV kvs vs/\s.heap.DictOf (aQ X.prog X.w) p vs:=I.hok p _ hx
   have hlen:kvs.length=vs.length:=Paired.length r
   exact wpAny_truthy_dict hS m (by omega) ⟨H,I.tok _,by rw[jt r];exact q⟩
 | _=>exact(show False from e).elim
theorem ju:OpR X (binaryOp .Add) (fun x y H Q=>∃ i j,x=.str i/\y=.str j/\i.length + j.length<=sizeLine/\Q (.str (i++j)) H):=by
 intro pins s σ H x y v u Q I rx ry h
 obtain⟨i,j,rfl,rfl,hz,q⟩:=h
 obtain⟨t,rfl⟩:=rx
 obtain⟨t',rfl⟩:=ry
 exact add_str (fun t' tk=>⟨.str (i++j),H,I.tok _,⟨_,rfl⟩,q⟩) hz
theorem vals1 {x:V} {us:List Value} (r:Vals [x] us):∃ u,us=[u]/\RelV x u:=by
 cases r with
 | cons r1 r2=>cases r2;exact⟨_,rfl,r1⟩
theorem vals2 {x y:V} {us:List Value} (r:Vals [x,y] us):∃ u w',us=[u,w']/\RelV x u/\RelV y w':=by
 cases r with
 | cons r1 r2=>
  cases r2 with
  | cons r3 r4=>cases r4;exact⟨_,_,rfl,r1,r3⟩
theorem lQ (hc:X.calm=true):bE X (.builtin "max") (fun xs H Q=>∃ i j,xs=[.int i,.int j]/\Q (.int (if j > i then j else i)) H):=by
 intro pins s σ H xs us Q I r h
 obtain⟨i,j,rfl,q⟩:=h
 obtain⟨u,w',rfl,⟨t,rfl⟩,⟨t',rfl⟩⟩:=vals2 r
 refine max_two_ints (I.ok.hd hc) fun h' tk k=>⟨_,H,I.kept k,?_,q⟩
 by_cases hj:j > i
 ·rw[if_pos hj,if_pos hj];exact⟨_,rfl⟩
 ·rw[if_neg hj,if_neg hj];exact⟨_,rfl⟩
theorem lR (hc:X.calm=true):bE X (.builtin "min") (fun xs H Q=>∃ i j,xs=[.int i,.int j]/\Q (.int (if j < i then j else i)) H):=by
 intro pins s σ H xs us Q I r h
 obtain⟨i,j,rfl,q⟩:=h
 obtain⟨u,w',rfl,⟨t,rfl⟩,⟨t',rfl⟩⟩:=vals2 r
 refine min_two_ints (I.ok.hd hc) fun h' tk k=>⟨_,H,I.kept k,?_,q⟩
 by_cases hj:j < i
 ·rw[if_pos hj,if_pos hj];exact⟨_,rfl⟩
 ·rw[if_neg hj,if_neg hj];exact⟨_,rfl⟩
noncomputable def A8 (K:PySem.W.Frag) (x:V) (H:Hp) (n:Nat):Prop:=
 match x with
 | .str y=>y.length<=sizeLine/\n=y.length
 | .byt y=>y.size<=sizeLine/\n=y.size
 | .ref p=>(∃ xs,SqL K H p xs/\n=xs.length)∨∃ xs,SqT K H p xs/\n=xs.length
 | _=>False
theorem eG:bE X (.builtin "len") (fun xs H Q=>∃ x n,xs=[x]/\A8 X.K x H n/\Q (.int n) H):=by
 intro pins s σ H xs us Q I r h
 obtain⟨x,n,rfl,e,q⟩:=h
 obtain⟨u,rfl,rx⟩:=vals1 r
 have hl:=eF
 have hs:sizeLine=16777216:=sizeLine_eq
 cases x with
 | str y=>
  obtain⟨t,rfl⟩:=rx
  obtain⟨hy,e'⟩:y.length<=sizeLine/\n=y.length:=e
  subst e'
  exact len_str (by omega) ⟨.int _,H,I.tok _,⟨_,rfl⟩,q⟩
 | byt y=>
  obtain⟨t,rfl⟩:=rx
  obtain⟨hy,e'⟩:y.size<=sizeLine/\n=y.size:=e
  subst e'
  exact PySem.W.len_bytes (by omega) ⟨.int _,H,I.tok _,⟨_,rfl⟩,q⟩
 | ref p=>
  cases rx
  have e':(∃ xs,SqL X.K H p xs/\n=xs.length)∨∃ xs,SqT X.K H p xs/\n=xs.length:=e
  rcases e' with ⟨xs,hx,e'⟩ | ⟨xs,hx,e'⟩
  ·subst e'
   obtain⟨its,r',pl,hz⟩:=I.list hx
   have hlen:=r'.length
   exact Calls.call_len_list pl.isList (by simp only[List.size_toArray];omega) ⟨.int xs.length,H,I.tok _,⟨_,by simp only[List.size_toArray];rw[hlen]⟩,q⟩
  ·subst e'
   obtain⟨its,r',pl,hz⟩:=I.tuple hx
   have hlen:=r'.length
   exact len_tuple pl (by simp only[List.size_toArray];omega) ⟨.int xs.length,H,I.tok _,⟨_,by simp only[List.size_toArray];rw[hlen]⟩,q⟩
 | _=>exact(show False from e).elim
end
structure ObjM (h:Heap) (x dx C:Addr) (mA:Str->Option Value):Prop where
 obj:h.get? x=some (PySem.W.instObj C dx)
 ns:h.Ns1 dx mA
 ne:dx≠x
section
variable {prog:Program} {w:World} {A:Around} {E:Value->Shared->Prop} {s:Shared} {K:PySem.W.Frag} {x dx C f:Addr} {mA:Str->Option Value} {name:Str} {v:Value}
end
section
variable {P:Program} {w:World} {H H':Hp} {h h':Heap} {a C dx:Addr} {fs fs':List (Str×V)}
end
structure Cls (K:PySem.W.Frag) (C:Addr):Prop where
 pg:PySem.W.plainGet K C Str.empty=true
 hd:PySem.W.hasDictIn K C=true
 po:PySem.W.plainOver K C=true
 sa:PySem.W.findIn K (.ref C) "__setattr__" = some (some (.builtin "object.__setattr__"))
structure Con (K:PySem.W.Frag) (C:Addr) (f:Str) (v:V) (u:Value):Prop where
 at_:PySem.W.findIn K (.ref C) f=some (some u)
 rel:RelV v u
 get:PySem.W.specialIn K u "__get__" = some none
 cp:PySem.W.copiedNames.contains f=false
structure Meth (K:PySem.W.Frag) (C:Addr) (m:Str) (f:Addr):Prop where
 at_:PySem.W.findIn K (.ref C) m=some (some (.ref f))
 fn:PySem.W.isFn K (.ref f)=true
 kp:PySem.W.keepIn K (.ref f)=true
section
variable {X:Cx} {pins:List (Addr×Obj)} {σ:St} {H:Hp} {s:Shared} {a C dx:Addr} {fs:List (Str×V)} {f:Str} {v:V} {A:Around} {E:Value->Shared->Prop}
end
section
variable {X:Cx} {o e value:Expr} {f:Str} {pos pos' tpos:Pos} {ta tv:TE}
end
section
variable {X:Cx} {pins:List (Addr×Obj)} {σ:St} {H:Hp} {s:Shared} {A:Around} {E:Value->Shared->Prop} {Q:Value->Shared->Prop} {c:Value} {b:Bool}
inductive TyOf (K:PySem.W.Frag) (H:Hp):V->Value->Prop where
 | non:TyOf K H .non (.type "NoneType")
 | bl (x:Bool):TyOf K H (.bl x) (.type "bool")
 | int (i:Int):TyOf K H (.int i) (.type "int")
 | str (x:Str):TyOf K H (.str x) (.type "str")
 | flt (x:UInt64):TyOf K H (.flt x) (.type "float")
 | lst {a:Addr} {xs:List V} (e:H a=some (.lst xs)):TyOf K H (.ref a) (.type "list")
 | frz {a:Addr} {o:Obj} {xs:List V} (e:H a=some (.frz o (.lst xs))):TyOf K H (.ref a) (.type "list")
 | tup {a:Addr} {xs:List V} (e:H a=some (.tup xs)):TyOf K H (.ref a) (.type "tuple")
 | dK {a:Addr} {kvs:List (Key×V)} (e:H a=some (.dK kvs)):TyOf K H (.ref a) (.type "dict")
 | dT {a:Addr} {kvs:List (List Key×V)} (e:H a=some (.dT kvs)):TyOf K H (.ref a) (.type "dict")
 | ins {a C dx:Addr} {fs:List (Str×V)} (e:H a=some (.ins C dx fs)) (cl:Cls K C) (ha:PySem.W.findIn K (.ref C) "__class__" = some (some (.builtin "object.__class__")))
   (hn:PySem.W.specialIn K (.builtin "object.__class__") "__get__" = some (some (.builtin "getset_descriptor.__get__"))) (htk:PySem.W.takesIn K (.builtin "object.__class__")=some true)
   (hm:PySem.W.mroIn K C (.type "object")=some true):TyOf K H (.ref a) (.ref C)
end
structure Room (k:Nat) (A:Around):Prop where
 hd:k < 1000->A.handled=none
 dp:A.depth + 3 * (k % 1000) + 5 < recursionLimit
 un:A.units + 16 * (k % 1000) + 200 < cLine
theorem Room.deeper {k:Nat} {A:Around} (r:Room (k + 1) A) (env:Env) (hk:k % 1000≠999):Room k (A.deeper env):=
 ⟨fun z=>r.hd (by omega),by have:=r.dp;show A.depth + 1 + 3 * (k % 1000) + 5 < _;omega,by have:=r.un;show A.units + 3 + 16 * (k % 1000) + 200 < _;omega⟩
theorem Room.depth {k:Nat} {A:Around} (r:Room k A):A.depth < recursionLimit:=by have:=r.dp;omega
noncomputable def mM:TA:=fun _ H Q=>Q [] H
noncomputable def eI (ta:TE) (tr:TA):TA:=fun σ H Q=>ta σ H fun x H1=>tr σ H1 fun xs H2=>Q (x::xs) H2
section
variable {X:Cx} {e:Expr} {es:List Expr} {te:TE} {t:TA} {pos:Pos}
theorem bK:PA X [] mM:=fun _ _ _ _ H Q I h=>Calls.spliced_nil ⟨[],H,I,.nil,h⟩
theorem aR (ha:PE X e te) (hr:PA X es t) (hs:starEach (e::es) X.env=(false,eval e X.env)::starEach es X.env:=by rfl):PA X (e::es) (eI te t):=by
 intro pos pins s σ H Q I h
 rw[hs]
 show wpAny _ _ (spliced ((false,eval e X.env)::backTo pos (starEach es X.env))) _ _ s
 refine Calls.spliced_cons (thn (ha pins s σ H _ I h) fun u s1 ⟨x,H1,I1,r1,q1⟩=>?_)
 exact thn (hr pos pins s1 σ H1 _ I1 q1) fun us s2 ⟨xs,H2,I2,r2,q2⟩=>⟨x::xs,H2,I2,.cons r1 r2,q2⟩
noncomputable def A9 (t:TA):TE:=fun σ H Q=>t σ H fun xs H1=>xs.length<=sizeLine/\∀ p,H1 p=none->Q (.ref p) (upd H1 p (.tup xs))
noncomputable def Ba (t:TA):TE:=fun σ H Q=>t σ H fun xs H1=>xs.length<=sizeLine/\∀ p,H1 p=none->Q (.ref p) (upd H1 p (.lst xs))
theorem mN {x1} (h:PA X es t):PE X (.Tuple es x1 pos) (A9 t):=by
 intro pins s σ H Q I hq
 refine wpAny_Tuple_spliced (thn (h pos pins s σ H _ I hq) fun us s1 ⟨xs,H1,I1,r,z,q⟩=>⟨by rw[<- r.length];exact z,?_⟩)
 have hf:H1 s1.heap.objs.size=none:=I1.hok.fresh (Nat.le_refl _)
 refine⟨.ref s1.heap.objs.size,upd H1 s1.heap.objs.size (.tup xs),I1.laid (t':=s1.toks) (fun b u e=>Heap.get?_push_of_some _ e) (Nat.le_refl _) ?_,rfl,q _ hf⟩
 exact⟨z,us,r,⟨_,Heap.get?_push_size _ rfl,rfl,_,rfl⟩⟩
theorem mO (h:PA X es t):PE X (.List es pos) (Ba t):=by
 intro pins s σ H Q I hq
 refine wpAny_List_spliced (thn (h pos pins s σ H _ I hq) fun us s1 ⟨xs,H1,I1,r,z,q⟩=>⟨by rw[<- r.length];exact z,?_⟩)
 have hf:H1 s1.heap.objs.size=none:=I1.hok.fresh (Nat.le_refl _)
 refine⟨.ref s1.heap.objs.size,upd H1 s1.heap.objs.size (.lst xs),I1.laid (t':=s1.toks) (fun b u e=>Heap.get?_push_of_some _ e) (Nat.le_refl _) ?_,rfl,q _ hf⟩
 exact⟨z,us,0,r,Heap.get?_push_size _ rfl⟩
end
noncomputable abbrev Sp:=List V->Hp->VK->XK->Prop
noncomputable abbrev CXT:=List Env->Hp->Shared->XK->Value->Shared->Prop
structure Env0 (P:Program) (w:World) (K:PySem.W.Frag) (mg:Str->Option Value) (base:Heap) (A:Around) (outer:List Env) (s:Shared) (H:Hp):Prop where
 frames:A.frames=some outer
 mod:Mod K mg base
 bs:∀ b o,base.get? b=some o->s.heap.get? b=some o/\H b=none
 bsz:base.objs.size<=s.heap.objs.size
 funs:s.heap.FunFrames base outer
 frf:∀ b ∈ frs outer,H b=none
 hok:HOk P w H s.heap
 bare:AllBare s.gens
noncomputable def CE (outer:List Env) (P:Program) (w:World) (H:Hp) (s:Shared) (Q:VK) (u:Value) (s':Shared):Prop:=
 ∃ v H',s'.os=s.os/\AllBare s'.gens/\Un (frs outer) [] H H' s.heap s'.heap/\HOk P w H' s'.heap/\RelV v u/\Q v H'
noncomputable def CR (CX:CXT) (outer:List Env) (P:Program) (w:World) (H:Hp) (s:Shared) (Q:VK) (E:XK) (r:Result) (s':Shared):Prop:=
 match r with
 | .ok (.ret u)=>CE outer P w H s Q u s'
 | .ok _=>False
 | .error e=>CX outer H s E e s'
structure FnOk (P:Program) (w:World) (K:PySem.W.Frag) (mg:Str->Option Value) (base:Heap) (CX:CXT) (k:Nat) (f:Addr) (fd:FuncData) (ps:List Str) (sp:Sp):Prop where
 len:∀ vs H Q E,sp vs H Q E->vs.length=ps.length
 run:∀ (A:Around) (outer:List Env) (s:Shared) (H:Hp) (args:Args) (us:List Value) (vs:List V) (Q:VK) (E:XK),Room k A->Env0 P w K mg base A outer s H->BindsTo s fd args (ps.zip us)->Vals vs us->sp vs H Q E->
  codeAny (model P w) A (.call (.ref f) args) (CR CX outer P w H s Q E) s
section
variable {X:Cx} {pins:List (Addr×Obj)} {σ:St} {H:Hp} {s s':Shared}
theorem Inv.env0 (I:Inv X pins σ H s):Env0 X.prog X.w X.K X.mg X.base X.A X.stack s H:=
 ⟨I.ok.frames,I.ok.mod,I.bs,Nat.le_trans I.ok.bsz I.sz,I.stack,I.stkFree,I.hok,I.bare⟩
theorem Inv.after {Q:VK} {u:Value} (I:Inv X pins σ H s) (h:CE X.stack X.prog X.w H s Q u s'):EP X pins σ Q u s':=by
 obtain⟨v,H',os,bare,un,hok,r,q⟩:=h
 obtain⟨hh,g,d,t,os'⟩:=s'
 obtain rfl:os'=s.os:=os
 exact⟨v,H',I.call (h':=hh) (g':=g) (d':=d) (t':=t) (ch:=[]) un hok bare (fun b z=>absurd z (by simp)),r,q⟩
end
noncomputable def Binds (K:PySem.W.Frag) (fd:FuncData) (ps:List Str) (ds:List Value):Prop:=
 ∀ (s:Shared) (us:List Value),K.In s.heap->(us++ds).length=ps.length->BindsTo s fd ⟨us,[]⟩ (ps.zip (us++ds))
theorem Binds.all {K:PySem.W.Frag} {fd:FuncData} {ps:List Str} (h:∀ us:List Value,us.length=ps.length->bindArgs fd ⟨us,[]⟩=pure (ps.zip us)):Binds K fd ps []:=fun s us _ hl=>by
 rw[List.append_nil] at hl ⊢
 exact .of_eq (h us hl)
noncomputable def Passes (CX:CXT) (X:Cx) (E:XK):Prop:=∀ (pins:List (Addr×Obj)) (σ:St) (H:Hp) (s:Shared) (e:Value) (s':Shared),Inv X pins σ H s->CX X.stack H s E e s'->X.xe e s'
section
variable {X:Cx} {CX:CXT} {k:Nat} {f C:Addr} {fd:FuncData} {ps:List Str} {sp:Sp} {dvs:List V} {ds:List Value} {E:XK} {x m:Str} {p pos apos:Pos} {e o:Expr} {es:List Expr} {ta:TE} {t:TA}
structure Mk (K:PySem.W.Frag) (C f:Addr):Prop where
 makes:PySem.W.makesIn K C=true
 init:PySem.W.findIn K (.ref C) "__init__" = some (some (.ref f))
 fn:PySem.W.isFn K (.ref f)=true
 kp:PySem.W.keepIn K (.ref C)=true
end
section
variable {X:Cx} {CX:CXT} {k:Nat} {f C:Addr} {fd:FuncData} {ps ks:List Str} {sp:Sp} {E:XK} {x m:Str} {p pos apos kpos:Pos} {e o:Expr} {es:List Expr} {kws:List Keyword} {te ta:TE} {t tk:TA} {nm:Option Str}
structure KBinds (K:PySem.W.Frag) (fd:FuncData) (ps ks:List Str) (g:List Value->List Value->List Value) (gV:List V->List V->List V):Prop where
 to:∀ (s:Shared) (us ws:List Value),K.In s.heap->(g us ws).length=ps.length->BindsTo s fd ⟨us,ks.zip ws⟩ (ps.zip (g us ws))
 rel:∀ {vs:List V} {us:List Value} {zs:List V} {ws:List Value},Vals vs us->Vals zs ws->Vals (gV vs zs) (g us ws)
variable {g:List Value->List Value->List Value} {gV:List V->List V->List V}
end
structure FnScope (N P:List Str) (sc:Scope):Prop where
 kind:sc.kind=.function
 co:sc.isCoroutine=false
 gen:sc.isGenerator=false
 nd:N.Nodup
 pre:N.take P.length=P
 par:∀ x ∈ P,sc.names.lookup x=some .local∨sc.names.lookup x=some .cell
 nofree:∀ y ∈ sc.names,y.2≠.free
theorem fO {kindOf:Str->Option NameKind} {x:Str}:∀ {binds:List (Str×Value)} {m:Str->Option Value},(∀ v,(x,v) ∉ binds)->bindL kindOf binds m x=m x
 | [],_,_=>rfl
 | (n,v)::r,m,h=>by
  unfold bindL
  rw[fO fun w hw=>h w (List.mem_cons_of_mem _ hw)]
  split
  ·have:x≠n:=by rintro rfl;exact h v List.mem_cons_self
   simp[this]
  ·rfl
theorem fP {kindOf:Str->Option NameKind} {x:Str}:∀ {binds:List (Str×Value)} {m:Str->Option Value},(∀ v,(x,v) ∉ binds)->bindC kindOf binds m x=m x
 | [],_,_=>rfl
 | (n,v)::r,m,h=>by
  unfold bindC
  rw[fP fun w hw=>h w (List.mem_cons_of_mem _ hw)]
  split
  ·rfl
  ·have:x≠n:=by rintro rfl;exact h v List.mem_cons_self
   simp[this]
theorem fQ {kindOf:Str->Option NameKind} {x:Str} {v:Value}:∀ {P:List Str} {vs:List Value} {i:Nat} {m:Str->Option Value},P.Nodup->P[i]? = some x->vs[i]? = some v->kindOf x=some .local->
  bindL kindOf (P.zip vs) m x=some v
 | [],_,_,_,_,h,_,_=>by simp at h
 | _::_,[],_,_,_,_,h,_=>by simp at h
 | p::P,w::vs,0,m,nd,h1,h2,hk=>by
  simp at h1 h2;subst h1;subst h2
  show bindL kindOf ((p,w)::P.zip vs) m p=_
  unfold bindL
  rw[fO fun v hv=>(List.nodup_cons.mp nd).1 (List.of_mem_zip hv).1,if_pos hk]
  simp
 | p::P,w::vs,i + 1,m,nd,h1,h2,hk=>by
  show bindL kindOf ((p,w)::P.zip vs) m x=_
  unfold bindL
  exact fQ (i:=i) (List.nodup_cons.mp nd).2 (by simpa using h1) (by simpa using h2) hk
theorem fR {kindOf:Str->Option NameKind} {x:Str} {v:Value}:∀ {P:List Str} {vs:List Value} {i:Nat} {m:Str->Option Value},P.Nodup->P[i]? = some x->vs[i]? = some v->kindOf x≠some .local->
  bindC kindOf (P.zip vs) m x=some v
 | [],_,_,_,_,h,_,_=>by simp at h
 | _::_,[],_,_,_,_,h,_=>by simp at h
 | p::P,w::vs,0,m,nd,h1,h2,hk=>by
  simp at h1 h2;subst h1;subst h2
  show bindC kindOf ((p,w)::P.zip vs) m p=_
  unfold bindC
  rw[fP fun v hv=>(List.nodup_cons.mp nd).1 (List.of_mem_zip hv).1,if_neg hk]
  simp
 | p::P,w::vs,i + 1,m,nd,h1,h2,hk=>by
  show bindC kindOf ((p,w)::P.zip vs) m x=_
  unfold bindC
  exact fR (i:=i) (List.nodup_cons.mp nd).2 (by simpa using h1) (by simpa using h2) hk
noncomputable def start (N:List Str) (vs:List V):St:=vs.map some++List.replicate (N.length - vs.length) none
noncomputable def cy (CX:CXT) (P:Program) (w:World) (K:PySem.W.Frag) (mg:Str->Option Value) (base:Heap) (N:List Str) (qual:Str) (scope:Scope) (f:Addr) (cd:Value) (A:Around) (outer:List Env) (s:Shared) (H:Hp) (E:XK):Cx where
 prog:=P
 w:=w
 K:=K
 mg:=mg
 base:=base
 A:=A.deeper (envOfC qual scope s.heap.objs.size f cd)
 N:=N
 s₀:=s
 H₀:=H
 env:=envOfC qual scope s.heap.objs.size f cd
 outer:=outer
 stack:=envOfC qual scope s.heap.objs.size f cd::outer
 ex:=[]
 calm:=A.handled.isNone
 fn:=fun _=>true
 pn:=[]
 xe:=fun e s'=>wpAny (model P w) (A.deeper (envOfC qual scope s.heap.objs.size f cd)) (leaving (envOfC qual scope s.heap.objs.size f cd) e) (fun _ s''=>CX outer H s E e s'') (fun e' s''=>CX outer H s E e' s'') s'
theorem iA {sc:Scope} {n:Nat} {x:Str} (h:sc.names.lookup x=some .cell):∃ c,(cellsFrom n sc.names []).lookup x=some c:=by
 have q:=PySem.W.cellsFrom_some sc.names n [] (.inl h)
 exact Option.isSome_iff_exists.mp q
theorem lT {CX:CXT} {P:Program} {w:World} {K:PySem.W.Frag} {mg:Str->Option Value} {base:Heap} {N ps:List Str} {qual:Str} {scope:Scope} {f:Addr} {cd:Value} {A:Around} {outer:List Env} {s s1:Shared} {H:Hp} {E:XK} {us:List Value} {vs:List V}
  (S:FnScope N ps scope) (e0:Env0 P w K mg base A outer s H) (hl:vs.length=ps.length) (r:Vals vs us)
  (x:InCallC s s.heap.objs.size (bindL (envOfC qual scope s.heap.objs.size f cd).kindOf (ps.zip us) fun _=>none) (cellsFrom (s.heap.objs.size + 1) scope.names []) (bindC (envOfC qual scope s.heap.objs.size f cd).kindOf (ps.zip us) fun _=>none) s1) :
  Inv (cy CX P w K mg base N qual scope f cd A outer s H E) [] (start N vs) H s1:=by
 have hpl:ps.length<=N.length:=by have:=congrArg List.length S.pre;rw[List.length_take] at this;omega
 obtain⟨h1,tk,rfl,hk⟩:=x.done
 have noA:∀ b:Addr,b ∉ (cy CX P w K mg base N qual scope f cd A outer s H E).ex:=fun b z=>absurd (show b ∈ ([]:List Addr) from z) (by simp)
 refine⟨⟨e0.mod,S.kind,rfl,rfl,Nat.le_refl _,fun y z c h1 h2=>?_,fun y hy=>?_,fun y c _ h=>?_,fun h=>Option.isNone_iff_eq_none.mp h,Around.frames_deeper e0.frames,.inr ⟨rfl,rfl⟩,fun b z=>absurd z (noA b),e0.bs,e0.bsz,fun b _ _=>noA b,fun b z=>absurd z (noA b),e0.funs,e0.frf⟩,
  rfl,e0.bare,Un.kept hk,⟨_,x.toInCall.ns,fun i y v h1 h2 h3=>?_⟩,fun y c h=>⟨_,x.cell y c h⟩,e0.hok.fresh (Nat.le_refl _),fun y c h=>?_,fun p hp=>absurd (show p ∈ ([]:List (Addr×Obj)) from hp) (by simp),e0.hok.kept hk,?_⟩
 ·exact name_of_addr x.apart (PySem.mem_of_lookup h1) (PySem.mem_of_lookup h2)
 ·have hy:scope.names.lookup y=some .cell∨scope.names.lookup y=some .free:=hy
  rcases hy with hy | hy
  ·exact iA hy
  ·exact absurd rfl (S.nofree _ (PySem.mem_of_lookup hy))
 ·exact Nat.le_of_lt (x.above y c (PySem.mem_of_lookup h))
 ·have hi:i < vs.length:=by
   unfold start at h2
   by_cases hi:i < vs.length
   ·exact hi
   ·rw[List.getElem?_append_right (by simpa using hi)] at h2
    rw[List.getElem?_replicate] at h2
    split at h2<;>cases h2
  have ha:vs[i]? = some v:=by
   unfold start at h2
   rw[List.getElem?_append_left (by simpa using hi),List.getElem?_map] at h2
   cases e:vs[i]? with
   | none=>rw[e] at h2;cases h2
   | some a=>rw[e] at h2;cases h2;rfl
  obtain⟨u,hu,rv⟩:=r.get ha
  have hp:ps[i]? = some y:=by
   rw[<- S.pre,List.getElem?_take_of_lt (by omega)];exact h1
  have ndP:ps.Nodup:=by rw[<- S.pre];exact S.nd.sublist (List.take_sublist _ _)
  refine⟨u,rv,?_⟩
  rcases S.par y (List.mem_of_getElem? hp) with k | k
  ·exact .inl ⟨k,fQ ndP hp hu k⟩
  ·obtain⟨c,e⟩:=iA (n:=s.heap.objs.size + 1) k
   refine .inr ⟨.inl k,c,e,?_⟩
   have q:=x.cell y c e
   rw[fR ndP hp hu (by show scope.names.lookup y≠_;rw[k];decide)] at q
   exact q
 ·exact e0.hok.fresh (Nat.le_of_lt (x.above y c (PySem.mem_of_lookup h)))
 ·unfold start
  show _=N.length
  rw[List.length_append,List.length_map,List.length_replicate]
  omega
theorem xT {CX:CXT} {P:Program} {w:World} {K:PySem.W.Frag} {mg:Str->Option Value} {base:Heap} {k:Nat} {f:Addr} {name qual:Str} {params:Arguments} {body:List Stmt} {scope:Scope} {dV kV doc pm cdv ct oc:Value} {an od:Option Addr}
  {osl:Array (Option Value)} {N ps:List Str} {sp:Sp} (lk:K.lookup f=some ⟨oc,od,.func (PySem.W.fnOf name qual params body scope dV kV doc pm an cdv ct),osl⟩) (hcd:PySem.W.codeIn K cdv qual=true) (S:FnScope N ps scope)
  (hk9:k % 1000≠999) (len:∀ vs H Q E,sp vs H Q E->vs.length=ps.length)
  (hbody:∀ (A:Around) (outer:List Env) (s:Shared) (H:Hp) (vs:List V) (Q:VK) (E:XK),Room k (A.deeper (envOfC qual scope s.heap.objs.size f cdv))->sp vs H Q E->
   ∃ t,PSs (cy CX P w K mg base N qual scope f cdv A outer s H E) body t/\t {nx:=fun _ H'=>Q .non H',rt:=Q} (start N vs) H) :
  FnOk P w K mg base CX (k + 1) f (PySem.W.fnOf name qual params body scope dV kV doc pm an cdv ct) ps sp:=by
 refine⟨len,fun A outer s H args us vs Q E hr e0 hb r hsp=>?_⟩
 have hl:=len _ _ _ _ hsp
 have KX:K.In s.heap:=e0.mod.kin.keeps fun b o e=>(e0.bs b o e).1
 have lim:s.heap.NoLimit:=e0.mod.nolimit.keeps fun b o e=>(e0.bs b o e).1
 have hkind:∀ y ∈ ps.zip us,scope.names.lookup y.1=some .local∨(scope.names.lookup y.1=some .cell/\((cellsFrom (s.heap.objs.size + 1) scope.names []).lookup y.1).isSome=true):=fun ⟨n,v⟩ hy=>by
  rcases S.par n (List.of_mem_zip hy).1 with q | q
  ·exact .inl q
  ·exact .inr ⟨q,PySem.W.cellsFrom_some _ _ _ (.inl q)⟩
 refine codeAny_call_function hr.depth (KX _ _ lk) rfl S.co S.gen rfl (PySem.W.codeRec_of KX hcd) (hb _ _ _ _ ?_)
 refine wpAny_newFunctionEnv_cells S.kind hkind fun env he s1 x=>?_
 subst he
 refine⟨lim.keeps x.toInCall.keep,codeAny_func ?_⟩
 obtain⟨t,ht,hq⟩:=hbody A outer s H vs Q E (hr.deeper _ hk9) hsp
 have I:Inv (cy CX P w K mg base N qual scope f cdv A outer s H E) [] (start N vs) H s1:=lT S e0 hl r x
 refine wpAny_mono (ht [] s1 (start N vs) H _ I hq) (fun fl s' hs=>?_) fun e s' hs=>hs
 have fin:∀ {σ':St} {H':Hp} {v:V} {u:Value},Inv (cy CX P w K mg base N qual scope f cdv A outer s H E) [] σ' H' s'->RelV v u->Q v H'->CE outer P w H s Q u s':=
  fun {σ' H' v u} J rv q=>⟨v,H',J.os,J.bare,J.base,J.hok,rv,q⟩
 cases fl with
 | ret u=>
  obtain⟨v,σ',H',J,rv,q⟩:=hs
  exact fin J rv q
 | next=>
  obtain⟨σ',H',J,q⟩:=hs
  exact fin (v:=V.non) (u:=Value.none) J rfl q
 | brk=>
  obtain⟨_,_,_,q⟩:=hs
  exact False.elim q
 | cont=>
  obtain⟨_,_,_,q⟩:=hs
  exact False.elim q
section
variable {X:Cx} {x:Str} {p pos:Pos} {e:Expr} {es:List Expr} {t:TA} {id T:String} {r:List V->Hp->VK->Prop}
noncomputable def tCB (r:List V->Hp->VK->Prop) (t:TA):TE:=fun σ H Q=>t σ H fun vs H1=>r vs H1 Q
theorem eJ (hc:bE X (.builtin id) r) (hg:Gl X x) (hm:X.mg x=none) (hv:bootBuiltins x=some (.builtin id)) (ha:PA X (e::es) t) (hn:x≠"__name__":=by decide) (hdb:(x == ("__debug__" : Str))=false:=by decide)
  (he:starEach (e::es) X.env=(false,eval e X.env)::starEach es X.env:=by rfl) (hpl:(backTo pos (starEach es X.env)).any (·.1)=false:=by rfl):PE X (.Call (.Name x p) (e::es) [] pos) (tCB r t):=by
 intro pins s σ H Q I h
 refine wpAny_Call_Name_kw (eD I hg hm hv ?_ hn hdb)
 exact PyProof.Rows.callWith_builtin1 (thn (ha pos pins s σ H _ I h) fun us s1 ⟨vs,H1,I1,r1,q1⟩=>hc pins s1 σ H1 vs us Q I1 r1 q1) he hpl
theorem fS (hc:bE X (.type T) r) (hg:Gl X x) (hm:X.mg x=none) (hv:bootBuiltins x=some (.type T)) (ha:PA X (e::es) t) (hn:x≠"__name__":=by decide) (hdb:(x == ("__debug__" : Str))=false:=by decide)
  (he:starEach (e::es) X.env=(false,eval e X.env)::starEach es X.env:=by rfl) (hpl:(backTo pos (starEach es X.env)).any (·.1)=false:=by rfl):PE X (.Call (.Name x p) (e::es) [] pos) (tCB r t):=by
 intro pins s σ H Q I h
 refine wpAny_Call_Name_kw (eD I hg hm hv ?_ hn hdb)
 exact PyProof.Rows.callWith_type1 (thn (ha pos pins s σ H _ I h) fun us s1 ⟨vs,H1,I1,r1,q1⟩=>hc pins s1 σ H1 vs us Q I1 r1 q1) he hpl
end
end L2
namespace HT
open PySem PyProof.Rows
section
open PySem.SeqAt
open PySem.AutoSeq1 (wpAny_loadPart')
open PySem.MeetsSeq PySem.MeetsSeq2 PySem.MeetsSeq3
end
section
variable {prog:Program} {w:World} {A:Around} {E:Value->Shared->Prop} {s:Shared}
noncomputable def sIx (n d:Nat):Option Int->Nat
 | none=>d
 | some v=>if v < 0 then (v + (n:Int)).toNat else min v.toNat n
end
end HT
namespace L2
open PySem PySem.Spec PyProof.Rows
noncomputable abbrev TO:=St->Hp->(Option Int->Hp->Prop)->Prop
noncomputable def PO (X:Cx) (e:Option Expr) (t:TO):Prop:=
 ∀ (pins:List (Addr×Obj)) (s:Shared) (σ:St) (H:Hp) (Q:Option Int->Hp->Prop),Inv X pins σ H s->t σ H Q->
  wpAny (model X.prog X.w) X.A (evalPart e X.env) (fun u s'=>∃ o H',Inv X pins σ H' s'/\IsPart u o/\Q o H') X.xe s
noncomputable def qQ:TO:=fun _ H Q=>Q none H
noncomputable def xU (t:TE):TO:=fun σ H Q=>t σ H fun x H1=>∃ i,x=.int i/\Q (some i) H1
theorem intsAre_of {ns:List Int}:∀ {us:List Value},Vals (ns.map V.int) us->IntsAre us ns:=by
 induction ns with
 | nil=>intro us r;rw[List.map_nil] at r;cases r;exact .nil
 | cons n ns ih=>
  intro us r
  rw[List.map_cons] at r
  cases r with
  | cons r1 r2=>
   obtain⟨t,e⟩:=r1
   subst e
   exact .cons n t (ih r2)
section
variable {X:Cx} {e:Expr} {te:TE} {lo hi:Option Expr} {tl th:TO} {pos p2:Pos}
theorem qR:PO X none qQ:=by
 intro pins s σ H Q I h
 rw[evalPart_none]
 exact wpAny_pure ⟨none,H,I,.none,h⟩
theorem qT (h:PE X e te):PO X (some e) (xU te):=by
 intro pins s σ H Q I hw
 rw[evalPart_some]
 refine thn (h pins s σ H _ I hw) fun u s1 ⟨x,H1,I1,r1,q1⟩=>?_
 obtain⟨i,rfl,q⟩:=q1
 obtain⟨t,rfl⟩:=r1
 exact⟨some i,H1,I1,.int i t,q⟩
noncomputable def SlR (X:Cx) (r:V->Option Int->Option Int->Hp->VK->Prop):Prop:=
 ∀ (pins:List (Addr×Obj)) (s:Shared) (σ:St) (H:Hp) (x:V) (v vl vu:Value) (lo hi:Option Int) (sl:Addr) (Q:VK),Inv X pins σ H s->RelV x v->s.heap.IsSliceOf sl vl vu .none->IsPart vl lo->IsPart vu hi->r x lo hi H Q->
  ∃ T id,typeLookup (.type T) "__getitem__" = pure (some (.builtin id))/\s.TypeIs v T/\wpAny (model X.prog X.w) X.A (getItem v (.ref sl)) (EP X pins σ Q) X.xe s
noncomputable def tSl (r:V->Option Int->Option Int->Hp->VK->Prop) (te:TE) (tl th:TO):TE:=fun σ H Q=>te σ H fun x H1=>tl σ H1 fun l H2=>th σ H2 fun u H3=>r x l u H3 Q
theorem iB {r:V->Option Int->Option Int->Hp->VK->Prop} (hr:SlR X r) (he:PE X e te) (hl:PO X lo tl) (hu:PO X hi th):PE X (.Subscript e (.Slice lo hi none p2) pos) (tSl r te tl th):=by
 intro pins s σ H Q I h
 refine Subscript_ (thn (he pins s σ H _ I h) fun v s1 ⟨x,H1,I1,r1,q1⟩=>?_)
 refine wpAny_Slice (thn (hl pins s1 σ H1 _ I1 q1) fun vl s2 ⟨l,H2,I2,pl,q2⟩=>thn (hu pins s2 σ H2 _ I2 q2) fun vu s3 ⟨u,H3,I3,pu,q3⟩=>?_)
 rw[evalPart_none]
 refine wpAny_pure ?_
 have I4:Inv X pins σ H3 {s3 with heap:=s3.heap.push {cls:=.type "slice",data:=.fields #[vl,vu,.none]}}:=I3.kept (t':=s3.toks) fun b ob q=>Heap.get?_push_of_some _ q
 obtain⟨T,id,hT,ht,hg⟩:=hr pins {s3 with heap:=s3.heap.push {cls:=.type "slice",data:=.fields #[vl,vu,.none]}} σ H3 x v vl vu l u s3.heap.objs.size Q I4 r1 (Heap.IsSliceOf.new ..) pl pu q3
 show wpAny (model X.prog X.w) X.A (subscriptTail e (.Slice lo hi none p2) v (.ref s3.heap.objs.size)) (EP X pins σ Q) X.xe {s3 with heap:=s3.heap.push {cls:=.type "slice",data:=.fields #[vl,vu,.none]}}
 exact tail_any (ops:=[.ref s3.heap.objs.size,v]) ht hT hg (by with_unfolding_all rfl)
noncomputable def lU (xs:List V) (lo hi:Option Int):List V:=(xs.drop (HT.sIx xs.length 0 lo)).take (HT.sIx xs.length xs.length hi - HT.sIx xs.length 0 lo)
theorem iC (xs:List V) (lo hi:Option Int):(lU xs lo hi).length<=xs.length:=by
 unfold lU
 rw[List.length_take,List.length_drop]
 omega
end
noncomputable def ixN (n:Nat) (i:Int):Option Nat:=if 0<=i then (if i < n then some i.toNat else none) else if -(n:Int)<=i then some (i + n).toNat else none
noncomputable def atI {α:Type} (xs:List α) (i:Int):Option α:=(ixN xs.length i).bind fun j=>xs[j]?
theorem qU {n:Nat} {i:Int} {j:Nat} (h:ixN n i=some j):seqIndex? i n=some j/\j < n/\-(n:Int)<=i/\i < n:=by
 unfold ixN at h
 by_cases h0:0<=i
 ·rw[if_pos h0] at h
  by_cases h1:i < n
  ·rw[if_pos h1] at h
   have e:i.toNat=j:=Option.some.inj h
   exact⟨by rw[seqIndex_of h0 h1,e],by omega,by omega,h1⟩
  ·rw[if_neg h1] at h;cases h
 ·rw[if_neg h0] at h
  by_cases h1 : -(n:Int)<=i
  ·rw[if_pos h1] at h
   have e:(i + n).toNat=j:=Option.some.inj h
   exact⟨by rw[seqIndex_neg (by omega) h1,e],by omega,h1,by omega⟩
  ·rw[if_neg h1] at h;cases h
theorem gB {α:Type} {xs:List α} {i:Int} {v:α} (h:atI xs i=some v):∃ j,seqIndex? i xs.length=some j/\xs[j]? = some v/\j < xs.length/\-(xs.length:Int)<=i/\i < xs.length:=by
 unfold atI at h
 cases e:ixN xs.length i with
 | none=>rw[e] at h;cases h
 | some j=>
  rw[e] at h
  obtain⟨h1,h2,h3,h4⟩:=qU e
  exact⟨j,h1,h,h2,h3,h4⟩
noncomputable def qV (b:Expr):Prop:=∀ o i,subscripted b false o i=operate [o,i] (getItem o i)
noncomputable def IxR (X:Cx) (r:R2):Prop:=
 ∀ (value slice:Expr) (pins:List (Addr×Obj)) (s:Shared) (σ:St) (H:Hp) (x y:V) (v u:Value) (Q:VK),Inv X pins σ H s->RelV x v->RelV y u->r x y H Q->
  subscripted slice false v u=operate [v,u] (getItem v u)->wpAny (model X.prog X.w) X.A (subscriptTail value slice v u) (EP X pins σ Q) X.xe s
noncomputable def MtR (X:Cx) (id:String) (r:V->List V->Hp->VK->Prop):Prop:=
 ∀ (pins:List (Addr×Obj)) (s:Shared) (σ:St) (H:Hp) (x:V) (xs:List V) (v:Value) (us:List Value) (Q:VK),Inv X pins σ H s->RelV x v->Vals xs us->r x xs H Q->
  wpAny (model X.prog X.w) X.A (call (.builtin id) (v::us)) (EP X pins σ Q) X.xe s
section
variable {X:Cx} {a b:Expr} {ta tb:TE} {pos:Pos}
theorem IxR.or {r r':R2} (h:IxR X r) (h':IxR X r'):IxR X (fun x y H Q=>r x y H Q∨r' x y H Q):=by
 intro value slice pins s σ H x y v u Q I rx ry q hs
 rcases q with q | q
 ·exact h value slice pins s σ H x y v u Q I rx ry q hs
 ·exact h' value slice pins s σ H x y v u Q I rx ry q hs
theorem xV {r:R2} (hr:IxR X r) (ha:PE X a ta) (hb:PE X b tb) (hs:qV b):PE X (.Subscript a b pos) (tOp r ta tb):=by
 intro pins s σ H Q I h
 exact Subscript_ (vy ha hb I h fun v u s2 x y H2 I2 rx ry q=>hr a b pins s2 σ H2 x y v u Q I2 rx ry q (hs _ _))
noncomputable def xW (K:PySem.W.Frag):R2:=fun x y H Q=>∃ p xs i v,x=.ref p/\y=.int i/\SqL K H p xs/\atI xs i=some v/\Q v H
noncomputable def xX (K:PySem.W.Frag):R2:=fun x y H Q=>∃ p xs i v,x=.ref p/\y=.int i/\SqT K H p xs/\atI xs i=some v/\Q v H
noncomputable def xY:R2:=fun x y H Q=>∃ z i c,x=.str z/\y=.int i/\z.length<=sizeLine/\atI z.cps.toList i=some c/\Q (.str ⟨#[c]⟩) H
theorem qW:IxR X (xW X.K):=by
 intro value slice pins s σ H x y v u Q I rx ry h hs
 obtain⟨p,xs,i,z,rfl,rfl,hq,he,q⟩:=h
 cases rx
 obtain⟨t,rfl⟩:=ry
 obtain⟨its,r,pl,hz⟩:=I.list hq
 obtain⟨j,h1,h2,h3,h4,h5⟩:=gB he
 obtain⟨w,ew,rw'⟩:=r.get h2
 have hl:=r.length
 have hn:=eF
 have fin:EP X pins σ Q w s:=⟨z,H,I,rw',q⟩
 by_cases h0:0<=i
 ·have hj:i.toNat=j:=by
   rw[seqIndex_of h0 h5] at h1
   exact Option.some.inj h1
  exact item_listR pl.isList h0 (by omega) (by rw[hj];simpa using ew) fin hs
 ·have hj:(i + (its.toArray.size:Int)).toNat=j:=by
   rw[seqIndex_neg (by omega) h4] at h1
   rw[List.size_toArray,<- hl]
   exact Option.some.inj h1
  exact subscriptTail_builtinR (x:=w) pl.isList.typeIs slot_list_getitem.lookup
   (wpAny_getItem_list_neg (Q:=fun r s'=>r=w/\EP X pins σ Q r s') pl.isList (by omega) (by rw[List.size_toArray]<;>omega) (by omega) (by rw[hj];simpa using ew) ⟨rfl,fin⟩) hs
theorem vJ:IxR X (xX X.K):=by
 intro value slice pins s σ H x y v u Q I rx ry h hs
 obtain⟨p,xs,i,z,rfl,rfl,hq,he,q⟩:=h
 cases rx
 obtain⟨t,rfl⟩:=ry
 obtain⟨its,r,pl,hz⟩:=I.tuple hq
 obtain⟨j,h1,h2,h3,h4,h5⟩:=gB he
 obtain⟨w,ew,rw'⟩:=r.get h2
 have hl:=r.length
 have hn:=eF
 have fin:EP X pins σ Q w s:=⟨z,H,I,rw',q⟩
 exact subscriptTail_builtinR (x:=w) pl.typeIs slot_tuple_getitem.lookup
  (getItem_tuple (j:=j) (Q:=fun r s'=>r=w/\EP X pins σ Q r s') pl (by omega) (by omega) (by rw[List.size_toArray,<- hl];exact h1) (by simpa using ew) ⟨rfl,fin⟩) hs
theorem vK:IxR X xY:=by
 intro value slice pins s σ H x y v u Q I rx ry h hs
 obtain⟨z,i,c,rfl,rfl,hz,he,q⟩:=h
 obtain⟨t,rfl⟩:=rx
 obtain⟨t',rfl⟩:=ry
 obtain⟨j,h1,h2,h3,h4,h5⟩:=gB he
 have hl:z.cps.toList.length=z.length:=by simp[Str.length]
 rw[hl] at h1 h4 h5
 have hn:=eF
 exact tail_any (typeIs_str s z t) slot_str_getitem.lookup (getItem_str (c:=c) (by
  have e1:decide (i < -(2 ^ 63:Int))=false:=decide_eq_false (by omega)
  have e2:decide (i >= 2 ^ 63)=false:=decide_eq_false (by omega)
  rw[e1,e2,Bool.or_false]) (by rw[h1];simpa using h2) ⟨.str ⟨#[c]⟩,H,I.tok _,⟨_,rfl⟩,q⟩) hs
noncomputable def rIx (K:PySem.W.Frag):R2:=fun x y H Q=>xW K x y H Q∨xX K x y H Q∨xY x y H Q
theorem vL:IxR X (rIx X.K):=qW.or (vJ.or vK)
theorem gC (lo hi:Option Int) (n:Nat):(sliceBounds lo hi none n).1=((HT.sIx n 0 lo:Nat):Int)/\(sliceBounds lo hi none n).2.1=((HT.sIx n n hi:Nat):Int)/\(sliceBounds lo hi none n).2.2=1:=by
 refine⟨?_,?_,rfl⟩
 ·cases lo with
  | none=>simp[sliceBounds,HT.sIx]
  | some i=>
   simp only[sliceBounds,HT.sIx,Option.getD_none,show (1:Int) > 0 by decide,if_true]
   by_cases h:i < 0
   ·simp only[h,if_true]<;>omega
   ·simp only[h,if_false]<;>omega
 ·cases hi with
  | none=>simp[sliceBounds,HT.sIx]
  | some i=>
   simp only[sliceBounds,HT.sIx,Option.getD_none,show (1:Int) > 0 by decide,if_true]
   by_cases h:i < 0
   ·simp only[h,if_true]<;>omega
   ·simp only[h,if_false]<;>omega
theorem fG (its:List Value) (lo hi:Option Int):slicePick its.toArray lo hi none=((its.drop (HT.sIx its.length 0 lo)).take (HT.sIx its.length its.length hi - HT.sIx its.length 0 lo)).toArray:=by
 obtain⟨h1,h2,h3⟩:=gC lo hi its.toArray.size
 unfold slicePick
 rw[h1,h2,h3]
 simp only[sliceRange_one,pick_run,List.size_toArray]<;>rfl
noncomputable def Bb (K:PySem.W.Frag):V->Option Int->Option Int->Hp->VK->Prop:=fun x lo hi H Q=>∃ a xs,x=.ref a/\SqL K H a xs/\∀ p,H p=none->Q (.ref p) (upd H p (.lst (lU xs lo hi)))
theorem kc:SlR X (Bb X.K):=by
 intro pins s σ H x v vl vu lo hi sl Q I rx hs pl pu h
 obtain⟨a,xs,rfl,hx,q⟩:=h
 cases rx
 obtain⟨its,r,ht,hz⟩:=I.list hx
 have hlen:=r.length
 refine⟨"list",_,slot_list_getitem.lookup,ht.isList.typeIs,?_⟩
 refine wpAny_getItem_list_slice ht.isList hs pl pu .none (by simp) ?_ (by rw[List.size_toArray]<;>omega)
 rw[fG,<- hlen]
 refine⟨.ref s.heap.objs.size,_,I.laid (t':=s.toks) (o:=.lst (lU xs lo hi)) (fun b ob q=>Heap.get?_push_of_some _ q) (Nat.le_refl _) ?_,rfl,q _ (I.hok.fresh (Nat.le_refl _))⟩
 exact⟨Nat.le_trans (iC xs lo hi) hz,_,0,(r.drop (HT.sIx xs.length 0 lo)).take (HT.sIx xs.length xs.length hi - HT.sIx xs.length 0 lo),Heap.get?_push_size _ rfl⟩
theorem fH:bE X (.type "tuple") (fun xs H Q=>∃ p ys,xs=[.ref p]/\((SqL X.K H p ys/\∀ l,H l=none->Q (.ref l) (upd H l (.tup ys)))∨(SqT X.K H p ys/\Q (.ref p) H))):=by
 intro pins s σ H xs us Q I r h
 obtain⟨p,ys,rfl,h⟩:=h
 obtain⟨u,rfl,rx⟩:=vals1 r
 cases rx
 rcases h with ⟨hq,q⟩ | ⟨hq,q⟩
 ·obtain⟨its,r',pl,hz⟩:=I.list hq
  have hlen:=r'.length
  refine call_tuple_list pl.isList (fun h' kp=>?_) (by simp only[List.size_toArray]<;>omega)
  have I1:Inv X pins σ H {s with heap:=h'}:=I.kept (t':=s.toks) kp
  have I2:Inv X pins σ (upd H h'.objs.size (.tup ys)) {s with heap:=h'.push {cls:=.type "tuple",data:=.seq its.toArray}}:=
   I1.laid (t':=s.toks) (fun b o e=>Heap.get?_push_of_some _ e) (Nat.le_refl _) (show aD X.prog X.w _ _ _ (.tup ys) from ⟨hz,its,r',IsTup.new _ _⟩)
  exact⟨.ref h'.objs.size,_,I2,rfl,q _ (I1.hok.fresh (Nat.le_refl _))⟩
 ·obtain⟨its,r',pl,hz⟩:=I.tuple hq
  exact call_tuple_same pl ⟨.ref p,H,I,rfl,q⟩
noncomputable def tyV (K:PySem.W.Frag) (T:String) (x:V) (H:Hp):Prop:=match x with
 | .str _=>T = "str"
 | .int _=>T = "int"
 | .ref p=>(T = "list"/\∃ xs,SqL K H p xs)∨(T = "tuple"/\∃ o,K.lookup p=some o/\o.cls=.type "tuple"/\o.dict=none)∨
   (T = "dict"/\((∃ kvs,H p=some (.dK kvs))∨∃ kvs,H p=some (.dT kvs)))∨(T = "set"/\∃ S n,H p=some (.set S n))
 | _=>False
theorem vM {pins:List (Addr×Obj)} {σ:St} {H:Hp} {s:Shared} {T:String} {x:V} {v:Value} (I:Inv X pins σ H s) (r:RelV x v) (ty:tyV X.K T x H) :
  s.TypeIs v T/\∀ a,v=.ref a->∃ ob,s.heap.get? a=some ob/\ob.dict=none:=by
 cases x with
 | str z=>
  obtain⟨t,rfl⟩:=r
  cases (show T = "str" from ty)
  exact⟨typeIs_str s z t,fun _ e=>nomatch e⟩
 | int i=>
  obtain⟨t,rfl⟩:=r
  cases (show T = "int" from ty)
  exact⟨typeIs_int s i t,fun _ e=>nomatch e⟩
 | ref p=>
  cases r
  rcases ty with ⟨rfl,xs,hq⟩ | ⟨rfl,o,hk,hc,hd⟩ | ⟨rfl,hk⟩ | ⟨rfl,S,n,hk⟩
  ·obtain⟨its,_,pl,_⟩:=I.list hq
   refine⟨pl.isList.typeIs,fun a e=>?_⟩
   cases e
   obtain⟨o,n,e,c,hd,_⟩:=pl
   exact⟨o,e,hd⟩
  ·refine⟨⟨o,I.kIn p o hk,hc⟩,fun a e=>?_⟩
   cases e
   exact⟨o,I.kIn _ o hk,hd⟩
  ·have z:∃ o,s.heap.get? p=some o/\o.ExactDict:=by
    rcases hk with ⟨kvs,hk⟩ | ⟨kvs,hk⟩
    ·obtain⟨_,_,_,_,o,_,_,e,ex,_⟩:=I.hok p _ hk
     exact⟨o,e,ex⟩
    ·obtain⟨_,_,_,_,o,_,_,e,ex,_⟩:=I.hok p _ hk
     exact⟨o,e,ex⟩
   obtain⟨o,e,ex⟩:=z
   refine⟨⟨o,e,ex.1⟩,fun a e2=>?_⟩
   cases e2
   exact⟨o,e,ex.2.1⟩
  ·obtain⟨o,_,_,_,e,ex,_⟩:=I.hok p _ hk
   refine⟨⟨o,e,ex.1⟩,fun a e2=>?_⟩
   cases e2
   exact⟨o,e,ex.2.1⟩
 | _=>exact False.elim ty
noncomputable def tBM (K:PySem.W.Frag) (T:String) (r:V->List V->Hp->VK->Prop) (to:TE) (t:TA):TE:=fun σ H Q=>to σ H fun x H1=>tyV K T x H1/\t σ H1 fun xs H2=>r x xs H2 Q
variable {o e:Expr} {es:List Expr} {to:TE} {t:TA} {name:Str} {apos cpos:Pos} {T id:String} {r:V->List V->Hp->VK->Prop}
theorem fT (pa:PlainAttrs T) (slot:Slot T name id) (hty:typeOf (.builtin id)=pure (.type "method_descriptor")) (hm:MtR X id r) (ho:PE X o to) (ha:PA X (e::es) t)
  (hbase:attributeBase o name X.env (eval o X.env)=eval o X.env:=by rfl)
  (hfew:((backTo cpos (starEach (e::es) X.env)).all (fun x=>!x.1) && (backToKw cpos (keywordEach [] X.env)).all (fun x=>x.1.isSome)
   && decide ((e::es).length + ([]:List Keyword).length + (if ([]:List Keyword).isEmpty then 0 else 1) < 30))=true:=by rfl)
  (hline:(apos.endLine == cpos.line)=true:=by rfl) (hs:starEach (e::es) X.env=(false,eval e X.env)::starEach es X.env:=by rfl) (hplain:(backTo cpos (starEach es X.env)).any (·.1)=false:=by rfl) :
  PE X (.Call (.Attribute o name apos) (e::es) [] cpos) (tBM X.K T r to t):=by
 intro pins s σ H Q I h
 refine wpAny_Call_method_late hbase hfew hline rfl (thn (ho pins s σ H _ I h) fun v s1 ⟨x,H1,I1,r1,ty,q1⟩=>?_)
 obtain⟨h1,h2⟩:=vM I1 r1 ty
 refine⟨T,id,pa,slot,hty,h1,h2,?_⟩
 have hA:=ha cpos pins s1 σ H1 _ I1 q1
 rw[hs] at hA ⊢
 refine Calls.callWith_builtin (by show (false || (backTo cpos (starEach es X.env)).any (·.1))=false;rw[hplain]<;>rfl) (Calls.evalArgs_plain ?_)
 exact thn hA fun us s2 ⟨vs,H2,I2,r2,q2⟩=>hm pins s2 σ H2 x vs v us Q I2 r1 r2 q2
end
noncomputable def MtM (X:Cx) (id:String) (r:V->List V->Hp->VK->Prop):Prop:=
 ∀ (pins:List (Addr×Obj)) (s:Shared) (σ:St) (H:Hp) (x:V) (xs:List V) (v:Value) (us:List Value) (Q:VK),Inv X pins σ H s->RelV x v->Vals xs us->r x xs H Q->
  wpAny (model X.prog X.w) X.A (call (.builtin id) (v::us)) (EP X pins σ Q) X.xe s
theorem Vals.one:∀ {x:V} {us:List Value},Vals [x] us->∃ u,us=[u]/\RelV x u
 | _,_,.cons r .nil=>⟨_,rfl,r⟩
section
variable {X:Cx} {pins:List (Addr×Obj)} {σ:St} {H:Hp} {s:Shared} {l b:Addr} {xs ys zs:List V}
theorem Inv.lset {its its':List Value} {n:Nat} {f:Array Value->Array Value} {t':Nat} (I:Inv X pins σ H s) (hH:H l=some (.lst xs))
  (e:s.heap.get? l=some {cls:=.type "list",data:=.seq its.toArray n}) (hf:f its.toArray=its'.toArray) (hv:Vals ys its') (hz:ys.length<=sizeLine) :
  Inv X pins σ (upd H l (.lst ys)) {s with heap:=s.heap.update l (Obj.mapSeq f),toks:=t'}:=by
 have q:=PySem.IsL.update e f
 rw[hf] at q
 refine I.write (x:=l) (e:=l) (by rw[hH];exact trivial) (.inl rfl) (fun b' u hb hu=>(Heap.get?_update_other s.heap (Obj.mapSeq f) (Ne.symm hb)).trans hu) ⟨_,q⟩ ?_
 exact⟨hz,its',_,hv,q⟩
theorem Inv.lnew {its:List Value} {t':Nat} (I:Inv X pins σ H s) (hv:Vals ys its) (hz:ys.length<=sizeLine) :
  Inv X pins σ (upd H s.heap.objs.size (.lst ys)) {s with heap:=s.heap.push {cls:=.type "list",data:=.seq its.toArray},toks:=t'}:=
 I.laid (fun _ _ q=>Heap.get?_push_of_some _ q) (Nat.le_refl _) ⟨hz,its,0,hv,Heap.get?_push_size _ rfl⟩
theorem Inv.fresh (I:Inv X pins σ H s):H s.heap.objs.size=none:=I.hok.fresh (Nat.le_refl _)
theorem Inv.lstM (I:Inv X pins σ H s) (hH:H l=some (.lst xs)):xs.length<=sizeLine/\∃ (its:List Value) (n:Nat),Vals xs its/\xs.length=its.length/\s.heap.get? l=some {cls:=.type "list",data:=.seq its.toArray n}:=by
 obtain⟨z,its,n,r,e⟩:=I.hok l _ hH
 exact⟨z,its,n,r,r.length,e⟩
theorem mP {n:Nat} (h:n<=sizeLine):Builtin.List.listTooLong n=false:=by
 unfold Builtin.List.listTooLong
 exact decide_eq_false (by omega)
end
section
variable {X:Cx}
noncomputable def qX:V->List V->Hp->VK->Prop:=fun x vs H Q=>∃ l xs y,x=.ref l/\vs=[y]/\H l=some (.lst xs)/\xs.length < sizeLine/\Q .non (upd H l (.lst (xs++[y])))
theorem fU:MtM X "list.append" qX:=by
 intro pins s σ H x vs v us Q I rx rv h
 obtain⟨l,xs,y,rfl,rfl,hH,hz,q⟩:=h
 cases rx
 obtain⟨u,rfl,ru⟩:=rv.one
 obtain⟨z,its,n,r,hl,e⟩:=I.lstM hH
 refine call_meets F.slot_list_append ⟨_,e,rfl⟩ F.entry_list_append (F.args_list_append_2 _ _) (PySem.list_append l its.toArray n u (by rw[List.size_toArray];omega)) ⟨e,?_⟩
 refine⟨.non,_,I.lset (its':=its++[u]) hH e (by simp) (r.append (.cons ru .nil)) ?_,rfl,q⟩
 rw[List.length_append,List.length_singleton]
 omega
end
section
variable {prog:Program} {w:World} {A:Around} {E:Value->Shared->Prop} {s:Shared}
end
section
variable {X:Cx}
end
end L2
namespace Att
open PySem PySem.W PySem.Calls PyProof.Rows
theorem d8 {P:Params} {h:Heap}:∀ (ns:List Int) (vs:List Value),WellAll P h vs (ns.map WData.int)->IntsAre vs ns:=by
 intro ns
 induction ns with
 | nil=>
  intro vs w
  rw[List.map_nil] at w
  cases w
  exact .nil
 | cons n ns ih=>
  intro vs w
  rw[List.map_cons] at w
  cases w with
  | cons a b=>
   cases a
   exact .cons _ _ (ih _ b)
theorem lV {l:OpenLaw} {n:Nat} (hn:l.most=some n) {P:Params} {h:Heap} {args:List WData} {vals:List Value}
  (hpre:l.row.toRowW.claim.pre args=true) (hwl:WellAll P h vals args) :
  ∃ a vs ns,vals=[Value.ref a]/\args=[WData.list (ns.map WData.int)]/\h.get? a=some {cls:=.type "list",data:=.seq vs.toArray}/\IntsAre vs ns/\ns.length<=n:=by
 have hsh:WShape.hasAll [] args [.list .int]=true:=(pre_splitW hpre).1
 have hc:l.pre.holds [] {args:=args} = true:=(pre_splitW hpre).2
 obtain⟨d,r,rfl,h1,h2⟩:=hasAllW_cons hsh
 obtain rfl:=hasAllW_nil h2
 obtain⟨xs,rfl,h3⟩:=hasW_list h1
 obtain⟨ns,rfl⟩:=items_int h3
 have hlen:ns.length<=n:=by
  unfold OpenLaw.pre at hc
  have h4:(WTm.not (.lt (.lit (.int (n:Int))) (.len (.arg 0)))).holds [] {args:=[.list (ns.map .int)]} = true:=by
   have h4:=(holds_andW hc).1
   rw[hn] at h4
   exact h4
  have h5:=condW_of h4 (w_not (w_lt w_lit (w_len_list (w_arg rfl))))
  rw[List.length_map] at h5
  refine Nat.le_of_not_lt fun q=>?_
  have q':(n:Int) < ((ns.length:Nat):Int):=by omega
  first
   | (rw[decide_eq_true q'] at h5;exact absurd h5 (by decide))
   | (simp at h5;omega)
 cases hwl with
 | cons w1 w2=>
  cases w2
  cases w1 with
  | list ho hall=>exact⟨_,_,ns,rfl,rfl,ho,d8 ns _ hall,hlen⟩
theorem lW (l:OpenLaw) (args:List WData):l.row.toRowW.claim.post args (.bool true) args=true:=
 postW_of (r:=l.row.toRowW) (X:=(true == true))
  (show WShape.has [] (.bool true) .bool=true by first | rfl | decide | simp[WShape.has,WShape.arms,WShape.armsAll])
  (show (WTm.eq .res (.lit (.bool true))).value [] {args:=args,res:=some (.bool true),after:=args} = some (.bool (true == true)) from w_eq_bool (w_res rfl) w_lit) rfl
theorem attach_call {l:OpenLaw} {n:Nat} {q:Program} {loose:List Str} {XP:(Str->Option Value)->Heap->Prop} {YP:World->Heap->Prop} {d:DefRec}
  (hn:l.most=some n) (hdf:d.params.defaults=[])
  (call:∀ (w:World) (s₀ s₁:Shared) (mg mb:Str->Option Value) (fa:Addr) (o:Obj) (pm cd doc:Value) (a:Addr) (vs:List Value) (ns:List Int),
   Ground q loose [] XP w s₀ mg mb s₁.heap->YP w s₁.heap->
   s₁.heap.get? fa=some o->o.data=.func (docDef d.name d.params d.body d.scope pm cd doc)->s₁.heap.CodeRec cd d.name->mg d.name=some (.ref fa)->
   s₁.heap.get? a=some {cls:=.type "list",data:=.seq vs.toArray}->IntsAre vs ns->ns.length<=n->s₁.gens = #[]->
   codeAny (model l.prog w) callerA (.call (.ref fa) ⟨[.ref a],[]⟩) (fun r s'=>r=.ok (.ret (.bool true))/\OldK s₁.heap s'.heap/\s'.os=s₁.os/\AllBare s'.gens) s₁) :
  WalkO q loose XP YP l.row.toRowW d [] (fun f vs=>PySem.call f vs):=by
 intro w s₀ s₁ mg mb G Y fa o pm cd doc dV kV ho hd hcd hD hmg hg args vals as hpre hlay hrd hwl hlo
 obtain rfl:dV=.none:=Dflts.none hD hdf
 obtain rfl:kV=.none:=Dflts.noKw hD
 obtain⟨a,vs,ns,rfl,rfl,hobj,hints,hlen⟩:=lV hn hpre hwl
 refine enter_call (codeAny_mono (call w s₀ s₁ mg mb fa o pm cd doc a vs ns G Y ho (fd_plain hd) hcd hmg hobj hints hlen hg) fun r s' hq=>?_)
 obtain⟨rfl,h2,h3,h4⟩:=hq
 exact⟨.inl ⟨.bool true,.bool true,[],rfl,fun _=>rfl,.bool true,lW l _,fun _=>⟨List.Pairwise.nil,fun _ hm=>(nomatch hm)⟩⟩,h2,h3,h4⟩
section
variable {prog:Program} {w:World} {A:Around} {E:Value->Shared->Prop} {s:Shared} {K:Frag}
end
end Att
namespace L2
open PySem PySem.Spec PyProof.Rows
noncomputable def KL (K:PySem.W.Frag) (a:Addr) (xs:List V):Prop:=
 ∃ (its:List Value) (n:Nat),K.lookup a=some {cls:=.type "list",data:=.seq its.toArray n}/\its.length<=sizeLine/\Vals xs its
noncomputable def Ls (K:PySem.W.Frag) (H:Hp) (a:Addr) (xs:List V):Prop:=Rd H a (.lst xs)∨KL K a xs
theorem fV:∀ {vs:List Value} {ns:List Int},IntsAre vs ns->Vals (ns.map V.int) vs
 | _,_,.nil=>.nil
 | _,_,.cons n t h=>.cons ⟨t,rfl⟩ (fV h)
noncomputable def vN (H:Hp):Prop:=∀ b,H b=none∨∃ o xs,H b=some (.frz o (.lst xs))
theorem mQ {P:Program} {w:World} {K:PySem.W.Frag} {mg mb:Str->Option Value} {CX:CXT} {k:Nat} {fa a:Addr} {fd:FuncData} {x:Str} {sp:Sp} {s₁:Shared} {vs:List Value} {ns:List Int}
  (KX:K.In s₁.heap) (hns:s₁.heap.Ns mainGlobals mg) (hb:s₁.heap.Ns builtinsNs mb) (hbb:∀ x:Str,x≠"__name__"->mb x=bootBuiltins x) (hlim:s₁.heap.NoLimit) (hg:s₁.gens = #[])
  (ha:s₁.heap.get? a=some {cls:=.type "list",data:=.seq vs.toArray}) (hi:IntsAre vs ns) (hl:ns.length<=sizeLine) (hr:Room k callerA)
  (F:∀ base:Heap,K.In base->base.Ns mainGlobals mg->FnOk P w K mg base CX k fa fd [x] sp) (hbind:∀ (s:Shared) (u:Value),BindsTo s fd ⟨[u],[]⟩ [(x,u)])
  (hsp:∀ H:Hp,vN H->Ls K H a (ns.map V.int)->sp [.ref a] H (fun v _=>v=.bl true) fun _ _ _=>False)
  (hCX:∀ H e s',CX [] H s₁ (fun _ _ _=>False) e s'->False) :
  codeAny (model P w) callerA (.call (.ref fa) ⟨[.ref a],[]⟩) (fun r s'=>r=.ok (.ret (.bool true))/\OldK s₁.heap s'.heap/\s'.os=s₁.os/\AllBare s'.gens) s₁:=by
 have rv:=fV hi
 have lenV:=hi.length
 -- from an abstract heap in which nothing but the script may be tracked
 have core:∀ H:Hp,vN H->Ls K H a (ns.map V.int)->HOk P w H s₁.heap->(∀ b,H b≠none->b=a)->(H a≠none->K.lookup a=none)->
   codeAny (model P w) callerA (.call (.ref fa) ⟨[.ref a],[]⟩) (fun r s'=>r=.ok (.ret (.bool true))/\OldK s₁.heap s'.heap/\s'.os=s₁.os/\AllBare s'.gens) s₁:=by
  intro H hO hS hok hA hK
  have base_of:∀ {b:Addr} {o:Obj},s₁.heap.get? b=some o->H b=none->(gA s₁.heap H).get? b=some o:=fun e n=>mz e n
  have noA:∀ {b:Addr} {o:Obj} {es:Array DictEntry} {ep:Nat},s₁.heap.get? b=some o->o.data=.dict es ep->H b=none:=fun {b o es ep} e d=>by
   cases q:H b with
   | none=>rfl
   | some u=>
    have e':b=a:=hA b (by rw[q];simp)
    subst e'
    rw[ha] at e;cases e
    have d':Data.seq vs.toArray _=Data.dict es ep:=d
    cases d'
  have nsK:∀ {b:Addr} {m:Str->Option Value},s₁.heap.Ns b m->(gA s₁.heap H).Ns b m:=fun {b m} ⟨o,es,ep,e,d,r⟩=>⟨o,es,ep,base_of e (noA e d),d,r⟩
  have hKb:K.In (gA s₁.heap H):=fun b o e=>base_of (KX b o e) (by
   cases q:H b with
   | none=>rfl
   | some u=>
    have e':b=a:=hA b (by rw[q];simp)
    subst e'
    rw[hK (by rw[q];simp)] at e;cases e)
  have hM:Mod K mg (gA s₁.heap H):=⟨hKb,nsK hns,⟨mb,nsK hb,hbb⟩,let ⟨mc,h1,h2⟩:=hlim;⟨mc,nsK h1,h2⟩⟩
  have e0:Env0 P w K mg (gA s₁.heap H) callerA [] s₁ H:=⟨rfl,hM,fun b o e=>qG e,Nat.le_of_eq (lN _ _),trivial,fun b hb=>absurd (show b ∈ ([]:List Addr) from hb) (by simp),hok,.of_eq hg⟩
  refine codeAny_mono ((F _ hKb (nsK hns)).run callerA [] s₁ H ⟨[.ref a],[]⟩ [.ref a] [.ref a] _ _ hr e0 (hbind s₁ (.ref a)) (.cons rfl .nil) (hsp H hO hS)) fun r s' h=>?_
  cases r with
  | error e=>exact(hCX H e s' h).elim
  | ok fl=>
   cases fl with
   | next=>exact False.elim h
   | brk=>exact False.elim h
   | cont=>exact False.elim h
   | ret u=>
    obtain⟨v,H',os,bare,un,hok',r',q⟩:=h
    have q':v=.bl true:=q
    subst q'
    obtain rfl:u=Value.bool true:=r'
    refine⟨rfl,OldK.of_keep fun b o e=>?_,os,bare⟩
    cases q:H b with
    | none=>exact un.keep b o e q (by intro z;exact absurd (show b ∈ ([]:List Addr) from z) (by simp)) (by simp)
    | some u=>
     rcases hO b with z | ⟨ob,xs,z⟩
     ·rw[q] at z;cases z
     ·have z2:=un.frzs b ob _ z
      obtain⟨e1,_⟩:=hok b _ z
      obtain⟨e2,_⟩:=hok' b _ z2
      rw[e] at e1;cases e1
      exact e2
 cases hk:K.lookup a with
 | some o=>
  -- the script is one of the module's own objects
  have e:=KX a o hk
  rw[ha] at e
  cases e
  refine core (fun _=>none) (fun _=>.inl rfl) (.inr ⟨vs,_,hk,by rw[lenV];exact hl,rv⟩) (fun b u z=>by have z':(none:Option HO)=some u:=z;cases z') (fun b z=>absurd rfl z) fun z=>absurd rfl z
 | none=>
  refine core (fun b=>if b=a then some (.frz {cls:=.type "list",data:=.seq vs.toArray} (.lst (ns.map V.int))) else none) (fun b=>?_) (.inl (.inr ⟨{cls:=.type "list",data:=.seq vs.toArray},if_pos rfl⟩)) (fun b u z=>?_) (fun b z=>?_) fun _=>hk
  ·by_cases hb:b=a
   ·exact .inr ⟨_,_,if_pos hb⟩
   ·exact .inl (if_neg hb)
  ·by_cases hb:b=a
   ·have z':=(if_pos hb).symm.trans z
    cases z'
    subst hb
    exact⟨ha,by rw[List.length_map];exact hl,vs,_,rv,ha⟩
   ·have z':=(if_neg hb).symm.trans z
    cases z'
  ·by_cases hb:b=a
   ·exact hb
   ·exact absurd (if_neg hb) z
theorem qY {l:PySem.W.OpenLaw} {n k:Nat} {q:Program} {loose:List Str} {XP:(Str->Option Value)->Heap->Prop} {YP:World->Heap->Prop} {d:DefRec} {K:Params->PySem.W.Frag} {CX:World->CXT} {sp:World->Sp} {x:Str}
  (hn:l.most=some n) (hn2:n<=sizeLine) (hdf:d.params.defaults=[]) (hr:Room k callerA)
  (hY:∀ (w:World) (h:Heap),YP w h->(K w.params).In h)
  (F:∀ (w:World) (mg:Str->Option Value) (fa:Addr) (h:Heap),(K w.params).In h->h.Ns mainGlobals mg->mg d.name=some (.ref fa)->
   ∃ fd:FuncData,(∀ (s:Shared) (u:Value),BindsTo s fd ⟨[u],[]⟩ [(x,u)])/\
    ∀ base:Heap,(K w.params).In base->base.Ns mainGlobals mg->FnOk l.prog w (K w.params) mg base (CX w) k fa fd [x] (sp w))
  (hsp:∀ (w:World) (H:Hp) (a:Addr) (ns:List Int),ns.length<=n->vN H->Ls (K w.params) H a (ns.map V.int)->sp w [.ref a] H (fun v _=>v=.bl true) fun _ _ _=>False)
  (hCX:∀ (w:World) (H:Hp) (s:Shared) (e:Value) (s':Shared),CX w [] H s (fun _ _ _=>False) e s'->False) :
  PySem.W.WalkO q loose XP YP l.row.toRowW d [] (fun f vs=>PySem.call f vs):=by
 refine Att.attach_call hn hdf fun w s₀ s₁ mg mb fa o pm cd doc a vs ns G Y ho hd hcd hmg hobj hints hlen hg=>?_
 have KX:=hY w _ Y
 obtain⟨fd,hb,hF⟩:=F w mg fa _ KX G.T.g hmg
 exact mQ KX G.T.g G.T.b G.T.builtins G.T.nolimit hg hobj hints (Nat.le_trans hlen hn2) hr hF hb (fun H hO hS=>hsp w H a ns hlen hO hS) fun H e s'=>hCX w H s₁ e s'
noncomputable def bP (s:Stmt):Arguments:=match s with
 | .FunctionDef _ a _ _ _ _ _ _ _ _=>a
 | _=>{posonlyargs:=[],args:=[],vararg:=none,kwonlyargs:=[],kw_defaults:=[],kwarg:=none,defaults:=[]}
noncomputable def bq (s:Stmt):List Stmt:=match s with
 | .FunctionDef _ _ b _ _ _ _ _ _ _=>b
 | _=>[]
noncomputable def aq (s:Stmt):Scope:=match s with
 | .FunctionDef _ _ _ _ _ _ sc _ _ _=>sc
 | _=>{kind:=.function,names:=[],isGenerator:=false,isCoroutine:=false}
structure Fun (K:PySem.W.Frag) (x qual:Str) (st:Stmt) (f:Addr) (fd:FuncData):Prop where
 ex:∃ (oc:Value) (od:Option Addr) (kV doc pm:Value) (an:Option Addr) (cdv ct:Value) (osl:Array (Option Value)),
  fd=PySem.W.fnOf x qual (bP st) (bq st) (aq st) .none kV doc pm an cdv ct/\K.lookup f=some ⟨oc,od,.func fd,osl⟩/\PySem.W.codeIn K cdv qual=true
 kp:PySem.W.keepIn K (.ref f)=true
section
variable {P:Program} {w:World} {K:PySem.W.Frag} {mg:Str->Option Value} {base:Heap}
theorem Fun.binds {x qual:Str} {st:Stmt} {f:Addr} {fd:FuncData} {ps:List Str} (F:Fun K x qual st f fd)
  (h:∀ (kV doc pm:Value) (an:Option Addr) (cdv ct:Value) (us:List Value),us.length=ps.length->bindArgs (PySem.W.fnOf x qual (bP st) (bq st) (aq st) .none kV doc pm an cdv ct) ⟨us,[]⟩=pure (ps.zip us)):Binds K fd ps []:=by
 obtain⟨oc,od,kV,doc,pm,an,cdv,ct,osl,rfl,lk,hcd⟩:=F.ex
 exact .all (h kV doc pm an cdv ct)
theorem jv {x qual:Str} {st:Stmt} {f:Addr} {oc:Value} {od an:Option Addr} {osl:Array (Option Value)} {kV doc pm cdv ct:Value} (l:K.lookup f=some ⟨oc,od,.func (PySem.W.fnOf x qual (bP st) (bq st) (aq st) .none kV doc pm an cdv ct),osl⟩)
  (c:PySem.W.codeIn K cdv qual=true) (k:PySem.W.keepIn K (.ref f)=true):Fun K x qual st f (PySem.W.fnOf x qual (bP st) (bq st) (aq st) .none kV doc pm an cdv ct):=⟨⟨oc,od,kV,doc,pm,an,cdv,ct,osl,rfl,l,c⟩,k⟩
end
section
variable {X:Cx}
end
noncomputable def ak (H H':Hp):Prop:=∀ b o,H b=some o->H' b=some o
theorem ak.refl (H:Hp):ak H H:=fun _ _ h=>h
theorem ak.trans {H H1 H2:Hp} (a:ak H H1) (b:ak H1 H2):ak H H2:=fun c o h=>b c o (a c o h)
theorem ak.free {H H':Hp} (e:ak H H') {l:Addr} (h:H' l=Option.none):H l=Option.none:=by
 cases q:H l with
 | none=>rfl
 | some o=>
  rw[e l o q] at h
  cases h
theorem ak.seq {K:PySem.W.Frag} {H H':Hp} {a:Addr} {xs:List V} (e:ak H H') (h:SqL K H a xs):SqL K H' a xs:=by
 rcases h with (h | ⟨o,h⟩) | h
 ·exact .inl (.inl (e _ _ h))
 ·exact .inl (.inr ⟨o,e _ _ h⟩)
 ·exact .inr h
theorem ay {X:Cx} {e:Expr} {t t':TE} (h:PE X e t) (m:∀ σ H Q,t' σ H Q->t σ H Q):PE X e t':=fun pins s σ H Q I q=>h pins s σ H Q I (m σ H Q q)
theorem dE {X:Cx} {e:Expr} {t t':TT} (h:PT X e t) (m:∀ σ H Q,t' σ H Q->t σ H Q):PT X e t':=fun pins s σ H Q I q=>h pins s σ H Q I (m σ H Q q)
theorem gD {X:Cx} {e:List Expr} {t t':TA} (h:PA X e t) (m:∀ σ H Q,t' σ H Q->t σ H Q):PA X e t':=fun pos pins s σ H Q I q=>h pos pins s σ H Q I (m σ H Q q)
theorem aO {X:Cx} {e:Stmt} {t t':TS} (h:PS X e t) (m:∀ D σ H,t' D σ H->t D σ H):PS X e t':=fun pins s σ H D I q=>h pins s σ H D I (m D σ H q)
theorem ej {X:Cx} {e:List Stmt} {t t':TS} (h:PSs X e t) (m:∀ D σ H,t' D σ H->t D σ H):PSs X e t':=fun pins s σ H D I q=>h pins s σ H D I (m D σ H q)
theorem jw {X:Cx} {tg e:Expr} {t t':TI} (h:PI X tg e t) (m:∀ σ H Q,t' σ H Q->t σ H Q):PI X tg e t':=fun pins s σ H Q I q=>h pins s σ H Q I (m σ H Q q)
noncomputable def cxC (X:Cx) (scope:Scope) (cl:List (Str×Addr)) (N:List Str) (C:Addr) (s3:Shared) (H3:Hp) (fp:List Addr) (xe:Value->Shared->Prop:=fun _ _=>False):Cx:=
 {X with N:=N,s₀:=s3,H₀:=H3,env:=compEnvC scope cl C X.env,outer:=X.stack,ex:=fp,fn:=fun _=>false,pn:=[],xe:=xe}
structure CompSc (X:Cx) (scope:Scope) (cl:List (Str×Addr)) (Fr:List (Str×Nat)) (Tg:List Str):Prop where
 clos:closureFor scope X.env=pure cl
 kind:scope.kind=.function
 nocell:∀ y ∈ scope.names,y.2≠.cell
 loc:∀ y ∈ scope.names,y.2=.local->scope.names.lookup y.1=some .local
 sub:∀ x c,cl.lookup x=some c->X.env.cells.lookup x=some c
 has:∀ x,((relabel scope X.env).names.lookup x=some .cell∨(relabel scope X.env).names.lookup x=some .free)->∃ c,cl.lookup x=some c
 out:∀ p ∈ Fr,X.N[p.2]? = some p.1/\(X.env.kindOf p.1=some .cell∨X.env.kindOf p.1=some .free)/\((relabel scope X.env).names.lookup p.1=some .cell∨(relabel scope X.env).names.lookup p.1=some .free)
noncomputable def stC (Fr:List (Str×Nat)) (Tg:List Str) (σ:St):St:=Fr.map (fun p=>(σ[p.2]?).join)++List.replicate Tg.length none
section
variable {X:Cx} {scope:Scope} {cl:List (Str×Addr)} {Fr:List (Str×Nat)} {Tg:List Str} {pins:List (Addr×Obj)} {σ:St} {H3:Hp} {s3:Shared} {fp:List Addr}
theorem vO (S:CompSc X scope cl Fr Tg) (I:Inv X pins σ H3 s3) (hf:∀ b ∈ fp,cN X pins H3 b) (hfs:∀ b ∈ fp,b < s3.heap.objs.size) (N:List Str) (xe:Value->Shared->Prop):(cxC X scope cl N s3.heap.objs.size s3 H3 fp xe).Ok where
 mod:=I.ok.mod
 kind:=S.kind
 glob:=I.ok.glob
 blt:=I.ok.blt
 above:=Nat.le_refl _
 inj:=fun x y c h1 h2=>I.ok.inj x y c (S.sub x c h1) (S.sub y c h2)
 has:=fun x h=>S.has x h
 cab:=fun x c h _=>absurd (show false=true from h) (by decide)
 hd:=I.ok.hd
 frames:=I.ok.frames
 stk:=.inl rfl
 exf:=fun b hb=>⟨Nat.ne_of_lt (hfs b hb),fun x c e z=>(hf b hb).2.2.2.2.1 x c (S.sub x c e) z⟩
 bs:=I.bs
 bsz:=Nat.le_trans I.ok.bsz I.sz
 noex:=fun b o e hb=>by
  rcases (hf b hb).2.2.2.1 with z | z
  ·exact I.ok.noex b o e z
  ·exact absurd (Nat.lt_of_lt_of_le (Heap.lt_size e) (Nat.le_trans I.ok.bsz z)) (Nat.lt_irrefl _)
 exfs:=fun b hb z=>by
  rcases List.mem_cons.mp (I.stkSub b z) with z | z
  ·exact(hf b hb).2.1 z
  ·exact(hf b hb).2.2.1 z
 funs:=I.stack
 frf:=I.stkFree
theorem lX (S:CompSc X scope cl Fr Tg) (I:Inv X pins σ H3 s3) (hf:∀ b ∈ fp,cN X pins H3 b) (hfs:∀ b ∈ fp,b < s3.heap.objs.size) {h':Heap} {tk:Nat}
  (hns:h'.Ns s3.heap.objs.size (fun _=>none)) (hk:∀ b o,s3.heap.get? b=some o->h'.get? b=some o) (xe:Value->Shared->Prop) :
  Inv (cxC X scope cl (Fr.map (·.1)++Tg) s3.heap.objs.size s3 H3 fp xe) [] (stC Fr Tg σ) H3 {s3 with heap:=h',toks:=tk} where
 ok:=vO S I hf hfs _ _
 os:=rfl
 bare:=I.bare
 base:=Un.kept hk
 loc:=by
  refine⟨_,hns,fun i x v e1 e2 e3=>?_⟩
  have hi:i < Fr.length:=by
   by_cases hi:i < Fr.length
   ·exact hi
   ·unfold stC at e2
    rw[List.getElem?_append_right (by simpa using hi),List.getElem?_replicate] at e2
    split at e2<;>cases e2
  have e1':(Fr.map (·.1))[i]? = some x:=by
   rw[<- e1]
   exact(List.getElem?_append_left (by simpa using hi)).symm
  have e2':(Fr.map (fun p=>(σ[p.2]?).join))[i]? = some (some v):=by
   rw[<- e2]
   exact(List.getElem?_append_left (by simpa using hi)).symm
  rw[List.getElem?_map] at e1' e2'
  obtain⟨p,hp,rfl⟩:=Option.map_eq_some_iff.mp e1'
  rw[hp] at e2'
  have e2'':(σ[p.2]?).join=some v:=Option.some.inj e2'
  have e4:σ[p.2]? = some (some v):=by
   cases q:σ[p.2]? with
   | none=>rw[q] at e2'';cases e2''
   | some y=>rw[q] at e2'';rw[show y=some v from e2'']
  obtain⟨o1,o2,o3⟩:=S.out p (List.mem_of_getElem? hp)
  obtain⟨m,hn,hl⟩:=I.loc
  have hv:Vis X.env.scope p.1:=by
   rcases o2 with o2 | o2
   ·exact .inr (.inl o2)
   ·exact .inr (.inr o2)
  obtain⟨u,r,l⟩:=hl p.2 p.1 v o1 e4 hv
  refine⟨u,r,.inr ⟨o3,?_⟩⟩
  obtain⟨c,hc⟩:=S.has p.1 o3
  refine⟨c,hc,?_⟩
  have hc':=S.sub _ _ hc
  rcases l with ⟨k,_⟩ | ⟨_,c2,h2,z⟩
  ·rcases o2 with o2 | o2<;>(rw[k] at o2;cases o2)
  ·rw[hc'] at h2;cases h2
   obtain⟨o,ho,hd⟩:=z
   exact⟨o,hk _ _ ho,hd⟩
 cell:=fun x c e=>by
  obtain⟨v,o,ho,hd⟩:=I.cell x c (S.sub x c e)
  exact⟨v,o,hk _ _ ho,hd⟩
 free:=I.hok.fresh (Nat.le_refl _)
 freeC:=fun x c e=>I.freeC x c (S.sub x c e)
 pin:=fun p hp=>absurd (show p ∈ ([]:List (Addr×Obj)) from hp) (by simp)
 hok:=I.hok.kept hk
 len:=by
  unfold stC
  show _=(Fr.map (·.1)++Tg).length
  simp
end
noncomputable def PTs (X:Cx) (ifs:List Expr) (t:TT):Prop:=
 ∀ (pins:List (Addr×Obj)) (s:Shared) (σ:St) (H:Hp) (Q:Bool->Hp->Prop),Inv X pins σ H s->t σ H Q->
  wpAny (model X.prog X.w) X.A (forIn ifs true fun c r=>if r=true then do let ok <- isTrue c X.env (eval c X.env);pure (ForInStep.yield ok) else pure (ForInStep.yield r)) (TP X pins σ Q) X.xe s
theorem dU {M:Model} {A:Around} {E:Value->Shared->Prop} {s:Shared} {env:Env} {Q:Bool->Shared->Prop} (h:Q false s):∀ ifs:List Expr,
  wpAny M A (forIn ifs false fun c r=>if r=true then do let ok <- isTrue c env (eval c env);pure (ForInStep.yield ok) else pure (ForInStep.yield r)) Q E s
 | []=>by
  rw[List.forIn_nil]
  exact wpAny_pure h
 | c::cs=>by
  rw[List.forIn_cons]
  rw[if_neg Bool.false_ne_true]
  exact wpAny_bind (wpAny_pure (dU h cs))
theorem qZ {X:Cx}:PTs X [] (fun _ H Q=>Q true H):=fun pins s σ H Q I q=>by
 rw[List.forIn_nil]
 exact wpAny_pure ⟨H,I,q⟩
theorem mR {X:Cx} {c:Expr} {cs:List Expr} {t u:TT} (hc:PT X c t) (hr:PTs X cs u):PTs X (c::cs) (xH t u):=fun pins s σ H Q I q=>by
 rw[List.forIn_cons,if_pos rfl]
 refine wpAny_bind (wpAny_bind (thn (hc pins s σ H _ I q) fun b s1 ⟨H1,I1,q1⟩=>wpAny_pure ?_))
 cases b with
 | true=>exact hr pins s1 σ H1 Q I1 q1
 | false=>exact dU ⟨H1,I1,q1⟩ cs
noncomputable def mS (wi:TI) (start:St->St) (g:TG) (tt:TT) (te:TE):TE:=fun σ H Q=>wi σ H fun J H1=>∀ D,H1 D=none->∃ W:Nat->Nat->St->Hp->Prop,(∃ m,W 0 m (start σ) (upd H1 D (.lst [])))/\
 ∀ i m σ' H',W i m σ' H'->(J.stop i H'/\Q (.ref D) H')∨(J.go i H'/\∀ x H2,J.yld i H' x H2->g x σ' H2 fun σ2 H3=>tt σ2 H3 fun b H4=>
  if b=true then te σ2 H4 fun v H5=>∃ ys,H5 D=some (.lst ys)/\ys.length < sizeLine/\∃ m',m' < m/\W (i + 1) m' σ2 (upd H5 D (.lst (ys++[v])))
  else ∃ m',m' < m/\W (i + 1) m' σ2 H4)
section
variable {X:Cx} {scope:Scope} {cl:List (Str×Addr)} {Fr:List (Str×Nat)} {Tg:List Str} {elt tg iter:Expr} {ifs:List Expr} {wi:TI} {g:TG} {tt:TT} {te:TE} {pos:Pos}
theorem gE (scope:Scope) (pos:Pos) (it acc:Value) (env:Env) :
  compTurn (.ListComp elt [⟨tg,iter,ifs,0⟩] scope pos) 0 it acc env=(do
   standAt iter.pos
   match <- pyNext it with
   | none=>pure (.done .next)
   | some v=>
    letOwnedTupleGo tg it v
    assign tg env v
    let ok <- forIn ifs true fun c r=>if r=true then do let ok <- isTrue c env (eval c env);pure (ForInStep.yield ok) else pure (ForInStep.yield r)
    if ok=true then
     (do let _ <- call (.builtin "list.append") [acc,<- eval elt env])
    again (.compLoop (.ListComp elt [⟨tg,iter,ifs,0⟩] scope pos) 0 it acc env)):=by rfl
theorem eL {XE:Addr->Shared->Hp->List Addr->Value->Shared->Prop} (hc:X.calm=true) (S:CompSc X scope cl Fr Tg)
  (hg:∀ C s H fp,PG (cxC X scope cl (Fr.map (·.1)++Tg) C s H fp (XE C s H fp)) tg g) (ht:∀ C s H fp,PTs (cxC X scope cl (Fr.map (·.1)++Tg) C s H fp (XE C s H fp)) ifs tt)
  (he:∀ C s H fp,PE (cxC X scope cl (Fr.map (·.1)++Tg) C s H fp (XE C s H fp)) elt te)
  {pins:List (Addr×Obj)} {σ:St} {H2:Hp} {s2:Shared} {it:Addr} {fp:List Addr} {tn:Nat->Heap->Prop} {J:It} {Q:VK} (I2:Inv X pins σ H2 s2) (T:Turn X.prog X.w X.K tg J fp it tn) (st2:tn 0 s2.heap)
  (f2:∀ b ∈ fp,cN X pins H2 b)
  (q:∀ D,H2 D=none->∃ W:Nat->Nat->St->Hp->Prop,(∃ m,W 0 m (stC Fr Tg σ) (upd H2 D (.lst [])))/\
   ∀ i m σ' H',W i m σ' H'->(J.stop i H'/\Q (.ref D) H')∨(J.go i H'/\∀ x H2,J.yld i H' x H2->g x σ' H2 fun σ2 H3=>tt σ2 H3 fun b H4=>
    if b=true then te σ2 H4 fun v H5=>∃ ys,H5 D=some (.lst ys)/\ys.length < sizeLine/\∃ m',m' < m/\W (i + 1) m' σ2 (upd H5 D (.lst (ys++[v])))
    else ∃ m',m' < m/\W (i + 1) m' σ2 H4))
  {E:Value->Shared->Prop} {RR:Value->Env->Result->Shared->Prop}
  (hR:∀ D C s' H',(∃ m,s'.heap.Ns C m)->Inv X pins σ H' s'->cN X pins H' C->Q (.ref D) H'->∀ V:Env,V.locals=C->V.frame=X.env.frame->RR (.ref D) V (.ok .next) s')
  (hX:∀ D C s3 H3,(∀ s5 σ5 H5,Inv (cxC X scope cl (Fr.map (·.1)++Tg) C s3 H3 fp (XE C s3 H3 fp)) [] σ5 H5 s5->(∃ m,s5.heap.Ns C m)/\Inv X pins σ H5 s5/\cN X pins H5 C)->∀ e s',XE C s3 H3 fp e s'->
   notedBy (model X.prog X.w) X.A (compEnvC scope cl C X.env) (fun x s''=>∀ V:Env,V.locals=C->V.frame=X.env.frame->RR (.ref D) V (.error x) s'') e s') :
  wpAny (model X.prog X.w) X.A (newList []) (fun acc s₃=>wpAny (model X.prog X.w) X.A (newFunctionEnv scope X.env.globals cl [] X.env.qual none .none (some X.env)) (fun cenv s₄=>
   codeAny (model X.prog X.w) X.A (.compStart (.ListComp elt [⟨tg,iter,ifs,0⟩] scope pos) 0 (.ref it) acc {cenv with scope:=relabel scope X.env}) (RR acc cenv) s₄) E s₃) E s2:=by
 have fsz:∀ b ∈ fp,b < s2.heap.objs.size:=fun b hb=>by
  obtain⟨o,e,_⟩:=T.obj _ _ st2 b hb
  exact Heap.lt_size e
 -- the accumulator
 refine wpAny_newObj_type ?_
 have I3:Inv X pins σ (upd H2 s2.heap.objs.size (.lst [])) {s2 with heap:=s2.heap.push {cls:=.type "list",data:=.seq ([]:List Value).toArray},toks:=s2.toks}:=I2.lnew (ys:=[]) (its:=[]) .nil (Nat.zero_le _)
 generalize hD:s2.heap.objs.size=D at I3 ⊢
 have hDn:H2 D=none:=by rw[<- hD];exact I2.fresh
 generalize hs3:({s2 with heap:=s2.heap.push {cls:=.type "list",data:=.seq ([]:List Value).toArray},toks:=s2.toks}:Shared)=s3 at I3
 have k3:∀ b o,s2.heap.get? b=some o->s3.heap.get? b=some o:=fun b o e=>by rw[<- hs3];exact Heap.get?_push_of_some _ e
 have sz3:s3.heap.objs.size=D + 1:=by rw[<- hs3,<- hD];exact Heap.size_push ..
 have fszD:∀ b ∈ fp,b < D:=fun b hb=>by rw[<- hD];exact fsz b hb
 have fsz3:∀ b ∈ fp,b < s3.heap.objs.size:=fun b hb=>by rw[sz3];exact Nat.lt_succ_of_lt (fszD b hb)
 have f3:∀ b ∈ fp,cN X pins (upd H2 D (.lst [])) b:=fun b hb=>by
  obtain⟨a1,a2⟩:=f2 b hb
  refine⟨?_,a2⟩
  rw[aj (Nat.ne_of_lt (fszD b hb))]
  exact a1
 obtain⟨W,⟨m0,w0⟩,turn⟩:=q D hDn
 refine wpAny_newFunctionEnv S.nocell (by intro y hy;simp at hy) (fun h4 hns hsb=>codeAny_mono (R:=fun r s'=>∀ V:Env,V.locals=s3.heap.objs.size->V.frame=X.env.frame->RR (.ref D) V r s') ?_ fun r s' z=>z _ rfl rfl) S.kind
 have k4:∀ b o,s3.heap.get? b=some o->h4.get? b=some o:=fun b o e=>
  hsb.extBut b o (Nat.ne_of_lt (Heap.lt_size e)) (Heap.get?_push_of_some _ e)
 have st4:tn 0 h4:=T.keep _ _ _ st2 fun b hb o e=>k4 b o (k3 b o e)
 have I4:=lX (fp:=fp) (h':=h4) (tk:=s3.toks + ([]:List (Str×Value)).length) S I3 f3 fsz3 (by simpa using hns) k4 (XE s3.heap.objs.size s3 (upd H2 D (.lst [])) fp)
 generalize hC:s3.heap.objs.size=C at I4 hns hsb ⊢
 have hX':=hX D C s3 (upd H2 D (.lst []))
 generalize hZ:XE C s3 (upd H2 D (.lst [])) fp=Z at I4 hX'
 generalize hY:cxC X scope cl (Fr.map (·.1)++Tg) C s3 (upd H2 D (.lst [])) fp Z=Y at I4 hX'
 have yP:Y.prog=X.prog:=by rw[<- hY];rfl
 have yw:Y.w=X.w:=by rw[<- hY];rfl
 have yK:Y.K=X.K:=by rw[<- hY];rfl
 have yA:Y.A=X.A:=by rw[<- hY];rfl
 have yc:Y.calm=true:=by rw[<- hY];exact hc
 have yx:Y.xe=Z:=by rw[<- hY];rfl
 have ye:Y.env=compEnvC scope cl C X.env:=by rw[<- hY];rfl
 have yex:Y.ex=fp:=by rw[<- hY];rfl
 have ypn:Y.pn=[]:=by rw[<- hY];rfl
 have yfs:Y.fs=frs X.stack:=by rw[<- hY];rfl
 have yH:Y.H₀=upd H2 D (.lst []):=by rw[<- hY];rfl
 have ys₀:Y.s₀=s3:=by rw[<- hY];rfl
 have hg':PG Y tg g:=by rw[<- hY,<- hZ];exact hg _ _ _ _
 have ht':PTs Y ifs tt:=by rw[<- hY,<- hZ];exact ht _ _ _ _
 have he':PE Y elt te:=by rw[<- hY,<- hZ];exact he _ _ _ _
 have stat:∀ {H':Hp},(∀ b ∈ fp,H' b=none)->∀ b ∈ fp,cN Y [] H' b:=fun hn b hb=>by
  have okY:=I4.ok
  refine⟨hn b hb,(okY.exf b (by rw[yex];exact hb)).1,okY.exfs b (by rw[yex];exact hb),.inl (by rw[yex];exact hb),(okY.exf b (by rw[yex];exact hb)).2,fun p hp=>absurd hp (by rw[ypn];simp)⟩
 have fr0:∀ b ∈ fp,(upd H2 D (.lst [])) b=none:=fun b hb=>(f3 b hb).1
 -- back to the frame
 have back:∀ (s5:Shared) (σ5:St) (H5:Hp),Inv Y [] σ5 H5 s5->(∃ m,s5.heap.Ns C m)/\Inv X pins σ H5 s5/\cN X pins H5 C:=by
  intro s5 σ5 H5 I5
  have hns5:∃ m,s5.heap.Ns C m:=by
   obtain⟨m,hn,_⟩:=I5.loc
   rw[ye] at hn
   exact⟨m,hn⟩
  have un5:Un (frs X.stack) fp (upd H2 D (.lst [])) H5 s3.heap s5.heap:=by
   have u:=I5.base
   rw[yfs,yex,yH,ys₀] at u
   exact u
  have os5:s5.os=s3.os:=by have:=I5.os;rw[ys₀] at this;exact this
  have hok5:HOk X.prog X.w H5 s5.heap:=by have:=I5.hok;rw[yP,yw] at this;exact this
  have hch:∀ b ∈ fp,(b ∈ X.ex∨X.s₀.heap.objs.size<=b)/\b≠X.env.locals/\(∀ x c,X.env.cells.lookup x=some c->c≠b)/\∀ p ∈ X.pn++pins,p.1≠b:=fun b hb=>by
   obtain⟨_,a1,_,a3,a4,a5⟩:=f3 b hb
   exact⟨a3,a1,a4,a5⟩
  have free5:H5 C=none:=by
   have:=I5.free
   rw[ye] at this
   exact this
  exact⟨hns5,I3.call' os5 un5 hok5 I5.bare hch,I3.fpOk (Nat.le_of_eq hC) free5⟩
 have nz:∀ {α:Type} {t:Sem α} {Q:α->Shared->Prop} {s:Shared},wpAny (model X.prog X.w) X.A t Q Z s->wpAny (model X.prog X.w) X.A t Q (notedBy (model X.prog X.w) X.A (compEnvC scope cl C X.env) fun x s''=>∀ V:Env,V.locals=C->V.frame=X.env.frame->RR (.ref D) V (.error x) s'') s:=fun h=>wpAny_mono h (fun _ _ z=>z) fun e s' z=>hX' back e s' z
 have loop:∀ (s5:Shared) (σ5:St) (H5:Hp) (i m:Nat),Inv Y [] σ5 H5 s5->tn i s5.heap->(∀ b ∈ fp,H5 b=none)->W i m σ5 H5->
   codeAny (model X.prog X.w) X.A (.compLoop (.ListComp elt [⟨tg,iter,ifs,0⟩] scope pos) 0 (.ref it) (.ref D) (compEnvC scope cl C X.env)) (fun r s'=>∀ V:Env,V.locals=C->V.frame=X.env.frame->RR (.ref D) V r s') s5:=by
  intro s5 σ5 H5 i m I5 st5 fr5 w5
  refine codeAny_loop rfl (fun n s'=>∃ i σ' H',Inv Y [] σ' H' s'/\tn i s'.heap/\(∀ b ∈ fp,H' b=none)/\W i n σ' H') ?_ m ⟨i,σ5,H5,I5,st5,fr5,w5⟩
  rintro n s6 ⟨i,σ6,H6,I6,st6,fr6,w6⟩
  show wpAny _ X.A ((compTurn (.ListComp elt [⟨tg,iter,ifs,0⟩] scope pos) 0 (.ref it) (.ref D) (compEnvC scope cl C X.env)).onRaise (fun x=>do noteFrame x (compEnvC scope cl C X.env);theTreesLotGoes x)) _ _ s6
  refine wpAny_noted ?_
  rw[gE]
  refine wpAny_bind (wpAny_standAt (wpAny_bind ?_))
  have nx:∀ {α:Type} {t:Sem α} {Q:α->Shared->Prop} {E':Value->Shared->Prop} {s:Shared},wpAny (model X.prog X.w) X.A t Q (fun _ _=>False) s->wpAny (model X.prog X.w) X.A t Q E' s:=fun h=>wpAny_mono h (fun _ _ z=>z) fun _ _ z=>z.elim
  rcases turn i n σ6 H6 w6 with ⟨stop,qn⟩ | ⟨go,step⟩
  ·have h:=T.done Y yP yw yK yc i [] s6 σ6 H6 (fun _ _=>False) I6 (stat fr6) st6 stop
   rw[yA] at h
   refine nx (thn h fun r s7 ⟨hr,I7⟩=>?_)
   subst hr
   refine wpAny_pure ?_
   obtain⟨b1,b2,b3⟩:=back s7 σ6 H6 I7
   exact hR D C s7 H6 b1 b2 b3 qn
  ·have h:=T.item Y yP yw yK yc i [] s6 σ6 H6 (fun _ _=>False) I6 (stat fr6) st6 go
   rw[yA] at h
   refine nx (thn h fun r s7 ⟨u,hr,h7⟩=>?_)
   subst hr
   refine wpAny_bind (nx (thn h7 fun _ s8 ⟨x,H8,I8,r8,y8,st8,fr8⟩=>?_))
   have I8':=I8.pinned (stat fr8) (T.obj _ _ st8)
   have h9:=hg' _ s8 σ6 H8 x u _ I8' r8 (step x H8 y8)
   rw[yP,yw,yA,yx,ye] at h9
   refine wpAny_bind (nz (thn h9 fun _ s9 ⟨σ9,H9,I9,q9⟩=>?_))
   have h10:=ht' _ s9 σ9 H9 _ I9 q9
   rw[yP,yw,yA,yx,ye] at h10
   refine wpAny_bind (nz (thn h10 fun ok s10 ⟨H10,I10,q10⟩=>?_))
   have again:∀ {σ':St} {H':Hp} {s':Shared},Inv Y ([]++dD fp s8.heap) σ' H' s'->(∃ m',m' < n/\W (i + 1) m' σ' H')->∃ m,m < n/\∃ i σ' H',Inv Y [] σ' H' s'/\tn i s'.heap/\(∀ b ∈ fp,H' b=none)/\W i m σ' H':=fun {σ' H' s'} I' ⟨m',hm,w'⟩=>by
    refine⟨m',hm,i + 1,σ',H',I'.unpinned,T.keep _ _ _ st8 fun b hb o e=>(I'.pin (b,o) (List.mem_append_right _ (List.mem_append_right _ (cw hb e)))).1,fun b hb=>?_,w'⟩
    obtain⟨o,e,d⟩:=T.obj _ _ st8 b hb
    exact(I'.pin (b,o) (List.mem_append_right _ (List.mem_append_right _ (cw hb e)))).2.1
   cases ok with
   | false=>
    rw[if_neg Bool.false_ne_true] at q10
    refine wpAny_bind (wpAny_pure (wpAny_pure ⟨rfl,again I10 q10⟩))
   | true=>
    rw[if_pos rfl] at q10
    have h11:=he' _ s10 σ9 H10 _ I10 q10
    rw[yP,yw,yA,yx,ye] at h11
    refine wpAny_bind (wpAny_bind (nz (thn h11 fun y s11 ⟨v,H11,I11,r11,ys,ey,zy,q11⟩=>?_)))
    have h12:=fU (X:=Y) ([]++dD fp s8.heap) s11 σ9 H11 (.ref D) [v] (.ref D) [y] (fun v' H'=>v'=.non/\H'=upd H11 D (.lst (ys++[v]))) I11 rfl (.cons r11 .nil) ⟨D,ys,v,rfl,rfl,ey,zy,rfl,rfl⟩
    rw[yP,yw,yA,yx] at h12
    refine wpAny_bind (nz (thn h12 fun z s12 ⟨v12,H12,I12,r12,e12,e12'⟩=>?_))
    subst e12'
    exact wpAny_pure (wpAny_pure ⟨rfl,again I12 q11⟩)
 have start:=loop {s3 with heap:=h4,toks:=s3.toks + ([]:List (Str×Value)).length} (stC Fr Tg σ) (upd H2 D (.lst [])) 0 m0 I4 st4 fr0 w0
 have e5:∀ (s':Shared),s' = {s3 with heap:=h4,toks:=s3.toks + ([]:List (Str×Value)).length}->codeAny (model X.prog X.w) X.A (.compLoop (.ListComp elt [⟨tg,iter,ifs,0⟩] scope pos) 0 (.ref it) (.ref D) (compEnvC scope cl C X.env)) (fun r s'=>∀ V:Env,V.locals=C->V.frame=X.env.frame->RR (.ref D) V r s') s':=by
  rintro _ rfl
  exact start
 exact codeAny_compStart_list (e5 _ rfl) (T.self _ _ _ _ _ st4 (e5 _ rfl))
theorem ke (hc:X.calm=true) (S:CompSc X scope cl Fr Tg) (hi:PI X tg iter wi)
  (hg:∀ C s H fp,PG (cxC X scope cl (Fr.map (·.1)++Tg) C s H fp) tg g) (ht:∀ C s H fp,PTs (cxC X scope cl (Fr.map (·.1)++Tg) C s H fp) ifs tt)
  (he:∀ C s H fp,PE (cxC X scope cl (Fr.map (·.1)++Tg) C s H fp) elt te) (hs:∀ x,foldedSetIterable iter X.env x=pure x:=by intro _;rfl) :
  PE X (.ListComp elt [⟨tg,iter,ifs,0⟩] scope pos) (mS wi (stC Fr Tg) g tt te):=by
 intro pins s σ H Q I h
 rw[eval_ListComp]
 refine wpAny_comprehension_free (use:=none) rfl hs S.clos S.kind S.loc (thn (hi pins s σ H _ I h) fun xv s1 h1=>thn h1 fun itv s2 h2=>?_)
 obtain⟨it,fp,tn,J,H2,rfl,I2,T,st2,f2,q⟩:=h2
 refine eL (XE:=fun _ _ _ _ _ _=>False) (RR:=fun acc V=>compPost (model X.prog X.w) X.A X.xe none (EP X pins σ Q) acc V.locals) hc S hg ht he I2 T st2 f2 q ?_ fun _ _ _ _ _ _ _ z=>z.elim
 intro D C s' H' ⟨m,hn⟩ I' F' q' V hV _
 subst hV
 obtain⟨f0,f1,f2,f3,f4,f5⟩:=F'
 exact⟨m,hn,fun h' sb=>⟨.ref D,H',I'.turned (t':=s'.toks) (fun b o hb e=>(sb.2 b hb).trans e) f0 f1 f3 f4 f5,rfl,q'⟩⟩
theorem ra {y:Str} {py spos:Pos} {i:Nat} (hc:X.calm=true) (hN:X.N.Nodup) (hiN:X.N[i]? = some y) (hy:X.env.kindOf y=some .local) (S:CompSc X scope cl Fr Tg) (hi:PI X tg iter wi)
  (hg:∀ C s H fp,PG (cxC X scope cl (Fr.map (·.1)++Tg) C s H fp) tg g) (ht:∀ C s H fp,PTs (cxC X scope cl (Fr.map (·.1)++Tg) C s H fp) ifs tt)
  (he:∀ C s H fp,PE (cxC X scope cl (Fr.map (·.1)++Tg) C s H fp) elt te)
  (hsw:swapsWith (.ListComp elt [⟨tg,iter,ifs,0⟩] scope pos) (some (.Name y py)) spos.line X.env=pure true) (hs:∀ x,foldedSetIterable iter X.env x=pure x:=by intro _;rfl) :
  PS X (.Assign [.Name y py] (.ListComp elt [⟨tg,iter,ifs,0⟩] scope pos) spos) (fun D σ H=>mS wi (stC Fr Tg) g tt te σ H fun v H'=>D.nx (σ.set i (some v)) H'):=by
 intro pins s σ H D I h
 rw[exec_Assign_Name_used _ _ _ _ hsw]
 refine wpAny_bind (wpAny_standAt (wpAny_bind ?_))
 show wpAny _ X.A (do let _ <- comprehension (.ListComp elt [⟨tg,iter,ifs,0⟩] scope pos) scope X.env _ (newList []) false (eval iter X.env) (some (assign (.Name y py) X.env))) _ _ s
 refine wpAny_bind (thn (wpAny_comprehension_free (use:=some (assign (.Name y py) X.env)) (Q:=fun _ s'=>SP X pins D .next s') rfl hs S.clos S.kind S.loc
  (thn (hi pins s σ H _ I h) fun xv s1 h1=>thn h1 fun itv s2 h2=>?_)) fun _ s' hq=>wpAny_pure (wpAny_pure hq))
 obtain⟨it,fp,tn,J,H2,rfl,I2,T,st2,f2,q⟩:=h2
 refine eL (Q:=fun v H'=>D.nx (σ.set i (some v)) H') (XE:=fun _ _ _ _ _ _=>False) (RR:=fun acc V=>compPost (model X.prog X.w) X.A X.xe (some (assign (.Name y py) X.env)) (fun _ s'=>SP X pins D .next s') acc V.locals) hc S hg ht he I2 T st2 f2 q ?_ fun _ _ _ _ _ _ _ z=>z.elim
 intro D' C s' H' ⟨m,hn⟩ I' F' q' V hV _
 subst hV
 obtain⟨f0,f1,f2,f3,f4,f5⟩:=F'
 show wpAny _ X.A (assign (.Name y py) X.env (.ref D')) _ _ _
 refine wpAny_assign_Name (fM I' hN hiN (.inl hy) (show RelV (.ref D') (.ref D') from rfl) (fun s'' I'' ⟨a,sb,ha⟩=>?_) (.inr hy))
 have hCa:V.locals≠a:=by
  rcases ha with rfl | ha
  ·exact f1
  ·exact fun z=>f4 y a ha z.symm
 refine⟨m,hn.sameBut sb hCa,fun h' sb'=>⟨_,H',I''.turned (t':=s''.toks) (fun b o hb e=>(sb'.2 b hb).trans e) f0 f1 f3 f4 f5,q'⟩⟩
end
open PySem.SeqAt
section
variable {prog:Program} {w:World} {A:Around} {E:Value->Shared->Prop} {s:Shared}
end
section
variable {X:Cx} {e:Expr} {t:TE} {p p' pos pos':Pos}
end
section
variable {X:Cx}
theorem iD {x:Str} {n:Int} (h0 : -16000<=n) (h1:n<=16000) (hx:x.length<=1000):MulOk x n:=by
 refine⟨?_,fun hn _=>?_,fun hn _=>?_⟩
 ·rw[Bool.or_eq_false_iff]
  exact⟨decide_eq_false (by omega),decide_eq_false (by omega)⟩
 ·have:(1000:Int)<=(2 ^ 63 - 1) / n:=Int.le_ediv_of_mul_le (by omega) (by omega)
  omega
 ·have:x.length * n.toNat<=1000 * 16000:=Nat.mul_le_mul hx (by omega)
  unfold Builtin.Str.tooLong
  exact decide_eq_false (by rw[sizeLine_eq];omega)
theorem jx:OpR X (binaryOp .Mult) (fun x y H Q=>∃ i j,x=.str i/\y=.int j/\-16000<=j/\j<=16000/\i.length<=1000/\Q (.str (Txt.mul i j)) H):=by
 intro pins s σ H x y v u Q I rx ry h
 obtain⟨i,j,rfl,rfl,h0,h1,hz,q⟩:=h
 obtain⟨t,rfl⟩:=rx
 obtain⟨t',rfl⟩:=ry
 exact SB.mul (iD h0 h1 hz) fun t' tk=>⟨.str (Txt.mul i j),H,I.tok _,⟨_,rfl⟩,q⟩
noncomputable def dF (z:Str):List V:=z.cps.toList.map fun c=>.str ⟨#[c]⟩
theorem jy {z:Str} {acc':Array Value} (hacc:ItemsOf (SignAt z) acc' z.cps.size):Vals (dF z) acc'.toList:=by
 have hl:acc'.toList.length=z.cps.toList.length:=by rw[Array.length_toList,Array.length_toList,hacc.1]
 have key:∀ (cs:List Nat) (vs:List Value),vs.length=cs.length->(∀ (i:Nat) (v:Value),vs[i]? = some v->∃ c u,cs[i]? = some c/\v=Value.str ⟨#[c]⟩ u)->Vals (cs.map fun c=>V.str ⟨#[c]⟩) vs:=by
  intro cs
  induction cs with
  | nil=>
   intro vs hl _
   cases vs with
   | nil=>exact .nil
   | cons _ _=>cases hl
  | cons c cs ih=>
   intro vs hl hv
   cases vs with
   | nil=>cases hl
   | cons v vs=>
    obtain⟨c',u,e1,e2⟩:=hv 0 v rfl
    have e1':c=c':=by simpa using e1
    subst e1' e2
    exact .cons ⟨u,rfl⟩ (ih vs (by simpa using hl) fun i w hw=>by simpa using hv (i + 1) w (by simpa using hw))
 refine key _ _ hl fun i v hv=>?_
 obtain⟨c,u,e1,e2⟩:=hacc.2 i v (by rw[<- Array.getElem?_toList];exact hv)
 exact⟨c,u,by rw[Array.getElem?_toList];exact e1,e2⟩
theorem eM (hc:X.calm=true):bE X (.type "tuple") (fun xs H Q=>∃ z:Str,xs=[.str z]/\z.length<=sizeLine/\∀ l,H l=none->Q (.ref l) (upd H l (.tup (dF z)))):=by
 intro pins s σ H xs us Q I r h
 obtain⟨z,rfl,hz,q⟩:=h
 obtain⟨u,rfl,t,rfl⟩:=vals1 r
 refine call_tuple_str (hsz:=hz) (show X.A.handled=none from I.ok.hd hc) z t (fun h' tk acc kp hacc=>?_)
 have rv:=jy hacc
 have I1:Inv X pins σ H {s with heap:=h',toks:=tk}:=I.kept (t':=tk) kp
 exact⟨.ref _,_,I1.laid (t':=tk) (fun b o e=>Heap.get?_push_of_some _ e) (Nat.le_refl _) (show aD X.prog X.w _ _ _ (.tup (dF z)) from ⟨by unfold dF;simpa[Str.length] using hz,acc.toList,rv,by simpa using IsTup.new h' acc⟩),rfl,q _ (I1.hok.fresh (Nat.le_refl _))⟩
end
open PySem.W
section
variable {prog:Program} {w:World} {A:Around} {E:Value->Shared->Prop} {s:Shared}
end
section
variable {n:Nat}
end
section
variable {prog:Program} {w:World} {A:Around} {E:Value->Shared->Prop} {s:Shared}
end
section
variable {prog:Program} {w:World} {A:Around} {E:Value->Shared->Prop} {s:Shared}
end
section
variable {X:Cx}
end
section
variable {X:Cx}
end
section
variable {X:Cx}
end
section
variable {κ:Type} [DecidableEq κ]
noncomputable def dG (kvs:List (κ×V)) (k:κ):Option V:=(kvs.find? fun kv=>decide (kv.1=k)).map (·.2)
noncomputable def putK (kvs:List (κ×V)) (k:κ) (v:V):List (κ×V):=
 if (kvs.any fun kv=>decide (kv.1=k))=true then kvs.map (fun kv=>if kv.1=k then (kv.1,v) else kv) else kvs++[(k,v)]
theorem eN {p:κ×V} {r:List (κ×V)} {k:κ} (e:p.1=k):dG (p::r) k=some p.2:=by simp[dG,List.find?_cons,e]
theorem eO {p:κ×V} {r:List (κ×V)} {k:κ} (e:¬ p.1=k):dG (p::r) k=dG r k:=by simp[dG,List.find?_cons,e]
theorem iE (k:κ):∀ kvs:List (κ×V),(kvs.any fun kv=>decide (kv.1=k))=(dG kvs k).isSome
 | []=>rfl
 | p::r=>by
  rw[List.any_cons]
  by_cases e:p.1=k
  ·simp only[eN e,decide_eq_true e,Bool.true_or,Option.isSome_some]
  ·rw[eO e,decide_eq_false e,Bool.false_or];exact iE k r
theorem dW (kvs:List (κ×V)) (k:κ) (v:V):(putK kvs k v).length<=kvs.length + 1:=by
 unfold putK
 split
 ·rw[List.length_map];omega
 ·rw[List.length_append,List.length_cons,List.length_nil];omega
theorem lM.isSome_eq {o:Option V} {u:Option Value} (r:lM o u):o.isSome=u.isSome:=by
 cases o with
 | none=>cases u with
  | none=>rfl
  | some _=>exact(show False from r).elim
 | some _=>cases u with
  | none=>exact(show False from r).elim
  | some _=>rfl
theorem KV.val {kvs:List (κ×V)} {vs:List (κ×Value)} (r:KV kvs vs) (k:κ):lM (dG kvs k) (valueAt vs k):=by
 unfold KV at r
 induction r with
 | nil=>exact True.intro
 | @cons p q ps qs h t ih=>
  obtain⟨h1,h2⟩:=h
  by_cases e:p.1=k
  ·have e':q.1=k:=h1.symm.trans e
   have b:valueAt (q::qs) k=some q.2:=by simp[valueAt,List.find?_cons,e']
   rw[eN e,b];exact h2
  ·have e':¬ q.1=k:=fun z=>e (h1.trans z)
   have b:valueAt (q::qs) k=valueAt qs k:=by simp[valueAt,List.find?_cons,e']
   rw[eO e,b];exact ih
theorem KV.any {kvs:List (κ×V)} {vs:List (κ×Value)} (r:KV kvs vs) (k:κ):(kvs.any fun kv=>decide (kv.1=k))=vs.any fun kv=>decide (kv.1=k):=by
 unfold KV at r
 induction r with
 | nil=>rfl
 | cons h t ih=>rw[List.any_cons,List.any_cons,ih,h.1]
theorem KV.repl {kvs:List (κ×V)} {vs:List (κ×Value)} (r:KV kvs vs) (k:κ) {y:V} {u:Value} (ry:RelV y u) :
  KV (kvs.map fun kv=>if kv.1=k then (kv.1,y) else kv) (vs.map fun kv=>if kv.1=k then (kv.1,u) else kv):=by
 unfold KV at r ⊢
 induction r with
 | nil=>exact .nil
 | @cons p q ps qs h t ih=>
  rw[List.map_cons,List.map_cons]
  refine .cons ?_ ih
  obtain⟨h1,h2⟩:=h
  by_cases e:p.1=k
  ·rw[if_pos e,if_pos (h1.symm.trans e)];exact⟨h1,ry⟩
  ·rw[if_neg e,if_neg (fun z=>e (h1.trans z))];exact⟨h1,h2⟩
theorem KV.put {kvs:List (κ×V)} {vs:List (κ×Value)} (r:KV kvs vs) (k:κ) {y:V} {u:Value} (ry:RelV y u):KV (putK kvs k y) (stored vs k u):=by
 unfold putK stored
 rw[r.any k]
 by_cases e:(vs.any fun kv=>decide (kv.1=k))=true
 ·rw[if_pos e,if_pos e];exact r.repl k ry
 ·rw[if_neg e,if_neg e];exact Paired.snoc r ⟨rfl,ry⟩
theorem KV.length {kvs:List (κ×V)} {vs:List (κ×Value)} (r:KV kvs vs):kvs.length=vs.length:=Paired.length r
end
theorem kf {P:Program} {w:World} {k:Key} {u:Value} (r:RelV (kV k) u):(aQ P w).is k u=true:=by
 cases k with
 | inl i=>obtain⟨t,e⟩:=(show ∃ t,u=Value.int i t from r);subst e;exact ip P w i t
 | inr x=>obtain⟨t,e⟩:=(show ∃ t,u=Value.str x t from r);subst e;exact iq P w x t
theorem fW {P:Program} {w:World}:∀ {ks:List Key} {us:List Value},Vals (ks.map kV) us->ItemsAre (aQ P w) ks us
 | [],_,r=>by rw[List.map_nil] at r;cases r;exact .nil
 | k::ks,_,r=>by
  rw[List.map_cons] at r
  cases r with
  | cons h t=>exact .cons (kf h) (fW t)
noncomputable abbrev KT (H:Hp):List (List Key×V)->List (List Key×Addr×Value)->Prop:=Paired fun p q=>p.1=q.1/\H q.2.1=some (.tup (p.1.map kV))/\RelV p.2 q.2.2
theorem KT.val {H:Hp} {kvs:List (List Key×V)} {xs:List (List Key×Addr×Value)} (r:KT H kvs xs) (k:List Key):lM (dG kvs k) ((atKey xs k).map (·.2)):=by
 induction r with
 | nil=>exact True.intro
 | @cons p q ps qs h t ih=>
  obtain⟨h1,_,h2⟩:=h
  by_cases e:p.1=k
  ·have e':q.1=k:=h1.symm.trans e
   have b:atKey (q::qs) k=some q.2:=by simp[atKey,List.find?_cons,e']
   rw[eN e,b];exact h2
  ·have e':¬ q.1=k:=fun z=>e (h1.trans z)
   have b:atKey (q::qs) k=atKey qs k:=by simp[atKey,List.find?_cons,e']
   rw[eO e,b];exact ih
theorem KT.repl {H:Hp} {kvs:List (List Key×V)} {xs:List (List Key×Addr×Value)} (r:KT H kvs xs) (k:List Key) {y:V} {u:Value} (ry:RelV y u) :
  KT H (kvs.map fun kv=>if kv.1=k then (kv.1,y) else kv) (xs.map (putAt k u)):=by
 induction r with
 | nil=>exact .nil
 | @cons p q ps qs h t ih=>
  rw[List.map_cons,List.map_cons]
  refine .cons ?_ ih
  obtain⟨h1,h2,h3⟩:=h
  unfold putAt
  by_cases e:p.1=k
  ·rw[if_pos e,if_pos (h1.symm.trans e)];exact⟨h1,h2,ry⟩
  ·rw[if_neg e,if_neg (fun z=>e (h1.trans z))];exact⟨h1,h2,h3⟩
theorem KT.put {H:Hp} {kvs:List (List Key×V)} {xs:List (List Key×Addr×Value)} (r:KT H kvs xs) (k:List Key) {b:Addr} {y:V} {u:Value} (hb:H b=some (.tup (k.map kV))) (ry:RelV y u) :
  KT H (putK kvs k y) (storedH xs k b u):=by
 have e:(kvs.any fun kv=>decide (kv.1=k))=(atKey xs k).isSome:=by
  rw[iE,(r.val k).isSome_eq,Option.isSome_map]
 unfold putK storedH
 rw[e]
 by_cases q:(atKey xs k).isSome=true
 ·rw[if_pos q,if_pos q];exact r.repl k ry
 ·rw[if_neg q,if_neg q];exact Paired.snoc r ⟨rfl,hb,ry⟩
theorem KT.keeps {H H':Hp} {kvs:List (List Key×V)} {xs:List (List Key×Addr×Value)} (r:KT H kvs xs) (ht:∀ b ys,H b=some (.tup ys)->H' b=some (.tup ys)):KT H' kvs xs:=
 Paired.mapP r fun _ _ z=>⟨z.1,ht _ _ z.2.1,z.2.2⟩
section
variable {P:Program} {w:World} {H:Hp} {h:Heap} {a:Addr}
theorem sR {u:HO} (ok:HOk P w H h) (e:Rd H a u):aD P w H h a u:=e.ok ok
theorem mT {kvs:List (Key×V)} (ok:HOk P w H h) (e:Rd H a (.dK kvs)):kvs.length<=sizeLine/\(a == sysModules)=false/\∃ vs,KV kvs vs/\h.DictOf (aQ P w) a vs:=
 show aD P w H h a (.dK kvs) from sR ok e
theorem xZ {kvs:List (Key×V)} (ok:HOk P w H h) (e:H a=some (.dK kvs)):kvs.length<=sizeLine/\(a == sysModules)=false/\∃ vs,KV kvs vs/\h.DictOf (aQ P w) a vs:=mT ok (.inl e)
theorem gF {ks:List Key} (ok:HOk P w H h) (e:H a=some (.tup (ks.map kV))):(tupleKind (aQ P w)).is h ks a:=by
 obtain⟨_,its,r,o,h1,h2,n,h3⟩:=(show aD P w H h a (.tup (ks.map kV)) from ok a _ e)
 exact⟨o,its.toArray,n,h1,h2,h3,by simpa using fW r⟩
theorem mU {kvs:List (List Key×V)} (ok:HOk P w H h) (e:Rd H a (.dT kvs)):kvs.length<=sizeLine/\(a == sysModules)=false/\
  ∃ xs,KT H kvs xs/\h.DictOfH (tupleKind (aQ P w)) a xs:=by
 obtain⟨z,y,xs,r,o,es,ep,h1,h2,h3,h4,h5⟩:=(show aD P w H h a (.dT kvs) from sR ok e)
 refine⟨z,y,xs,r,o,es,ep,h1,h2,h3,h4,fun x hx=>?_,h5⟩
 have all:∀ {l:List (List Key×V)} {m:List (List Key×Addr×Value)},KT H l m->∀ x ∈ m,(tupleKind (aQ P w)).is h x.1 x.2.1:=by
  intro l m q
  induction q with
  | nil=>intro x hx;exact nomatch hx
  | @cons p q ps qs hq t ih=>
   intro x hx
   rcases List.mem_cons.mp hx with e | hx
   ·subst e
    exact gF ok (by rw[<- hq.1];exact hq.2.1)
   ·exact ih x hx
 exact all r x hx
theorem ya {kvs:List (List Key×V)} (ok:HOk P w H h) (e:H a=some (.dT kvs)):kvs.length<=sizeLine/\(a == sysModules)=false/\
  ∃ xs,KT H kvs xs/\h.DictOfH (tupleKind (aQ P w)) a xs:=mU ok (.inl e)
end
noncomputable def lY (H:Hp) (a:Addr) (y:V) (r:Option V):Prop:=
 (∃ kvs k,Rd H a (.dK kvs)/\y=kV k/\r=dG kvs k)∨∃ kvs k b,Rd H a (.dT kvs)/\y=.ref b/\H b=some (.tup (k.map kV))/\r=dG kvs k
noncomputable def yb (H:Hp) (a:Addr) (y v:V) (H':Hp):Prop:=
 (∃ kvs k,H a=some (.dK kvs)/\y=kV k/\kvs.length < sizeLine/\H'=upd H a (.dK (putK kvs k v)))∨
 ∃ kvs k b,H a=some (.dT kvs)/\y=.ref b/\H b=some (.tup (k.map kV))/\kvs.length < sizeLine/\H'=upd H a (.dT (putK kvs k v))
section
variable {X:Cx} {pins:List (Addr×Obj)} {σ:St} {H:Hp} {s:Shared} {a:Addr} {y v:V} {u r:Value} {o:Option V} {A:Around} {E:Value->Shared->Prop}
theorem Inv.big (I:Inv X pins σ H s):sysModules < s.heap.objs.size:=by
 have h:mainGlobals < s.heap.objs.size:=(I.mod.glob.keeps I.bk).lt
 exact Nat.lt_trans (by decide) h
theorem Bc {Q:Value->Shared->Prop} (hu:A.units + 1 < cLine) (I:Inv X pins σ H s) (g:lY H a y o) (ry:RelV y u) (h:∀ s',Inv X pins σ H s'->Q (.bool o.isSome) s') :
  wpAny (model X.prog X.w) A (compareOp .In u (.ref a)) Q E s:=by
 rcases g with ⟨kvs,k,e,ey,l⟩ | ⟨kvs,k,b,e,ey,eb,l⟩
 ·subst ey
  obtain⟨z,hd,vs,rel,dd⟩:=mT I.hok e
  refine wpAny_in_of (kf ry) hd dd.mapOf ?_
  rw[<- (rel.val k).isSome_eq,<- l]
  exact h _ (I.tok _)
 ·subst ey
  cases (show u=Value.ref b from ry)
  obtain⟨z,hd,xs,rel,dd⟩:=mU I.hok e
  refine wpAny_in_heap (tupleKind_room_in1 hu) (gF I.hok eb) hd dd ?_
  have q:=(rel.val k).isSome_eq
  rw[Option.isSome_map] at q
  rw[<- q,<- l]
  exact h _ (I.tok _)
theorem rb {Q:Value->Shared->Prop} (hu:A.units + 1 < cLine) (I:Inv X pins σ H s) (g:lY H a y o) (ry:RelV y u) (h:∀ s',Inv X pins σ H s'->Q (.bool (!o.isSome)) s') :
  wpAny (model X.prog X.w) A (compareOp .NotIn u (.ref a)) Q E s:=by
 rcases g with ⟨kvs,k,e,ey,l⟩ | ⟨kvs,k,b,e,ey,eb,l⟩
 ·subst ey
  obtain⟨z,hd,vs,rel,dd⟩:=mT I.hok e
  refine wpAny_notIn_of (kf ry) hd dd.mapOf ?_
  rw[<- (rel.val k).isSome_eq,<- l]
  exact h _ (I.tok _)
 ·subst ey
  cases (show u=Value.ref b from ry)
  obtain⟨z,hd,xs,rel,dd⟩:=mU I.hok e
  refine wpAny_notIn_heap (tupleKind_room_in1 hu) (gF I.hok eb) hd dd ?_
  have q:=(rel.val k).isSome_eq
  rw[Option.isSome_map] at q
  rw[<- q,<- l]
  exact h _ (I.tok _)
theorem kg {h':Heap} {t':Nat} {ob:HO} (I:Inv X pins σ H s) (mu:Mut (H a)) (hs:Heap.SameBut a s.heap h') (he:∃ q,h'.get? a=some q) (new:aD X.prog X.w (upd H a ob) h' a ob) :
  Inv X pins σ (upd H a ob) {s with heap:=h',toks:=t'}:=
 I.write (x:=a) (e:=a) mu (.inl rfl) (fun b q hb z=>(hs.2 b hb).trans z) he new
theorem vP {P:Program} {w:World} {H':Hp} {h':Heap} {kvs:List (Key×V)} {vs:List (Key×Value)} (z:kvs.length<=sizeLine) (hd:(a == sysModules)=false) (rel:KV kvs vs) (dd:h'.DictOf (aQ P w) a vs) :
  aD P w H' h' a (.dK kvs):=⟨z,hd,vs,rel,dd⟩
theorem lZ {H':Hp} {Q:Unit->Shared->Prop} (hu:A.units + 1 < cLine) (I:Inv X pins σ H s) (g:yb H a y v H') (ry:RelV y u) (rv:RelV v r) (h:∀ s',Inv X pins σ H' s'->Q () s') :
  wpAny (model X.prog X.w) A (setItem (.ref a) u r) Q E s:=by
 rcases g with ⟨kvs,k,e,ey,l,eH⟩ | ⟨kvs,k,b,e,ey,eb,l,eH⟩
 ·subst ey eH
  obtain⟨z,hd,vs,rel,dd⟩:=xZ I.hok e
  have hz:vs.length<=sizeLine:=by rw[<- rel.length];exact z
  have hl:(putK kvs k v).length<=sizeLine:=by have:=dW kvs k v;omega
  refine wpAny_setItem_pairs (hsz:=hz) (kf ry) dd fun h' dd' hs=>h _ ?_
  have he:∃ q,h'.get? a=some q:=let ⟨q,_,_,hq,_⟩:=dd';⟨q,hq⟩
  exact kg I (by rw[e];exact True.intro) hs he (vP hl hd (rel.put k rv) dd')
 ·subst ey eH
  cases (show u=Value.ref b from ry)
  obtain⟨z,hd,xs,rel,dd⟩:=ya I.hok e
  have hz:xs.length<=sizeLine:=by rw[<- Paired.length rel];exact z
  have hl:(putK kvs k v).length<=sizeLine:=by have:=dW kvs k v;omega
  refine wpAny_setItem_heap (hsz:=hz) (tupleKind_room_in1 hu) (gF I.hok eb) dd fun h' dd' hs=>h _ ?_
  obtain⟨q,es,ep,hq,h2,h3,h4,_,h5⟩:=dd'
  refine kg I (by rw[e];exact True.intro) hs ⟨q,hq⟩ ⟨hl,hd,_,(rel.put k eb rv).keeps fun c ys ec=>?_,q,es,ep,hq,h2,h3,h4,h5⟩
  rw[aj (xF ec e (fun z=>nomatch z))]
  exact ec
end
section
variable {X:Cx} {pins:List (Addr×Obj)} {σ:St} {H:Hp} {s:Shared} {a:Addr} {kvs:List (Key×V)} {k:Key} {u:Value} {A:Around} {E:Value->Shared->Prop}
end
noncomputable def Bd (ty td:TE):TE:=fun σ H Q=>ty σ H fun y H1=>td σ H1 fun x H2=>∃ a o,x=.ref a/\lY H2 a y o/\Q (.bl o.isSome) H2
noncomputable def rf (ty td:TE):TE:=fun σ H Q=>ty σ H fun y H1=>td σ H1 fun x H2=>∃ a o,x=.ref a/\lY H2 a y o/\Q (.bl (!o.isSome)) H2
noncomputable def yd (td ty tv:TE):TS:=fun D σ H=>tv σ H fun v H1=>td σ H1 fun x H2=>ty σ H2 fun y H3=>∃ a H4,x=.ref a/\yb H3 a y v H4/\D.nx σ H4
section
variable {X:Cx} {o i e value:Expr} {pos pos' tpos:Pos} {td ty tv:TE}
theorem mV (hu:X.A.units + 1 < cLine) (hi:PE X i ty) (ho:PE X o td):PC X .In i o (Bd ty td):=by
 intro pins s σ H Q I h
 refine thn (hi pins s σ H _ I h) fun iv s1 ⟨y,H1,I1,ry,q1⟩=>thn (ho pins s1 σ H1 _ I1 q1) fun u s2 ⟨x,H2,I2,rx,a,ov,ex,g,q2⟩=>?_
 subst ex
 obtain rfl:u=Value.ref a:=rx
 exact Bc hu I2 g ry fun s3 I3=>⟨.bl ov.isSome,H2,I3,rfl,q2⟩
theorem fX (hu:X.A.units + 1 < cLine) (hi:PE X i ty) (ho:PE X o td):PC X .NotIn i o (rf ty td):=by
 intro pins s σ H Q I h
 refine thn (hi pins s σ H _ I h) fun iv s1 ⟨y,H1,I1,ry,q1⟩=>thn (ho pins s1 σ H1 _ I1 q1) fun u s2 ⟨x,H2,I2,rx,a,ov,ex,g,q2⟩=>?_
 subst ex
 obtain rfl:u=Value.ref a:=rx
 exact rb hu I2 g ry fun s3 I3=>⟨.bl (!ov.isSome),H2,I3,rfl,q2⟩
theorem rg (hu:X.A.units + 1 < cLine) (ho:PE X o td) (hi:PE X i ty) (hv:PE X value tv) (hs:swapsWith value (some (.Subscript o i pos')) pos.line X.env=pure false) :
  PS X (.Assign [.Subscript o i pos'] value pos) (yd td ty tv):=by
 intro pins s σ H D I h
 refine wpAny_Assign_Subscript (thn (hv pins s σ H _ I h) fun r s1 ⟨v,H1,I1,rv,q1⟩=>thn (ho pins s1 σ H1 _ I1 q1) fun u s2 ⟨x,H2,I2,rx,q2⟩=>thn (hi pins s2 σ H2 _ I2 q2) fun iv s3 ⟨y,H3,I3,ry,a,H4,ex,g,q3⟩=>?_) hs
 subst ex
 obtain rfl:u=Value.ref a:=rx
 exact lZ hu I3 g ry rv fun s4 I4=>⟨σ,H4,I4,q3⟩
end
theorem mW {P:Program} {w:World} {H:Hp} (h:Heap) (hb:sysModules < h.objs.size):aD P w H (h.push {cls:=.type "dict",data:=.dict #[]}) h.objs.size (.dK []):=
 ⟨Nat.zero_le _,beq_eq_false_iff_ne.mpr (Ne.symm (Nat.ne_of_lt hb)),[],.nil,Heap.DictOf.new h⟩
noncomputable def vQ:TE:=fun _ H Q=>∀ p,H p=none->Q (.ref p) (upd H p (.dK []))
section
variable {X:Cx} {pos:Pos}
theorem iF:PE X (.Dict [] [] pos) vQ:=fun pins s σ H Q I h=>
 wpAny_Dict_empty ⟨.ref s.heap.objs.size,_,I.laid (a:=s.heap.objs.size) (o:=.dK []) (t':=s.toks) (fun _ _ q=>Heap.get?_push_of_some _ q) (Nat.le_refl _) (mW s.heap I.big),rfl,h _ (I.hok.fresh (Nat.le_refl _))⟩
end
structure M1 (X:Cx) (o:Expr) (m:Str) (apos:Pos) (e:Expr) (cpos:Pos):Prop where
 base:attributeBase o m X.env (eval o X.env)=eval o X.env
 few:((backTo cpos (starEach [e] X.env)).all (fun x=>!x.1) && (backToKw cpos (keywordEach [] X.env)).all (fun x=>x.1.isSome)
  && decide (([e]:List Expr).length + ([]:List Keyword).length + (if ([]:List Keyword).isEmpty then 0 else 1) < 30))=true
 line:(apos.endLine == cpos.line)=true
 trees:backTo cpos (starEach [e] X.env)=[(false,eval e X.env)]
structure M2 (X:Cx) (o:Expr) (m:Str) (apos:Pos) (e f:Expr) (cpos:Pos):Prop where
 base:attributeBase o m X.env (eval o X.env)=eval o X.env
 few:((backTo cpos (starEach [e,f] X.env)).all (fun x=>!x.1) && (backToKw cpos (keywordEach [] X.env)).all (fun x=>x.1.isSome)
  && decide (([e,f]:List Expr).length + ([]:List Keyword).length + (if ([]:List Keyword).isEmpty then 0 else 1) < 30))=true
 line:(apos.endLine == cpos.line)=true
 trees:backTo cpos (starEach [e,f] X.env)=[(false,eval e X.env),(false,eval f X.env)]
section
variable {X:Cx} {pins:List (Addr×Obj)} {σ:St} {H:Hp} {s:Shared} {a:Addr} {y d:V} {u r:Value} {o:Option V} {A:Around} {E:Value->Shared->Prop}
end
section
variable {X:Cx} {o e f:Expr} {apos cpos:Pos} {td ty tx:TE}
end
section
variable {X:Cx} {pins:List (Addr×Obj)} {σ:St} {H:Hp} {s:Shared} {a:Addr} {kvs:List (Key×V)} {A:Around} {E:Value->Shared->Prop}
end
section
variable {X:Cx} {pins:List (Addr×Obj)} {σ:St} {H:Hp} {s:Shared} {a:Addr} {y:V} {u:Value} {A:Around} {E:Value->Shared->Prop}
end
open PySem.Builtin PySem.Builtin.Str
section
variable {X:Cx}
end
section
variable {X:Cx}
end
end L2
namespace L2.Zp
open PySem
inductive Kq where
 | l | t
noncomputable def Sq (k:Kq) (h:Heap) (a:Addr) (xs:Array Value):Prop:=match k with
 | .l=>h.IsList a xs
 | .t=>h.IsTuple a xs
noncomputable def It (k:Kq) (h:Heap) (i a:Addr) (n:Nat):Prop:=match k with
 | .l=>h.IsListIter i a n
 | .t=>h.IsTupleIter i a n
theorem Sq.to {k:Kq} {h h':Heap} {a:Addr} {xs:Array Value} (q:Sq k h a xs) (e:∀ o,h.get? a=some o->h'.get? a=some o):Sq k h' a xs:=by
 cases k with
 | l=>obtain⟨o,ho,r⟩:=q;exact⟨o,e o ho,r⟩
 | t=>obtain⟨o,ho,r⟩:=q;exact⟨o,e o ho,r⟩
theorem It.to {k:Kq} {h h':Heap} {i a:Addr} {n:Nat} (q:It k h i a n) (e:∀ o,h.get? i=some o->h'.get? i=some o):It k h' i a n:=by
 cases k with
 | l=>obtain⟨o,ho,r⟩:=q;exact⟨o,e o ho,r⟩
 | t=>obtain⟨o,ho,r⟩:=q;exact⟨o,e o ho,r⟩
theorem It.lt {k:Kq} {h:Heap} {i a:Addr} {n:Nat} (q:It k h i a n):i < h.objs.size:=by
 cases k with
 | l=>obtain⟨o,ho,_⟩:=q;exact Heap.lt_size ho
 | t=>obtain⟨o,ho,_⟩:=q;exact Heap.lt_size ho
section
variable {prog:Program} {w:World} {A:Around} {E:Value->Shared->Prop} {s:Shared}
theorem mX {i a:Addr} {n:Nat} {xs:Array Value} {x:Value} {Q:Value->Shared->Prop} (c:s.heap.IsTupleIter i a n) (q:s.heap.IsTuple a xs) (hx:xs[n]? = some x)
  (k:∀ h',h'.IsTupleIter i a (n + 1)->Heap.SameBut i s.heap h'->Q x {s with heap:=h'}):wpAny (model prog w) A (Builtin.SmallTypes.nextOf (.ref i)) Q E s:=by
 have ty:=c.typeIs
 obtain⟨oi,gi,ci,di⟩:=c
 obtain⟨oa,ga,_,na,da⟩:=q
 unfold Builtin.SmallTypes.nextOf
 refine wpAny_bind (wpAny_callSpecial?_slot (name:=Str.ofString "__next__") ty F.slot_tuple_iterator_next (wpAny_call_entry F.slot_tuple_iterator_next ty F.entry_tuple_iterator_next ?_ (F.args_tuple_iterator_next_1 _)))
 show wpAny _ _ (field (.ref i) 0 >>= _) _ _ s
 refine wpAny_bind (wpAny_field gi di (x:=.ref a) rfl ?_)
 show wpAny _ _ (if (Value.ref a == Value.none)=true then _ else _) _ _ s
 rw[if_neg (by intro z;cases z)]
 show wpAny _ _ (field (.ref i) 1 >>= _) _ _ s
 refine wpAny_bind (wpAny_field gi di (x:=.int n 0) rfl ?_)
 show wpAny _ _ (seqItems? (.ref a) >>= _) _ _ s
 refine wpAny_bind (wpAny_seqItems ga da ?_)
 simp only[Int.toNat_natCast,hx]
 refine wpAny_bind (wpAny_setField gi di (by simp) (wpAny_pure ⟨x,rfl,wpAny_pure (k _ ⟨_,Heap.get?_update_self _ gi (Obj.isFreed_of_fields (Obj.data_mapFields di _)),(Obj.cls_mapFields ..).trans ci,?_⟩ (Heap.SameBut.update ..))⟩))
 rw[Obj.data_mapFields di]
 simp[rawInt]
theorem rh {i a:Addr} {n:Nat} {xs:Array Value} {Q:Value->Shared->Prop} (hh:A.handled=none) (c:s.heap.IsTupleIter i a n) (q:s.heap.IsTuple a xs) (hx:xs[n]? = none)
  (k:∀ h' e,Heap.ExtBut i s.heap h'->(∃ o,h'.get? e=some o/\o.cls=.type "StopIteration")->E (.ref e) {s with heap:=h'}):wpAny (model prog w) A (Builtin.SmallTypes.nextOf (.ref i)) Q E s:=by
 have ty:=c.typeIs
 obtain⟨oi,gi,ci,di⟩:=c
 obtain⟨oa,ga,_,na,da⟩:=q
 unfold Builtin.SmallTypes.nextOf
 refine wpAny_bind (wpAny_callSpecial?_slot (name:=Str.ofString "__next__") ty F.slot_tuple_iterator_next (wpAny_call_entry F.slot_tuple_iterator_next ty F.entry_tuple_iterator_next ?_ (F.args_tuple_iterator_next_1 _)))
 show wpAny _ _ (field (.ref i) 0 >>= _) _ _ s
 refine wpAny_bind (wpAny_field gi di (x:=.ref a) rfl ?_)
 show wpAny _ _ (if (Value.ref a == Value.none)=true then _ else _) _ _ s
 rw[if_neg (by intro z;cases z)]
 show wpAny _ _ (field (.ref i) 1 >>= _) _ _ s
 refine wpAny_bind (wpAny_field gi di (x:=.int n 0) rfl ?_)
 show wpAny _ _ (seqItems? (.ref a) >>= _) _ _ s
 refine wpAny_bind (wpAny_seqItems ga da ?_)
 simp only[Int.toNat_natCast,hx]
 refine wpAny_bind (wpAny_rule (wpAny_bind (wpAny_setField gi di (by simp) (wpAny_bind ?_))))
 simp only[newExc,newTuple]
 refine wpAny_bind (wpAny_newObj_type (wpAny_bind (m:=firstArgMember _ _) (wpAny_of_eq (a:=Value.none) (by first | rfl | (simp only[firstArgMember];rfl)) (wpAny_newObj_type ?_ (by size_fits)))) (by size_fits))
 simp only[raiseNew]
 refine wpAny_bind (wpAny_handled ?_)
 first | rw[show A.in1.handled=none from hh] | rw[hh]
 exact wpAny_bind (wpAny_pure (wpAny_throw (k _ _ (((Heap.SameBut.update ..).extBut.push _).push _) ⟨_,Heap.get?_push_size _ rfl,rfl⟩)))
theorem gG {k:Kq} {i a:Addr} {n:Nat} {xs:Array Value} {x:Value} {Q:Value->Shared->Prop} (c:It k s.heap i a n) (q:Sq k s.heap a xs) (hx:xs[n]? = some x)
  (f:∀ h',It k h' i a (n + 1)->Heap.SameBut i s.heap h'->Q x {s with heap:=h'}):wpAny (model prog w) A (Builtin.SmallTypes.nextOf (.ref i)) Q E s:=by
 cases k with
 | l=>exact wpAny_nextOf_list_item c q hx f
 | t=>exact mX c q hx f
theorem mY {k:Kq} {i a:Addr} {n:Nat} {xs:Array Value} {Q:Value->Shared->Prop} (hh:A.handled=none) (c:It k s.heap i a n) (q:Sq k s.heap a xs) (hx:xs[n]? = none)
  (f:∀ h' e,Heap.ExtBut i s.heap h'->(∃ o,h'.get? e=some o/\o.cls=.type "StopIteration")->E (.ref e) {s with heap:=h'}):wpAny (model prog w) A (Builtin.SmallTypes.nextOf (.ref i)) Q E s:=by
 cases k with
 | l=>exact wpAny_nextOf_list_end hh c q hx f
 | t=>exact rh hh c q hx f
end
section
variable {prog:Program} {w:World} {A:Around} {E:Value->Shared->Prop} {s:Shared}
noncomputable def Kept (z TO i j:Addr) (h h':Heap):Prop:=∀ c o,c≠z->c≠TO->c≠i->c≠j->h.get? c=some o->h'.get? c=some o
theorem l4 {p q:Kq} {z TI TO i j l m:Addr} {n n':Nat} {xs ys:Array Value} {x y a b:Value} {Q:Value->Shared->Prop} (D:ZipApart z TI TO i j l m) (hz:IsZip s.heap z TI TO .none) (hI:IsPair s.heap TI (.ref i) (.ref j)) (hO:IsPair s.heap TO a b)
  (ci:It p s.heap i l n) (cj:It q s.heap j m n') (sl:Sq p s.heap l xs) (sm:Sq q s.heap m ys) (hx:xs[n]? = some x) (hy:ys[n']? = some y)
  (k:∀ h',IsZip h' z TI TO (rawInt s.heap.objs.size)->IsPair h' TO x y->It p h' i l (n + 1)->It q h' j m (n' + 1)->IsPair h' s.heap.objs.size x y->h'.objs.size=s.heap.objs.size + 1->Kept z TO i j s.heap h'->Q (.ref s.heap.objs.size) {s with heap:=h'}) :
  wpAny (model prog w) A (Builtin.«zip.__next__» ⟨[.ref z],[]⟩) (fun fin s'=>∃ v,fin=.done (.ret v)/\Q v s') E s:=by
 show wpAny _ _ (field (.ref z) 2 >>= _) _ _ _
 refine wpAny_bind (wpAny_field hz rfl (x:=.bool false) rfl ?_)
 show wpAny _ _ (field (.ref z) 3 >>= _) _ _ _
 refine wpAny_bind (wpAny_field hz rfl (x:=.ref TI) rfl (wpAny_bind (wpAny_seqItems hI rfl ?_)))
 show wpAny _ _ (Builtin.SmallTypes.ownedTupleIsFree (.ref z) >>= _) _ _ _
 refine wpAny_bind ?_
 unfold Builtin.SmallTypes.ownedTupleIsFree
 refine wpAny_bind (wpAny_field hz rfl (x:=.none) rfl (wpAny_pure ?_))
 simp only[if_true]
 refine wpAny_bind (wpAny_rule (wpAny_bind (wpAny_field hz rfl (x:=.ref TO) rfl (wpAny_bind (wpAny_setField_rec hz (by simp) fun h1 z1 e1=>?_)))))
 have z1':IsZip h1 z TI TO .ellipsis:=z1
 refine wpAny_bind ?_
 simp only[List.zipIdx_cons,List.zipIdx_nil,List.forIn_cons,List.forIn_nil]
 refine wpAny_bind (wpAny_bind (wpAny_onRaise ?_))
 show wpAny _ _ (Builtin.SmallTypes.nextOf (.ref i) >>= _) _ _ _
 refine wpAny_bind (gG (ci.to fun o e=>e1.extBut _ _ D.i1z e) (sl.to fun o e=>e1.extBut _ _ D.l1z e) hx fun h2 ci2 e2=>wpAny_pure ?_)
 have O2:IsPair h2 TO a b:=e2.extBut _ _ D.TOi1 (e1.extBut _ _ D.TOz hO)
 refine wpAny_bind (wpAny_seqItems O2 rfl (wpAny_bind (wpAny_updateSeq_pair O2 fun h3 O3 e3=>?_)))
 have O3':IsPair h3 TO x b:=O3
 refine wpAny_bind (wpAny_letGo (wpAny_pure (wpAny_bind (wpAny_bind (wpAny_onRaise ?_)))))
 show wpAny _ _ (Builtin.SmallTypes.nextOf (.ref j) >>= _) _ _ _
 refine wpAny_bind (gG (cj.to fun o e=>e3.extBut _ _ D.TOi2.symm (e2.extBut _ _ D.i12.symm (e1.extBut _ _ D.i2z e))) (sm.to fun o e=>e3.extBut _ _ D.l2TO (e2.extBut _ _ D.l2i1 (e1.extBut _ _ D.l2z e))) hy fun h4 cj4 e4=>wpAny_pure ?_)
 have O4:IsPair h4 TO x b:=e4.extBut _ _ D.TOi2 O3'
 refine wpAny_bind (wpAny_seqItems O4 rfl (wpAny_bind (wpAny_updateSeq_pair O4 fun h5 O5 e5=>?_)))
 have O5':IsPair h5 TO x y:=O5
 refine wpAny_bind (wpAny_letGo (wpAny_pure (wpAny_pure (wpAny_bind (wpAny_seqItems O5' rfl (wpAny_bind (wpAny_newTuple ?_)))))))
 have sz:h5.objs.size=s.heap.objs.size:=by rw[e5.1,e4.1,e3.1,e2.1,e1.1]
 have z5:IsZip h5 z TI TO .ellipsis:=e5.extBut _ _ D.TOz.symm (e4.extBut _ _ D.i2z.symm (e3.extBut _ _ D.TOz.symm (e2.extBut _ _ D.i1z.symm z1')))
 have k5:Kept z TO i j s.heap h5:=fun c o c1 c2 c3 c4 e=>e5.extBut _ _ c2 (e4.extBut _ _ c4 (e3.extBut _ _ c2 (e2.extBut _ _ c3 (e1.extBut _ _ c1 e))))
 have ci5:It p h5 i l (n + 1):=ci2.to fun o e=>e5.extBut _ _ D.TOi1.symm (e4.extBut _ _ D.i12 (e3.extBut _ _ D.TOi1.symm e))
 have cj5:It q h5 j m (n' + 1):=cj4.to fun o e=>e5.extBut _ _ D.TOi2.symm e
 have lz:z < h5.objs.size:=Heap.lt_size z5
 show wpAny _ _ (Builtin.SmallTypes.ownedTupleHandOut (.ref z) (.ref h5.objs.size) >>= _) _ _ _
 refine wpAny_bind ?_
 unfold Builtin.SmallTypes.ownedTupleHandOut
 have z6:IsZip (h5.push {cls:=.type "tuple",data:=.seq #[x,y]}) z TI TO .ellipsis:=Heap.get?_push_of_some _ z5
 refine wpAny_bind (wpAny_setField_rec z6 (by simp) fun h7 z7 e7=>wpAny_setField_rec (show IsZip h7 z TI TO (rawInt h5.objs.size) from z7) (by simp) fun h8 z8 e8=>?_)
 have z8':IsZip h8 z TI TO (rawInt h5.objs.size):=z8
 have up:∀ c o,c≠z->h5.get? c=some o->h8.get? c=some o:=fun c o c1 e=>e8.extBut _ _ c1 (e7.extBut _ _ c1 (Heap.get?_push_of_some _ e))
 have t8:IsPair h8 h5.objs.size x y:=e8.extBut _ _ (Nat.ne_of_gt lz) (e7.extBut _ _ (Nat.ne_of_gt lz) (Heap.get?_push_size _ rfl))
 have s8:h8.objs.size=h5.objs.size + 1:=by rw[e8.1,e7.1,Heap.size_push]
 rw[sz] at z8' t8 s8
 refine wpAny_pure ⟨_,rfl,?_⟩
 show Q (.ref h5.objs.size) _
 rw[sz]
 exact k h8 z8' (up _ _ D.TOz O5') (ci5.to fun o e=>up _ o D.i1z e) (cj5.to fun o e=>up _ o D.i2z e) t8 s8 fun c o c1 c2 c3 c4 e=>up c o c1 (k5 c o c1 c2 c3 c4 e)
theorem l5 {p q:Kq} {z TI TO i j l m:Addr} {n n':Nat} {xs ys:Array Value} {a b:Value} {Q:PySem.Fin->Shared->Prop} (hh:A.handled=none) (D:ZipApart z TI TO i j l m) (hz:IsZip s.heap z TI TO .none) (hI:IsPair s.heap TI (.ref i) (.ref j)) (hO:IsPair s.heap TO a b)
  (ci:It p s.heap i l n) (cj:It q s.heap j m n') (sl:Sq p s.heap l xs) (sm:Sq q s.heap m ys) (hend:xs[n]? = none∨ys[n']? = none)
  (k:∀ h' e,Kept z TO i j s.heap h'->(∃ o,h'.get? e=some o/\o.cls=.type "StopIteration")->E (.ref e) {s with heap:=h'}) :
  wpAny (model prog w) A (Builtin.«zip.__next__» ⟨[.ref z],[]⟩) Q E s:=by
 show wpAny _ _ (field (.ref z) 2 >>= _) _ _ _
 refine wpAny_bind (wpAny_field hz rfl (x:=.bool false) rfl ?_)
 show wpAny _ _ (field (.ref z) 3 >>= _) _ _ _
 refine wpAny_bind (wpAny_field hz rfl (x:=.ref TI) rfl (wpAny_bind (wpAny_seqItems hI rfl ?_)))
 show wpAny _ _ (Builtin.SmallTypes.ownedTupleIsFree (.ref z) >>= _) _ _ _
 refine wpAny_bind ?_
 unfold Builtin.SmallTypes.ownedTupleIsFree
 refine wpAny_bind (wpAny_field hz rfl (x:=.none) rfl (wpAny_pure ?_))
 simp only[if_true]
 refine wpAny_bind (wpAny_rule (wpAny_bind (wpAny_field hz rfl (x:=.ref TO) rfl (wpAny_bind (wpAny_setField_rec hz (by simp) fun h1 z1 e1=>?_)))))
 have z1':IsZip h1 z TI TO .ellipsis:=z1
 refine wpAny_bind ?_
 simp only[List.zipIdx_cons,List.zipIdx_nil,List.forIn_cons,List.forIn_nil]
 refine wpAny_bind (wpAny_bind (wpAny_onRaise ?_))
 show wpAny _ _ (Builtin.SmallTypes.nextOf (.ref i) >>= _) _ _ _
 cases hx:xs[n]? with
 | none=>
  refine wpAny_bind (mY hh (ci.to fun o e=>e1.extBut _ _ D.i1z e) (sl.to fun o e=>e1.extBut _ _ D.l1z e) hx fun h2 e e2 he=>?_)
  obtain⟨oe,g,c⟩:=he
  have z2:IsZip h2 z TI TO .ellipsis:=e2 _ _ D.i1z.symm z1'
  have ne:e≠z:=fun v=>by rw[v,z2] at g;cases g;simp at c
  exact wpAny_setField_rec z2 (by simp) fun h3 _ e3=>k h3 e (fun d o c1 _ c3 _ v=>e3.extBut _ _ c1 (e2 _ _ c3 (e1.extBut _ _ c1 v))) ⟨oe,e3.extBut _ _ ne g,c⟩
 | some x=>
  have hy:ys[n']? = none:=by
   rcases hend with v | v
   ·rw[hx] at v;cases v
   ·exact v
  refine wpAny_bind (gG (ci.to fun o e=>e1.extBut _ _ D.i1z e) (sl.to fun o e=>e1.extBut _ _ D.l1z e) hx fun h2 ci2 e2=>wpAny_pure ?_)
  have O2:IsPair h2 TO a b:=e2.extBut _ _ D.TOi1 (e1.extBut _ _ D.TOz hO)
  refine wpAny_bind (wpAny_seqItems O2 rfl (wpAny_bind (wpAny_updateSeq_pair O2 fun h3 O3 e3=>wpAny_bind (wpAny_letGo (wpAny_pure (wpAny_bind (wpAny_bind (wpAny_onRaise ?_))))))))
  show wpAny _ _ (Builtin.SmallTypes.nextOf (.ref j) >>= _) _ _ _
  refine wpAny_bind (mY hh (cj.to fun o e=>e3.extBut _ _ D.TOi2.symm (e2.extBut _ _ D.i12.symm (e1.extBut _ _ D.i2z e))) (sm.to fun o e=>e3.extBut _ _ D.l2TO (e2.extBut _ _ D.l2i1 (e1.extBut _ _ D.l2z e))) hy fun h4 e e4 he=>?_)
  obtain⟨oe,g,c⟩:=he
  have z4:IsZip h4 z TI TO .ellipsis:=e4 _ _ D.i2z.symm (e3.extBut _ _ D.TOz.symm (e2.extBut _ _ D.i1z.symm z1'))
  have ne:e≠z:=fun v=>by rw[v,z4] at g;cases g;simp at c
  exact wpAny_setField_rec z4 (by simp) fun h5 _ e5=>k h5 e (fun d o c1 c2 c3 c4 v=>e5.extBut _ _ c1 (e4 _ _ c4 (e3.extBut _ _ c2 (e2.extBut _ _ c3 (e1.extBut _ _ c1 v))))) ⟨oe,e5.extBut _ _ ne g,c⟩
end
noncomputable def itO:Kq->Addr->Obj
 | .l,a=>{cls:=.type "list_iterator",data:=.fields #[.ref a,.int 0 0]}
 | .t,a=>{cls:=.type "tuple_iterator",data:=.fields #[.ref a,.int 0 0]}
noncomputable def Hi (p:Kq) (h:Heap) (l:Addr):Heap:=h.push (itO p l)
noncomputable def Hj (p q:Kq) (h:Heap) (l m:Addr):Heap:=(Hi p h l).push (itO q m)
noncomputable def HI (p q:Kq) (h:Heap) (l m:Addr):Heap:=(Hj p q h l m).push {cls:=.type "tuple",data:=.seq #[.ref h.objs.size,.ref (Hi p h l).objs.size]}
noncomputable def HO (p q:Kq) (h:Heap) (l m:Addr):Heap:=(HI p q h l m).push {cls:=.type "tuple",data:=.seq #[.none,.none]}
noncomputable def HZ (p q:Kq) (h:Heap) (l m:Addr):Heap:=(HO p q h l m).push {cls:=.type "zip",data:=.fields #[.none,.bool false,.bool false,.ref (Hj p q h l m).objs.size,.ref (HI p q h l m).objs.size]}
theorem vR (l m:Addr) (xs ys:Array Value):Meets (Builtin.«zip.__new__» ⟨[.type "zip",.ref l,.ref m],[]⟩) (fun _ R s=>Sq .l s.heap l xs/\Sq .l s.heap m ys/\R (.ok (.ret (.ref (HO .l .l s.heap l m).objs.size))) {s with heap:=HZ .l .l s.heap l m}):=
 .of_wp fun prog w A R s h=>by
  obtain⟨hp,g,d,tk,os⟩:=s
  obtain⟨q1,q2,h⟩:=h
  have sub:=sub_zip
  have a1:Heap.IsList (Shared.heap ⟨hp,g,d,tk,os⟩) l xs:=q1
  have a2:Heap.IsList (Shared.heap ⟨hp.push {cls:=.type "list_iterator",data:=.fields #[.ref l,.int 0 0]},g,d,tk,os⟩) m ys:=Heap.IsList.push (show hp.IsList m ys from q2) _
  wp_walk using wpAny_pyIter_list a1,wpAny_pyIter_list a2
  exact⟨_,rfl,h⟩
theorem vS (l m:Addr) (xs ys:Array Value):Meets (Builtin.«zip.__new__» ⟨[.type "zip",.ref l,.ref m],[]⟩) (fun _ R s=>Sq .l s.heap l xs/\Sq .t s.heap m ys/\R (.ok (.ret (.ref (HO .l .t s.heap l m).objs.size))) {s with heap:=HZ .l .t s.heap l m}):=
 .of_wp fun prog w A R s h=>by
  obtain⟨hp,g,d,tk,os⟩:=s
  obtain⟨q1,q2,h⟩:=h
  have sub:=sub_zip
  have a1:Heap.IsList (Shared.heap ⟨hp,g,d,tk,os⟩) l xs:=q1
  have a2:Heap.IsTuple (Shared.heap ⟨hp.push {cls:=.type "list_iterator",data:=.fields #[.ref l,.int 0 0]},g,d,tk,os⟩) m ys:=Heap.IsTuple.push (show hp.IsTuple m ys from q2) _
  wp_walk using wpAny_pyIter_list a1,wpAny_pyIter_tuple a2
  exact⟨_,rfl,h⟩
theorem vT (l m:Addr) (xs ys:Array Value):Meets (Builtin.«zip.__new__» ⟨[.type "zip",.ref l,.ref m],[]⟩) (fun _ R s=>Sq .t s.heap l xs/\Sq .l s.heap m ys/\R (.ok (.ret (.ref (HO .t .l s.heap l m).objs.size))) {s with heap:=HZ .t .l s.heap l m}):=
 .of_wp fun prog w A R s h=>by
  obtain⟨hp,g,d,tk,os⟩:=s
  obtain⟨q1,q2,h⟩:=h
  have sub:=sub_zip
  have a1:Heap.IsTuple (Shared.heap ⟨hp,g,d,tk,os⟩) l xs:=q1
  have a2:Heap.IsList (Shared.heap ⟨hp.push {cls:=.type "tuple_iterator",data:=.fields #[.ref l,.int 0 0]},g,d,tk,os⟩) m ys:=Heap.IsList.push (show hp.IsList m ys from q2) _
  wp_walk using wpAny_pyIter_tuple a1,wpAny_pyIter_list a2
  exact⟨_,rfl,h⟩
theorem vU (l m:Addr) (xs ys:Array Value):Meets (Builtin.«zip.__new__» ⟨[.type "zip",.ref l,.ref m],[]⟩) (fun _ R s=>Sq .t s.heap l xs/\Sq .t s.heap m ys/\R (.ok (.ret (.ref (HO .t .t s.heap l m).objs.size))) {s with heap:=HZ .t .t s.heap l m}):=
 .of_wp fun prog w A R s h=>by
  obtain⟨hp,g,d,tk,os⟩:=s
  obtain⟨q1,q2,h⟩:=h
  have sub:=sub_zip
  have a1:Heap.IsTuple (Shared.heap ⟨hp,g,d,tk,os⟩) l xs:=q1
  have a2:Heap.IsTuple (Shared.heap ⟨hp.push {cls:=.type "tuple_iterator",data:=.fields #[.ref l,.int 0 0]},g,d,tk,os⟩) m ys:=Heap.IsTuple.push (show hp.IsTuple m ys from q2) _
  wp_walk using wpAny_pyIter_tuple a1,wpAny_pyIter_tuple a2
  exact⟨_,rfl,h⟩
theorem vV (p q:Kq) (l m:Addr) (xs ys:Array Value):Meets (Builtin.«zip.__new__» ⟨[.type "zip",.ref l,.ref m],[]⟩) (fun _ R s=>Sq p s.heap l xs/\Sq q s.heap m ys/\R (.ok (.ret (.ref (HO p q s.heap l m).objs.size))) {s with heap:=HZ p q s.heap l m}):=by
 cases p<;>cases q
 ·exact vR l m xs ys
 ·exact vS l m xs ys
 ·exact vT l m xs ys
 ·exact vU l m xs ys
theorem mZ {k:Kq} {h h':Heap} {i a:Addr} (e:h'.get? i=some (itO k a)):It k h' i a 0:=by
 cases k with
 | l=>exact⟨_,e,rfl,rfl⟩
 | t=>exact⟨_,e,rfl,rfl⟩
theorem iG (k:Kq) (a:Addr):(itO k a).isFreed=false:=by cases k<;>rfl
section
variable {prog:Program} {w:World} {A:Around} {E:Value->Shared->Prop} {s:Shared}
theorem call_zip {p q:Kq} {l m:Addr} {xs ys:Array Value} {Q:Value->Shared->Prop} (h1:Sq p s.heap l xs) (h2:Sq q s.heap m ys)
  (k:∀ h',IsZip h' (s.heap.objs.size + 4) (s.heap.objs.size + 2) (s.heap.objs.size + 3) .none->IsPair h' (s.heap.objs.size + 2) (.ref s.heap.objs.size) (.ref (s.heap.objs.size + 1))->IsPair h' (s.heap.objs.size + 3) .none .none->
   It p h' s.heap.objs.size l 0->It q h' (s.heap.objs.size + 1) m 0->h'.objs.size=s.heap.objs.size + 5->(∀ c o,s.heap.get? c=some o->h'.get? c=some o)->Q (.ref (s.heap.objs.size + 4)) {s with heap:=h'}) :
  wpAny (model prog w) A (call (.type "zip") [.ref l,.ref m]) Q E s:=by
 refine callType_new F.called_zip (by decide) (F.typeCall_zip_2 _ _) (F.newCall_zip_2 _ _) (fun obj=>F.args_object_init_3 obj _ _) F.entry_zip_new (vV p q l m xs ys) ⟨h1,h2,?_⟩
 have n1:(Hi p s.heap l).objs.size=s.heap.objs.size + 1:=Heap.size_push ..
 have n2:(Hj p q s.heap l m).objs.size=s.heap.objs.size + 2:=(Heap.size_push ..).trans (by rw[n1])
 have n3:(HI p q s.heap l m).objs.size=s.heap.objs.size + 3:=(Heap.size_push ..).trans (by rw[n2])
 have n4:(HO p q s.heap l m).objs.size=s.heap.objs.size + 4:=(Heap.size_push ..).trans (by rw[n3])
 have n5:(HZ p q s.heap l m).objs.size=s.heap.objs.size + 5:=(Heap.size_push ..).trans (by rw[n4])
 have upZ:∀ c o,(HO p q s.heap l m).get? c=some o->(HZ p q s.heap l m).get? c=some o:=fun c o e=>Heap.get?_push_of_some _ e
 have upO:∀ c o,(HI p q s.heap l m).get? c=some o->(HZ p q s.heap l m).get? c=some o:=fun c o e=>upZ c o (Heap.get?_push_of_some _ e)
 have upI:∀ c o,(Hj p q s.heap l m).get? c=some o->(HZ p q s.heap l m).get? c=some o:=fun c o e=>upO c o (Heap.get?_push_of_some _ e)
 have upJ:∀ c o,(Hi p s.heap l).get? c=some o->(HZ p q s.heap l m).get? c=some o:=fun c o e=>upI c o (Heap.get?_push_of_some _ e)
 have g5:(HZ p q s.heap l m).get? (HO p q s.heap l m).objs.size=some _:=Heap.get?_push_size _ rfl
 have g4:(HZ p q s.heap l m).get? (HI p q s.heap l m).objs.size=some {cls:=.type "tuple",data:=.seq #[.none,.none]}:=upZ _ _ (Heap.get?_push_size _ rfl)
 have g3:(HZ p q s.heap l m).get? (Hj p q s.heap l m).objs.size=some {cls:=.type "tuple",data:=.seq #[.ref s.heap.objs.size,.ref (Hi p s.heap l).objs.size]}:=upO _ _ (Heap.get?_push_size _ rfl)
 have g2:(HZ p q s.heap l m).get? (Hi p s.heap l).objs.size=some (itO q m):=upI _ _ (Heap.get?_push_size _ (iG q m))
 have g1:(HZ p q s.heap l m).get? s.heap.objs.size=some (itO p l):=upJ _ _ (Heap.get?_push_size _ (iG p l))
 rw[n2,n3,n4] at g5
 rw[n3] at g4
 rw[n1,n2] at g3
 rw[n1] at g2
 show _/\_
 rw[n4]
 exact⟨⟨_,g5,rfl⟩,k _ g5 g3 g4 (mZ (h:=s.heap) g1) (mZ (h:=s.heap) g2) n5 fun c o e=>upJ c o (Heap.get?_push_of_some _ e)⟩
end
section
variable {prog:Program} {w:World} {A:Around} {E:Value->Shared->Prop} {s:Shared}
theorem py_some {p q:Kq} {z TI TO i j l m:Addr} {n n':Nat} {xs ys:Array Value} {x y a b:Value} {Q:Option Value->Shared->Prop} (D:ZipApart z TI TO i j l m) (hz:IsZip s.heap z TI TO .none) (hI:IsPair s.heap TI (.ref i) (.ref j)) (hO:IsPair s.heap TO a b)
  (ci:It p s.heap i l n) (cj:It q s.heap j m n') (sl:Sq p s.heap l xs) (sm:Sq q s.heap m ys) (hx:xs[n]? = some x) (hy:ys[n']? = some y)
  (k:∀ h',IsZip h' z TI TO (rawInt s.heap.objs.size)->IsPair h' TO x y->It p h' i l (n + 1)->It q h' j m (n' + 1)->IsPair h' s.heap.objs.size x y->h'.objs.size=s.heap.objs.size + 1->Kept z TO i j s.heap h'->Q (some (.ref s.heap.objs.size)) {s with heap:=h'}) :
  wpAny (model prog w) A (pyNext (.ref z)) Q E s:=by
 have ty:s.TypeIs (.ref z) "zip":=⟨_,hz,rfl⟩
 unfold pyNext
 refine wpAny_bind (wpAny_attempt (wpAny_callSpecial?_slot (name:=Str.ofString "__next__") ty F.slot_zip_next (wpAny_call_entry F.slot_zip_next ty F.entry_zip_next ?_ (F.args_zip_next_1 _))))
 exact l4 D hz hI hO ci cj sl sm hx hy fun h' a1 a2 a3 a4 a5 a6 a7=>wpAny_pure (k h' a1 a2 a3 a4 a5 a6 a7)
theorem py_none {p q:Kq} {z TI TO i j l m:Addr} {n n':Nat} {xs ys:Array Value} {a b:Value} {Q:Option Value->Shared->Prop} (hh:A.handled=none) (D:ZipApart z TI TO i j l m) (hz:IsZip s.heap z TI TO .none) (hI:IsPair s.heap TI (.ref i) (.ref j)) (hO:IsPair s.heap TO a b)
  (ci:It p s.heap i l n) (cj:It q s.heap j m n') (sl:Sq p s.heap l xs) (sm:Sq q s.heap m ys) (hend:xs[n]? = none∨ys[n']? = none)
  (k:∀ h',Kept z TO i j s.heap h'->Q none {s with heap:=h'}):wpAny (model prog w) A (pyNext (.ref z)) Q E s:=by
 have ty:s.TypeIs (.ref z) "zip":=⟨_,hz,rfl⟩
 unfold pyNext
 refine wpAny_bind (wpAny_attempt (wpAny_callSpecial?_slot (name:=Str.ofString "__next__") ty F.slot_zip_next (wpAny_call_entry F.slot_zip_next ty F.entry_zip_next (l5 hh D hz hI hO ci cj sl sm hend fun h' e hk he=>?_) (F.args_zip_next_1 _))))
 obtain⟨o,g,c⟩:=he
 exact wpAny_bind (wpAny_isInstance (T:="StopIteration") (b:=true) ⟨o,g,c⟩ isSubtype_stop (wpAny_pure (k _ hk)))
end
end L2.Zp
namespace L2
open PySem PySem.Spec PyProof.Rows
noncomputable def SqK (K:PySem.W.Frag) (H:Hp) (k:Zp.Kq) (a:Addr) (xs:List V):Prop:=match k with
 | .l=>SqL K H a xs
 | .t=>SqT K H a xs
section
variable {X:Cx} {pins:List (Addr×Obj)} {σ:St} {H:Hp} {s:Shared} {h':Heap} {k:Zp.Kq} {a:Addr} {xs ys:List V}
theorem Inv.sqk (I:Inv X pins σ H s) (h:SqK X.K H k a xs):∃ its:List Value,Vals xs its/\Zp.Sq k s.heap a its.toArray:=by
 cases k with
 | l=>obtain⟨its,rv,p,hz⟩:=I.list h;exact⟨its,rv,p.isList⟩
 | t=>obtain⟨its,rv,p,hz⟩:=I.tuple h;exact⟨its,rv,p⟩
theorem Inv.sqk_inj (I:Inv X pins σ H s) (h:SqK X.K H k a xs) (h':SqK X.K H k a ys):xs=ys:=by
 cases k with
 | l=>exact I.list_inj h h'
 | t=>exact I.tuple_inj h h'
theorem Inv.turns {t':Nat} {ch:List Addr} (I:Inv X pins σ H s) (k:∀ b o,b ∉ ch->s.heap.get? b=some o->h'.get? b=some o) (hf:∀ b ∈ ch,cN X pins H b):Inv X pins σ H {s with heap:=h',toks:=t'}:=by
 have nit:∀ b u,H b=some u->b ∉ ch:=fun b u e z=>by rw[(hf b z).1] at e;cases e
 refine I.step (g':=s.gens) (d':=s.drawn) (ch:=ch) (fun b hb=>?_) (fun b o _ _ hc e _=>k b o hc e) (fun b o _ _ hc e _=>⟨o.slots,k b o hc e⟩) (fun _ _ _ _ n=>n)
  (fun b o hc e=>⟨o,k b o hc e⟩) (fun _ _ e=>e) (fun _ _ _ e=>e) (fun b ps e=>⟨#[],by rw[e];simp⟩) (fun m hm=>?_) (fun b u e=>?_) I.bare
 ·obtain⟨f0,f1,f2,f3,f4,f5⟩:=hf b hb
  exact⟨f3,f1,f4,f5⟩
 ·obtain⟨o,es,ep,ho,r⟩:=hm
  exact⟨o,es,ep,k _ o (fun z=>(hf _ z).2.1 rfl) ho,r⟩
 ·refine(I.hok b u e).stay (fun c v hc q=>k c v ?_ q) (fun _ q=>q) fun _ _ q=>q
  rcases hc with z | z
  ·rw[z];exact nit b u e
  ·exact nit c _ z
theorem Inv.turnsN {t':Nat} {ch:List Addr} {T:Addr} {ho:HO} (I:Inv X pins σ H s) (k:∀ b o,b ∉ ch->s.heap.get? b=some o->h'.get? b=some o) (hf:∀ b ∈ ch,cN X pins H b) (hp:s.heap.objs.size<=T) (new:aD X.prog X.w (upd H T ho) h' T ho):Inv X pins σ (upd H T ho) {s with heap:=h',toks:=t'}:=by
 have nit:∀ b u,H b=some u->b ∉ ch:=fun b u e z=>by rw[(hf b z).1] at e;cases e
 have hn:H T=none:=I.hok.fresh hp
 refine I.step (g':=s.gens) (d':=s.drawn) (ch:=ch) (fun b hb=>?_) (fun b o _ _ hc e _=>k b o hc e) (fun b o _ _ hc e _=>⟨o.slots,k b o hc e⟩) (fun b o _ e n=>by rw[aj (Nat.ne_of_lt (Nat.lt_of_lt_of_le (Heap.lt_size e) hp))];exact n)
  (fun b o hc e=>⟨o,k b o hc e⟩) (fun b xs q=>by rw[aj (aB q hn)];exact q) (fun b u xs q=>by rw[aj (aB q hn)];exact q) (fun b ps q=>⟨#[],by rw[aj (aB q hn),q];simp⟩) (fun m hm=>?_) (fun b u e=>?_) I.bare
 ·obtain⟨f0,f1,f2,f3,f4,f5⟩:=hf b hb
  exact⟨f3,f1,f4,f5⟩
 ·obtain⟨o,es,ep,ho,r⟩:=hm
  exact⟨o,es,ep,k _ o (fun z=>(hf _ z).2.1 rfl) ho,r⟩
 ·by_cases hb:b=T
  ·subst hb;rw[ar] at e;cases e;exact new
  ·rw[aj hb] at e
   refine(I.hok b u e).stay (fun c v hc q=>k c v ?_ q) (fun c q=>by rw[aj (aB q hn)];exact q) fun c xs q=>by rw[aj (aB q hn)];exact q
   rcases hc with z | z
   ·rw[z];exact nit b u e
   ·exact nit c _ z
end
noncomputable def Itz (K:PySem.W.Frag) (p q:Zp.Kq) (l m:Addr):It:=
 ⟨fun i H=>∃ xs ys x y,SqK K H p l xs/\SqK K H q m ys/\xs[i]? = some x/\ys[i]? = some y,
  fun i H v H'=>∃ T a b,v=.ref T/\H T=none/\H'=upd H T (.tup [a,b])/\∀ xs ys,SqK K H p l xs->SqK K H q m ys->xs[i]? = some a/\ys[i]? = some b,
  fun i H=>∃ xs ys,SqK K H p l xs/\SqK K H q m ys/\(xs.length<=i∨ys.length<=i)⟩
theorem Zp.It.obj {k:Zp.Kq} {h:Heap} {i a:Addr} {n:Nat} (c:Zp.It k h i a n):∃ o,h.get? i=some o/\∀ v,o.data≠.cell v:=by
 cases k with
 | l=>obtain⟨o,e,c,d⟩:=c;exact⟨o,e,fun v z=>by rw[d] at z;cases z⟩
 | t=>obtain⟨o,e,c,d⟩:=c;exact⟨o,e,fun v z=>by rw[d] at z;cases z⟩
theorem m4 {P:Program} {w:World} {K:PySem.W.Frag} {es:List Expr} {c:Nat} {pos:Pos} (p q:Zp.Kq) (z TI TO i j l m:Addr) (D:ZipApart z TI TO i j l m) :
  Turn P w K (.Tuple es c pos) (Itz K p q l m) [z,TI,TO,i,j] z (fun n h=>IsZip h z TI TO .none/\IsPair h TI (.ref i) (.ref j)/\(∃ a b,IsPair h TO a b)/\Zp.It p h i l n/\Zp.It q h j m n) where
 mem:=by simp
 obj:=fun n h st b hb=>by
  obtain⟨hz,hI,⟨a,b',hO⟩,ci,cj⟩:=st
  simp only[List.mem_cons,List.not_mem_nil,or_false] at hb
  rcases hb with rfl | rfl | rfl | rfl | rfl
  ·exact⟨_,hz,fun v z=>by cases z⟩
  ·exact⟨_,hI,fun v z=>by cases z⟩
  ·exact⟨_,hO,fun v z=>by cases z⟩
  ·exact ci.obj
  ·exact cj.obj
 keep:=fun n h h' st k=>by
  obtain⟨hz,hI,⟨a,b',hO⟩,ci,cj⟩:=st
  exact⟨k z (by simp) _ hz,k TI (by simp) _ hI,⟨a,b',k TO (by simp) _ hO⟩,ci.to fun o e=>k i (by simp) o e,cj.to fun o e=>k j (by simp) o e⟩
 item:=by
  intro X hP hw hK hc n pins s σ H E I hf st hg
  subst hP hw hK
  obtain⟨hz,hI,⟨a,b',hO⟩,ci,cj⟩:=st
  obtain⟨xs,ys,x,y,hq1,hq2,hx,hy⟩:=hg
  obtain⟨its1,rv1,p1⟩:=I.sqk hq1
  obtain⟨its2,rv2,p2⟩:=I.sqk hq2
  obtain⟨u1,hu1,ru1⟩:=rv1.get hx
  obtain⟨u2,hu2,ru2⟩:=rv2.get hy
  refine Zp.py_some D hz hI hO ci cj p1 p2 (x:=u1) (y:=u2) (by simpa using hu1) (by simpa using hu2) fun h1 a1 a2 a3 a4 a5 a6 hk=>?_
  refine⟨_,rfl,?_⟩
  have lz:z < s.heap.objs.size:=Heap.lt_size hz
  have hTz:s.heap.objs.size≠z:=Nat.ne_of_gt lz
  refine wpAny_letOwnedTupleGo_zip (s:={s with heap:=h1}) a1 fun h2 hz2 hs2=>?_
  have kk:∀ b o,b ∉ [z,TI,TO,i,j]->s.heap.get? b=some o->h2.get? b=some o:=fun b o hb e=>by
   simp only[List.mem_cons,List.not_mem_nil,or_false,not_or] at hb
   exact hs2.extBut _ _ hb.1 (hk b o hb.1 hb.2.2.1 hb.2.2.2.1 hb.2.2.2.2 e)
  have hT:IsPair h2 s.heap.objs.size u1 u2:=hs2.extBut _ _ hTz a5
  have I2:Inv X pins σ (upd H s.heap.objs.size (.tup [x,y])) {s with heap:=h2}:=I.turnsN (t':=s.toks) kk hf (Nat.le_refl _) ⟨by show 2<=sizeLine;decide,[u1,u2],.cons ru1 (.cons ru2 .nil),⟨_,hT,rfl,_,rfl⟩⟩
  refine⟨.ref s.heap.objs.size,_,I2,rfl,⟨_,x,y,rfl,I.hok.fresh (Nat.le_refl _),rfl,fun xs' ys' g1 g2=>by rw[I.sqk_inj g1 hq1,I.sqk_inj g2 hq2];exact⟨hx,hy⟩⟩,⟨hz2,hs2.extBut _ _ D.TIz (hk _ _ D.TIz D.TITO D.TIi1 D.TIi2 hI),⟨_,_,hs2.extBut _ _ D.TOz a2⟩,a3.to fun o e=>hs2.extBut _ _ D.i1z e,a4.to fun o e=>hs2.extBut _ _ D.i2z e⟩,fun b hb=>?_⟩
  have hb':b < s.heap.objs.size:=by
   simp only[List.mem_cons,List.not_mem_nil,or_false] at hb
   rcases hb with rfl | rfl | rfl | rfl | rfl
   ·exact lz
   ·exact Heap.lt_size hI
   ·exact Heap.lt_size hO
   ·exact ci.lt
   ·exact cj.lt
  rw[aj (Nat.ne_of_lt hb')]
  exact(hf b hb).1
 done:=by
  intro X hP hw hK hc n pins s σ H E I hf st hg
  subst hP hw hK
  obtain⟨hz,hI,⟨a,b',hO⟩,ci,cj⟩:=st
  obtain⟨xs,ys,hq1,hq2,hx⟩:=hg
  obtain⟨its1,rv1,p1⟩:=I.sqk hq1
  obtain⟨its2,rv2,p2⟩:=I.sqk hq2
  have l1:=rv1.length
  have l2:=rv2.length
  refine Zp.py_none (I.ok.hd hc) D hz hI hO ci cj p1 p2 (by
   rcases hx with hx | hx
   ·exact .inl (Array.getElem?_eq_none (by simp;omega))
   ·exact .inr (Array.getElem?_eq_none (by simp;omega))) fun h1 hk=>⟨rfl,I.turns (t':=s.toks) (ch:=[z,TI,TO,i,j]) (fun b o hb e=>?_) hf⟩
  simp only[List.mem_cons,List.not_mem_nil,or_false,not_or] at hb
  exact hk b o hb.1 hb.2.2.1 hb.2.2.2.1 hb.2.2.2.2 e
 self:=fun _ _ _ _ _ st h=>wpAny_pyIter_zip st.1 h
noncomputable def Be (K:PySem.W.Frag) (ta:TA):TI:=fun σ H R=>ta σ H fun vs H1=>∃ p q l m xs ys,vs=[.ref l,.ref m]/\SqK K H1 p l xs/\SqK K H1 q m ys/\R (Itz K p q l m) H1
theorem Zp.Sq.lt {k:Zp.Kq} {h:Heap} {a:Addr} {xs:Array Value} (q:Zp.Sq k h a xs):a < h.objs.size:=by
 cases k with
 | l=>obtain⟨o,e,_⟩:=q;exact Heap.lt_size e
 | t=>obtain⟨o,e,_⟩:=q;exact Heap.lt_size e
theorem m7 (N l m:Nat) (hl:l < N) (hm:m < N):ZipApart (N + 4) (N + 2) (N + 3) N (N + 1) l m:=by
 constructor<;>(intro e;have e':(_:Nat)=(_:Nat):=e;omega)
theorem vW {X:Cx} {a b:Expr} {ta:TA} {es:List Expr} {c:Nat} {p tp pos:Pos} (hg:Gl X "zip") (hm:X.mg "zip" = none) (ha:PA X [a,b] ta) (hs:starEach [a,b] X.env=[(false,eval a X.env),(false,eval b X.env)]) (hs2:starEach [b] X.env=[(false,eval b X.env)]) :
  PI X (.Tuple es c tp) (.Call (.Name "zip" p) [a,b] [] pos) (Be X.K ta):=by
 intro pins s σ H R I h
 refine Call_ (eD I hg hm boot_zip (PyProof.Rows.callWith_type1 (thn (ha pos pins s σ H _ I h) fun us s1 ⟨vs,H1,I1,r1,q1⟩=>?_) (by rw[hs,hs2]) (by rw[hs2];rfl)))
 obtain⟨k1,k2,l,m,xs,ys,e,g1,g2,q⟩:=q1
 subst e
 cases r1 with
 | cons r rr=>
  cases rr with
  | cons r' rr=>
   cases rr
   cases r
   cases r'
   obtain⟨its1,rv1,p1⟩:=I1.sqk g1
   obtain⟨its2,rv2,p2⟩:=I1.sqk g2
   have l1:=p1.lt
   have l2:=p2.lt
   refine Zp.call_zip p1 p2 fun h2 b1 b2 b3 b4 b5 b6 b7=>?_
   refine wpAny_pyIter_zip (s:={s1 with heap:=h2}) b1 ?_
   refine⟨s1.heap.objs.size + 4,[s1.heap.objs.size + 4,s1.heap.objs.size + 2,s1.heap.objs.size + 3,s1.heap.objs.size,s1.heap.objs.size + 1],_,_,H1,rfl,I1.kept (t':=s1.toks) b7,m4 k1 k2 _ _ _ _ _ l m (m7 _ l m l1 l2),⟨b1,b2,⟨_,_,b3⟩,b4,b5⟩,fun b hb=>?_,q⟩
   have hb':s1.heap.objs.size<=b:=by
    simp only[List.mem_cons,List.not_mem_nil,or_false] at hb
    rcases hb with rfl | rfl | rfl | rfl | rfl
    ·exact Nat.le_add_right _ _
    ·exact Nat.le_add_right _ _
    ·exact Nat.le_add_right _ _
    ·exact Nat.le_refl _
    ·exact Nat.le_add_right _ _
   exact I1.fpOk hb' (I1.hok.fresh hb')
end L2
namespace L2.Se
open PySem
structure Cut (xs:Array Nat) (j p:Nat):Prop where
 le:p<=xs.size
 lo:∀ i x:Nat,i < p->xs[i]? = some x->x < j
 hi:∀ i x:Nat,p<=i->xs[i]? = some x->j<=x
noncomputable def Up (xs:Array Nat):Prop:=∀ i k x y:Nat,i < k->xs[i]? = some x->xs[k]? = some y->x < y
theorem m8 {xs:Array Nat} {j:Nat} (u:Up xs):∀ (fuel lo hi:Nat),hi<=lo + fuel->lo<=hi->hi<=xs.size->(∀ i x,i < lo->xs[i]? = some x->x < j)->(∀ i x,hi<=i->xs[i]? = some x->j<=x)->Cut xs j (SetTable.below.go xs j fuel lo hi):=by
 intro fuel
 induction fuel with
 | zero=>
  intro lo hi h1 h2 h3 h4 h5
  have e:lo=hi:=by omega
  subst e
  exact⟨h3,h4,h5⟩
 | succ f ih=>
  intro lo hi h1 h2 h3 h4 h5
  unfold SetTable.below.go
  by_cases hl:lo < hi
  ·rw[if_pos hl]
   have hm:(lo + hi) / 2 < xs.size:=by omega
   have e:xs[(lo + hi) / 2]? = some xs[(lo + hi) / 2]:=by simp[hm]
   have eg:xs.getD ((lo + hi) / 2) j=xs[(lo + hi) / 2]:=by simp[Array.getD,hm]
   dsimp only
   rw[eg]
   by_cases hx:xs[(lo + hi) / 2] < j
   ·rw[if_pos hx]
    refine ih _ _ (by omega) (by omega) h3 (fun i x hi' hxi=>?_) h5
    by_cases hi2:i=(lo + hi) / 2
    ·subst hi2;rw[e] at hxi;cases hxi;exact hx
    ·exact Nat.lt_trans (u i _ x _ (by omega) hxi e) hx
   ·rw[if_neg hx]
    refine ih _ _ (by omega) (by omega) (by omega) h4 (fun i x hi' hxi=>?_)
    by_cases hi2:i=(lo + hi) / 2
    ·subst hi2;rw[e] at hxi;cases hxi;omega
    ·have:=u _ i _ x (by omega) e hxi;omega
  ·rw[if_neg hl]
   have e:lo=hi:=by omega
   subst e
   exact⟨h3,h4,h5⟩
theorem bZ {xs:Array Nat} (u:Up xs) (j:Nat):Cut xs j (SetTable.below xs j):=
 m8 u xs.size 0 xs.size (by omega) (Nat.zero_le _) (Nat.le_refl _) (fun i x h=>absurd h (Nat.not_lt_zero i)) (fun i x h hx=>by
  have:=(Array.getElem?_eq_some_iff.mp hx).1
  omega)
theorem ri {α:Type} {xs:Array α} {p:Nat} {x:α} (hp:p<=xs.size) (i:Nat):(SetTable.insertAt xs p x)[i]? = if i < p then xs[i]? else if i=p then some x else xs[i - 1]?:=by
 rw[<- Array.getElem?_toList,SetTable.toList_insertAt]
 by_cases h1:i < p
 ·rw[if_pos h1,List.getElem?_append_left (by simp;omega),List.getElem?_take,if_pos h1,Array.getElem?_toList]
 ·rw[if_neg h1,List.getElem?_append_right (by simp;omega)]
  have hl:(xs.toList.take p).length=p:=by simp;omega
  rw[hl]
  by_cases h2:i=p
  ·subst h2;rw[if_pos rfl,Nat.sub_self];rfl
  ·rw[if_neg h2]
   obtain⟨k,rfl⟩:∃ k,i=p + k + 1:=⟨i - p - 1,by omega⟩
   rw[show p + k + 1 - p=k + 1 by omega,List.getElem?_cons_succ,List.getElem?_drop,Array.getElem?_toList]
   rfl
theorem vX {xs:Array Nat} {j p:Nat} (u:Up xs) (c:Cut xs j p) (hn:xs[p]?≠some j):Up (SetTable.insertAt xs p j):=by
 intro i k x y hik hx hy
 rw[ri c.le] at hx hy
 have up':∀ m z,p<=m->xs[m]? = some z->j < z:=fun m z hm hz=>by
  have h1:=c.hi m z hm hz
  by_cases e:m=p
  ·subst e
   have:j≠z:=fun e=>hn (by rw[hz,e])
   omega
  ·have hlt:m < xs.size:=(Array.getElem?_eq_some_iff.mp hz).1
   have hp:p < xs.size:=by omega
   have ep:xs[p]? = some xs[p]:=by simp[hp]
   have h2:=c.hi p _ (Nat.le_refl _) ep
   have:=u p m _ z (by omega) ep hz
   omega
 by_cases a1:i < p
 ·rw[if_pos a1] at hx
  have hxj:=c.lo i x a1 hx
  by_cases b1:k < p
  ·rw[if_pos b1] at hy;exact u i k x y hik hx hy
  ·rw[if_neg b1] at hy
   by_cases b2:k=p
   ·rw[if_pos b2] at hy;cases hy;exact hxj
   ·rw[if_neg b2] at hy
    have:=up' (k - 1) y (by omega) hy;omega
 ·rw[if_neg a1] at hx
  by_cases a2:i=p
  ·rw[if_pos a2] at hx;cases hx
   rw[if_neg (by omega),if_neg (by omega)] at hy
   exact up' (k - 1) y (by omega) hy
  ·rw[if_neg a2] at hx
   rw[if_neg (by omega),if_neg (by omega)] at hy
   exact u (i - 1) (k - 1) x y (by omega) hx hy
theorem m9 (n:Nat):Up (Array.range n):=by
 intro i k x y h hx hy
 obtain⟨h1,e1⟩:=Array.getElem?_eq_some_iff.mp hx
 obtain⟨h2,e2⟩:=Array.getElem?_eq_some_iff.mp hy
 simp at e1 e2
 omega
structure Tb (led:Bool) (t:SetTable):Prop where
 up:Up t.place
 dm:t.dummies = #[]
 ld:t.led=led
theorem jz {t:SetTable} {j:Nat} (h:t.slot j=.empty):t.place[SetTable.below t.place j]?≠some j:=by
 intro e
 unfold SetTable.slot at h
 dsimp only at h
 rw[if_pos (by rw[e];exact beq_self_eq_true _)] at h
 cases h
theorem has_none (j:Nat):SetTable.has #[] j=false:=by
 unfold SetTable.has
 rw[show (#[]:Array Nat)[SetTable.below #[] j]? = none by simp]
 rfl
theorem jA {t:SetTable} (hd:t.dummies = #[]) (j:Nat):t.slot j≠.dummy:=by
 intro h
 unfold SetTable.slot at h
 dsimp only at h
 rw[hd,has_none] at h
 split at h
 ·cases h
 ·rw[if_neg Bool.false_ne_true] at h;cases h
theorem l6 (t:SetTable) (p:SetTable.Probe):(t.advance p).dummy=p.dummy:=by
 unfold SetTable.advance
 split<;>rfl
theorem nc {t:SetTable} (hd:t.dummies = #[]) {h:Int} {f:Nat->Int} (hh:∀ i,(f i == h)=false):∀ (fuel:Nat) (p:SetTable.Probe) (m:SetTable.Met),p.dummy=none->SetTable.probe.go t f h fuel p=some m->∃ j,m=.empty j none/\t.slot j=.empty:=by
 intro fuel
 induction fuel with
 | zero=>intro p m _ e;cases e
 | succ n ih=>
  intro p m hp e
  unfold SetTable.probe.go at e
  cases hs:t.slot p.j with
  | empty=>rw[hs] at e;dsimp only at e;rw[hp] at e;cases e;exact⟨_,rfl,hs⟩
  | dummy=>exact absurd hs (jA hd _)
  | live i=>
   rw[hs] at e
   dsimp only at e
   rw[hh,if_neg Bool.false_ne_true] at e
   exact ih _ m (by rw[l6];exact hp) e
theorem l7 {t:SetTable} (hd:t.dummies = #[]) {h:Int} {j:Nat} {b:Bool} (e:t.freeSlot h=some (j,b)):t.slot j=.empty/\b=false:=by
 unfold SetTable.freeSlot at e
 cases q:t.probe (fun _=>h + 1) h (t.probeStart h) with
 | none=>rw[q] at e;cases e
 | some m=>
  obtain⟨j',rfl,hs⟩:=nc hd (f:=fun _=>h + 1) (h:=h) (fun i=>by rw[beq_eq_false_iff_ne];omega) _ _ m rfl q
  rw[q] at e
  cases e
  exact⟨hs,rfl⟩
theorem dg {led:Bool} {t:SetTable} (T:Tb led t) (n:Nat):Tb led (t.standIn n):=⟨m9 n,rfl,T.ld⟩
theorem yf {led:Bool} {t:SetTable} (T:Tb led t) (n:Nat):Tb led (t.orStandIn n):=by
 unfold SetTable.orStandIn
 split
 ·exact T
 ·exact dg T n
theorem vY {led:Bool} {t:SetTable} (T:Tb led t) {j:Nat} (hs:t.slot j=.empty):Tb led (t.put j).1:=by
 refine⟨vX T.up (bZ T.up j) (jz hs),?_,T.ld⟩
 show (if SetTable.has t.dummies j then _ else t.dummies) = #[]
 rw[T.dm,has_none]
 rfl
theorem ng {led:Bool} {t:SetTable} (T:Tb led t) (es:Array (Int×Value)) (h:Int) (x:Value):Tb led (layNew t es h x).2.1:=by
 unfold layNew
 cases q:t.freeSlot h with
 | none=>exact dg T _
 | some p=>
  obtain⟨j,b⟩:=p
  exact yf (vY T (l7 T.dm q).1) _
theorem ni (o:Nat->Option Nat) (l:List Nat):((l.filterMap fun j=>(o j).map (j,·)).map (·.1))=l.filter fun j=>(o j).isSome:=by
 induction l with
 | nil=>rfl
 | cons a l ih=>
  rw[List.filterMap_cons,List.filter_cons]
  cases o a with
  | none=>simpa using ih
  | some b=>simpa using ih
theorem rj {l:List Nat} (h:l.Pairwise (· < ·)):Up l.toArray:=by
 intro i k x y hik hx hy
 have hx':l[i]? = some x:=by simpa using hx
 have hy':l[k]? = some y:=by simpa using hy
 obtain⟨h1,e1⟩:=List.getElem?_eq_some_iff.mp hx'
 obtain⟨h2,e2⟩:=List.getElem?_eq_some_iff.mp hy'
 have:=List.pairwise_iff_getElem.mp h i k h1 h2 hik
 omega
theorem rk {mask finger moves:Nat} {led plain:Bool} {hs:Array Int} {t:SetTable} {o:Array Nat} (e:SetTable.laid mask finger moves led plain hs=some (t,o)):Tb led t:=by
 unfold SetTable.laid at e
 cases q:SetTable.layClean mask hs with
 | none=>rw[q] at e;cases e
 | some ow=>
  rw[q] at e
  have e':=Option.some.inj e
  cases e'
  refine⟨?_,rfl,rfl⟩
  show Up (List.toArray (List.map _ (List.filterMap _ _)))
  rw[ni]
  exact rj (List.Pairwise.sublist List.filter_sublist List.pairwise_lt_range)
theorem iH {led:Bool} {t:SetTable} (T:Tb led t) (es:Array (Int×Value)) (n:Nat):Tb led (relayAll t es n).2.1:=by
 unfold relayAll
 cases q:t.relaid (es.map (·.1)) n with
 | none=>exact dg T _
 | some p=>
  obtain⟨t',o⟩:=p
  dsimp only
  split
  ·have:=rk q
   rw[T.ld] at this
   exact this
  ·exact dg T _
theorem iI {led:Bool} {t:SetTable} (T:Tb led t) (b:Bool):Tb led {t with plain:=b}:=⟨T.up,T.dm,T.ld⟩
theorem iJ (f m:Nat) (led:Bool):Tb led (SetTable.fresh f m led):=⟨fun i k x y _ h=>by simp[SetTable.fresh] at h,rfl,rfl⟩
open PyProof.Rows
section
variable {prog:Program} {w:World} {A:Around} {E:Value->Shared->Prop} {s:Shared}
noncomputable abbrev vals (es:Array (Int×Value)):List Value:=es.toList.map (·.2)
structure SetD (prog:Program) (w:World) (led:Bool) (σ:List Int) (o:Obj) (es:Array (Int×Value)) (ep:Nat) (t:SetTable):Prop where
 ex:o.ExactSet
 da:o.data=.set es ep t
 el:ElemsOf (intKind prog w) es.toList
 sb:es.size < scanBound
 fi:t.fits es.size=true
 tb:Tb led t
 pm:∃ ks,IntsAre (vals es) ks/\ks.Perm σ
noncomputable def SetI (prog:Program) (w:World) (h:Heap) (a:Addr) (led:Bool) (σ:List Int):Prop:=∃ o es ep t,h.get? a=some o/\SetD prog w led σ o es ep t
theorem are_perm {vs vs':List Value} {ks:List Int} (p:vs'.Perm vs) (h:IntsAre vs ks):∃ ks',IntsAre vs' ks'/\ks'.Perm ks:=by
 induction p generalizing ks with
 | nil=>exact⟨ks,h,.refl _⟩
 | cons x _ ih=>
  cases h with
  | cons n t h=>obtain⟨ks',h1,h2⟩:=ih h;exact⟨n::ks',.cons n t h1,.cons n h2⟩
 | swap x y l=>
  cases h with
  | cons n t h=>
   cases h with
   | cons m u h=>exact⟨m::n::_,.cons m u (.cons n t h),.swap n m _⟩
 | trans _ _ ih1 ih2=>
  obtain⟨k1,a1,b1⟩:=ih2 h
  obtain⟨k2,a2,b2⟩:=ih1 a1
  exact⟨k2,a2,b2.trans b1⟩
theorem are_snoc {vs:List Value} {ks:List Int} {k:Int} {t:Tok} (h:IntsAre vs ks):IntsAre (vs++[.int k t]) (ks++[k]):=by
 induction h with
 | nil=>exact .cons k t .nil
 | cons n u _ ih=>exact .cons n u ih
theorem are_find {es:List (Int×Value)} {ks:List Int} {k:Int} (h:IntsAre (es.map (·.2)) ks):es.any (fun e=>(intKind prog w).is k e.2)=ks.any (· == k):=by
 induction es generalizing ks with
 | nil=>cases h;rfl
 | cons e es ih=>
  obtain⟨c,v⟩:=e
  cases h with
  | cons n t h=>
   rw[List.any_cons,List.any_cons,ih h,KeyKind.is_eq_decide (intKind_is prog w n t) k]
   congr 1
   by_cases q:k=n
   ·subst q;simp
   ·simp[q,show ¬ n=k from fun z=>q z.symm]
theorem store {h:Heap} {a:Addr} {led:Bool} {σ σ':List Int} {o:Obj} {es es':Array (Int×Value)} {ep:Nat} {t t':SetTable} (ho:h.get? a=some o) (D:SetD prog w led σ o es ep t)
  (el:ElemsOf (intKind prog w) es'.toList) (sb:es'.size < scanBound) (fi:t'.fits es'.size=true) (tb:Tb led t') (pm:∃ ks,IntsAre (vals es') ks/\ks.Perm σ') :
  (h.update a (Obj.putSet es' t')).get? a=some {o with data:=.set es' (ep + 1) t'}/\SetD prog w led σ' {o with data:=.set es' (ep + 1) t'} es' (ep + 1) t':=
 ⟨(SetOf_store (knd:=intKind prog w) (S':=fun k=>es'.toList.any fun e=>(intKind prog w).is k e.2) ho D.ex D.da el (fun k=>by rw[List.any_eq_true]) sb fi).1,D.ex,rfl,el,sb,fi,tb,pm⟩
theorem add_tail {a:Addr} {led:Bool} {σ σ':List Int} {o:Obj} {es es1:Array (Int×Value)} {ep:Nat} {t t2:SetTable} {b:Bool} {g:Bool->Sem Unit} (hg:∀ (b:Bool) (s₁:Shared) (Q':Unit->Shared->Prop),Q' () s₁->wpAny (model prog w) A (g b) Q' E s₁)
  (ho:s.heap.get? a=some o) (D:SetD prog w led σ o es ep t) (el:ElemsOf (intKind prog w) es1.toList) (sb:es1.size < scanBound) (fi:t2.fits es1.size=true) (tb:Tb led t2) (pm:∃ ks,IntsAre (vals es1) ks/\ks.Perm σ')
  {R:Option Bool->Shared->Prop} (h:∀ h',Heap.SameBut a s.heap h'->SetI prog w h' a led σ'->R (some true) {s with heap:=h'}) :
  wpAny (model prog w) A (do
    storeSet a es1 t2
    if (!b && t2.tooFull)=true then do
      g (relayAll t2 es1 (SetTable.grown es1.size)).2.2
      storeSet a (relayAll t2 es1 (SetTable.grown es1.size)).1 (relayAll t2 es1 (SetTable.grown es1.size)).2.1
      pure (some true)
     else pure (some true)) R E s:=by
 obtain⟨g1,D1⟩:=store ho D el sb fi tb pm
 have b1:=Heap.SameBut.update s.heap a (Obj.putSet es1 t2)
 refine wpAny_bind (wpAny_storeSet_of ho D.da ?_ (fits_of_scanBound sb))
 split
 ·have p2:=relayAll_perm t2 es1 (SetTable.grown es1.size)
  have f2:=relayAll_fits t2 es1 (SetTable.grown es1.size)
  have u2:=iH tb es1 (SetTable.grown es1.size)
  generalize relayAll t2 es1 (SetTable.grown es1.size)=Z at p2 f2 u2 ⊢
  obtain⟨es2,t3,gv⟩:=Z
  dsimp only at p2 f2 u2 ⊢
  have sz:es2.size=es1.size:=by rw[<- Array.length_toList,p2.length_eq,Array.length_toList]
  have sb2:es2.size < scanBound:=by rw[sz];exact sb
  obtain⟨ks,k1,k2⟩:=pm
  obtain⟨ks',k3,k4⟩:=are_perm (p2.map (·.2)) k1
  obtain⟨g2,D2⟩:=store g1 D1 (el.perm p2) sb2 f2 u2 ⟨ks',k3,k4.trans k2⟩
  refine wpAny_bind (hg _ _ _ (wpAny_bind (wpAny_storeSet_of g1 rfl ?_ (fits_of_scanBound sb2))))
  exact wpAny_pure (h _ (b1.trans (Heap.SameBut.update _ a _)) ⟨_,_,_,_,g2,D2⟩)
 ·exact wpAny_pure (h _ b1 ⟨_,_,_,_,g1,D1⟩)
theorem add_int {a:Addr} {led:Bool} {σ:List Int} {k:Int} {tk:Tok} {Q:Bool->Shared->Prop} (hS:SetI prog w s.heap a led σ) (hr:σ.length + 1 < scanBound)
  (h:∀ h',Heap.SameBut a s.heap h'->SetI prog w h' a led (step_dedup σ k)->∀ b,Q b {s with heap:=h'}) :
  wpAny (model prog w) A (setAddHashed a (.int k tk) ((intKind prog w).hash k)) Q E s:=by
 obtain⟨o,es,ep,t,ho,D⟩:=hS
 obtain⟨ks,k1,k2⟩:=D.pm
 have lk:es.size=ks.length:=by have:=IntsAre.length k1;rw[List.length_map,Array.length_toList] at this;exact this
 have hany:es.toList.any (fun e=>(intKind prog w).is k e.2)=σ.any (· == k):=(are_find k1).trans (k2.any_eq)
 unfold setAddHashed setAddHashedIn
 refine wpAny_holding (wpAny_bind (wpAny_setState_of ho D.da D.fi ?_))
 dsimp only
 rw[byScan_of (x:=.int k tk) rfl D.sb D.el,if_pos rfl]
 unfold setAddByScan
 refine wpAny_bind (wpAny_bind (wpAny_rule (wpAny_bind (wpAny_setScan_of (intKind_is prog w k tk) ho D.da D.fi D.el ?_))))
 cases hq:List.findIdx? (fun e=>(intKind prog w).is k e.2) es.toList with
 | some j=>
  dsimp only
  obtain⟨hj,hpj,_⟩:=List.findIdx?_eq_some_iff_getElem.mp hq
  have hin:σ.any (· == k)=true:=by rw[<- hany,List.any_eq_true];exact⟨_,List.getElem_mem hj,hpj⟩
  have e2:step_dedup σ k=σ:=by unfold step_dedup;rw[if_pos hin]
  refine wpAny_pure (wpAny_pure ?_)
  have z:=h s.heap (Heap.SameBut.refl a s.heap) (by rw[e2];exact⟨o,es,ep,t,ho,D⟩) false
  cases s;exact z
 | none=>
  dsimp only
  have hout:σ.any (· == k)=false:=by
   rw[<- hany,List.any_eq_false]
   intro e he
   have:=List.findIdx?_eq_none_iff.mp hq e he
   rw[this];exact Bool.false_ne_true
  have e2:step_dedup σ k=σ++[k]:=by unfold step_dedup;rw[if_neg (by rw[hout];exact Bool.false_ne_true)]
  have p1:=layNew_perm t es ((intKind prog w).hash k) (.int k tk)
  have f1:=layNew_fits t es ((intKind prog w).hash k) (.int k tk)
  have u1:=ng D.tb es ((intKind prog w).hash k) (.int k tk)
  generalize layNew t es ((intKind prog w).hash k) (.int k tk)=L at p1 f1 u1 ⊢
  obtain⟨es1,t1,wd,gv⟩:=L
  dsimp only at p1 f1 u1 ⊢
  rw[Array.toList_push] at p1
  have el1:ElemsOf (intKind prog w) es1.toList:=(D.el.push (intKind_is prog w k tk) rfl).perm p1
  have sz1:es1.size=es.size + 1:=by rw[<- Array.length_toList,p1.length_eq,List.length_append,Array.length_toList];rfl
  have sb1:es1.size < scanBound:=by rw[sz1,lk,k2.length_eq];exact hr
  have pm1:∃ ks',IntsAre (vals es1) ks'/\ks'.Perm (step_dedup σ k):=by
   obtain⟨ks',k3,k4⟩:=are_perm (p1.map (·.2)) (by rw[List.map_append];exact are_snoc (k:=k) (t:=tk) k1)
   exact⟨ks',k3,k4.trans (by rw[e2];exact k2.append_right _)⟩
  refine wpAny_bind ((show ∀ (b:Bool) (s₁:Shared) (Q':Unit->Shared->Prop),Q' () s₁->wpAny (model prog w) A (match b with | true=>rule "set.scan.the-table-gave-way" | false=>pure ()) Q' E s₁ from fun b s₁ Q' hq=>by cases b<;>first | exact wpAny_pure hq | exact wpAny_rule hq) _ _ _ ?_)
  have fin:∀ h',Heap.SameBut a s.heap h'->SetI prog w h' a led (step_dedup σ k)->wpAny (model prog w) A (pure true) Q E {s with heap:=h'}:=fun h' hb hS'=>wpAny_pure (h h' hb hS' true)
  split
  ·rw[hashByValue_scannable 8 (x:=.int k tk) rfl]
   refine wpAny_bind (wpAny_pure (add_tail ?_ ho D el1 sb1 ?_ ?_ pm1 fun h' hb hS'=>?_))
   ·intro b s₁ Q' hq;cases b<;>first | exact wpAny_pure hq | exact wpAny_rule hq
   ·split
    ·exact f1
    ·exact SetTable.fits_plain_off f1
   ·split
    ·exact u1
    ·exact iI u1 _
   ·exact fin h' hb hS'
  ·refine wpAny_bind (wpAny_pure ?_)
   rw[if_pos rfl]
   refine add_tail ?_ ho D el1 sb1 f1 u1 pm1 fun h' hb hS'=>fin h' hb hS'
   intro b s₁ Q' hq;cases b<;>first | exact wpAny_pure hq | exact wpAny_rule hq
end
noncomputable abbrev byText (w:World):Bool:=w.params.followText "set-order"
section
variable {prog:Program} {w:World} {A:Around} {E:Value->Shared->Prop} {s:Shared} {R:Result->Shared->Prop} {I:Addr} {fp wr:List Addr} {G:Array GenState->Array GenState->Prop} {n:Nat} {P:Nat->Value->Prop} {St:Nat->Shared->Prop}
theorem SetI.moved {h h':Heap} {a:Addr} {led:Bool} {σ:List Int} (hS:SetI prog w h a led σ) (k:∀ o,h.get? a=some o->h'.get? a=some o):SetI prog w h' a led σ:=by
 obtain⟨o,es,ep,t,ho,D⟩:=hS
 exact⟨o,es,ep,t,k o ho,D⟩
theorem dedup_len (l:List Int):∀ σ:List Int,(l.foldl step_dedup σ).length<=σ.length + l.length:=fun σ=>foldl_step_dedup_length_le σ l
theorem loop (W:WalksS prog w A.in1 I fp wr G n P St) (a:Addr) (ha:a ∉ fp) {led:Bool} {ns:List Int} (hv:∀ i v,P i v->∃ t,v=.int (ns.getD i 0) t) (hn:ns.length=n) (hb:n + 1 < scanBound) :
  ∀ (k i:Nat) (s:Shared),n - i=k->i<=n->St i s->SetI prog w s.heap a led ((ns.take i).foldl step_dedup [])->
   (∀ s',Moved (a::wr) G s s'->SetI prog w s'.heap a led (ns.foldl step_dedup [])->R (.ok (.ret .none)) s')->
   codeAny (model prog w) A (.builtin "set.update.loop" ⟨[.ref a,.ref I],[]⟩) R s:=by
 have haw:a ∉ wr:=fun z=>ha (W.sub _ z)
 have sub:∀ b ∈ wr,b ∈ a::wr:=fun b z=>List.mem_cons_of_mem _ z
 intro k
 induction k with
 | zero=>
  intro i s hk hi hst hS hR
  have e:i=n:=by omega
  subst e
  rw[<- hn,List.take_length] at hS
  refine codeAny_builtin F.entry_set_update_loop ?_
  rw[Around.under_plainId F.plain_set_update_loop _]
  show wpAny _ A.in1 (pyNext (.ref I) >>= _) _ _ s
  exact wpAny_bind (W.done s _ _ hst fun s' hm=>show wpAny _ A.in1 (ret Value.none) _ _ s' from wpAny_pure (hR s' (hm.mono sub) (hS.moved fun o e=>hm.heap a o haw e)))
 | succ k ih=>
  intro i s hk hi hst hS hR
  have hlt:i < n:=by omega
  refine codeAny_builtin F.entry_set_update_loop ?_
  rw[Around.under_plainId F.plain_set_update_loop _]
  show wpAny _ A.in1 (pyNext (.ref I) >>= _) _ _ s
  refine wpAny_bind (W.item i s _ _ hlt hst fun v s' hP hst' hm=>?_)
  obtain⟨t,rfl⟩:=hv i v hP
  have hS1:SetI prog w s'.heap a led ((ns.take i).foldl step_dedup []):=hS.moved fun o e=>hm.heap a o haw e
  show wpAny _ A.in1 (holding [Value.int (ns.getD i 0) t] (setAdd a (.int (ns.getD i 0) t)) >>= _) _ _ s'
  unfold setAdd
  refine wpAny_bind (wpAny_holding (wpAny_holding (wpAny_bind ((intKind prog w).pyHash (intKind_is _ _ _ _) ?_))))
  have hlen:=dedup_len (ns.take i) []
  rw[List.length_take,List.length_nil] at hlen
  refine add_int (s:={s' with toks:=s'.toks + 1}) hS1 (by omega) fun h' hsb hS2 b=>?_
  have et:(ns.take (i + 1)).foldl step_dedup []=step_dedup ((ns.take i).foldl step_dedup []) (ns.getD i 0):=by
   have hi':i < ns.length:=by omega
   rw[List.take_succ,List.foldl_append,List.getElem?_eq_getElem hi',List.getD_eq_getElem?_getD,List.getElem?_eq_getElem hi']
   rfl
  rw[<- et] at hS2
  refine wpAny_pure ⟨plainId_quiet F.plain_set_update_loop _,ih (i + 1) _ (by omega) hlt (W.frame _ s' _ _ hst' (Nat.le_succ _) fun b hb o e=>?_) hS2 fun s'' hm'' hS''=>?_⟩
  ·rw[hsb.2 b fun z=>ha (z ▸ hb)];exact e
  ·refine hR s'' (Moved.trans W.gtrans ((hm.mono sub).then_heap (Nat.le_succ _) fun b o hb e=>?_) hm'') hS''
   rw[hsb.2 b fun z=>hb (z ▸ List.mem_cons_self)];exact e
theorem code_new (x:Value) {Q1:Value->Shared->Prop} (h:Q1 (.ref s.heap.objs.size) {s with heap:=s.heap.push {cls:=.type "set",dict:=none,data:=.set #[] 0 (.fresh 0 0 (!byText w))}}) :
  codeAny (model prog w) A (.call (.builtin "set.__new__") ⟨[.type "set",x],[]⟩) (wants Q1 E) s:=by
 refine codeAny_of_tree (show wpAny _ A.in1 (do checkBuiltinCall "set.__new__" ⟨[.type "set",x],[]⟩;again (.builtin "set.__new__" ⟨[.type "set",x],[]⟩)) _ _ s from wpAny_bind (wpAny_of_eq (F.newCall_set_1 x) (wpAny_pure ⟨plainId_quiet F.plain_set_new _,codeAny_builtin F.entry_set_new ?_⟩)))
 rw[Around.under_plainId F.plain_set_new _]
 unfold Builtin.«set.__new__» Builtin.Frozenset.newClass
 have hs1:=sub_set_self
 obtain⟨hp,g,d,tk,os⟩:=s
 dsimp only
 wp_walk
 refine wpAny_askSetting (wpAny_pure ?_)
 dsimp only
 simp only[newObj]
 exact wpAny_bind (wpAny_alloc (wpAny_pure (wpAny_pure h)))
end
section
variable {prog:Program} {w:World} {A:Around} {E:Value->Shared->Prop} {s:Shared}
noncomputable abbrev oS (w:World):Obj:={cls:=.type "set",dict:=none,data:=.set #[] 0 (.fresh 0 0 (!byText w))}
theorem fresh_set (h:Heap):SetI prog w (h.push (oS w)) h.objs.size (!byText w) []:=
 ⟨_,#[],0,_,Heap.get?_push_size _ rfl,⟨rfl,rfl,rfl⟩,rfl,fun e he=>by simp at he,by decide,rfl,iJ _ _ _,[],.nil,.refl _⟩
theorem call_set {l:Addr} {items:Array Value} {ns:List Int} {Q:Value->Shared->Prop} (hh:A.handled=none) (hl:s.heap.IsList l items) (hi:IntsAre items.toList ns) (hb:items.size + 1 < scanBound)
  (h:∀ (h':Heap) (tk:Nat),SetI prog w h' s.heap.objs.size (!byText w) (ns.foldl step_dedup [])->(∀ b o,b < s.heap.objs.size->s.heap.get? b=some o->h'.get? b=some o)->Q (.ref s.heap.objs.size) {s with heap:=h',toks:=tk}) :
  wpAny (model prog w) A (call (.type "set") [.ref l]) Q E s:=by
 obtain⟨c,tl,mro⟩:=F.called_set.mro
 have made:=F.called_set.made
 have sub:=F.called_set.sub
 refine wpAny_call (codeAny_of_tree (show wpAny _ _ (callAny (.type "set") _) _ _ _ from wpAny_pure ⟨Code.quiet_builtin _ (by decide +kernel),codeAny_builtin F.entry_type_call ?_⟩))
 rw[Around.under_plain (weight_type_call_type "set" [.ref l] []) rfl]
 have n1:=F.called_set.notType
 have n2:=F.called_set.canCreate
 have n3:=F.typeCall_set_1 (.ref l)
 repeat (any_goals (first | assumption | wp_step))
 refine codeAny_mono (code_new (.ref l) (E:=E) (Q1:=fun obj s1=>obj=.ref s.heap.objs.size/\s1 = {s with heap:=s.heap.push (oS w)}) ⟨rfl,rfl⟩) fun r s1 hr=>?_
 cases r with
 | error e=>exact hr
 | ok fl=>
  cases fl with
  | ret obj=>
   obtain⟨rfl,rfl⟩:=hr
   have gS:(s.heap.push (oS w)).get? s.heap.objs.size=some (oS w):=Heap.get?_push_size _ rfl
   have hT:Shared.TypeIs {s with heap:=s.heap.push (oS w)} (.ref s.heap.objs.size) "set":=⟨_,gS,rfl⟩
   have i1:=F.called_set.init.lookup
   have i2:=F.called_set.init.bind (.ref s.heap.objs.size)
   repeat (any_goals (first | assumption | wp_step))
   refine codeAny_mono (codeAny_call_builtin (R:=wants (fun r s2=>r=.none/\∃ h' tk,s2 = {s with heap:=h',toks:=tk}/\SetI prog w h' s.heap.objs.size (!byText w) (ns.foldl step_dedup [])/\
     (∀ b o,b < s.heap.objs.size->s.heap.get? b=some o->h'.get? b=some o)) E) F.called_set.init.plain F.entry_set_init (check_set_init_1 hT ?_)) fun r2 s2 hr2=>?_
   ·obtain⟨ol,hol,hcl,nl,hdl⟩:=hl
    obtain⟨ocls,odict,odata,oslots⟩:=ol
    simp only at hcl hdl
    subst hcl;subst hdl
    have hol1:(s.heap.push (oS w)).get? l=some {cls:=.type "list",dict:=odict,data:=.seq items nl,slots:=oslots}:=Heap.get?_push_of_some _ hol
    have w1:=F.sub_list_set
    have w2:=F.sub_list_frozenset
    have w3:(Value.type "list" == Value.type "dict")=false:=by decide
    have hl1:(s.heap.push (oS w)).IsList l items:=⟨_,hol1,rfl,nl,rfl⟩
    unfold Builtin.«set.__init__» noKeywords Builtin.Frozenset.updateFrom
    generalize hPI:pyIter=PI
    wp_walk
    subst hPI
    refine wpAny_pyIter_list hl1 (wpAny_bind (wpAny_runValue ?_))
    have lS:l < s.heap.objs.size:=Heap.lt_size hol
    have nI:l≠(s.heap.push (oS w)).objs.size:=by rw[Heap.size_push];exact Nat.ne_of_lt (Nat.lt_succ_of_lt lS)
    have aS:s.heap.objs.size ∉ [(s.heap.push (oS w)).objs.size,l]:=by
     rw[Heap.size_push]
     intro z
     rcases List.mem_cons.mp z with z | z
     ·exact Nat.ne_of_lt (Nat.lt_succ_self _) z
     ·exact Nat.ne_of_gt lS (List.mem_singleton.mp z)
    have hlen:ns.length=items.size:=by have:=IntsAre.length hi;rw[Array.length_toList] at this;exact this.symm
    refine loop ((Walks.list (show A.in1.in1.in1.handled=none by simp[hh]) _ l nI items).toS) s.heap.objs.size aS (ns:=ns) (fun i v hv=>IntsAre.int_at hi i v (by rw[Array.getElem?_toList];exact hv)) hlen hb (items.size - 0) 0 _ (by omega) (Nat.zero_le _)
     ⟨⟨_,Heap.get?_push_size _ rfl,rfl,rfl⟩,(hl1.push _)⟩ ((fresh_set s.heap).moved fun o e=>Heap.get?_push_of_some _ e) ?_
    intro s' hm hS'
    obtain⟨h',g',d',tk',os'⟩:=s'
    have eg:g'=s.gens:=hm.gens
    have ed:d'=s.drawn:=hm.drawn
    have eo:os'=s.os:=hm.os
    subst eg ed eo
    show wpAny _ _ _ _ _ _
    refine wpAny_pure (show wpAny _ _ (ret Value.none) _ _ _ from wpAny_pure ⟨rfl,h',tk',rfl,hS',fun b o hb e=>?_⟩)
    refine hm.heap b o (fun z=>?_) (Heap.get?_push_of_some _ (Heap.get?_push_of_some _ e))
    rcases List.mem_cons.mp z with z | z
    ·exact Nat.ne_of_lt hb z
    ·have:=List.mem_singleton.mp z
     rw[Heap.size_push] at this
     exact Nat.ne_of_lt (Nat.lt_succ_of_lt hb) this
   ·cases r2 with
    | error e=>exact hr2
    | ok fl2=>
     cases fl2 with
     | ret r=>
      obtain⟨rfl,h',tk,rfl,hS',hk'⟩:=hr2
      repeat (any_goals (first | assumption | wp_step))
      exact h _ _ hS' hk'
     | _=>exact hr2.elim
  | _=>exact hr.elim
end
theorem slot_sit_next:Slot "set_iterator" "__next__" "set_iterator.__next__":=.of (owner:="set_iterator") (n:="__next__")
 (by rw[typeLookup_type,builtinLookup_eq_fast];kernel_rfl) (by decide +kernel) (by decide +kernel) (by decide +kernel) (by first | exact .inl (by decide +kernel) | exact .inr (by decide +kernel)) (by rw[isSubtype_type];kernel_rfl)
theorem slot_sit_iter:Slot "set_iterator" "__iter__" "set_iterator.__iter__":=.of (owner:="set_iterator") (n:="__iter__")
 (by rw[typeLookup_type,builtinLookup_eq_fast];kernel_rfl) (by decide +kernel) (by decide +kernel) (by decide +kernel) (by first | exact .inl (by decide +kernel) | exact .inr (by decide +kernel)) (by rw[isSubtype_type];kernel_rfl)
theorem entry_sit_next:entryFor table "set_iterator.__next__" = some Builtin.«set_iterator.__next__»:=entryFor_of_tree (by kernel_rfl)
theorem args_sit_next (a:Value):argsOk "set_iterator.__next__" ⟨[a],[]⟩:=by unfold argsOk;kernel_rfl
theorem entry_set_it:entryFor table "set.__iter__" = some Builtin.«frozenset.__iter__»:=
 entryFor_alias (id':="frozenset.__iter__") (by kernel_rfl) (by first | rfl | decide +kernel | (unfold String.splitOn;simp +decide [String.splitOnAux])) (by decide +kernel) (by kernel_rfl)
section
variable {prog:Program} {w:World} {A:Around} {E:Value->Shared->Prop} {s:Shared}
noncomputable abbrev oIt (first:Value) (i n:Nat) (a:Addr) (ep:Nat):Obj:={cls:=.type "set_iterator",data:=.fields #[first,rawInt i,.ref a,rawInt n,rawInt ep]}
theorem by_text {Q:Bool->Shared->Prop} (h:Q (byText w) s):wpAny (model prog w) A setsByText Q E s:=by
 unfold setsByText
 exact wpAny_bind (wpAny_askSetting (wpAny_pure h))
theorem walk_text {a:Addr} {σ:List Int} {o:Obj} {es:Array (Int×Value)} {ep:Nat} {t:SetTable} {led:Bool} {Q:Array (Int×Value)->Shared->Prop} (hb:byText w=true) (ho:s.heap.get? a=some o) (D:SetD prog w led σ o es ep t)
  (h:Q (pickOrder (w.params.setOrder a ep) es) s):wpAny (model prog w) A (setWalk a) Q E s:=by
 unfold setWalk
 refine wpAny_bind (wpAny_setState_of ho D.da D.fi ?_)
 dsimp only
 refine wpAny_bind (by_text ?_)
 rw[hb,if_pos rfl]
 exact wpAny_bind (wpAny_askSetting (wpAny_pure h))
theorem next_text {a:Addr} {σ:List Int} {o:Obj} {es:Array (Int×Value)} {ep slot i:Nat} {t:SetTable} {led:Bool} {Q:Option (Value×Nat)->Shared->Prop} (hb:byText w=true) (ho:s.heap.get? a=some o) (D:SetD prog w led σ o es ep t)
  (h:Q (((pickOrder (w.params.setOrder a ep) es)[i]?).map fun e=>(e.2,slot)) s):wpAny (model prog w) A (setNext a slot i ep) Q E s:=by
 unfold setNext
 refine wpAny_bind (wpAny_setState_of ho D.da D.fi ?_)
 dsimp only
 refine wpAny_bind (by_text ?_)
 rw[hb,if_pos rfl]
 rw[if_neg (by rw[bne_self_eq_false];exact Bool.false_ne_true)]
 exact wpAny_bind (walk_text hb ho D (wpAny_pure h))
theorem next_place {a:Addr} {σ:List Int} {o:Obj} {es:Array (Int×Value)} {ep slot i:Nat} {t:SetTable} {Q:Option (Value×Nat)->Shared->Prop} (hb:byText w=false) (ho:s.heap.get? a=some o) (D:SetD prog w (!byText w) σ o es ep t)
  (hd:(!t.plain && decide (es.size > 1))=false)
  (h:Q (match es[SetTable.below t.place slot]?,t.place[SetTable.below t.place slot]? with
   | some (_,x),some j=>some (x,j + 1)
   | _,_=>none) s):wpAny (model prog w) A (setNext a slot i ep) Q E s:=by
 unfold setNext
 refine wpAny_bind (wpAny_setState_of ho D.da D.fi ?_)
 dsimp only
 refine wpAny_bind (by_text ?_)
 rw[hb,if_neg Bool.false_ne_true]
 refine wpAny_bind (wpAny_pure ?_)
 show wpAny _ _ (if (!t.plain && decide (es.size > 1))=true then _ else _) _ _ _
 rw[hd,if_neg Bool.false_ne_true]
 have hl:t.led=true:=by rw[D.tb.ld,hb];rfl
 show wpAny _ _ ((if (!t.led && !es.isEmpty)=true then _ else _) >>= _) _ _ _
 rw[hl]
 exact wpAny_bind (wpAny_pure (wpAny_pure h))
end
section
variable {prog:Program} {w:World} {A:Around} {E:Value->Shared->Prop} {s:Shared} {it a:Addr} {i n ep slot:Nat} {σ:List Int} {o:Obj} {es:Array (Int×Value)} {t:SetTable} {led:Bool}
theorem stop {M:Model} {A:Around} {h:Heap} {hh:A.handled=none} {R:Fin->Shared->Prop} {R':Value->Shared->Prop} (hQ:∀ h' e,(∀ b o,s.heap.get? b=some o->h'.get? b=some o)->(∃ o,h'.get? e=some o/\o.cls=.type "StopIteration")->R' (.ref e) {s with heap:=h'}) :
  wpAny M A (do raiseNew (<- newExc (.type "StopIteration") [])) R R' s:=by
 refine wpAny_bind ?_
 simp only[newExc,newTuple]
 refine wpAny_bind (wpAny_newObj_type ?_ (by size_fits))
 refine wpAny_bind (m:=firstArgMember _ _) (wpAny_of_eq (a:=Value.none) (by first | rfl | (simp only[firstArgMember];rfl)) (wpAny_newObj_type ?_ (by size_fits)))
 simp only[raiseNew]
 refine wpAny_bind (wpAny_handled ?_)
 rw[hh]
 exact wpAny_bind (wpAny_pure (wpAny_throw (hQ _ _ (fun b o e=>Heap.get?_push_of_some _ (Heap.get?_push_of_some _ e)) ⟨_,Heap.get?_push_size _ rfl,rfl⟩)))
theorem it_item {nx:Nat} {x:Value} (hit:s.heap.get? it=some (oIt (rawInt slot) i n a ep)) (ho:s.heap.get? a=some o) (D:SetD prog w led σ o es ep t) (hn:es.size=n)
  (hs:∀ (A':Around) (E':Value->Shared->Prop) (Q':Option (Value×Nat)->Shared->Prop),Q' (some (x,nx)) s->wpAny (model prog w) A' (setNext a slot i ep) Q' E' s) {Q:Option Value->Shared->Prop}
  (h:∀ h',h'.get? it=some (oIt (rawInt nx) (i + 1) n a ep)->Heap.SameBut it s.heap h'->Q (some x) {s with heap:=h'}):wpAny (model prog w) A (pyNext (.ref it)) Q E s:=by
 have hT:s.TypeIs (.ref it) "set_iterator":=⟨_,hit,rfl⟩
 unfold pyNext
 refine wpAny_bind (wpAny_attempt (wpAny_callSpecial?_slot (name:=Str.ofString "__next__") hT slot_sit_next (wpAny_call_entry slot_sit_next hT entry_sit_next ?_ (args_sit_next _))))
 show wpAny _ _ (fieldsOf (.ref it) >>= _) _ _ s
 refine wpAny_bind (wpAny_fieldsOf hit rfl ?_)
 show wpAny _ _ (setEntries a >>= _) _ _ s
 refine wpAny_bind (wpAny_setEntries_of ho D.da D.fi ?_)
 rw[if_neg (by rw[hn];simp)]
 show wpAny _ _ (setNext a slot i ep >>= _) _ _ s
 refine wpAny_bind (hs _ _ _ ?_)
 show wpAny _ _ (setField (.ref it) 0 (rawInt nx) >>= _) _ _ s
 refine wpAny_bind (wpAny_setField_rec hit (by simp) fun h1 g1 b1=>?_)
 refine wpAny_bind (wpAny_setField_rec g1 (by simp) fun h2 g2 b2=>?_)
 exact wpAny_pure ⟨x,rfl,wpAny_pure (h h2 g2 (b1.trans b2))⟩
theorem it_done (hh:A.handled=none) (hit:s.heap.get? it=some (oIt (rawInt slot) i n a ep)) (ho:s.heap.get? a=some o) (D:SetD prog w led σ o es ep t) (hn:es.size=n)
  (hs:∀ (A':Around) (E':Value->Shared->Prop) (Q':Option (Value×Nat)->Shared->Prop),Q' none s->wpAny (model prog w) A' (setNext a slot i ep) Q' E' s) {Q:Option Value->Shared->Prop}
  (h:∀ h',(∀ b o,b≠it->s.heap.get? b=some o->h'.get? b=some o)->Q none {s with heap:=h'}):wpAny (model prog w) A (pyNext (.ref it)) Q E s:=by
 have hT:s.TypeIs (.ref it) "set_iterator":=⟨_,hit,rfl⟩
 unfold pyNext
 refine wpAny_bind (wpAny_attempt (wpAny_callSpecial?_slot (name:=Str.ofString "__next__") hT slot_sit_next (wpAny_call_entry slot_sit_next hT entry_sit_next ?_ (args_sit_next _))))
 show wpAny _ _ (fieldsOf (.ref it) >>= _) _ _ s
 refine wpAny_bind (wpAny_fieldsOf hit rfl ?_)
 show wpAny _ _ (setEntries a >>= _) _ _ s
 refine wpAny_bind (wpAny_setEntries_of ho D.da D.fi ?_)
 rw[if_neg (by rw[hn];simp)]
 show wpAny _ _ (setNext a slot i ep >>= _) _ _ s
 refine wpAny_bind (hs _ _ _ ?_)
 show wpAny _ _ (setField (.ref it) 2 .none >>= _) _ _ s
 refine wpAny_bind (wpAny_setField_rec hit (by simp) fun h1 g1 b1=>?_)
 refine stop (h:=h1) (hh:=show A.in1.handled=none from hh) (s:={s with heap:=h1}) fun h' e k he=>?_
 obtain⟨oe,ge,ce⟩:=he
 refine wpAny_bind (wpAny_isInstance (T:="StopIteration") (b:=true) ⟨_,ge,ce⟩ isSubtype_stop ?_)
 exact wpAny_pure (h h' fun b o hb e=>k b o (b1.extBut b o hb e))
end
section
variable {prog:Program} {w:World} {A:Around} {E:Value->Shared->Prop} {s:Shared} {it a T:Addr} {i n ep slot:Nat} {σ:List Int} {o:Obj} {es:Array (Int×Value)} {t:SetTable} {led:Bool}
noncomputable abbrev oTp (ps:List Nat):Obj:={cls:=.type "tuple",data:=.seq (ps.map fun (k:Nat)=>rawInt k).toArray}
theorem next_drawn {pl:Nat} {c:Int} {x:Value} {Q:Value->Shared->Prop} (ho:s.heap.get? a=some o) (D:SetD prog w led σ o es ep t) (he:es[pl]? = some (c,x)) (h:Q x s):wpAny (model prog w) A (setNextDrawn a pl ep) Q E s:=by
 unfold setNextDrawn
 refine wpAny_bind (wpAny_setState_of ho D.da D.fi ?_)
 dsimp only
 rw[if_neg (by rw[bne_self_eq_false];exact Bool.false_ne_true)]
 rw[he]
 exact wpAny_pure h
theorem itd_item {ps:List Nat} {pl:Nat} {c:Int} {x:Value} (hit:s.heap.get? it=some (oIt (.ref T) i n a ep)) (hT:s.heap.get? T=some (oTp ps)) (ho:s.heap.get? a=some o) (D:SetD prog w led σ o es ep t) (hn:es.size=n)
  (hp:ps[i]? = some pl) (he:es[pl]? = some (c,x)) {Q:Option Value->Shared->Prop}
  (h:∀ h',h'.get? it=some (oIt (.ref T) (i + 1) n a ep)->Heap.SameBut it s.heap h'->Q (some x) {s with heap:=h'}):wpAny (model prog w) A (pyNext (.ref it)) Q E s:=by
 have hTi:s.TypeIs (.ref it) "set_iterator":=⟨_,hit,rfl⟩
 unfold pyNext
 refine wpAny_bind (wpAny_attempt (wpAny_callSpecial?_slot (name:=Str.ofString "__next__") hTi slot_sit_next (wpAny_call_entry slot_sit_next hTi entry_sit_next ?_ (args_sit_next _))))
 show wpAny _ _ (fieldsOf (.ref it) >>= _) _ _ s
 refine wpAny_bind (wpAny_fieldsOf hit rfl ?_)
 show wpAny _ _ (setEntries a >>= _) _ _ s
 refine wpAny_bind (wpAny_setEntries_of ho D.da D.fi ?_)
 rw[if_neg (by rw[hn];simp)]
 show wpAny _ _ (seqItems? (.ref T) >>= _) _ _ s
 refine wpAny_bind (wpAny_seqItems hT rfl ?_)
 dsimp only
 have e:((ps.map fun (k:Nat)=>rawInt k).toArray)[((i:Nat):Int).toNat]? = some (rawInt pl):=by simp[hp]
 rw[e]
 show wpAny _ _ (setNextDrawn a pl ep >>= _) _ _ s
 refine wpAny_bind (next_drawn ho D he ?_)
 refine wpAny_bind (wpAny_setField_rec hit (by simp) fun h1 g1 b1=>?_)
 exact wpAny_pure ⟨x,rfl,wpAny_pure (h h1 g1 b1)⟩
theorem itd_done {ps:List Nat} (hh:A.handled=none) (hit:s.heap.get? it=some (oIt (.ref T) i n a ep)) (hT:s.heap.get? T=some (oTp ps)) (ho:s.heap.get? a=some o) (D:SetD prog w led σ o es ep t) (hn:es.size=n)
  (hp:ps[i]? = none) {Q:Option Value->Shared->Prop}
  (h:∀ h',(∀ b o,b≠it->s.heap.get? b=some o->h'.get? b=some o)->Q none {s with heap:=h'}):wpAny (model prog w) A (pyNext (.ref it)) Q E s:=by
 have hTi:s.TypeIs (.ref it) "set_iterator":=⟨_,hit,rfl⟩
 unfold pyNext
 refine wpAny_bind (wpAny_attempt (wpAny_callSpecial?_slot (name:=Str.ofString "__next__") hTi slot_sit_next (wpAny_call_entry slot_sit_next hTi entry_sit_next ?_ (args_sit_next _))))
 show wpAny _ _ (fieldsOf (.ref it) >>= _) _ _ s
 refine wpAny_bind (wpAny_fieldsOf hit rfl ?_)
 show wpAny _ _ (setEntries a >>= _) _ _ s
 refine wpAny_bind (wpAny_setEntries_of ho D.da D.fi ?_)
 rw[if_neg (by rw[hn];simp)]
 show wpAny _ _ (seqItems? (.ref T) >>= _) _ _ s
 refine wpAny_bind (wpAny_seqItems hT rfl ?_)
 dsimp only
 have e:((ps.map fun (k:Nat)=>rawInt k).toArray)[((i:Nat):Int).toNat]? = none:=by
  have:=hp
  simp at this ⊢
  exact this
 rw[e]
 show wpAny _ _ (setField (.ref it) 0 (rawInt 0) >>= _) _ _ s
 refine wpAny_bind (wpAny_setField_rec hit (by simp) fun h1 g1 b1=>?_)
 refine wpAny_bind (wpAny_setField_rec g1 (by simp) fun h2 g2 b2=>?_)
 refine stop (h:=h2) (hh:=show A.in1.handled=none from hh) (s:={s with heap:=h2}) fun h' e k he=>?_
 obtain⟨oe,ge,ce⟩:=he
 refine wpAny_bind (wpAny_isInstance (T:="StopIteration") (b:=true) ⟨_,ge,ce⟩ isSubtype_stop ?_)
 exact wpAny_pure (h h' fun b o hb e=>k b o (b2.extBut b o hb (b1.extBut b o hb e)))
theorem erase_perm {α:Type} (l:List α):∀ (j:Nat) (h:j < l.length),(l[j]::l.eraseIdx j).Perm l:=by
 induction l with
 | nil=>intro j h;cases h
 | cons a l ih=>
  intro j h
  cases j with
  | zero=>exact .refl _
  | succ j=>
   have h':j < l.length:=by simpa using h
   exact(List.Perm.swap a l[j] (l.eraseIdx j)).trans (List.Perm.cons a (ih j h'))
theorem pick_perm {α:Type} (f:Nat->Nat):∀ (fuel k:Nat) (left:List α) (out:Array α),left.length<=fuel->(pickOrder.go f fuel k left out).toList.Perm (out.toList++left):=by
 intro fuel
 induction fuel with
 | zero=>
  intro k left out h
  have:left=[]:=List.length_eq_zero_iff.mp (by omega)
  subst this
  unfold pickOrder.go
  rw[List.append_nil]
 | succ n ih=>
  intro k left out h
  unfold pickOrder.go
  cases left with
  | nil=>simp
  | cons y l=>
   have hlt:f k % (y::l).length < (y::l).length:=Nat.mod_lt _ (by simp)
   generalize f k % (y::l).length=j at hlt
   rw[List.getElem?_eq_getElem hlt]
   dsimp only
   refine(ih (k + 1) _ _ (by rw[List.length_eraseIdx_of_lt hlt];simp at h ⊢;omega)).trans ?_
   rw[Array.toList_push,List.append_assoc]
   refine List.Perm.append_left _ ?_
   exact(erase_perm _ _ hlt)
theorem pick_all {α:Type} (f:Nat->Nat) (xs:Array α):(pickOrder f xs).toList.Perm xs.toList:=by
 have:=pick_perm f xs.size 0 xs.toList #[] (by simp)
 rw[show (#[]:Array α).toList++xs.toList=xs.toList by simp] at this
 exact this
theorem choose_ok {src:Source} {m:Nat} {Q:Nat->Shared->Prop} (hm:m≠0) (h:∀ k d,k < m->Q k {s with drawn:=d}):wpAny (model prog w) A (choose src m) Q E s:=fun Γ p hΓ=>
 show m≠0/\Q _ _ from ⟨hm,h _ _ (Nat.mod_lt _ (Nat.pos_of_ne_zero hm))⟩
theorem draw_ok {α:Type} {Q:List α->Shared->Prop}:∀ (m:Nat) (xs:List α) (s:Shared),xs.length=m->(∀ ys d,ys.Perm xs->Q ys {s with drawn:=d})->wpAny (model prog w) A (drawOrder m xs) Q E s:=by
 intro m
 induction m generalizing Q with
 | zero=>
  intro xs s hx h
  have:xs=[]:=List.length_eq_zero_iff.mp hx
  subst this
  exact wpAny_pure (by cases s;exact h [] _ (.refl _))
 | succ m ih=>
  intro xs s hx h
  cases xs with
  | nil=>cases hx
  | cons y l=>
   unfold drawOrder
   refine wpAny_bind (choose_ok (by simp) fun k d hk=>?_)
   rw[List.getElem?_eq_getElem hk]
   dsimp only
   refine wpAny_bind (ih _ _ (by rw[List.length_eraseIdx_of_lt hk];simp at hx ⊢;omega) fun ys d' hy=>wpAny_pure ?_)
   exact h _ d' ((List.Perm.cons _ hy).trans (erase_perm _ _ hk))
end
theorem entry_sit_iter:entryFor table "set_iterator.__iter__" = some Builtin.«dict_keyiterator.__iter__»:=
 entryFor_alias (id':="dict_keyiterator.__iter__") (by kernel_rfl) (by first | rfl | decide +kernel | (unfold String.splitOn;simp +decide [String.splitOnAux])) (by decide +kernel) (by kernel_rfl)
theorem args_sit_iter (a:Value):argsOk "set_iterator.__iter__" ⟨[a],[]⟩:=by unfold argsOk;kernel_rfl
section
variable {prog:Program} {w:World} {A:Around} {E:Value->Shared->Prop} {s:Shared} {it a T:Addr} {i n ep slot:Nat} {σ:List Int} {o:Obj} {es:Array (Int×Value)} {t:SetTable} {led:Bool}
theorem sit_self {f:Value} {Q:Value->Shared->Prop} (hit:s.heap.get? it=some (oIt f i n a ep)) (h:Q (.ref it) s):wpAny (model prog w) A (pyIter (.ref it)) Q E s:=by
 have hT:s.TypeIs (.ref it) "set_iterator":=⟨_,hit,rfl⟩
 refine wpAny_pyIter_slot hT slot_sit_iter (wpAny_call_entry slot_sit_iter hT entry_sit_iter ?_ (args_sit_iter _))
 exact wpAny_pure ⟨_,rfl,"set_iterator",_,hT,slot_sit_next.lookup,h⟩
theorem cut_one {xs:Array Nat} {j p q:Nat} (h1:Cut xs j p) (h2:Cut xs j q):p=q:=by
 have key:∀ p q:Nat,Cut xs j p->Cut xs j q->¬ p < q:=fun p q h1 h2 h=>by
  have hl:p < xs.size:=Nat.lt_of_lt_of_le h h2.le
  have e:xs[p]? = some xs[p]:=by simp[hl]
  have:=h2.lo p _ h e
  have:=h1.hi p _ (Nat.le_refl _) e
  omega
 have:=key p q h1 h2
 have:=key q p h2 h1
 omega
theorem walkA (hh:A.handled=none) (hb:byText w=true) (D:SetD prog w led σ o es ep t) (hne:a≠it) :
  Walks prog w A it [it,a] [it] es.size (fun i v=>((pickOrder (w.params.setOrder a ep) es).toList.map (·.2))[i]? = some v) (fun i h=>h.get? it=some (oIt (rawInt 0) i es.size a ep)/\h.get? a=some o) where
 sub:=fun b hb=>by rw[List.mem_singleton.mp hb];exact List.mem_cons_self
 frame:=fun _ _ _ st k=>⟨k it (by simp) _ st.1,k a (by simp) _ st.2⟩
 item:=fun i s Q E hi st hQ=>by
  have hl:(pickOrder (w.params.setOrder a ep) es).size=es.size:=by rw[<- Array.length_toList,(pick_all _ es).length_eq,Array.length_toList]
  have e:(pickOrder (w.params.setOrder a ep) es)[i]? = some (pickOrder (w.params.setOrder a ep) es)[i]:=by simp[hl,hi]
  refine it_item (x:=(pickOrder (w.params.setOrder a ep) es)[i].2) (nx:=0) st.1 st.2 D rfl (fun A' E' Q' q=>next_text hb st.2 D (by rw[e];exact q)) fun h' g b=>?_
  exact hQ _ h' s.toks (by rw[List.getElem?_map,Array.getElem?_toList,e];rfl) ⟨g,b.extBut a o hne st.2⟩ fun c o hc e=>b.extBut c o (fun z=>hc (by simp[z])) e
 done:=fun s Q E st hQ=>by
  have hl:(pickOrder (w.params.setOrder a ep) es).size=es.size:=by rw[<- Array.length_toList,(pick_all _ es).length_eq,Array.length_toList]
  have e:(pickOrder (w.params.setOrder a ep) es)[es.size]? = none:=by simp[hl]
  exact it_done hh st.1 st.2 D rfl (fun A' E' Q' q=>next_text hb st.2 D (by rw[e];exact q)) fun h' k=>hQ h' s.toks fun c o hc e=>k c o (fun z=>hc (by simp[z])) e
 self:=fun _ _ _ _ st hQ=>sit_self st.1 hQ
noncomputable def stand (t:SetTable):Nat->Nat
 | 0=>0
 | i + 1=>t.place.getD i 0 + 1
theorem stand_cut (u:Up t.place) (hi:i<=t.place.size):Cut t.place (stand t i) i:=by
 cases i with
 | zero=>exact⟨hi,fun i x h=>absurd h (Nat.not_lt_zero i),fun i x _ _=>Nat.zero_le _⟩
 | succ k=>
  have hk:k < t.place.size:=by omega
  have e:t.place[k]? = some t.place[k]:=by simp[hk]
  have eg:t.place.getD k 0=t.place[k]:=by simp[Array.getD,hk]
  refine⟨hi,fun j x hj hx=>?_,fun j x hj hx=>?_⟩
  ·show x < t.place.getD k 0 + 1
   rw[eg]
   by_cases q:j=k
   ·subst q;rw[e] at hx;cases hx;omega
   ·have:=u j k x _ (by omega) hx e;omega
  ·show t.place.getD k 0 + 1<=x
   rw[eg]
   have:=u k j _ x (by omega) e hx
   omega
theorem walkC (hh:A.handled=none) (hb:byText w=false) (D:SetD prog w (!byText w) σ o es ep t) (hd:(!t.plain && decide (es.size > 1))=false) (hne:a≠it) :
  Walks prog w A it [it,a] [it] es.size (fun i v=>(vals es)[i]? = some v) (fun i h=>h.get? it=some (oIt (rawInt (stand t i)) i es.size a ep)/\h.get? a=some o) where
 sub:=fun b hb=>by rw[List.mem_singleton.mp hb];exact List.mem_cons_self
 frame:=fun _ _ _ st k=>⟨k it (by simp) _ st.1,k a (by simp) _ st.2⟩
 item:=fun i s Q E hi st hQ=>by
  have hz:t.place.size=es.size:=by have:=D.fi;unfold SetTable.fits at this;rw[Bool.and_eq_true] at this;exact eq_of_beq this.1
  have hp:i < t.place.size:=by omega
  have eb:SetTable.below t.place (stand t i)=i:=cut_one (bZ D.tb.up _) (stand_cut D.tb.up (Nat.le_of_lt hp))
  have e1:es[i]? = some (es[i].1,es[i].2):=by simp[hi]
  have e2:t.place[i]? = some t.place[i]:=by simp[hp]
  have e3:stand t (i + 1)=t.place[i] + 1:=by show t.place.getD i 0 + 1=_;simp[Array.getD,hp]
  refine it_item (x:=es[i].2) (nx:=stand t (i + 1)) st.1 st.2 D rfl (fun A' E' Q' q=>next_place hb st.2 D hd (by rw[eb,e1,e2];rw[e3] at q;exact q)) fun h' g b=>?_
  exact hQ _ h' s.toks (by rw[List.getElem?_map,Array.getElem?_toList,e1];rfl) ⟨g,b.extBut a o hne st.2⟩ fun c o hc e=>b.extBut c o (fun z=>hc (by simp[z])) e
 done:=fun s Q E st hQ=>by
  have hz:t.place.size=es.size:=by have:=D.fi;unfold SetTable.fits at this;rw[Bool.and_eq_true] at this;exact eq_of_beq this.1
  have eb:SetTable.below t.place (stand t es.size)=es.size:=cut_one (bZ D.tb.up _) (stand_cut D.tb.up (by omega))
  have e1:es[es.size]? = none:=by simp
  exact it_done hh st.1 st.2 D rfl (fun A' E' Q' q=>next_place hb st.2 D hd (by rw[eb,e1];exact q)) fun h' k=>hQ h' s.toks fun c o hc e=>k c o (fun z=>hc (by simp[z])) e
 self:=fun _ _ _ _ st hQ=>sit_self st.1 hQ
theorem walkB (hh:A.handled=none) (D:SetD prog w led σ o es ep t) {ps:List Nat} (hp:ps.Perm (List.range es.size)) (hne:a≠it) (hnT:T≠it) :
  Walks prog w A it [it,a,T] [it] es.size (fun i v=>(ps.map fun k=>(es.getD k (0,.none)).2)[i]? = some v) (fun i h=>h.get? it=some (oIt (.ref T) i es.size a ep)/\h.get? a=some o/\h.get? T=some (oTp ps)) where
 sub:=fun b hb=>by rw[List.mem_singleton.mp hb];exact List.mem_cons_self
 frame:=fun _ _ _ st k=>⟨k it (by simp) _ st.1,k a (by simp) _ st.2.1,k T (by simp) _ st.2.2⟩
 item:=fun i s Q E hi st hQ=>by
  have hl:ps.length=es.size:=by rw[hp.length_eq,List.length_range]
  have hi':i < ps.length:=by omega
  have hlt:ps[i] < es.size:=List.mem_range.mp (hp.mem_iff.mp (List.getElem_mem hi'))
  have e1:ps[i]? = some ps[i]:=List.getElem?_eq_getElem hi'
  have e2:es[ps[i]]? = some (es[ps[i]].1,es[ps[i]].2):=by simp[hlt]
  refine itd_item st.1 st.2.2 st.2.1 D rfl e1 e2 fun h' g b=>?_
  exact hQ _ h' s.toks (by rw[List.getElem?_map,e1];simp[Array.getD,hlt]) ⟨g,b.extBut a o hne st.2.1,b.extBut T _ hnT st.2.2⟩ fun c o hc e=>b.extBut c o (fun z=>hc (by simp[z])) e
 done:=fun s Q E st hQ=>by
  have hl:ps.length=es.size:=by rw[hp.length_eq,List.length_range]
  exact itd_done hh st.1 st.2.2 st.2.1 D rfl (by rw[List.getElem?_eq_none];omega) fun h' k=>hQ h' s.toks fun c o hc e=>k c o (fun z=>hc (by simp[z])) e
 self:=fun _ _ _ _ st hQ=>sit_self st.1 hQ
end
section
variable {prog:Program} {w:World} {A:Around} {E:Value->Shared->Prop} {s:Shared} {it a T:Addr} {i n ep slot:Nat} {σ:List Int} {o:Obj} {es:Array (Int×Value)} {t:SetTable} {led:Bool}
structure Come (prog:Program) (w:World) (A:Around) (a:Addr) (σ:List Int) (h h1:Heap) (it:Addr) (seq:List Value) (n:Nat) (fp:List Addr) (St:Nat->Heap->Prop):Prop where
 keep:∀ b o,h.get? b=some o->h1.get? b=some o
 new:h.get? it=none
 pm:∃ ks,IntsAre seq ks/\ks.Perm σ
 ln:seq.length=n
 wk:Walks prog w A it fp [it] n (fun i v=>seq[i]? = some v) St
 st:St 0 h1
 fps:∀ b ∈ fp,b=a∨h.get? b=none
theorem get_new (h:Heap):h.get? h.objs.size=none:=by
 cases e:h.get? h.objs.size with
 | none=>rfl
 | some o=>exact absurd (Heap.lt_size e) (Nat.lt_irrefl _)
theorem get_new1 (h:Heap) (o:Obj):h.get? (h.push o).objs.size=none:=by
 cases e:h.get? (h.push o).objs.size with
 | none=>rfl
 | some o'=>
  have:=Heap.lt_size e
  rw[Heap.size_push] at this
  exact absurd this (Nat.not_lt.mpr (Nat.le_succ _))
theorem map_range (es:Array (Int×Value)):(List.range es.size).map (fun k=>(es.getD k (0,.none)).2)=vals es:=by
 apply List.ext_getElem?
 intro j
 rw[List.getElem?_map,List.getElem?_map]
 by_cases h:j < es.size
 ·rw[List.getElem?_range h];simp[Array.getD,h]
 ·rw[List.getElem?_eq_none (by simp;omega)];simp[h]
theorem iter_set (hh:A.handled=none) (hS:SetI prog w s.heap a (!byText w) σ) {Q:Value->Shared->Prop} (h:∀ h1 d it seq n fp St,Come prog w A a σ s.heap h1 it seq n fp St->Q (.ref it) {s with heap:=h1,drawn:=d}) :
  wpAny (model prog w) A (pyIter (.ref a)) Q E s:=by
 obtain⟨o,es,ep,t,ho,D⟩:=hS
 obtain⟨ks,k1,k2⟩:=D.pm
 have hT:s.TypeIs (.ref a) "set":=⟨_,ho,D.ex.1⟩
 have alt:a < s.heap.objs.size:=Heap.lt_size ho
 refine wpAny_pyIter_slot hT F.slot_set_iter (wpAny_call_entry F.slot_set_iter hT entry_set_it ?_ (F.args_set_iter_1 _))
 show wpAny _ _ (Builtin.Frozenset.sizeOf a >>= _) _ _ s
 unfold Builtin.Frozenset.sizeOf
 refine wpAny_bind (wpAny_bind (wpAny_setEntries_of ho D.da D.fi (wpAny_pure ?_)))
 have lkp:∀ {f:Value} {h1:Heap} {d:Drawn} {x:Addr},h1.get? x=some (oIt f 0 es.size a ep)->Shared.TypeIs {s with heap:=h1,drawn:=d} (.ref x) "set_iterator":=fun e=>⟨_,e,rfl⟩
 show wpAny _ _ (setDrawn a >>= _) _ _ s
 unfold setDrawn
 refine wpAny_bind (wpAny_bind (wpAny_setState_of ho D.da D.fi ?_))
 dsimp only
 refine wpAny_bind (by_text (wpAny_pure ?_))
 cases hb:byText w with
 | true=>
  show wpAny _ _ (if (!true && _)=true then _ else _) _ _ _
  rw[Bool.not_true,Bool.false_and,if_neg Bool.false_ne_true]
  refine wpAny_bind (wpAny_pure (wpAny_bind (wpAny_setEpoch_of ho D.da D.fi (wpAny_bind (wpAny_newObj_type ?_ (by size_fits))))))
  obtain⟨ks',k3,k4⟩:=are_perm ((pick_all (w.params.setOrder a ep) es).map (·.2)) k1
  have hl:((pickOrder (w.params.setOrder a ep) es).toList.map (·.2)).length=es.size:=by rw[List.length_map,(pick_all _ es).length_eq,Array.length_toList]
  have W:=walkA (A:=A) (it:=s.heap.objs.size) hh hb D (Nat.ne_of_lt alt)
  exact wpAny_pure ⟨_,rfl,"set_iterator",_,lkp (d:=s.drawn) (Heap.get?_push_size _ rfl),slot_sit_next.lookup,h _ s.drawn s.heap.objs.size _ _ _ _
   ⟨fun b o e=>Heap.get?_push_of_some _ e,get_new _,⟨ks',k3,k4.trans k2⟩,hl,W,⟨Heap.get?_push_size _ rfl,Heap.get?_push_of_some _ ho⟩,fun b hb=>by
    rcases List.mem_cons.mp hb with e | hb
    ·rw[e];exact .inr (get_new _)
    ·exact .inl (List.mem_singleton.mp hb)⟩⟩
 | false=>
  cases hd:(!t.plain && decide (es.size > 1)) with
  | false=>
   show wpAny _ _ (if (!false && (!t.plain && decide (es.size > 1)))=true then _ else _) _ _ _
   rw[hd,Bool.and_false,if_neg Bool.false_ne_true]
   refine wpAny_bind (wpAny_pure (wpAny_bind (wpAny_setEpoch_of ho D.da D.fi (wpAny_bind (wpAny_newObj_type ?_ (by size_fits))))))
   have hl:(vals es).length=es.size:=by rw[List.length_map,Array.length_toList]
   have W:=walkC (A:=A) (it:=s.heap.objs.size) hh hb D hd (Nat.ne_of_lt alt)
   exact wpAny_pure ⟨_,rfl,"set_iterator",_,lkp (d:=s.drawn) (Heap.get?_push_size _ rfl),slot_sit_next.lookup,h _ s.drawn s.heap.objs.size _ _ _ _
    ⟨fun b o e=>Heap.get?_push_of_some _ e,get_new _,⟨ks,k1,k2⟩,hl,W,⟨Heap.get?_push_size _ rfl,Heap.get?_push_of_some _ ho⟩,fun b hb=>by
     rcases List.mem_cons.mp hb with e | hb
     ·rw[e];exact .inr (get_new _)
     ·exact .inl (List.mem_singleton.mp hb)⟩⟩
  | true=>
   show wpAny _ _ (if (!false && (!t.plain && decide (es.size > 1)))=true then _ else _) _ _ _
   rw[hd,Bool.not_false,Bool.and_self,if_pos rfl]
   have hz:=fits_of_scanBound D.sb
   refine wpAny_bind (draw_ok _ _ _ List.length_range fun ps d hp=>?_)
   have hl0:ps.length=es.size:=by rw[hp.length_eq,List.length_range]
   have ho1:(s.heap.push (oTp ps)).get? a=some o:=Heap.get?_push_of_some _ ho
   refine wpAny_bind (wpAny_newTuple (wpAny_bind (wpAny_setEpoch_of ho1 D.da D.fi (wpAny_bind (wpAny_newObj_type ?_ (by size_fits))))) (by rw[List.length_map,hl0];exact hz))
   have pv:(ps.map fun k=>(es.getD k (0,.none)).2).Perm (vals es):=by rw[<- map_range];exact hp.map _
   obtain⟨ks',k3,k4⟩:=are_perm pv k1
   have hl:(ps.map fun k=>(es.getD k (0,.none)).2).length=es.size:=by rw[List.length_map,hl0]
   have hsz:(s.heap.push (oTp ps)).objs.size=s.heap.objs.size + 1:=Heap.size_push ..
   have W:=walkB (A:=A) (T:=s.heap.objs.size) (it:=(s.heap.push (oTp ps)).objs.size) hh D hp (by rw[hsz];exact Nat.ne_of_lt (Nat.lt_succ_of_lt alt)) (by rw[hsz];exact Nat.ne_of_lt (Nat.lt_succ_self _))
   exact wpAny_pure ⟨_,rfl,"set_iterator",_,lkp (d:=d) (Heap.get?_push_size _ rfl),slot_sit_next.lookup,h _ d (s.heap.push (oTp ps)).objs.size _ _ _ _
    ⟨fun b o e=>Heap.get?_push_of_some _ (Heap.get?_push_of_some _ e),get_new1 _ _,⟨ks',k3,k4.trans k2⟩,hl,W,
     ⟨Heap.get?_push_size _ rfl,Heap.get?_push_of_some _ ho1,Heap.get?_push_of_some _ (Heap.get?_push_size _ rfl)⟩,fun b hb=>by
     rcases List.mem_cons.mp hb with e | hb
     ·rw[e];exact .inr (get_new1 _ _)
     ·rcases List.mem_cons.mp hb with e | hb
      ·exact .inl e
      ·rw[List.mem_singleton.mp hb];exact .inr (get_new _)⟩⟩
end
section
variable {prog:Program} {w:World} {A:Around} {E:Value->Shared->Prop} {s:Shared} {a:Addr} {σ:List Int}
theorem hint_set {Q:Bool->Shared->Prop} (hT:s.TypeIs (.ref a) "set") (h:Q false s):wpAny (model prog w) A (Builtin.List.listLengthHint (.ref a)) Q E s:=by
 unfold Builtin.List.listLengthHint
 refine wpAny_bind (wpAny_specialOf hT PySem.F.slot_set_len.lookup ?_)
 generalize hid:("set.__len__" : String)=id0
 wp_delta
 rw[show splitId id0=some ("set","__len__") from by subst hid;decide +kernel]
 subst hid
 refine wpAny_bind (wpAny_isInstance (T:="set") (b:=true) hT (by rw[isSubtype_type];kernel_rfl) (wpAny_ite_split (fun z=>absurd z (by decide)) fun _=>wpAny_ite_split (fun _=>?_) fun z=>absurd (by decide +kernel) z))
 exact wpAny_bind (wpAny_typeOf hT (wpAny_pure h))
theorem seq_of {seq:List Value} {acc:Array Value} (h:ItemsOf (fun i v=>seq[i]? = some v) acc seq.length):acc.toList=seq:=by
 apply List.ext_getElem?
 intro j
 rw[Array.getElem?_toList]
 by_cases hj:j < acc.size
 ·have e:acc[j]? = some acc[j]:=by simp[hj]
  rw[e,h.2 j _ e]
 ·have h1:acc[j]? = none:=by simp;omega
  rw[h1,List.getElem?_eq_none (by rw[<- h.1];omega)]
theorem ext_set {R:Result->Shared->Prop} (hh:A.handled=none) (hS:SetI prog w s.heap a (!byText w) σ) (S:Addr) (hSa:S≠a) (res:Value) (c0:Nat) (hg:s.heap.get? S=some {cls:=.type "list",data:=.seq #[] c0}) (hn:σ.length<=sizeLine)
  (hR:∀ h' tk d acc c,(∀ b o,b≠S->s.heap.get? b=some o->h'.get? b=some o)->h'.get? S=some {cls:=.type "list",dict:=none,data:=.seq acc c,slots:=#[]}->(∃ ks,IntsAre acc.toList ks/\ks.Perm σ)->R (.ok (.ret res)) {s with heap:=h',toks:=tk,drawn:=d}) :
  wpAny (model prog w) A.in1 (Builtin.List.listExtendWith (.ref S) (.ref a) res)
   (fun fin s'=>match fin with | .done f=>R (.ok f) s' | .again c'=>c'.quiet=true/\codeAny (model prog w) A c' R s') (fun e s'=>R (.error e) s') s:=by
 have hT:s.TypeIs (.ref a) "set":=by obtain⟨o,es,ep,t,ho,D⟩:=hS;exact⟨o,ho,D.ex.1⟩
 unfold Builtin.List.listExtendWith
 refine wpAny_bind (wpAny_typeOf (T:="set") hT ?_)
 have h1:Builtin.List.listSameRef (.ref S) (.ref a)=false:=by simp[Builtin.List.listSameRef,hSa]
 rw[if_neg (by rw[h1];decide)]
 refine wpAny_bind (iter_set (A:=A.in1) hh hS fun h1 d it seq n fp St C=>?_)
 have hfp:S ∉ fp:=fun z=>(C.fps S z).elim hSa fun e=>by rw[hg] at e;cases e
 have hSi:S≠it:=fun z=>by rw[z,C.new] at hg;cases hg
 obtain⟨ks,q1,q2⟩:=C.pm
 have hln:n<=sizeLine:=by rw[<- C.ln,IntsAre.length q1,q2.length_eq];exact hn
 have key:∀ (h:Heap) (c1 tk:Nat),St 0 h->(∀ b o,b≠S->s.heap.get? b=some o->h.get? b=some o)->h.get? S=some {cls:=.type "list",data:=.seq #[] c1}->
   codeAny (model prog w) A (.builtin "list.extend.loop" ⟨[.ref S,.ref it,res],[]⟩) R {s with heap:=h,toks:=tk,drawn:=d}:=by
  intro h c1 tk hst hk hS1
  refine codeAny_extend_loopS C.wk.toS hln S hfp res n 0 _ #[] c1 rfl (Nat.zero_le _) hst hS1 (ItemsOf.nil _) fun s' acc c hm hS' hacc=>?_
  rw[Moved.eq_with hm]
  rw[<- C.ln] at hacc
  refine hR s'.heap s'.toks d acc c (fun b o hb e=>hm.heap b o (fun z=>?_) (hk b o hb e)) hS' ⟨ks,by rw[seq_of hacc];exact q1,q2⟩
  rcases List.mem_cons.mp z with z | z
  ·exact hb z
  ·rw[List.mem_singleton.mp z,C.new] at e;cases e
 have hT1:Shared.TypeIs {s with heap:=h1,drawn:=d} (.ref a) "set":=by obtain⟨o,es,ep,t,ho,D⟩:=hS;exact⟨o,C.keep _ _ ho,D.ex.1⟩
 have g1:=C.keep _ _ hg
 refine wpAny_bind (wpAny_holding (hint_set hT1 (wpAny_ite_split (fun _=>?_) fun _=>wpAny_pure ⟨plainId_quiet PySem.F.plain_extend_loop _,key _ c0 _ C.st (fun b o _ e=>C.keep b o e) g1⟩)))
 refine wpAny_bind (wpAny_rule (wpAny_bind ?_))
 show wpAny _ _ (updateSeq S (·.push .none) >>= fun _=>updateSeq S (·.pop)) _ _ _
 have g2:=Heap.get?_update_self (Obj.mapSeq (·.push Value.none)) g1 rfl
 have g3:=Heap.get?_update_self (Obj.mapSeq (·.pop)) g2 rfl
 refine wpAny_bind (wpAny_updateSeq g1 rfl (wpAny_updateSeq (hz:=by seq_fits) g2 rfl (wpAny_pure ⟨plainId_quiet PySem.F.plain_extend_loop _,key _ _ _ ?_ (fun b o hb e=>?_) g3⟩)))
 ·refine C.wk.frame 0 _ _ C.st fun b hb o e=>?_
  have hbS:S≠b:=fun z=>hfp (z ▸ hb)
  exact(Heap.get?_update_other _ _ hbS).trans ((Heap.get?_update_other _ _ hbS).trans e)
 ·have hbS:S≠b:=fun z=>hb z.symm
  exact(Heap.get?_update_other _ _ hbS).trans ((Heap.get?_update_other _ _ hbS).trans (C.keep b o e))
end
section
variable {prog:Program} {w:World} {A:Around} {E:Value->Shared->Prop} {s:Shared} {a:Addr} {σ:List Int}
theorem collect_set {Q:List Value->Shared->Prop} (hh:A.handled=none) (hS:SetI prog w s.heap a (!byText w) σ) (hn:σ.length<=sizeLine)
  (h:∀ h' tk d (acc:Array Value),s.heap.objs.size < h'.objs.size->(∀ b o,s.heap.get? b=some o->h'.get? b=some o)->(∃ ks,IntsAre acc.toList ks/\ks.Perm σ)->Q acc.toList {s with heap:=h',toks:=tk,drawn:=d}):wpAny (model prog w) A (collect (.ref a)) Q E s:=by
 have hlt:a < s.heap.objs.size:=by obtain⟨o,es,ep,t,ho,D⟩:=hS;exact Heap.lt_size ho
 unfold collect
 refine wpAny_bind (wpAny_runValue (codeAny_builtin entry_proto_collect' ?_))
 rw[Around.under_plainId PySem.F.plain_proto_collect _]
 refine(show wpAny _ A.in1 (newList [] >>= fun l=>again (.builtin "list.__iadd__" ⟨[l,.ref a],[]⟩)) _ _ s from wpAny_bind (wpAny_newObj_type (wpAny_pure ⟨plainId_quiet PySem.F.plain_list_iadd _,codeAny_builtin entry_list_iadd' ?_⟩)))
 rw[Around.under_plainId PySem.F.plain_list_iadd _]
 have g1:(s.heap.push {cls:=.type "list",data:=.seq ([]:List Value).toArray}).get? s.heap.objs.size=some {cls:=.type "list",data:=.seq #[]}:=Heap.get?_push_size _ rfl
 show wpAny _ A.in1 (Builtin.List.listExtendWith (.ref s.heap.objs.size) (.ref a) (.ref s.heap.objs.size)) _ _ _
 have key:=ext_set (A:=A) (s:={s with heap:=s.heap.push {cls:=.type "list",data:=.seq ([]:List Value).toArray}})
  (R:=fun (q:Result) (s':Shared)=>∃ (h':Heap) (tk:Nat) (d:Drawn) (acc:Array Value) (c:Nat),q=.ok (.ret (.ref s.heap.objs.size))/\s' = {s with heap:=h',toks:=tk,drawn:=d}/\
   (∀ b o,s.heap.get? b=some o->h'.get? b=some o)/\h'.get? s.heap.objs.size=some {cls:=.type "list",dict:=none,data:=.seq acc c,slots:=#[]}/\∃ ks,IntsAre acc.toList ks/\ks.Perm σ)
  hh (hS.moved fun o e=>Heap.get?_push_of_some _ e) s.heap.objs.size (Nat.ne_of_gt hlt) (.ref s.heap.objs.size) 0 g1 hn
  (fun h' tk d acc c hk hS' hacc=>⟨h',tk,d,acc,c,rfl,rfl,fun b o e=>hk b o (Nat.ne_of_lt (Heap.lt_size e)) (Heap.get?_push_of_some _ e),hS',hacc⟩)
 refine wpAny_mono key (fun fin s' x=>?_) fun e s' x=>?_
 ·cases fin with
  | done f=>
   obtain⟨h',tk,d,acc,c,e,rfl,hk,hS',hacc⟩:=x
   cases e
   exact show wpAny _ A (load s.heap.objs.size >>= _) _ _ _ from wpAny_bind (wpAny_load hS' (wpAny_pure (h h' tk d acc (Heap.lt_size hS') hk hacc)))
  | again c1=>
   refine⟨x.1,codeAny_mono x.2 fun q s2 y=>?_⟩
   obtain⟨h',tk,d,acc,c,rfl,rfl,hk,hS',hacc⟩:=y
   exact show wpAny _ A (load s.heap.objs.size >>= _) _ _ _ from wpAny_bind (wpAny_load hS' (wpAny_pure (h h' tk d acc (Heap.lt_size hS') hk hacc)))
 ·obtain⟨_,_,_,_,_,e',_⟩:=x
  cases e'
theorem sorted_set {Q:Value->Shared->Prop} (hh:A.handled=none) (hS:SetI prog w s.heap a (!byText w) σ) (h64:σ.length < 64)
  (h:∀ h' tk d D (out:Array Value) c ns',(∀ b o,s.heap.get? b=some o->h'.get? b=some o)->s.heap.objs.size<=D->h'.get? D=some (seqObj "list" out c)->IntsAre out.toList ns'->ns'.Perm σ->ns'.Pairwise (·<=·)->Q (.ref D) {s with heap:=h',toks:=tk,drawn:=d}) :
  wpAny (model prog w) A (call (.builtin "sorted") [.ref a]) Q E s:=by
 have hz:σ.length<=sizeLine:=by rw[sizeLine_eq];omega
 refine Calls.call_function_entry kind_sorted plain_sorted entry_sorted (args_sorted1 _) ?_
 unfold Builtin.«sorted»
 refine wpAny_bind (m:=checkCount "sorted" 1 1 _) (wpAny_pure (wpAny_bind (collect_set (A:=A.in1) hh hS hz fun h' tk d acc hlt hk hacc=>?_)))
 obtain⟨ks,k1,k2⟩:=hacc
 have hl:acc.toList.length=σ.length:=by rw[IntsAre.length k1,k2.length_eq]
 refine wpAny_bind (wpAny_newList ?_ (by rw[hl];exact hz))
 have gL:(h'.push (seqObj "list" acc.toList.toArray 0)).get? h'.objs.size=some (seqObj "list" acc.toList.toArray 0):=Heap.get?_push_size _ rfl
 have nD:s.heap.get? h'.objs.size=none:=by
  cases e:s.heap.get? h'.objs.size with
  | none=>rfl
  | some o=>exact absurd (Heap.lt_size (hk _ _ e)) (Nat.lt_irrefl _)
 refine wpAny_bind (wpAny_holding (wpAny_call_entry (s:={s with heap:=h'.push (seqObj "list" acc.toList.toArray 0),toks:=tk,drawn:=d}) slot_list_sort ⟨_,gL,rfl⟩ entry_list_sort (list_sort_tree (s:={s with heap:=h'.push (seqObj "list" acc.toList.toArray 0),toks:=tk,drawn:=d}) gL k1 (by rw[hl];exact h64) fun out ns' a1 a2 a3=>⟨_,rfl,?_⟩) (args_list_sort _)))
 obtain⟨c,hc⟩:=sortedHeap_at (out:=out) gL
 refine wpAny_pure ⟨_,rfl,h _ tk d _ out c ns' (fun b o e=>?_) (Nat.le_of_lt hlt) hc a1 (a2.trans k2) a3⟩
 have e1:=Heap.get?_push_of_some (seqObj "list" acc.toList.toArray 0) (hk b o e)
 rw[sortedHeap_old (fun z=>by rw[z,nD] at e;cases e) (Heap.lt_size e1)]
 exact e1
end
end L2.Se
namespace L2.Sv
open L2.Se
open PySem PyProof.Rows
section
variable {prog:Program} {w:World} {A:Around} {E:Value->Shared->Prop} {s:Shared}
theorem isS (x:Str) (t:Tok):(PySem.strKind prog w).is x (.str x t)=true:=by
 show (x == x)=true
 simp
theorem kh:∀ {vs:List Value} {ns:List Str},StrsAre vs ns->∀ (i:Nat) (v:Value),vs[i]? = some v->∃ t,v=.str (ns.getD i ⟨#[]⟩) t
 | _,_,.nil,i,v,h=>by simp at h
 | _,_,.cons n t hr,0,v,h=>by simp at h;exact⟨t,by rw[<- h];rfl⟩
 | _,_,.cons n t hr,i + 1,v,h=>by
  simp only[List.getElem?_cons_succ] at h
  obtain⟨t',e⟩:=kh hr i v h
  exact⟨t',by rw[e];rfl⟩
noncomputable def ddS (σ:List Str) (v:Str):List Str:=if σ.any (· == v) then σ else σ++[v]
structure SetD (prog:Program) (w:World) (led:Bool) (σ:List Str) (o:Obj) (es:Array (Int×Value)) (ep:Nat) (t:SetTable):Prop where
 ex:o.ExactSet
 da:o.data=.set es ep t
 el:ElemsOf (PySem.strKind prog w) es.toList
 sb:es.size < scanBound
 fi:t.fits es.size=true
 tb:Tb led t
 pm:∃ ks,StrsAre (vals es) ks/\ks.Perm σ
noncomputable def SetI (prog:Program) (w:World) (h:Heap) (a:Addr) (led:Bool) (σ:List Str):Prop:=∃ o es ep t,h.get? a=some o/\SetD prog w led σ o es ep t
theorem are_perm {vs vs':List Value} {ks:List Str} (p:vs'.Perm vs) (h:StrsAre vs ks):∃ ks',StrsAre vs' ks'/\ks'.Perm ks:=by
 induction p generalizing ks with
 | nil=>exact⟨ks,h,.refl _⟩
 | cons x _ ih=>
  cases h with
  | cons n t h=>obtain⟨ks',h1,h2⟩:=ih h;exact⟨n::ks',.cons n t h1,.cons n h2⟩
 | swap x y l=>
  cases h with
  | cons n t h=>
   cases h with
   | cons m u h=>exact⟨m::n::_,.cons m u (.cons n t h),.swap n m _⟩
 | trans _ _ ih1 ih2=>
  obtain⟨k1,a1,b1⟩:=ih2 h
  obtain⟨k2,a2,b2⟩:=ih1 a1
  exact⟨k2,a2,b2.trans b1⟩
theorem are_snoc {vs:List Value} {ks:List Str} {k:Str} {t:Tok} (h:StrsAre vs ks):StrsAre (vs++[.str k t]) (ks++[k]):=by
 induction h with
 | nil=>exact .cons k t .nil
 | cons n u _ ih=>exact .cons n u ih
theorem are_find {es:List (Int×Value)} {ks:List Str} {k:Str} (h:StrsAre (es.map (·.2)) ks):es.any (fun e=>(PySem.strKind prog w).is k e.2)=ks.any (· == k):=by
 induction es generalizing ks with
 | nil=>cases h;rfl
 | cons e es ih=>
  obtain⟨c,v⟩:=e
  cases h with
  | cons n t h=>
   rw[List.any_cons,List.any_cons,ih h,KeyKind.is_eq_decide (isS n t) k]
   congr 1
   by_cases q:k=n
   ·subst q;simp
   ·simp[q,show ¬ n=k from fun z=>q z.symm]
theorem store {h:Heap} {a:Addr} {led:Bool} {σ σ':List Str} {o:Obj} {es es':Array (Int×Value)} {ep:Nat} {t t':SetTable} (ho:h.get? a=some o) (D:SetD prog w led σ o es ep t)
  (el:ElemsOf (PySem.strKind prog w) es'.toList) (sb:es'.size < scanBound) (fi:t'.fits es'.size=true) (tb:Tb led t') (pm:∃ ks,StrsAre (vals es') ks/\ks.Perm σ') :
  (h.update a (Obj.putSet es' t')).get? a=some {o with data:=.set es' (ep + 1) t'}/\SetD prog w led σ' {o with data:=.set es' (ep + 1) t'} es' (ep + 1) t':=
 ⟨(SetOf_store (knd:=PySem.strKind prog w) (S':=fun k=>es'.toList.any fun e=>(PySem.strKind prog w).is k e.2) ho D.ex D.da el (fun k=>by rw[List.any_eq_true]) sb fi).1,D.ex,rfl,el,sb,fi,tb,pm⟩
theorem add_tail {a:Addr} {led:Bool} {σ σ':List Str} {o:Obj} {es es1:Array (Int×Value)} {ep:Nat} {t t2:SetTable} {b:Bool} {g:Bool->Sem Unit} (hg:∀ (b:Bool) (s₁:Shared) (Q':Unit->Shared->Prop),Q' () s₁->wpAny (model prog w) A (g b) Q' E s₁)
  (ho:s.heap.get? a=some o) (D:SetD prog w led σ o es ep t) (el:ElemsOf (PySem.strKind prog w) es1.toList) (sb:es1.size < scanBound) (fi:t2.fits es1.size=true) (tb:Tb led t2) (pm:∃ ks,StrsAre (vals es1) ks/\ks.Perm σ')
  {R:Option Bool->Shared->Prop} (h:∀ h',Heap.SameBut a s.heap h'->SetI prog w h' a led σ'->R (some true) {s with heap:=h'}) :
  wpAny (model prog w) A (do
    storeSet a es1 t2
    if (!b && t2.tooFull)=true then do
      g (relayAll t2 es1 (SetTable.grown es1.size)).2.2
      storeSet a (relayAll t2 es1 (SetTable.grown es1.size)).1 (relayAll t2 es1 (SetTable.grown es1.size)).2.1
      pure (some true)
     else pure (some true)) R E s:=by
 obtain⟨g1,D1⟩:=store ho D el sb fi tb pm
 have b1:=Heap.SameBut.update s.heap a (Obj.putSet es1 t2)
 refine wpAny_bind (wpAny_storeSet_of ho D.da ?_ (fits_of_scanBound sb))
 split
 ·have p2:=relayAll_perm t2 es1 (SetTable.grown es1.size)
  have f2:=relayAll_fits t2 es1 (SetTable.grown es1.size)
  have u2:=iH tb es1 (SetTable.grown es1.size)
  generalize relayAll t2 es1 (SetTable.grown es1.size)=Z at p2 f2 u2 ⊢
  obtain⟨es2,t3,gv⟩:=Z
  dsimp only at p2 f2 u2 ⊢
  have sz:es2.size=es1.size:=by rw[<- Array.length_toList,p2.length_eq,Array.length_toList]
  have sb2:es2.size < scanBound:=by rw[sz];exact sb
  obtain⟨ks,k1,k2⟩:=pm
  obtain⟨ks',k3,k4⟩:=are_perm (p2.map (·.2)) k1
  obtain⟨g2,D2⟩:=store g1 D1 (el.perm p2) sb2 f2 u2 ⟨ks',k3,k4.trans k2⟩
  refine wpAny_bind (hg _ _ _ (wpAny_bind (wpAny_storeSet_of g1 rfl ?_ (fits_of_scanBound sb2))))
  exact wpAny_pure (h _ (b1.trans (Heap.SameBut.update _ a _)) ⟨_,_,_,_,g2,D2⟩)
 ·exact wpAny_pure (h _ b1 ⟨_,_,_,_,g1,D1⟩)
theorem add_int {a:Addr} {led:Bool} {σ:List Str} {k:Str} {tk:Tok} {Q:Bool->Shared->Prop} (hS:SetI prog w s.heap a led σ) (hr:σ.length + 1 < scanBound)
  (h:∀ h',Heap.SameBut a s.heap h'->SetI prog w h' a led (ddS σ k)->∀ b,Q b {s with heap:=h'}) :
  wpAny (model prog w) A (setAddHashed a (.str k tk) ((PySem.strKind prog w).hash k)) Q E s:=by
 obtain⟨o,es,ep,t,ho,D⟩:=hS
 obtain⟨ks,k1,k2⟩:=D.pm
 have lk:es.size=ks.length:=by have:=StrsAre.length k1;rw[List.length_map,Array.length_toList] at this;exact this
 have hany:es.toList.any (fun e=>(PySem.strKind prog w).is k e.2)=σ.any (· == k):=(are_find k1).trans (k2.any_eq)
 unfold setAddHashed setAddHashedIn
 refine wpAny_holding (wpAny_bind (wpAny_setState_of ho D.da D.fi ?_))
 dsimp only
 rw[byScan_of (x:=.str k tk) rfl D.sb D.el,if_pos rfl]
 unfold setAddByScan
 refine wpAny_bind (wpAny_bind (wpAny_rule (wpAny_bind (wpAny_setScan_of (isS k tk) ho D.da D.fi D.el ?_))))
 cases hq:List.findIdx? (fun e=>(PySem.strKind prog w).is k e.2) es.toList with
 | some j=>
  dsimp only
  obtain⟨hj,hpj,_⟩:=List.findIdx?_eq_some_iff_getElem.mp hq
  have hin:σ.any (· == k)=true:=by rw[<- hany,List.any_eq_true];exact⟨_,List.getElem_mem hj,hpj⟩
  have e2:ddS σ k=σ:=by unfold ddS;rw[if_pos hin]
  refine wpAny_pure (wpAny_pure ?_)
  have z:=h s.heap (Heap.SameBut.refl a s.heap) (by rw[e2];exact⟨o,es,ep,t,ho,D⟩) false
  cases s;exact z
 | none=>
  dsimp only
  have hout:σ.any (· == k)=false:=by
   rw[<- hany,List.any_eq_false]
   intro e he
   have:=List.findIdx?_eq_none_iff.mp hq e he
   rw[this];exact Bool.false_ne_true
  have e2:ddS σ k=σ++[k]:=by unfold ddS;rw[if_neg (by rw[hout];exact Bool.false_ne_true)]
  have p1:=layNew_perm t es ((PySem.strKind prog w).hash k) (.str k tk)
  have f1:=layNew_fits t es ((PySem.strKind prog w).hash k) (.str k tk)
  have u1:=ng D.tb es ((PySem.strKind prog w).hash k) (.str k tk)
  generalize layNew t es ((PySem.strKind prog w).hash k) (.str k tk)=L at p1 f1 u1 ⊢
  obtain⟨es1,t1,wd,gv⟩:=L
  dsimp only at p1 f1 u1 ⊢
  rw[Array.toList_push] at p1
  have el1:ElemsOf (PySem.strKind prog w) es1.toList:=(D.el.push (isS k tk) rfl).perm p1
  have sz1:es1.size=es.size + 1:=by rw[<- Array.length_toList,p1.length_eq,List.length_append,Array.length_toList];rfl
  have sb1:es1.size < scanBound:=by rw[sz1,lk,k2.length_eq];exact hr
  have pm1:∃ ks',StrsAre (vals es1) ks'/\ks'.Perm (ddS σ k):=by
   obtain⟨ks',k3,k4⟩:=are_perm (p1.map (·.2)) (by rw[List.map_append];exact are_snoc (k:=k) (t:=tk) k1)
   exact⟨ks',k3,k4.trans (by rw[e2];exact k2.append_right _)⟩
  refine wpAny_bind ((show ∀ (b:Bool) (s₁:Shared) (Q':Unit->Shared->Prop),Q' () s₁->wpAny (model prog w) A (match b with | true=>rule "set.scan.the-table-gave-way" | false=>pure ()) Q' E s₁ from fun b s₁ Q' hq=>by cases b<;>first | exact wpAny_pure hq | exact wpAny_rule hq) _ _ _ ?_)
  have fin:∀ h',Heap.SameBut a s.heap h'->SetI prog w h' a led (ddS σ k)->wpAny (model prog w) A (pure true) Q E {s with heap:=h'}:=fun h' hb hS'=>wpAny_pure (h h' hb hS' true)
  split
  ·rw[hashByValue_scannable 8 (x:=.str k tk) rfl]
   refine wpAny_bind (wpAny_pure (add_tail ?_ ho D el1 sb1 ?_ ?_ pm1 fun h' hb hS'=>?_))
   ·intro b s₁ Q' hq;cases b<;>first | exact wpAny_pure hq | exact wpAny_rule hq
   ·split
    ·exact f1
    ·exact SetTable.fits_plain_off f1
   ·split
    ·exact u1
    ·exact iI u1 _
   ·exact fin h' hb hS'
  ·refine wpAny_bind (wpAny_pure ?_)
   rw[if_pos rfl]
   refine add_tail ?_ ho D el1 sb1 f1 u1 pm1 fun h' hb hS'=>fin h' hb hS'
   intro b s₁ Q' hq;cases b<;>first | exact wpAny_pure hq | exact wpAny_rule hq
end
noncomputable abbrev byText (w:World):Bool:=w.params.followText "set-order"
section
variable {prog:Program} {w:World} {A:Around} {E:Value->Shared->Prop} {s:Shared} {R:Result->Shared->Prop} {I:Addr} {fp wr:List Addr} {G:Array GenState->Array GenState->Prop} {n:Nat} {P:Nat->Value->Prop} {St:Nat->Shared->Prop}
theorem SetI.moved {h h':Heap} {a:Addr} {led:Bool} {σ:List Str} (hS:SetI prog w h a led σ) (k:∀ o,h.get? a=some o->h'.get? a=some o):SetI prog w h' a led σ:=by
 obtain⟨o,es,ep,t,ho,D⟩:=hS
 exact⟨o,es,ep,t,k o ho,D⟩
theorem dedup_len (l:List Str):∀ σ:List Str,(l.foldl ddS σ).length<=σ.length + l.length:=by
 induction l with
 | nil=>exact fun σ=>Nat.le_refl _
 | cons v l ih=>
  intro σ
  have h:=ih (ddS σ v)
  have h2:(ddS σ v).length<=σ.length + 1:=by
   unfold ddS
   split
   ·omega
   ·rw[List.length_append];exact Nat.le_refl _
  rw[List.foldl_cons,List.length_cons]
  omega
theorem loop (W:WalksS prog w A.in1 I fp wr G n P St) (a:Addr) (ha:a ∉ fp) {led:Bool} {ns:List Str} (hv:∀ i v,P i v->∃ t,v=.str (ns.getD i ⟨#[]⟩) t) (hn:ns.length=n) (hb:n + 1 < scanBound) :
  ∀ (k i:Nat) (s:Shared),n - i=k->i<=n->St i s->SetI prog w s.heap a led ((ns.take i).foldl ddS [])->
   (∀ s',Moved (a::wr) G s s'->SetI prog w s'.heap a led (ns.foldl ddS [])->R (.ok (.ret .none)) s')->
   codeAny (model prog w) A (.builtin "set.update.loop" ⟨[.ref a,.ref I],[]⟩) R s:=by
 have haw:a ∉ wr:=fun z=>ha (W.sub _ z)
 have sub:∀ b ∈ wr,b ∈ a::wr:=fun b z=>List.mem_cons_of_mem _ z
 intro k
 induction k with
 | zero=>
  intro i s hk hi hst hS hR
  have e:i=n:=by omega
  subst e
  rw[<- hn,List.take_length] at hS
  refine codeAny_builtin F.entry_set_update_loop ?_
  rw[Around.under_plainId F.plain_set_update_loop _]
  show wpAny _ A.in1 (pyNext (.ref I) >>= _) _ _ s
  exact wpAny_bind (W.done s _ _ hst fun s' hm=>show wpAny _ A.in1 (ret Value.none) _ _ s' from wpAny_pure (hR s' (hm.mono sub) (hS.moved fun o e=>hm.heap a o haw e)))
 | succ k ih=>
  intro i s hk hi hst hS hR
  have hlt:i < n:=by omega
  refine codeAny_builtin F.entry_set_update_loop ?_
  rw[Around.under_plainId F.plain_set_update_loop _]
  show wpAny _ A.in1 (pyNext (.ref I) >>= _) _ _ s
  refine wpAny_bind (W.item i s _ _ hlt hst fun v s' hP hst' hm=>?_)
  obtain⟨t,rfl⟩:=hv i v hP
  have hS1:SetI prog w s'.heap a led ((ns.take i).foldl ddS []):=hS.moved fun o e=>hm.heap a o haw e
  show wpAny _ A.in1 (holding [Value.str (ns.getD i ⟨#[]⟩) t] (setAdd a (.str (ns.getD i ⟨#[]⟩) t)) >>= _) _ _ s'
  unfold setAdd
  refine wpAny_bind (wpAny_holding (wpAny_holding (wpAny_bind ((PySem.strKind prog w).pyHash (PySem.strKind_is _ _ _ _) ?_))))
  have hlen:=dedup_len (ns.take i) []
  rw[List.length_take,List.length_nil] at hlen
  refine add_int (s:={s' with toks:=s'.toks + 1}) hS1 (by omega) fun h' hsb hS2 b=>?_
  have et:(ns.take (i + 1)).foldl ddS []=ddS ((ns.take i).foldl ddS []) (ns.getD i ⟨#[]⟩):=by
   have hi':i < ns.length:=by omega
   rw[List.take_succ,List.foldl_append,List.getElem?_eq_getElem hi',List.getD_eq_getElem?_getD,List.getElem?_eq_getElem hi']
   rfl
  rw[<- et] at hS2
  refine wpAny_pure ⟨plainId_quiet F.plain_set_update_loop _,ih (i + 1) _ (by omega) hlt (W.frame _ s' _ _ hst' (Nat.le_succ _) fun b hb o e=>?_) hS2 fun s'' hm'' hS''=>?_⟩
  ·rw[hsb.2 b fun z=>ha (z ▸ hb)];exact e
  ·refine hR s'' (Moved.trans W.gtrans ((hm.mono sub).then_heap (Nat.le_succ _) fun b o hb e=>?_) hm'') hS''
   rw[hsb.2 b fun z=>hb (z ▸ List.mem_cons_self)];exact e
theorem code_new (x:Value) {Q1:Value->Shared->Prop} (h:Q1 (.ref s.heap.objs.size) {s with heap:=s.heap.push {cls:=.type "set",dict:=none,data:=.set #[] 0 (.fresh 0 0 (!byText w))}}) :
  codeAny (model prog w) A (.call (.builtin "set.__new__") ⟨[.type "set",x],[]⟩) (wants Q1 E) s:=by
 refine codeAny_of_tree (show wpAny _ A.in1 (do checkBuiltinCall "set.__new__" ⟨[.type "set",x],[]⟩;again (.builtin "set.__new__" ⟨[.type "set",x],[]⟩)) _ _ s from wpAny_bind (wpAny_of_eq (F.newCall_set_1 x) (wpAny_pure ⟨plainId_quiet F.plain_set_new _,codeAny_builtin F.entry_set_new ?_⟩)))
 rw[Around.under_plainId F.plain_set_new _]
 unfold Builtin.«set.__new__» Builtin.Frozenset.newClass
 have hs1:=sub_set_self
 obtain⟨hp,g,d,tk,os⟩:=s
 dsimp only
 wp_walk
 refine wpAny_askSetting (wpAny_pure ?_)
 dsimp only
 simp only[newObj]
 exact wpAny_bind (wpAny_alloc (wpAny_pure (wpAny_pure h)))
end
section
variable {prog:Program} {w:World} {A:Around} {E:Value->Shared->Prop} {s:Shared}
noncomputable abbrev oS (w:World):Obj:={cls:=.type "set",dict:=none,data:=.set #[] 0 (.fresh 0 0 (!byText w))}
theorem fresh_set (h:Heap):SetI prog w (h.push (oS w)) h.objs.size (!byText w) []:=
 ⟨_,#[],0,_,Heap.get?_push_size _ rfl,⟨rfl,rfl,rfl⟩,rfl,fun e he=>by simp at he,by decide,rfl,iJ _ _ _,[],.nil,.refl _⟩
theorem call_set {l:Addr} {items:Array Value} {ns:List Str} {Q:Value->Shared->Prop} (hh:A.handled=none) (hl:s.heap.IsList l items) (hi:StrsAre items.toList ns) (hb:items.size + 1 < scanBound)
  (h:∀ (h':Heap) (tk:Nat),SetI prog w h' s.heap.objs.size (!byText w) (ns.foldl ddS [])->(∀ b o,b < s.heap.objs.size->s.heap.get? b=some o->h'.get? b=some o)->Q (.ref s.heap.objs.size) {s with heap:=h',toks:=tk}) :
  wpAny (model prog w) A (call (.type "set") [.ref l]) Q E s:=by
 obtain⟨c,tl,mro⟩:=F.called_set.mro
 have made:=F.called_set.made
 have sub:=F.called_set.sub
 refine wpAny_call (codeAny_of_tree (show wpAny _ _ (callAny (.type "set") _) _ _ _ from wpAny_pure ⟨Code.quiet_builtin _ (by decide +kernel),codeAny_builtin F.entry_type_call ?_⟩))
 rw[Around.under_plain (weight_type_call_type "set" [.ref l] []) rfl]
 have n1:=F.called_set.notType
 have n2:=F.called_set.canCreate
 have n3:=F.typeCall_set_1 (.ref l)
 repeat (any_goals (first | assumption | wp_step))
 refine codeAny_mono (code_new (.ref l) (E:=E) (Q1:=fun obj s1=>obj=.ref s.heap.objs.size/\s1 = {s with heap:=s.heap.push (oS w)}) ⟨rfl,rfl⟩) fun r s1 hr=>?_
 cases r with
 | error e=>exact hr
 | ok fl=>
  cases fl with
  | ret obj=>
   obtain⟨rfl,rfl⟩:=hr
   have gS:(s.heap.push (oS w)).get? s.heap.objs.size=some (oS w):=Heap.get?_push_size _ rfl
   have hT:Shared.TypeIs {s with heap:=s.heap.push (oS w)} (.ref s.heap.objs.size) "set":=⟨_,gS,rfl⟩
   have i1:=F.called_set.init.lookup
   have i2:=F.called_set.init.bind (.ref s.heap.objs.size)
   repeat (any_goals (first | assumption | wp_step))
   refine codeAny_mono (codeAny_call_builtin (R:=wants (fun r s2=>r=.none/\∃ h' tk,s2 = {s with heap:=h',toks:=tk}/\SetI prog w h' s.heap.objs.size (!byText w) (ns.foldl ddS [])/\
     (∀ b o,b < s.heap.objs.size->s.heap.get? b=some o->h'.get? b=some o)) E) F.called_set.init.plain F.entry_set_init (check_set_init_1 hT ?_)) fun r2 s2 hr2=>?_
   ·obtain⟨ol,hol,hcl,nl,hdl⟩:=hl
    obtain⟨ocls,odict,odata,oslots⟩:=ol
    simp only at hcl hdl
    subst hcl;subst hdl
    have hol1:(s.heap.push (oS w)).get? l=some {cls:=.type "list",dict:=odict,data:=.seq items nl,slots:=oslots}:=Heap.get?_push_of_some _ hol
    have w1:=F.sub_list_set
    have w2:=F.sub_list_frozenset
    have w3:(Value.type "list" == Value.type "dict")=false:=by decide
    have hl1:(s.heap.push (oS w)).IsList l items:=⟨_,hol1,rfl,nl,rfl⟩
    unfold Builtin.«set.__init__» noKeywords Builtin.Frozenset.updateFrom
    generalize hPI:pyIter=PI
    wp_walk
    subst hPI
    refine wpAny_pyIter_list hl1 (wpAny_bind (wpAny_runValue ?_))
    have lS:l < s.heap.objs.size:=Heap.lt_size hol
    have nI:l≠(s.heap.push (oS w)).objs.size:=by rw[Heap.size_push];exact Nat.ne_of_lt (Nat.lt_succ_of_lt lS)
    have aS:s.heap.objs.size ∉ [(s.heap.push (oS w)).objs.size,l]:=by
     rw[Heap.size_push]
     intro z
     rcases List.mem_cons.mp z with z | z
     ·exact Nat.ne_of_lt (Nat.lt_succ_self _) z
     ·exact Nat.ne_of_gt lS (List.mem_singleton.mp z)
    have hlen:ns.length=items.size:=by have:=StrsAre.length hi;rw[Array.length_toList] at this;exact this.symm
    refine loop ((Walks.list (show A.in1.in1.in1.handled=none by simp[hh]) _ l nI items).toS) s.heap.objs.size aS (ns:=ns) (fun i v hv=>kh hi i v (by rw[Array.getElem?_toList];exact hv)) hlen hb (items.size - 0) 0 _ (by omega) (Nat.zero_le _)
     ⟨⟨_,Heap.get?_push_size _ rfl,rfl,rfl⟩,(hl1.push _)⟩ ((fresh_set s.heap).moved fun o e=>Heap.get?_push_of_some _ e) ?_
    intro s' hm hS'
    obtain⟨h',g',d',tk',os'⟩:=s'
    have eg:g'=s.gens:=hm.gens
    have ed:d'=s.drawn:=hm.drawn
    have eo:os'=s.os:=hm.os
    subst eg ed eo
    show wpAny _ _ _ _ _ _
    refine wpAny_pure (show wpAny _ _ (ret Value.none) _ _ _ from wpAny_pure ⟨rfl,h',tk',rfl,hS',fun b o hb e=>?_⟩)
    refine hm.heap b o (fun z=>?_) (Heap.get?_push_of_some _ (Heap.get?_push_of_some _ e))
    rcases List.mem_cons.mp z with z | z
    ·exact Nat.ne_of_lt hb z
    ·have:=List.mem_singleton.mp z
     rw[Heap.size_push] at this
     exact Nat.ne_of_lt (Nat.lt_succ_of_lt hb) this
   ·cases r2 with
    | error e=>exact hr2
    | ok fl2=>
     cases fl2 with
     | ret r=>
      obtain⟨rfl,h',tk,rfl,hS',hk'⟩:=hr2
      repeat (any_goals (first | assumption | wp_step))
      exact h _ _ hS' hk'
     | _=>exact hr2.elim
  | _=>exact hr.elim
end
theorem slot_sit_next:Slot "set_iterator" "__next__" "set_iterator.__next__":=.of (owner:="set_iterator") (n:="__next__")
 (by rw[typeLookup_type,builtinLookup_eq_fast];kernel_rfl) (by decide +kernel) (by decide +kernel) (by decide +kernel) (by first | exact .inl (by decide +kernel) | exact .inr (by decide +kernel)) (by rw[isSubtype_type];kernel_rfl)
theorem slot_sit_iter:Slot "set_iterator" "__iter__" "set_iterator.__iter__":=.of (owner:="set_iterator") (n:="__iter__")
 (by rw[typeLookup_type,builtinLookup_eq_fast];kernel_rfl) (by decide +kernel) (by decide +kernel) (by decide +kernel) (by first | exact .inl (by decide +kernel) | exact .inr (by decide +kernel)) (by rw[isSubtype_type];kernel_rfl)
theorem entry_sit_next:entryFor table "set_iterator.__next__" = some Builtin.«set_iterator.__next__»:=entryFor_of_tree (by kernel_rfl)
theorem args_sit_next (a:Value):argsOk "set_iterator.__next__" ⟨[a],[]⟩:=by unfold argsOk;kernel_rfl
theorem entry_set_it:entryFor table "set.__iter__" = some Builtin.«frozenset.__iter__»:=
 entryFor_alias (id':="frozenset.__iter__") (by kernel_rfl) (by first | rfl | decide +kernel | (unfold String.splitOn;simp +decide [String.splitOnAux])) (by decide +kernel) (by kernel_rfl)
section
variable {prog:Program} {w:World} {A:Around} {E:Value->Shared->Prop} {s:Shared}
noncomputable abbrev oIt (first:Value) (i n:Nat) (a:Addr) (ep:Nat):Obj:={cls:=.type "set_iterator",data:=.fields #[first,rawInt i,.ref a,rawInt n,rawInt ep]}
theorem by_text {Q:Bool->Shared->Prop} (h:Q (byText w) s):wpAny (model prog w) A setsByText Q E s:=by
 unfold setsByText
 exact wpAny_bind (wpAny_askSetting (wpAny_pure h))
theorem walk_text {a:Addr} {σ:List Str} {o:Obj} {es:Array (Int×Value)} {ep:Nat} {t:SetTable} {led:Bool} {Q:Array (Int×Value)->Shared->Prop} (hb:byText w=true) (ho:s.heap.get? a=some o) (D:SetD prog w led σ o es ep t)
  (h:Q (pickOrder (w.params.setOrder a ep) es) s):wpAny (model prog w) A (setWalk a) Q E s:=by
 unfold setWalk
 refine wpAny_bind (wpAny_setState_of ho D.da D.fi ?_)
 dsimp only
 refine wpAny_bind (by_text ?_)
 rw[hb,if_pos rfl]
 exact wpAny_bind (wpAny_askSetting (wpAny_pure h))
theorem next_text {a:Addr} {σ:List Str} {o:Obj} {es:Array (Int×Value)} {ep slot i:Nat} {t:SetTable} {led:Bool} {Q:Option (Value×Nat)->Shared->Prop} (hb:byText w=true) (ho:s.heap.get? a=some o) (D:SetD prog w led σ o es ep t)
  (h:Q (((pickOrder (w.params.setOrder a ep) es)[i]?).map fun e=>(e.2,slot)) s):wpAny (model prog w) A (setNext a slot i ep) Q E s:=by
 unfold setNext
 refine wpAny_bind (wpAny_setState_of ho D.da D.fi ?_)
 dsimp only
 refine wpAny_bind (by_text ?_)
 rw[hb,if_pos rfl]
 rw[if_neg (by rw[bne_self_eq_false];exact Bool.false_ne_true)]
 exact wpAny_bind (walk_text hb ho D (wpAny_pure h))
theorem next_place {a:Addr} {σ:List Str} {o:Obj} {es:Array (Int×Value)} {ep slot i:Nat} {t:SetTable} {Q:Option (Value×Nat)->Shared->Prop} (hb:byText w=false) (ho:s.heap.get? a=some o) (D:SetD prog w (!byText w) σ o es ep t)
  (hd:(!t.plain && decide (es.size > 1))=false)
  (h:Q (match es[SetTable.below t.place slot]?,t.place[SetTable.below t.place slot]? with
   | some (_,x),some j=>some (x,j + 1)
   | _,_=>none) s):wpAny (model prog w) A (setNext a slot i ep) Q E s:=by
 unfold setNext
 refine wpAny_bind (wpAny_setState_of ho D.da D.fi ?_)
 dsimp only
 refine wpAny_bind (by_text ?_)
 rw[hb,if_neg Bool.false_ne_true]
 refine wpAny_bind (wpAny_pure ?_)
 show wpAny _ _ (if (!t.plain && decide (es.size > 1))=true then _ else _) _ _ _
 rw[hd,if_neg Bool.false_ne_true]
 have hl:t.led=true:=by rw[D.tb.ld,hb];rfl
 show wpAny _ _ ((if (!t.led && !es.isEmpty)=true then _ else _) >>= _) _ _ _
 rw[hl]
 exact wpAny_bind (wpAny_pure (wpAny_pure h))
end
section
variable {prog:Program} {w:World} {A:Around} {E:Value->Shared->Prop} {s:Shared} {it a:Addr} {i n ep slot:Nat} {σ:List Str} {o:Obj} {es:Array (Int×Value)} {t:SetTable} {led:Bool}
theorem stop {M:Model} {A:Around} {h:Heap} {hh:A.handled=none} {R:Fin->Shared->Prop} {R':Value->Shared->Prop} (hQ:∀ h' e,(∀ b o,s.heap.get? b=some o->h'.get? b=some o)->(∃ o,h'.get? e=some o/\o.cls=.type "StopIteration")->R' (.ref e) {s with heap:=h'}) :
  wpAny M A (do raiseNew (<- newExc (.type "StopIteration") [])) R R' s:=by
 refine wpAny_bind ?_
 simp only[newExc,newTuple]
 refine wpAny_bind (wpAny_newObj_type ?_ (by size_fits))
 refine wpAny_bind (m:=firstArgMember _ _) (wpAny_of_eq (a:=Value.none) (by first | rfl | (simp only[firstArgMember];rfl)) (wpAny_newObj_type ?_ (by size_fits)))
 simp only[raiseNew]
 refine wpAny_bind (wpAny_handled ?_)
 rw[hh]
 exact wpAny_bind (wpAny_pure (wpAny_throw (hQ _ _ (fun b o e=>Heap.get?_push_of_some _ (Heap.get?_push_of_some _ e)) ⟨_,Heap.get?_push_size _ rfl,rfl⟩)))
theorem it_item {nx:Nat} {x:Value} (hit:s.heap.get? it=some (oIt (rawInt slot) i n a ep)) (ho:s.heap.get? a=some o) (D:SetD prog w led σ o es ep t) (hn:es.size=n)
  (hs:∀ (A':Around) (E':Value->Shared->Prop) (Q':Option (Value×Nat)->Shared->Prop),Q' (some (x,nx)) s->wpAny (model prog w) A' (setNext a slot i ep) Q' E' s) {Q:Option Value->Shared->Prop}
  (h:∀ h',h'.get? it=some (oIt (rawInt nx) (i + 1) n a ep)->Heap.SameBut it s.heap h'->Q (some x) {s with heap:=h'}):wpAny (model prog w) A (pyNext (.ref it)) Q E s:=by
 have hT:s.TypeIs (.ref it) "set_iterator":=⟨_,hit,rfl⟩
 unfold pyNext
 refine wpAny_bind (wpAny_attempt (wpAny_callSpecial?_slot (name:=Str.ofString "__next__") hT slot_sit_next (wpAny_call_entry slot_sit_next hT entry_sit_next ?_ (args_sit_next _))))
 show wpAny _ _ (fieldsOf (.ref it) >>= _) _ _ s
 refine wpAny_bind (wpAny_fieldsOf hit rfl ?_)
 show wpAny _ _ (setEntries a >>= _) _ _ s
 refine wpAny_bind (wpAny_setEntries_of ho D.da D.fi ?_)
 rw[if_neg (by rw[hn];simp)]
 show wpAny _ _ (setNext a slot i ep >>= _) _ _ s
 refine wpAny_bind (hs _ _ _ ?_)
 show wpAny _ _ (setField (.ref it) 0 (rawInt nx) >>= _) _ _ s
 refine wpAny_bind (wpAny_setField_rec hit (by simp) fun h1 g1 b1=>?_)
 refine wpAny_bind (wpAny_setField_rec g1 (by simp) fun h2 g2 b2=>?_)
 exact wpAny_pure ⟨x,rfl,wpAny_pure (h h2 g2 (b1.trans b2))⟩
theorem it_done (hh:A.handled=none) (hit:s.heap.get? it=some (oIt (rawInt slot) i n a ep)) (ho:s.heap.get? a=some o) (D:SetD prog w led σ o es ep t) (hn:es.size=n)
  (hs:∀ (A':Around) (E':Value->Shared->Prop) (Q':Option (Value×Nat)->Shared->Prop),Q' none s->wpAny (model prog w) A' (setNext a slot i ep) Q' E' s) {Q:Option Value->Shared->Prop}
  (h:∀ h',(∀ b o,b≠it->s.heap.get? b=some o->h'.get? b=some o)->Q none {s with heap:=h'}):wpAny (model prog w) A (pyNext (.ref it)) Q E s:=by
 have hT:s.TypeIs (.ref it) "set_iterator":=⟨_,hit,rfl⟩
 unfold pyNext
 refine wpAny_bind (wpAny_attempt (wpAny_callSpecial?_slot (name:=Str.ofString "__next__") hT slot_sit_next (wpAny_call_entry slot_sit_next hT entry_sit_next ?_ (args_sit_next _))))
 show wpAny _ _ (fieldsOf (.ref it) >>= _) _ _ s
 refine wpAny_bind (wpAny_fieldsOf hit rfl ?_)
 show wpAny _ _ (setEntries a >>= _) _ _ s
 refine wpAny_bind (wpAny_setEntries_of ho D.da D.fi ?_)
 rw[if_neg (by rw[hn];simp)]
 show wpAny _ _ (setNext a slot i ep >>= _) _ _ s
 refine wpAny_bind (hs _ _ _ ?_)
 show wpAny _ _ (setField (.ref it) 2 .none >>= _) _ _ s
 refine wpAny_bind (wpAny_setField_rec hit (by simp) fun h1 g1 b1=>?_)
 refine stop (h:=h1) (hh:=show A.in1.handled=none from hh) (s:={s with heap:=h1}) fun h' e k he=>?_
 obtain⟨oe,ge,ce⟩:=he
 refine wpAny_bind (wpAny_isInstance (T:="StopIteration") (b:=true) ⟨_,ge,ce⟩ isSubtype_stop ?_)
 exact wpAny_pure (h h' fun b o hb e=>k b o (b1.extBut b o hb e))
end
section
variable {prog:Program} {w:World} {A:Around} {E:Value->Shared->Prop} {s:Shared} {it a T:Addr} {i n ep slot:Nat} {σ:List Str} {o:Obj} {es:Array (Int×Value)} {t:SetTable} {led:Bool}
noncomputable abbrev oTp (ps:List Nat):Obj:={cls:=.type "tuple",data:=.seq (ps.map fun (k:Nat)=>rawInt k).toArray}
theorem next_drawn {pl:Nat} {c:Int} {x:Value} {Q:Value->Shared->Prop} (ho:s.heap.get? a=some o) (D:SetD prog w led σ o es ep t) (he:es[pl]? = some (c,x)) (h:Q x s):wpAny (model prog w) A (setNextDrawn a pl ep) Q E s:=by
 unfold setNextDrawn
 refine wpAny_bind (wpAny_setState_of ho D.da D.fi ?_)
 dsimp only
 rw[if_neg (by rw[bne_self_eq_false];exact Bool.false_ne_true)]
 rw[he]
 exact wpAny_pure h
theorem itd_item {ps:List Nat} {pl:Nat} {c:Int} {x:Value} (hit:s.heap.get? it=some (oIt (.ref T) i n a ep)) (hT:s.heap.get? T=some (oTp ps)) (ho:s.heap.get? a=some o) (D:SetD prog w led σ o es ep t) (hn:es.size=n)
  (hp:ps[i]? = some pl) (he:es[pl]? = some (c,x)) {Q:Option Value->Shared->Prop}
  (h:∀ h',h'.get? it=some (oIt (.ref T) (i + 1) n a ep)->Heap.SameBut it s.heap h'->Q (some x) {s with heap:=h'}):wpAny (model prog w) A (pyNext (.ref it)) Q E s:=by
 have hTi:s.TypeIs (.ref it) "set_iterator":=⟨_,hit,rfl⟩
 unfold pyNext
 refine wpAny_bind (wpAny_attempt (wpAny_callSpecial?_slot (name:=Str.ofString "__next__") hTi slot_sit_next (wpAny_call_entry slot_sit_next hTi entry_sit_next ?_ (args_sit_next _))))
 show wpAny _ _ (fieldsOf (.ref it) >>= _) _ _ s
 refine wpAny_bind (wpAny_fieldsOf hit rfl ?_)
 show wpAny _ _ (setEntries a >>= _) _ _ s
 refine wpAny_bind (wpAny_setEntries_of ho D.da D.fi ?_)
 rw[if_neg (by rw[hn];simp)]
 show wpAny _ _ (seqItems? (.ref T) >>= _) _ _ s
 refine wpAny_bind (wpAny_seqItems hT rfl ?_)
 dsimp only
 have e:((ps.map fun (k:Nat)=>rawInt k).toArray)[((i:Nat):Int).toNat]? = some (rawInt pl):=by simp[hp]
 rw[e]
 show wpAny _ _ (setNextDrawn a pl ep >>= _) _ _ s
 refine wpAny_bind (next_drawn ho D he ?_)
 refine wpAny_bind (wpAny_setField_rec hit (by simp) fun h1 g1 b1=>?_)
 exact wpAny_pure ⟨x,rfl,wpAny_pure (h h1 g1 b1)⟩
theorem itd_done {ps:List Nat} (hh:A.handled=none) (hit:s.heap.get? it=some (oIt (.ref T) i n a ep)) (hT:s.heap.get? T=some (oTp ps)) (ho:s.heap.get? a=some o) (D:SetD prog w led σ o es ep t) (hn:es.size=n)
  (hp:ps[i]? = none) {Q:Option Value->Shared->Prop}
  (h:∀ h',(∀ b o,b≠it->s.heap.get? b=some o->h'.get? b=some o)->Q none {s with heap:=h'}):wpAny (model prog w) A (pyNext (.ref it)) Q E s:=by
 have hTi:s.TypeIs (.ref it) "set_iterator":=⟨_,hit,rfl⟩
 unfold pyNext
 refine wpAny_bind (wpAny_attempt (wpAny_callSpecial?_slot (name:=Str.ofString "__next__") hTi slot_sit_next (wpAny_call_entry slot_sit_next hTi entry_sit_next ?_ (args_sit_next _))))
 show wpAny _ _ (fieldsOf (.ref it) >>= _) _ _ s
 refine wpAny_bind (wpAny_fieldsOf hit rfl ?_)
 show wpAny _ _ (setEntries a >>= _) _ _ s
 refine wpAny_bind (wpAny_setEntries_of ho D.da D.fi ?_)
 rw[if_neg (by rw[hn];simp)]
 show wpAny _ _ (seqItems? (.ref T) >>= _) _ _ s
 refine wpAny_bind (wpAny_seqItems hT rfl ?_)
 dsimp only
 have e:((ps.map fun (k:Nat)=>rawInt k).toArray)[((i:Nat):Int).toNat]? = none:=by
  have:=hp
  simp at this ⊢
  exact this
 rw[e]
 show wpAny _ _ (setField (.ref it) 0 (rawInt 0) >>= _) _ _ s
 refine wpAny_bind (wpAny_setField_rec hit (by simp) fun h1 g1 b1=>?_)
 refine wpAny_bind (wpAny_setField_rec g1 (by simp) fun h2 g2 b2=>?_)
 refine stop (h:=h2) (hh:=show A.in1.handled=none from hh) (s:={s with heap:=h2}) fun h' e k he=>?_
 obtain⟨oe,ge,ce⟩:=he
 refine wpAny_bind (wpAny_isInstance (T:="StopIteration") (b:=true) ⟨_,ge,ce⟩ isSubtype_stop ?_)
 exact wpAny_pure (h h' fun b o hb e=>k b o (b2.extBut b o hb (b1.extBut b o hb e)))
theorem erase_perm {α:Type} (l:List α):∀ (j:Nat) (h:j < l.length),(l[j]::l.eraseIdx j).Perm l:=by
 induction l with
 | nil=>intro j h;cases h
 | cons a l ih=>
  intro j h
  cases j with
  | zero=>exact .refl _
  | succ j=>
   have h':j < l.length:=by simpa using h
   exact(List.Perm.swap a l[j] (l.eraseIdx j)).trans (List.Perm.cons a (ih j h'))
theorem pick_perm {α:Type} (f:Nat->Nat):∀ (fuel k:Nat) (left:List α) (out:Array α),left.length<=fuel->(pickOrder.go f fuel k left out).toList.Perm (out.toList++left):=by
 intro fuel
 induction fuel with
 | zero=>
  intro k left out h
  have:left=[]:=List.length_eq_zero_iff.mp (by omega)
  subst this
  unfold pickOrder.go
  rw[List.append_nil]
 | succ n ih=>
  intro k left out h
  unfold pickOrder.go
  cases left with
  | nil=>simp
  | cons y l=>
   have hlt:f k % (y::l).length < (y::l).length:=Nat.mod_lt _ (by simp)
   generalize f k % (y::l).length=j at hlt
   rw[List.getElem?_eq_getElem hlt]
   dsimp only
   refine(ih (k + 1) _ _ (by rw[List.length_eraseIdx_of_lt hlt];simp at h ⊢;omega)).trans ?_
   rw[Array.toList_push,List.append_assoc]
   refine List.Perm.append_left _ ?_
   exact(erase_perm _ _ hlt)
theorem pick_all {α:Type} (f:Nat->Nat) (xs:Array α):(pickOrder f xs).toList.Perm xs.toList:=by
 have:=pick_perm f xs.size 0 xs.toList #[] (by simp)
 rw[show (#[]:Array α).toList++xs.toList=xs.toList by simp] at this
 exact this
theorem choose_ok {src:Source} {m:Nat} {Q:Nat->Shared->Prop} (hm:m≠0) (h:∀ k d,k < m->Q k {s with drawn:=d}):wpAny (model prog w) A (choose src m) Q E s:=fun Γ p hΓ=>
 show m≠0/\Q _ _ from ⟨hm,h _ _ (Nat.mod_lt _ (Nat.pos_of_ne_zero hm))⟩
theorem draw_ok {α:Type} {Q:List α->Shared->Prop}:∀ (m:Nat) (xs:List α) (s:Shared),xs.length=m->(∀ ys d,ys.Perm xs->Q ys {s with drawn:=d})->wpAny (model prog w) A (drawOrder m xs) Q E s:=by
 intro m
 induction m generalizing Q with
 | zero=>
  intro xs s hx h
  have:xs=[]:=List.length_eq_zero_iff.mp hx
  subst this
  exact wpAny_pure (by cases s;exact h [] _ (.refl _))
 | succ m ih=>
  intro xs s hx h
  cases xs with
  | nil=>cases hx
  | cons y l=>
   unfold drawOrder
   refine wpAny_bind (choose_ok (by simp) fun k d hk=>?_)
   rw[List.getElem?_eq_getElem hk]
   dsimp only
   refine wpAny_bind (ih _ _ (by rw[List.length_eraseIdx_of_lt hk];simp at hx ⊢;omega) fun ys d' hy=>wpAny_pure ?_)
   exact h _ d' ((List.Perm.cons _ hy).trans (erase_perm _ _ hk))
end
theorem entry_sit_iter:entryFor table "set_iterator.__iter__" = some Builtin.«dict_keyiterator.__iter__»:=
 entryFor_alias (id':="dict_keyiterator.__iter__") (by kernel_rfl) (by first | rfl | decide +kernel | (unfold String.splitOn;simp +decide [String.splitOnAux])) (by decide +kernel) (by kernel_rfl)
theorem args_sit_iter (a:Value):argsOk "set_iterator.__iter__" ⟨[a],[]⟩:=by unfold argsOk;kernel_rfl
section
variable {prog:Program} {w:World} {A:Around} {E:Value->Shared->Prop} {s:Shared} {it a T:Addr} {i n ep slot:Nat} {σ:List Str} {o:Obj} {es:Array (Int×Value)} {t:SetTable} {led:Bool}
theorem sit_self {f:Value} {Q:Value->Shared->Prop} (hit:s.heap.get? it=some (oIt f i n a ep)) (h:Q (.ref it) s):wpAny (model prog w) A (pyIter (.ref it)) Q E s:=by
 have hT:s.TypeIs (.ref it) "set_iterator":=⟨_,hit,rfl⟩
 refine wpAny_pyIter_slot hT slot_sit_iter (wpAny_call_entry slot_sit_iter hT entry_sit_iter ?_ (args_sit_iter _))
 exact wpAny_pure ⟨_,rfl,"set_iterator",_,hT,slot_sit_next.lookup,h⟩
theorem cut_one {xs:Array Nat} {j p q:Nat} (h1:Cut xs j p) (h2:Cut xs j q):p=q:=by
 have key:∀ p q:Nat,Cut xs j p->Cut xs j q->¬ p < q:=fun p q h1 h2 h=>by
  have hl:p < xs.size:=Nat.lt_of_lt_of_le h h2.le
  have e:xs[p]? = some xs[p]:=by simp[hl]
  have:=h2.lo p _ h e
  have:=h1.hi p _ (Nat.le_refl _) e
  omega
 have:=key p q h1 h2
 have:=key q p h2 h1
 omega
theorem walkA (hh:A.handled=none) (hb:byText w=true) (D:SetD prog w led σ o es ep t) (hne:a≠it) :
  Walks prog w A it [it,a] [it] es.size (fun i v=>((pickOrder (w.params.setOrder a ep) es).toList.map (·.2))[i]? = some v) (fun i h=>h.get? it=some (oIt (rawInt 0) i es.size a ep)/\h.get? a=some o) where
 sub:=fun b hb=>by rw[List.mem_singleton.mp hb];exact List.mem_cons_self
 frame:=fun _ _ _ st k=>⟨k it (by simp) _ st.1,k a (by simp) _ st.2⟩
 item:=fun i s Q E hi st hQ=>by
  have hl:(pickOrder (w.params.setOrder a ep) es).size=es.size:=by rw[<- Array.length_toList,(pick_all _ es).length_eq,Array.length_toList]
  have e:(pickOrder (w.params.setOrder a ep) es)[i]? = some (pickOrder (w.params.setOrder a ep) es)[i]:=by simp[hl,hi]
  refine it_item (x:=(pickOrder (w.params.setOrder a ep) es)[i].2) (nx:=0) st.1 st.2 D rfl (fun A' E' Q' q=>next_text hb st.2 D (by rw[e];exact q)) fun h' g b=>?_
  exact hQ _ h' s.toks (by rw[List.getElem?_map,Array.getElem?_toList,e];rfl) ⟨g,b.extBut a o hne st.2⟩ fun c o hc e=>b.extBut c o (fun z=>hc (by simp[z])) e
 done:=fun s Q E st hQ=>by
  have hl:(pickOrder (w.params.setOrder a ep) es).size=es.size:=by rw[<- Array.length_toList,(pick_all _ es).length_eq,Array.length_toList]
  have e:(pickOrder (w.params.setOrder a ep) es)[es.size]? = none:=by simp[hl]
  exact it_done hh st.1 st.2 D rfl (fun A' E' Q' q=>next_text hb st.2 D (by rw[e];exact q)) fun h' k=>hQ h' s.toks fun c o hc e=>k c o (fun z=>hc (by simp[z])) e
 self:=fun _ _ _ _ st hQ=>sit_self st.1 hQ
noncomputable def stand (t:SetTable):Nat->Nat
 | 0=>0
 | i + 1=>t.place.getD i 0 + 1
theorem stand_cut (u:Up t.place) (hi:i<=t.place.size):Cut t.place (stand t i) i:=by
 cases i with
 | zero=>exact⟨hi,fun i x h=>absurd h (Nat.not_lt_zero i),fun i x _ _=>Nat.zero_le _⟩
 | succ k=>
  have hk:k < t.place.size:=by omega
  have e:t.place[k]? = some t.place[k]:=by simp[hk]
  have eg:t.place.getD k 0=t.place[k]:=by simp[Array.getD,hk]
  refine⟨hi,fun j x hj hx=>?_,fun j x hj hx=>?_⟩
  ·show x < t.place.getD k 0 + 1
   rw[eg]
   by_cases q:j=k
   ·subst q;rw[e] at hx;cases hx;omega
   ·have:=u j k x _ (by omega) hx e;omega
  ·show t.place.getD k 0 + 1<=x
   rw[eg]
   have:=u k j _ x (by omega) e hx
   omega
theorem walkC (hh:A.handled=none) (hb:byText w=false) (D:SetD prog w (!byText w) σ o es ep t) (hd:(!t.plain && decide (es.size > 1))=false) (hne:a≠it) :
  Walks prog w A it [it,a] [it] es.size (fun i v=>(vals es)[i]? = some v) (fun i h=>h.get? it=some (oIt (rawInt (stand t i)) i es.size a ep)/\h.get? a=some o) where
 sub:=fun b hb=>by rw[List.mem_singleton.mp hb];exact List.mem_cons_self
 frame:=fun _ _ _ st k=>⟨k it (by simp) _ st.1,k a (by simp) _ st.2⟩
 item:=fun i s Q E hi st hQ=>by
  have hz:t.place.size=es.size:=by have:=D.fi;unfold SetTable.fits at this;rw[Bool.and_eq_true] at this;exact eq_of_beq this.1
  have hp:i < t.place.size:=by omega
  have eb:SetTable.below t.place (stand t i)=i:=cut_one (bZ D.tb.up _) (stand_cut D.tb.up (Nat.le_of_lt hp))
  have e1:es[i]? = some (es[i].1,es[i].2):=by simp[hi]
  have e2:t.place[i]? = some t.place[i]:=by simp[hp]
  have e3:stand t (i + 1)=t.place[i] + 1:=by show t.place.getD i 0 + 1=_;simp[Array.getD,hp]
  refine it_item (x:=es[i].2) (nx:=stand t (i + 1)) st.1 st.2 D rfl (fun A' E' Q' q=>next_place hb st.2 D hd (by rw[eb,e1,e2];rw[e3] at q;exact q)) fun h' g b=>?_
  exact hQ _ h' s.toks (by rw[List.getElem?_map,Array.getElem?_toList,e1];rfl) ⟨g,b.extBut a o hne st.2⟩ fun c o hc e=>b.extBut c o (fun z=>hc (by simp[z])) e
 done:=fun s Q E st hQ=>by
  have hz:t.place.size=es.size:=by have:=D.fi;unfold SetTable.fits at this;rw[Bool.and_eq_true] at this;exact eq_of_beq this.1
  have eb:SetTable.below t.place (stand t es.size)=es.size:=cut_one (bZ D.tb.up _) (stand_cut D.tb.up (by omega))
  have e1:es[es.size]? = none:=by simp
  exact it_done hh st.1 st.2 D rfl (fun A' E' Q' q=>next_place hb st.2 D hd (by rw[eb,e1];exact q)) fun h' k=>hQ h' s.toks fun c o hc e=>k c o (fun z=>hc (by simp[z])) e
 self:=fun _ _ _ _ st hQ=>sit_self st.1 hQ
theorem walkB (hh:A.handled=none) (D:SetD prog w led σ o es ep t) {ps:List Nat} (hp:ps.Perm (List.range es.size)) (hne:a≠it) (hnT:T≠it) :
  Walks prog w A it [it,a,T] [it] es.size (fun i v=>(ps.map fun k=>(es.getD k (0,.none)).2)[i]? = some v) (fun i h=>h.get? it=some (oIt (.ref T) i es.size a ep)/\h.get? a=some o/\h.get? T=some (oTp ps)) where
 sub:=fun b hb=>by rw[List.mem_singleton.mp hb];exact List.mem_cons_self
 frame:=fun _ _ _ st k=>⟨k it (by simp) _ st.1,k a (by simp) _ st.2.1,k T (by simp) _ st.2.2⟩
 item:=fun i s Q E hi st hQ=>by
  have hl:ps.length=es.size:=by rw[hp.length_eq,List.length_range]
  have hi':i < ps.length:=by omega
  have hlt:ps[i] < es.size:=List.mem_range.mp (hp.mem_iff.mp (List.getElem_mem hi'))
  have e1:ps[i]? = some ps[i]:=List.getElem?_eq_getElem hi'
  have e2:es[ps[i]]? = some (es[ps[i]].1,es[ps[i]].2):=by simp[hlt]
  refine itd_item st.1 st.2.2 st.2.1 D rfl e1 e2 fun h' g b=>?_
  exact hQ _ h' s.toks (by rw[List.getElem?_map,e1];simp[Array.getD,hlt]) ⟨g,b.extBut a o hne st.2.1,b.extBut T _ hnT st.2.2⟩ fun c o hc e=>b.extBut c o (fun z=>hc (by simp[z])) e
 done:=fun s Q E st hQ=>by
  have hl:ps.length=es.size:=by rw[hp.length_eq,List.length_range]
  exact itd_done hh st.1 st.2.2 st.2.1 D rfl (by rw[List.getElem?_eq_none];omega) fun h' k=>hQ h' s.toks fun c o hc e=>k c o (fun z=>hc (by simp[z])) e
 self:=fun _ _ _ _ st hQ=>sit_self st.1 hQ
end
section
variable {prog:Program} {w:World} {A:Around} {E:Value->Shared->Prop} {s:Shared} {it a T:Addr} {i n ep slot:Nat} {σ:List Str} {o:Obj} {es:Array (Int×Value)} {t:SetTable} {led:Bool}
structure Come (prog:Program) (w:World) (A:Around) (a:Addr) (σ:List Str) (h h1:Heap) (it:Addr) (seq:List Value) (n:Nat) (fp:List Addr) (St:Nat->Heap->Prop):Prop where
 keep:∀ b o,h.get? b=some o->h1.get? b=some o
 new:h.get? it=none
 pm:∃ ks,StrsAre seq ks/\ks.Perm σ
 ln:seq.length=n
 wk:Walks prog w A it fp [it] n (fun i v=>seq[i]? = some v) St
 st:St 0 h1
 fps:∀ b ∈ fp,b=a∨h.get? b=none
theorem get_new (h:Heap):h.get? h.objs.size=none:=by
 cases e:h.get? h.objs.size with
 | none=>rfl
 | some o=>exact absurd (Heap.lt_size e) (Nat.lt_irrefl _)
theorem get_new1 (h:Heap) (o:Obj):h.get? (h.push o).objs.size=none:=by
 cases e:h.get? (h.push o).objs.size with
 | none=>rfl
 | some o'=>
  have:=Heap.lt_size e
  rw[Heap.size_push] at this
  exact absurd this (Nat.not_lt.mpr (Nat.le_succ _))
theorem map_range (es:Array (Int×Value)):(List.range es.size).map (fun k=>(es.getD k (0,.none)).2)=vals es:=by
 apply List.ext_getElem?
 intro j
 rw[List.getElem?_map,List.getElem?_map]
 by_cases h:j < es.size
 ·rw[List.getElem?_range h];simp[Array.getD,h]
 ·rw[List.getElem?_eq_none (by simp;omega)];simp[h]
theorem iter_set (hh:A.handled=none) (hS:SetI prog w s.heap a (!byText w) σ) {Q:Value->Shared->Prop} (h:∀ h1 d it seq n fp St,Come prog w A a σ s.heap h1 it seq n fp St->Q (.ref it) {s with heap:=h1,drawn:=d}) :
  wpAny (model prog w) A (pyIter (.ref a)) Q E s:=by
 obtain⟨o,es,ep,t,ho,D⟩:=hS
 obtain⟨ks,k1,k2⟩:=D.pm
 have hT:s.TypeIs (.ref a) "set":=⟨_,ho,D.ex.1⟩
 have alt:a < s.heap.objs.size:=Heap.lt_size ho
 refine wpAny_pyIter_slot hT F.slot_set_iter (wpAny_call_entry F.slot_set_iter hT entry_set_it ?_ (F.args_set_iter_1 _))
 show wpAny _ _ (Builtin.Frozenset.sizeOf a >>= _) _ _ s
 unfold Builtin.Frozenset.sizeOf
 refine wpAny_bind (wpAny_bind (wpAny_setEntries_of ho D.da D.fi (wpAny_pure ?_)))
 have lkp:∀ {f:Value} {h1:Heap} {d:Drawn} {x:Addr},h1.get? x=some (oIt f 0 es.size a ep)->Shared.TypeIs {s with heap:=h1,drawn:=d} (.ref x) "set_iterator":=fun e=>⟨_,e,rfl⟩
 show wpAny _ _ (setDrawn a >>= _) _ _ s
 unfold setDrawn
 refine wpAny_bind (wpAny_bind (wpAny_setState_of ho D.da D.fi ?_))
 dsimp only
 refine wpAny_bind (by_text (wpAny_pure ?_))
 cases hb:byText w with
 | true=>
  show wpAny _ _ (if (!true && _)=true then _ else _) _ _ _
  rw[Bool.not_true,Bool.false_and,if_neg Bool.false_ne_true]
  refine wpAny_bind (wpAny_pure (wpAny_bind (wpAny_setEpoch_of ho D.da D.fi (wpAny_bind (wpAny_newObj_type ?_ (by size_fits))))))
  obtain⟨ks',k3,k4⟩:=are_perm ((pick_all (w.params.setOrder a ep) es).map (·.2)) k1
  have hl:((pickOrder (w.params.setOrder a ep) es).toList.map (·.2)).length=es.size:=by rw[List.length_map,(pick_all _ es).length_eq,Array.length_toList]
  have W:=walkA (A:=A) (it:=s.heap.objs.size) hh hb D (Nat.ne_of_lt alt)
  exact wpAny_pure ⟨_,rfl,"set_iterator",_,lkp (d:=s.drawn) (Heap.get?_push_size _ rfl),slot_sit_next.lookup,h _ s.drawn s.heap.objs.size _ _ _ _
   ⟨fun b o e=>Heap.get?_push_of_some _ e,get_new _,⟨ks',k3,k4.trans k2⟩,hl,W,⟨Heap.get?_push_size _ rfl,Heap.get?_push_of_some _ ho⟩,fun b hb=>by
    rcases List.mem_cons.mp hb with e | hb
    ·rw[e];exact .inr (get_new _)
    ·exact .inl (List.mem_singleton.mp hb)⟩⟩
 | false=>
  cases hd:(!t.plain && decide (es.size > 1)) with
  | false=>
   show wpAny _ _ (if (!false && (!t.plain && decide (es.size > 1)))=true then _ else _) _ _ _
   rw[hd,Bool.and_false,if_neg Bool.false_ne_true]
   refine wpAny_bind (wpAny_pure (wpAny_bind (wpAny_setEpoch_of ho D.da D.fi (wpAny_bind (wpAny_newObj_type ?_ (by size_fits))))))
   have hl:(vals es).length=es.size:=by rw[List.length_map,Array.length_toList]
   have W:=walkC (A:=A) (it:=s.heap.objs.size) hh hb D hd (Nat.ne_of_lt alt)
   exact wpAny_pure ⟨_,rfl,"set_iterator",_,lkp (d:=s.drawn) (Heap.get?_push_size _ rfl),slot_sit_next.lookup,h _ s.drawn s.heap.objs.size _ _ _ _
    ⟨fun b o e=>Heap.get?_push_of_some _ e,get_new _,⟨ks,k1,k2⟩,hl,W,⟨Heap.get?_push_size _ rfl,Heap.get?_push_of_some _ ho⟩,fun b hb=>by
     rcases List.mem_cons.mp hb with e | hb
     ·rw[e];exact .inr (get_new _)
     ·exact .inl (List.mem_singleton.mp hb)⟩⟩
  | true=>
   show wpAny _ _ (if (!false && (!t.plain && decide (es.size > 1)))=true then _ else _) _ _ _
   rw[hd,Bool.not_false,Bool.and_self,if_pos rfl]
   have hz:=fits_of_scanBound D.sb
   refine wpAny_bind (draw_ok _ _ _ List.length_range fun ps d hp=>?_)
   have hl0:ps.length=es.size:=by rw[hp.length_eq,List.length_range]
   have ho1:(s.heap.push (oTp ps)).get? a=some o:=Heap.get?_push_of_some _ ho
   refine wpAny_bind (wpAny_newTuple (wpAny_bind (wpAny_setEpoch_of ho1 D.da D.fi (wpAny_bind (wpAny_newObj_type ?_ (by size_fits))))) (by rw[List.length_map,hl0];exact hz))
   have pv:(ps.map fun k=>(es.getD k (0,.none)).2).Perm (vals es):=by rw[<- map_range];exact hp.map _
   obtain⟨ks',k3,k4⟩:=are_perm pv k1
   have hl:(ps.map fun k=>(es.getD k (0,.none)).2).length=es.size:=by rw[List.length_map,hl0]
   have hsz:(s.heap.push (oTp ps)).objs.size=s.heap.objs.size + 1:=Heap.size_push ..
   have W:=walkB (A:=A) (T:=s.heap.objs.size) (it:=(s.heap.push (oTp ps)).objs.size) hh D hp (by rw[hsz];exact Nat.ne_of_lt (Nat.lt_succ_of_lt alt)) (by rw[hsz];exact Nat.ne_of_lt (Nat.lt_succ_self _))
   exact wpAny_pure ⟨_,rfl,"set_iterator",_,lkp (d:=d) (Heap.get?_push_size _ rfl),slot_sit_next.lookup,h _ d (s.heap.push (oTp ps)).objs.size _ _ _ _
    ⟨fun b o e=>Heap.get?_push_of_some _ (Heap.get?_push_of_some _ e),get_new1 _ _,⟨ks',k3,k4.trans k2⟩,hl,W,
     ⟨Heap.get?_push_size _ rfl,Heap.get?_push_of_some _ ho1,Heap.get?_push_of_some _ (Heap.get?_push_size _ rfl)⟩,fun b hb=>by
     rcases List.mem_cons.mp hb with e | hb
     ·rw[e];exact .inr (get_new1 _ _)
     ·rcases List.mem_cons.mp hb with e | hb
      ·exact .inl e
      ·rw[List.mem_singleton.mp hb];exact .inr (get_new _)⟩⟩
end
section
variable {prog:Program} {w:World} {A:Around} {E:Value->Shared->Prop} {s:Shared} {a:Addr} {σ:List Str}
theorem hint_set {Q:Bool->Shared->Prop} (hT:s.TypeIs (.ref a) "set") (h:Q false s):wpAny (model prog w) A (Builtin.List.listLengthHint (.ref a)) Q E s:=by
 unfold Builtin.List.listLengthHint
 refine wpAny_bind (wpAny_specialOf hT PySem.F.slot_set_len.lookup ?_)
 generalize hid:("set.__len__" : String)=id0
 wp_delta
 rw[show splitId id0=some ("set","__len__") from by subst hid;decide +kernel]
 subst hid
 refine wpAny_bind (wpAny_isInstance (T:="set") (b:=true) hT (by rw[isSubtype_type];kernel_rfl) (wpAny_ite_split (fun z=>absurd z (by decide)) fun _=>wpAny_ite_split (fun _=>?_) fun z=>absurd (by decide +kernel) z))
 exact wpAny_bind (wpAny_typeOf hT (wpAny_pure h))
theorem seq_of {seq:List Value} {acc:Array Value} (h:ItemsOf (fun i v=>seq[i]? = some v) acc seq.length):acc.toList=seq:=by
 apply List.ext_getElem?
 intro j
 rw[Array.getElem?_toList]
 by_cases hj:j < acc.size
 ·have e:acc[j]? = some acc[j]:=by simp[hj]
  rw[e,h.2 j _ e]
 ·have h1:acc[j]? = none:=by simp;omega
  rw[h1,List.getElem?_eq_none (by rw[<- h.1];omega)]
theorem ext_set {R:Result->Shared->Prop} (hh:A.handled=none) (hS:SetI prog w s.heap a (!byText w) σ) (S:Addr) (hSa:S≠a) (res:Value) (c0:Nat) (hg:s.heap.get? S=some {cls:=.type "list",data:=.seq #[] c0}) (hn:σ.length<=sizeLine)
  (hR:∀ h' tk d acc c,(∀ b o,b≠S->s.heap.get? b=some o->h'.get? b=some o)->h'.get? S=some {cls:=.type "list",dict:=none,data:=.seq acc c,slots:=#[]}->(∃ ks,StrsAre acc.toList ks/\ks.Perm σ)->R (.ok (.ret res)) {s with heap:=h',toks:=tk,drawn:=d}) :
  wpAny (model prog w) A.in1 (Builtin.List.listExtendWith (.ref S) (.ref a) res)
   (fun fin s'=>match fin with | .done f=>R (.ok f) s' | .again c'=>c'.quiet=true/\codeAny (model prog w) A c' R s') (fun e s'=>R (.error e) s') s:=by
 have hT:s.TypeIs (.ref a) "set":=by obtain⟨o,es,ep,t,ho,D⟩:=hS;exact⟨o,ho,D.ex.1⟩
 unfold Builtin.List.listExtendWith
 refine wpAny_bind (wpAny_typeOf (T:="set") hT ?_)
 have h1:Builtin.List.listSameRef (.ref S) (.ref a)=false:=by simp[Builtin.List.listSameRef,hSa]
 rw[if_neg (by rw[h1];decide)]
 refine wpAny_bind (iter_set (A:=A.in1) hh hS fun h1 d it seq n fp St C=>?_)
 have hfp:S ∉ fp:=fun z=>(C.fps S z).elim hSa fun e=>by rw[hg] at e;cases e
 have hSi:S≠it:=fun z=>by rw[z,C.new] at hg;cases hg
 obtain⟨ks,q1,q2⟩:=C.pm
 have hln:n<=sizeLine:=by rw[<- C.ln,StrsAre.length q1,q2.length_eq];exact hn
 have key:∀ (h:Heap) (c1 tk:Nat),St 0 h->(∀ b o,b≠S->s.heap.get? b=some o->h.get? b=some o)->h.get? S=some {cls:=.type "list",data:=.seq #[] c1}->
   codeAny (model prog w) A (.builtin "list.extend.loop" ⟨[.ref S,.ref it,res],[]⟩) R {s with heap:=h,toks:=tk,drawn:=d}:=by
  intro h c1 tk hst hk hS1
  refine codeAny_extend_loopS C.wk.toS hln S hfp res n 0 _ #[] c1 rfl (Nat.zero_le _) hst hS1 (ItemsOf.nil _) fun s' acc c hm hS' hacc=>?_
  rw[Moved.eq_with hm]
  rw[<- C.ln] at hacc
  refine hR s'.heap s'.toks d acc c (fun b o hb e=>hm.heap b o (fun z=>?_) (hk b o hb e)) hS' ⟨ks,by rw[seq_of hacc];exact q1,q2⟩
  rcases List.mem_cons.mp z with z | z
  ·exact hb z
  ·rw[List.mem_singleton.mp z,C.new] at e;cases e
 have hT1:Shared.TypeIs {s with heap:=h1,drawn:=d} (.ref a) "set":=by obtain⟨o,es,ep,t,ho,D⟩:=hS;exact⟨o,C.keep _ _ ho,D.ex.1⟩
 have g1:=C.keep _ _ hg
 refine wpAny_bind (wpAny_holding (hint_set hT1 (wpAny_ite_split (fun _=>?_) fun _=>wpAny_pure ⟨plainId_quiet PySem.F.plain_extend_loop _,key _ c0 _ C.st (fun b o _ e=>C.keep b o e) g1⟩)))
 refine wpAny_bind (wpAny_rule (wpAny_bind ?_))
 show wpAny _ _ (updateSeq S (·.push .none) >>= fun _=>updateSeq S (·.pop)) _ _ _
 have g2:=Heap.get?_update_self (Obj.mapSeq (·.push Value.none)) g1 rfl
 have g3:=Heap.get?_update_self (Obj.mapSeq (·.pop)) g2 rfl
 refine wpAny_bind (wpAny_updateSeq g1 rfl (wpAny_updateSeq (hz:=by seq_fits) g2 rfl (wpAny_pure ⟨plainId_quiet PySem.F.plain_extend_loop _,key _ _ _ ?_ (fun b o hb e=>?_) g3⟩)))
 ·refine C.wk.frame 0 _ _ C.st fun b hb o e=>?_
  have hbS:S≠b:=fun z=>hfp (z ▸ hb)
  exact(Heap.get?_update_other _ _ hbS).trans ((Heap.get?_update_other _ _ hbS).trans e)
 ·have hbS:S≠b:=fun z=>hb z.symm
  exact(Heap.get?_update_other _ _ hbS).trans ((Heap.get?_update_other _ _ hbS).trans (C.keep b o e))
end
section
variable {prog:Program} {w:World} {A:Around} {E:Value->Shared->Prop} {s:Shared} {a:Addr} {σ:List Str}
theorem collect_set {Q:List Value->Shared->Prop} (hh:A.handled=none) (hS:SetI prog w s.heap a (!byText w) σ) (hn:σ.length<=sizeLine)
  (h:∀ h' tk d (acc:Array Value),s.heap.objs.size < h'.objs.size->(∀ b o,s.heap.get? b=some o->h'.get? b=some o)->(∃ ks,StrsAre acc.toList ks/\ks.Perm σ)->Q acc.toList {s with heap:=h',toks:=tk,drawn:=d}):wpAny (model prog w) A (collect (.ref a)) Q E s:=by
 have hlt:a < s.heap.objs.size:=by obtain⟨o,es,ep,t,ho,D⟩:=hS;exact Heap.lt_size ho
 unfold collect
 refine wpAny_bind (wpAny_runValue (codeAny_builtin entry_proto_collect' ?_))
 rw[Around.under_plainId PySem.F.plain_proto_collect _]
 refine(show wpAny _ A.in1 (newList [] >>= fun l=>again (.builtin "list.__iadd__" ⟨[l,.ref a],[]⟩)) _ _ s from wpAny_bind (wpAny_newObj_type (wpAny_pure ⟨plainId_quiet PySem.F.plain_list_iadd _,codeAny_builtin entry_list_iadd' ?_⟩)))
 rw[Around.under_plainId PySem.F.plain_list_iadd _]
 have g1:(s.heap.push {cls:=.type "list",data:=.seq ([]:List Value).toArray}).get? s.heap.objs.size=some {cls:=.type "list",data:=.seq #[]}:=Heap.get?_push_size _ rfl
 show wpAny _ A.in1 (Builtin.List.listExtendWith (.ref s.heap.objs.size) (.ref a) (.ref s.heap.objs.size)) _ _ _
 have key:=ext_set (A:=A) (s:={s with heap:=s.heap.push {cls:=.type "list",data:=.seq ([]:List Value).toArray}})
  (R:=fun (q:Result) (s':Shared)=>∃ (h':Heap) (tk:Nat) (d:Drawn) (acc:Array Value) (c:Nat),q=.ok (.ret (.ref s.heap.objs.size))/\s' = {s with heap:=h',toks:=tk,drawn:=d}/\
   (∀ b o,s.heap.get? b=some o->h'.get? b=some o)/\h'.get? s.heap.objs.size=some {cls:=.type "list",dict:=none,data:=.seq acc c,slots:=#[]}/\∃ ks,StrsAre acc.toList ks/\ks.Perm σ)
  hh (hS.moved fun o e=>Heap.get?_push_of_some _ e) s.heap.objs.size (Nat.ne_of_gt hlt) (.ref s.heap.objs.size) 0 g1 hn
  (fun h' tk d acc c hk hS' hacc=>⟨h',tk,d,acc,c,rfl,rfl,fun b o e=>hk b o (Nat.ne_of_lt (Heap.lt_size e)) (Heap.get?_push_of_some _ e),hS',hacc⟩)
 refine wpAny_mono key (fun fin s' x=>?_) fun e s' x=>?_
 ·cases fin with
  | done f=>
   obtain⟨h',tk,d,acc,c,e,rfl,hk,hS',hacc⟩:=x
   cases e
   exact show wpAny _ A (load s.heap.objs.size >>= _) _ _ _ from wpAny_bind (wpAny_load hS' (wpAny_pure (h h' tk d acc (Heap.lt_size hS') hk hacc)))
  | again c1=>
   refine⟨x.1,codeAny_mono x.2 fun q s2 y=>?_⟩
   obtain⟨h',tk,d,acc,c,rfl,rfl,hk,hS',hacc⟩:=y
   exact show wpAny _ A (load s.heap.objs.size >>= _) _ _ _ from wpAny_bind (wpAny_load hS' (wpAny_pure (h h' tk d acc (Heap.lt_size hS') hk hacc)))
 ·obtain⟨_,_,_,_,_,e',_⟩:=x
  cases e'
theorem eP {a:Addr} {vs:List Value} {ss:List Str} {n:Nat} {P:Fin->Shared->Prop} (ho:s.heap.get? a=some (seqObj "list" vs.toArray n)) (hS:StrsAre vs ss) (h64:vs.length < 64)
  (h:∀ (out:Array Value) (ss':List Str),StrsAre out.toList ss'->ss'.Perm ss->sortedS ss'=true->P (.done (.ret .none)) {s with heap:=sortedHeap s.heap a vs out}) :
  wpAny (model prog w) A (Builtin.«list.sort» ⟨[.ref a],[]⟩) P E s:=by
 refine list_sort_treeK strKind_oneLt ho hS.keysOf (fun v₁ v₂ rest e=>keyKind_strs (by rw[<- e];exact hS)) h64 fun st' hp hs=>?_
 obtain⟨ss',h1,h2,h3⟩:=sorted_out_str hS hp hs
 exact h _ ss' h1 h2 h3
theorem sorted_set {Q:Value->Shared->Prop} (hh:A.handled=none) (hS:SetI prog w s.heap a (!byText w) σ) (h64:σ.length < 64)
  (h:∀ h' tk d D (out:Array Value) c ns',(∀ b o,s.heap.get? b=some o->h'.get? b=some o)->s.heap.objs.size<=D->h'.get? D=some (seqObj "list" out c)->StrsAre out.toList ns'->ns'.Perm σ->sortedS ns'=true->Q (.ref D) {s with heap:=h',toks:=tk,drawn:=d}) :
  wpAny (model prog w) A (call (.builtin "sorted") [.ref a]) Q E s:=by
 have hz:σ.length<=sizeLine:=by rw[sizeLine_eq];omega
 refine Calls.call_function_entry kind_sorted plain_sorted entry_sorted (args_sorted1 _) ?_
 unfold Builtin.«sorted»
 refine wpAny_bind (m:=checkCount "sorted" 1 1 _) (wpAny_pure (wpAny_bind (collect_set (A:=A.in1) hh hS hz fun h' tk d acc hlt hk hacc=>?_)))
 obtain⟨ks,k1,k2⟩:=hacc
 have hl:acc.toList.length=σ.length:=by rw[StrsAre.length k1,k2.length_eq]
 refine wpAny_bind (wpAny_newList ?_ (by rw[hl];exact hz))
 have gL:(h'.push (seqObj "list" acc.toList.toArray 0)).get? h'.objs.size=some (seqObj "list" acc.toList.toArray 0):=Heap.get?_push_size _ rfl
 have nD:s.heap.get? h'.objs.size=none:=by
  cases e:s.heap.get? h'.objs.size with
  | none=>rfl
  | some o=>exact absurd (Heap.lt_size (hk _ _ e)) (Nat.lt_irrefl _)
 refine wpAny_bind (wpAny_holding (wpAny_call_entry (s:={s with heap:=h'.push (seqObj "list" acc.toList.toArray 0),toks:=tk,drawn:=d}) slot_list_sort ⟨_,gL,rfl⟩ entry_list_sort (eP (s:={s with heap:=h'.push (seqObj "list" acc.toList.toArray 0),toks:=tk,drawn:=d}) gL k1 (by rw[hl];exact h64) fun out ns' a1 a2 a3=>⟨_,rfl,?_⟩) (args_list_sort _)))
 obtain⟨c,hc⟩:=sortedHeap_at (out:=out) gL
 refine wpAny_pure ⟨_,rfl,h _ tk d _ out c ns' (fun b o e=>?_) (Nat.le_of_lt hlt) hc a1 (a2.trans k2) a3⟩
 have e1:=Heap.get?_push_of_some (seqObj "list" acc.toList.toArray 0) (hk b o e)
 rw[sortedHeap_old (fun z=>by rw[z,nD] at e;cases e) (Heap.lt_size e1)]
 exact e1
end
end L2.Sv
namespace L2
open PySem PySem.Spec PyProof.Rows PySem.SeqAt
noncomputable def dd (ns:List Int):List Int:=ns.foldl step_dedup []
theorem nj (ns:List Int):(dd ns).length<=ns.length:=by
 have:=Se.dedup_len ns []
 simpa[dd] using this
noncomputable def leT (a b:Str):Prop:=ltCps b.cps.toList a.cps.toList=false
theorem cz {a b:Str}:leT a b↔a.cps.toList<=b.cps.toList:=by
 unfold leT
 rw[ltCps_eq,decide_eq_false_iff_not,List.not_lt]
theorem iK {a b:Str} (h:leT a b) (k:leT b a):a=b:=by
 have:=List.le_antisymm (cz.mp h) (cz.mp k)
 obtain⟨⟨x⟩⟩:=a
 obtain⟨⟨y⟩⟩:=b
 exact congrArg (fun z=>Str.mk ⟨z⟩) this
theorem fY {a b c:Str} (h:leT a b) (k:leT b c):leT a c:=cz.mpr (List.le_trans (cz.mp h) (cz.mp k))
theorem l8 (a b:Str):leT a b∨leT b a:=(List.le_total a.cps.toList b.cps.toList).imp cz.mpr cz.mpr
noncomputable def jB (x:Str):List Str->List Str
 | []=>[x]
 | y::r=>if ltCps y.cps.toList x.cps.toList=true then y::jB x r else x::y::r
noncomputable def br:List Str->List Str
 | []=>[]
 | x::r=>jB x (br r)
theorem dH (x:Str):∀ l,(jB x l).Perm (x::l)
 | []=>.refl _
 | y::r=>by
  unfold jB;split
  ·exact((dH x r).cons y).trans (.swap _ _ _)
  ·exact .refl _
theorem bw:∀ ns,(br ns).Perm ns
 | []=>.refl _
 | x::r=>(dH x _).trans ((bw r).cons x)
theorem eQ (x:Str):∀ l:List Str,l.Pairwise leT->(jB x l).Pairwise leT
 | [],_=>by simp[jB]
 | y::r,h=>by
  obtain⟨h1,h2⟩:=List.pairwise_cons.mp h
  unfold jB;split
  ·rename_i hc
   refine List.pairwise_cons.mpr ⟨fun z hz=>?_,eQ x r h2⟩
   rcases List.mem_cons.mp ((dH x r).mem_iff.mp hz) with rfl | hz
   ·rcases l8 y z with q | q
    ·exact q
    ·exact absurd hc (by rw[show ltCps y.cps.toList z.cps.toList=false from q];exact Bool.false_ne_true)
   ·exact h1 z hz
  ·rename_i hc
   have hxy:leT x y:=by simpa[leT] using hc
   refine List.pairwise_cons.mpr ⟨fun z hz=>?_,h⟩
   rcases List.mem_cons.mp hz with rfl | hz
   ·exact hxy
   ·exact fY hxy (h1 z hz)
theorem bQ:∀ ns,(br ns).Pairwise leT
 | []=>.nil
 | x::r=>eQ x _ (bQ r)
theorem iL:∀ (p:Str) (l:List Str),risingS p l=true->(p::l).Pairwise leT
 | p,[],_=>by simp
 | p,x::r,h=>by
  have h':=Bool.and_eq_true_iff.mp (show (!ltCps x.cps.toList p.cps.toList && risingS x r)=true from h)
  have hx:leT p x:=by simpa[leT] using h'.1
  have ih:=iL x r h'.2
  refine List.pairwise_cons.mpr ⟨fun z hz=>?_,ih⟩
  rcases List.mem_cons.mp hz with rfl | hz
  ·exact hx
  ·exact fY hx ((List.pairwise_cons.mp ih).1 z hz)
theorem nk {ns ns':List Str} (hp:ns'.Perm ns) (hs:sortedS ns'=true):ns'=br ns:=by
 have h:ns'.Pairwise leT:=by
  cases ns' with
  | nil=>exact .nil
  | cons x r=>exact iL x r hs
 exact List.Perm.eq_of_pairwise (fun _ _ _ _ a b=>iK a b) h (bQ ns) (hp.trans (bw ns).symm)
noncomputable def ddT (ns:List Str):List Str:=ns.foldl Sv.ddS []
theorem ki (ns:List Str):(ddT ns).length<=ns.length:=by
 have:=Sv.dedup_len ns []
 simpa[ddT] using this
section
variable {X:Cx}
noncomputable def XS:HO:=.ext fun _=>True
noncomputable def rn (X:Cx) (σ:List Int) (o:Obj):Prop:=∃ es ep t,Se.SetD X.prog X.w (!Se.byText X.w) σ o es ep t
theorem l9 (hc:X.calm=true):bE X (.type "set") (fun xs H Q=>∃ (p:Addr) (ns:List Int),xs=[.ref p]/\SqL X.K H p (ns.map V.int)/\ns.length < 64/\∀ a o,H a=none->rn X (dd ns) o->Q (.ref a) (upd H a (.frz o XS))):=by
 intro pins s σ H xs us Q I r h
 obtain⟨p,ns,rfl,hq,h64,q⟩:=h
 obtain⟨u,rfl,rx⟩:=vals1 r
 cases rx
 obtain⟨its,rv,pl,hz⟩:=I.list hq
 have hi:=intsAre_of rv
 have hlen:=rv.length
 rw[List.length_map] at hlen
 refine Se.call_set (I.ok.hd hc) pl.isList (by simpa using hi) (by rw[List.size_toArray];unfold scanBound;omega) fun h' tk hS k=>?_
 obtain⟨o,es,ep,t,ho,D⟩:=hS
 exact⟨.ref _,_,I.laid (t':=tk) (fun b u e=>k b u (Heap.lt_size e) e) (Nat.le_refl _) (show aD X.prog X.w _ _ _ (.frz o XS) from ⟨ho,trivial,⟨_,ho⟩,fun _ _ _ _=>trivial⟩),rfl,q _ o (I.hok.fresh (Nat.le_refl _)) ⟨es,ep,t,D⟩⟩
theorem Inv.redrawn {pins:List (Addr×Obj)} {σ:St} {H:Hp} {s:Shared} (I:Inv X pins σ H s) (d:Drawn):Inv X pins σ H {s with drawn:=d}:=⟨I.ok,I.os,I.bare,I.base,I.loc,I.cell,I.free,I.freeC,I.pin,I.hok,I.len⟩
theorem gH (hc:X.calm=true):bE X (.builtin "sorted") (fun xs H Q=>∃ (p:Addr) (o:Obj) (ns:List Int),xs=[.ref p]/\H p=some (.frz o XS)/\rn X ns o/\ns.length < 64/\∀ l,H l=none->Q (.ref l) (upd H l (.lst ((PySem.W.sortI ns).map V.int)))):=by
 intro pins s σ H xs us Q I r h
 obtain⟨p,o,ns,rfl,hp,⟨es,ep,t,D⟩,h64,q⟩:=h
 obtain⟨u,rfl,rx⟩:=vals1 r
 cases rx
 have ho:s.heap.get? p=some o:=(I.hok p _ hp).1
 refine Se.sorted_set (I.ok.hd hc) ⟨o,es,ep,t,ho,D⟩ h64 fun h' tk d Dn out c ns' k hD e a1 a2 a3=>?_
 rw[PySem.W.eq_sortI a2 a3] at a1
 have rv':Vals ((PySem.W.sortI ns).map V.int) out.toList:=by
  generalize PySem.W.sortI ns=ms at a1
  generalize out.toList=vs at a1
  induction a1 with
  | nil=>exact .nil
  | cons n t _ ih=>exact .cons ⟨t,rfl⟩ ih
 have J:=I.laid (t':=tk) (o:=.lst ((PySem.W.sortI ns).map V.int)) k hD (show aD X.prog X.w _ _ _ (.lst _) from ⟨by rw[List.length_map,(PySem.W.sortI_perm ns).length_eq,sizeLine_eq];omega,out.toList,c,rv',by simpa using e⟩)
 exact⟨.ref _,_,J.redrawn d,rfl,q _ (I.hok.fresh hD)⟩
theorem eR:∀ {ns:List Str} {its:List Value},Vals (ns.map V.str) its->StrsAre its ns
 | [],_,.nil=>.nil
 | n::ns,_,.cons r h=>by
  obtain⟨t,rfl⟩:=r
  exact .cons n t (eR h)
noncomputable def rp (X:Cx) (σ:List Str) (o:Obj):Prop:=∃ es ep t,Sv.SetD X.prog X.w (!Se.byText X.w) σ o es ep t
theorem ma (hc:X.calm=true):bE X (.type "set") (fun xs H Q=>∃ (p:Addr) (ns:List Str),xs=[.ref p]/\SqL X.K H p (ns.map V.str)/\ns.length < 64/\∀ a o,H a=none->rp X (ddT ns) o->Q (.ref a) (upd H a (.frz o XS))):=by
 intro pins s σ H xs us Q I r h
 obtain⟨p,ns,rfl,hq,h64,q⟩:=h
 obtain⟨u,rfl,rx⟩:=vals1 r
 cases rx
 obtain⟨its,rv,pl,hz⟩:=I.list hq
 have hi:=eR rv
 have hlen:=rv.length
 rw[List.length_map] at hlen
 refine Sv.call_set (I.ok.hd hc) pl.isList (by simpa using hi) (by rw[List.size_toArray];unfold scanBound;omega) fun h' tk hS k=>?_
 obtain⟨o,es,ep,t,ho,D⟩:=hS
 exact⟨.ref _,_,I.laid (t':=tk) (fun b u e=>k b u (Heap.lt_size e) e) (Nat.le_refl _) (show aD X.prog X.w _ _ _ (.frz o XS) from ⟨ho,trivial,⟨_,ho⟩,fun _ _ _ _=>trivial⟩),rfl,q _ o (I.hok.fresh (Nat.le_refl _)) ⟨es,ep,t,D⟩⟩
theorem gI (hc:X.calm=true):bE X (.builtin "sorted") (fun xs H Q=>∃ (p:Addr) (o:Obj) (ns:List Str),xs=[.ref p]/\H p=some (.frz o XS)/\rp X ns o/\ns.length < 64/\∀ l,H l=none->Q (.ref l) (upd H l (.lst ((br ns).map V.str)))):=by
 intro pins s σ H xs us Q I r h
 obtain⟨p,o,ns,rfl,hp,⟨es,ep,t,D⟩,h64,q⟩:=h
 obtain⟨u,rfl,rx⟩:=vals1 r
 cases rx
 have ho:s.heap.get? p=some o:=(I.hok p _ hp).1
 refine Sv.sorted_set (I.ok.hd hc) ⟨o,es,ep,t,ho,D⟩ h64 fun h' tk d Dn out c ns' k hD e a1 a2 a3=>?_
 rw[nk a2 a3] at a1
 have rv':Vals ((br ns).map V.str) out.toList:=by
  generalize br ns=ms at a1
  generalize out.toList=vs at a1
  induction a1 with
  | nil=>exact .nil
  | cons n t _ ih=>exact .cons ⟨t,rfl⟩ ih
 have J:=I.laid (t':=tk) (o:=.lst ((br ns).map V.str)) k hD (show aD X.prog X.w _ _ _ (.lst _) from ⟨by rw[List.length_map,(bw ns).length_eq,sizeLine_eq];omega,out.toList,c,rv',by simpa using e⟩)
 exact⟨.ref _,_,J.redrawn d,rfl,q _ (I.hok.fresh hD)⟩
end
section
variable {X:Cx}
theorem rq (l:Addr) (items:Array Value) (n:Nat) (b:Addr) (items2:Array Value) (n2:Nat) (sl:Array (Option Value)) (hc0:¬(!items.isEmpty && Builtin.List.listTooLong (items.size + items2.size))=true) (hc1:items.size<=sizeLine) (hs2:items.size + items2.size<=sizeLine + 1) :
  Meets (Builtin.«list.extend» ⟨[.ref l,.ref b],[]⟩) (fun _ R s=>s.heap.get? l=some {cls:=.type "list",dict:=none,data:=.seq items n,slots:=#[]}/\s.heap.get? b=some {cls:=.type "list",dict:=none,data:=.seq items2 n2,slots:=sl}/\R (.ok (.ret Value.none)) {s with heap:=s.heap.update l (Obj.mapSeq fun x=>x++items2),toks:=s.toks}):=
 .of_wp fun prog w A R s h=>by
  obtain⟨hp,g,d,tk,os⟩:=s
  obtain⟨hl,hb,h⟩:=h
  have f1:=AutoSeq1.idx_int
  have f2:=AutoSeq1.sub_tuple_tuple
  have f3:=AutoSeq1.sub_list_list
  have f4:=AutoSeq1.sub_tuple_list
  have f5:=AutoSeq1.sub_list_tuple
  have hz':(items++items2).size<=sizeLine + 1:=by rw[Array.size_append];exact hs2
  wp_walk using(wpAny_updateSeq hl rfl (hz:=hc1) (_hz':=hz')),AutoSeq1.wpAny_loadPart' hl,AutoSeq1.wpAny_loadPart' hb
  exact⟨_,rfl,h⟩
noncomputable def yg (X:Cx):V->List V->Hp->VK->Prop:=fun x vs H Q=>∃ l b xs zs,x=.ref l/\vs=[.ref b]/\H l=some (.lst xs)/\SqL X.K H b zs/\xs.length + zs.length<=sizeLine/\Q .non (upd H l (.lst (xs++zs)))
theorem rz:MtM X "list.extend" (yg X):=by
 intro pins s σ H x vs v us Q I rx rv h
 obtain⟨l,b,xs,zs,rfl,rfl,hH,hB,hz,q⟩:=h
 cases rx
 obtain⟨u,rfl,ru⟩:=rv.one
 cases ru
 obtain⟨z,its,n,r,hl,e⟩:=I.lstM hH
 obtain⟨its2,n2,sl2,r2,z2,e2⟩:∃ (its2:List Value) (n2:Nat) (sl2:Array (Option Value)),Vals zs its2/\zs.length<=sizeLine/\s.heap.get? b=some {cls:=.type "list",dict:=none,data:=.seq its2.toArray n2,slots:=sl2}:=by
  rcases hB with hB | ⟨o,its,n,hk,hc,hd,hs,hz,r⟩
  ·obtain⟨z,its,n,r,e⟩:=hB.ok I.hok
   exact⟨its,n,_,r,z,e⟩
  ·obtain⟨c,d,dt,sl⟩:=o
   dsimp only at hc hd hs
   subst hc hd hs
   exact⟨its.toList,n,sl,r,by rw[r.length];simpa using hz,I.kIn _ _ hk⟩
 have hl2:=r2.length
 have hsz:its.toArray.size + its2.toArray.size<=sizeLine:=by rw[List.size_toArray,List.size_toArray];omega
 have hlong:¬ (!its.toArray.isEmpty && Builtin.List.listTooLong (its.toArray.size + its2.toArray.size))=true:=by
  rw[mP hsz,Bool.and_false]
  exact Bool.false_ne_true
 refine call_meets F.slot_list_extend ⟨_,e,rfl⟩ F.entry_list_extend (F.args_list_extend_2 _ _)
  (rq l its.toArray n b its2.toArray n2 sl2 hlong (by rw[List.size_toArray];omega) (by omega)) ⟨e,e2,?_⟩
 refine⟨.non,_,I.lset (its':=its++its2) hH e (by simp) (r.append r2) ?_,rfl,q⟩
 rw[List.length_append]
 omega
noncomputable def Bf:V->List V->Hp->VK->Prop:=fun x vs H Q=>∃ l xs i y,x=.ref l/\vs=[.int i,y]/\H l=some (.lst xs)/\0<=i/\i.toNat<=xs.length/\xs.length < sizeLine/\Q .non (upd H l (.lst (xs.take i.toNat++y::xs.drop i.toNat)))
theorem vZ:MtM X "list.insert" Bf:=by
 intro pins s σ H x vs v us Q I rx rv h
 obtain⟨l,xs,i,y,rfl,rfl,hH,h0,hi,hz,q⟩:=h
 cases rx
 have hs:sizeLine=16777216:=sizeLine_eq
 cases rv with
 | cons r1 rv'=>
  obtain⟨t,rfl⟩:=r1
  obtain⟨u,rfl,ru⟩:=Vals.one rv'
  obtain⟨z,its,n,r,hl,e⟩:=I.lstM hH
  refine call_meets F.slot_list_insert ⟨_,e,rfl⟩ F.entry_list_insert (F.args_list_insert_3 _ _ _) (AutoSeq1.list_insert_list_int_val_1 l its.toArray n i t u (by rw[fitsIndex_both (by omega) (by omega)];decide) (by rw[List.size_toArray];omega)) ⟨e,?_⟩
  refine⟨.non,_,I.lset (its':=its.take i.toNat++u::its.drop i.toNat) hH e ?_ ((r.take i.toNat).append (.cons ru (r.drop i.toNat))) ?_,rfl,q⟩
  ·have h1:¬ i < 0:=by omega
   have h2:min i.toNat its.toArray.size=i.toNat:=by rw[List.size_toArray];omega
   simp only[h1,if_false,h2]
   apply Array.ext'
   simp
   rw[List.take_of_length_le (by rw[List.length_drop];omega)]
  ·rw[List.length_append,List.length_cons,List.length_take,List.length_drop]
   omega
end
inductive D where
 | non | bl (b:Bool) | int (i:Int) | str (x:Str) | tup (ds:List D) | lst (own:Bool) (ds:List D) | exc (c:Str) | dct (own:Bool) (ks:List Key) (ds:List D)
 deriving Inhabited
mutual
noncomputable def er:D->D
 | .tup ds=>.tup (ers ds)
 | .lst _ ds=>.lst false (ers ds)
 | .dct _ ks ds=>.dct false ks (ers ds)
 | .non=>.non
 | .bl b=>.bl b
 | .int i=>.int i
 | .str x=>.str x
 | .exc c=>.exc c
noncomputable def ers:List D->List D
 | []=>[]
 | d::ds=>er d::ers ds
end
mutual
noncomputable def ao:D->Bool
 | .tup ds=>ae ds
 | .lst _ _=>false
 | .dct _ _ _=>false
 | .non=>true
 | .bl _=>true
 | .int _=>true
 | .str _=>true
 | .exc _=>true
noncomputable def ae:List D->Bool
 | []=>true
 | d::ds=>ao d && ae ds
end
theorem az:∀ ds:List D,ers ds=ds.map er
 | []=>rfl
 | d::ds=>by rw[ers,az ds];rfl
theorem bL:∀ ds:List D,ae ds=ds.all ao
 | []=>rfl
 | d::ds=>by rw[ae,bL ds];rfl
theorem bM (ds:List D):(ers ds).length=ds.length:=by rw[az,List.length_map]
mutual
theorem nq:∀ {d:D},ao d=true->er d=d
 | .non,_=>rfl
 | .bl _,_=>rfl
 | .int _,_=>rfl
 | .str _,_=>rfl
 | .exc _,_=>rfl
 | .tup ds,h=>by rw[er,aK (ds:=ds) h]
 | .lst o ds,h=>by cases (show false=true from h)
 | .dct o ks ds,h=>by cases (show false=true from h)
theorem aK:∀ {ds:List D},ae ds=true->ers ds=ds
 | [],_=>rfl
 | d::ds,h=>by
  have h':(ao d && ae ds)=true:=h
  rw[Bool.and_eq_true] at h'
  rw[ers,nq h'.1,aK h'.2]
end
mutual
theorem nr:∀ d:D,er (er d)=er d
 | .non=>rfl
 | .bl _=>rfl
 | .int _=>rfl
 | .str _=>rfl
 | .exc _=>rfl
 | .tup ds=>by rw[er,er,ers_ers ds]
 | .lst _ ds=>by rw[er,er,ers_ers ds]
 | .dct _ ks ds=>by rw[er,er,ers_ers ds]
theorem ers_ers:∀ ds:List D,ers (ers ds)=ers ds
 | []=>rfl
 | d::ds=>by rw[ers,ers,nr d,ers_ers ds]
end
inductive Exc where
 | stuck | exc (c:Str)
noncomputable abbrev Res (α:Type):=Except Exc α
noncomputable abbrev stk {α:Type}:Res α:=.error .stuck
noncomputable def bnd {α β:Type} (x:Res α) (f:α->Res β):Res β:=match x with
 | .ok a=>f a
 | .error e=>.error e
noncomputable def grd {α:Type} (c:Bool) (x:Res α):Res α:=if c=true then x else stk
noncomputable def PO' {α:Type} (ex:Str->Prop) (x:Res α) (k:α->Prop):Prop:=match x with
 | .ok a=>k a
 | .error (.exc c)=>ex c
 | .error .stuck=>False
theorem PO'.bnd {α β:Type} {ex:Str->Prop} {x:Res α} {f:α->Res β} {k:β->Prop} (h:PO' ex (bnd x f) k):PO' ex x fun a=>PO' ex (f a) k:=by
 cases x with
 | ok a=>exact h
 | error e=>cases e<;>exact h
theorem PO'.grd {α:Type} {ex:Str->Prop} {c:Bool} {x:Res α} {k:α->Prop} (h:PO' ex (grd c x) k):c=true/\PO' ex x k:=by
 unfold L2.grd at h
 cases c with
 | true=>exact⟨rfl,h⟩
 | false=>exact False.elim h
theorem PO'.mono {α:Type} {ex:Str->Prop} {x:Res α} {k k':α->Prop} (h:PO' ex x k) (m:∀ a,k a->k' a):PO' ex x k':=by
 cases x with
 | ok a=>exact m a h
 | error e=>cases e<;>exact h
theorem PO'.mk {α β:Type} {ex:Str->Prop} {x:Res α} {f:α->Res β} {k:β->Prop} (h:PO' ex x fun a=>PO' ex (f a) k):PO' ex (L2.bnd x f) k:=by
 cases x with
 | ok a=>exact h
 | error e=>cases e<;>exact h
theorem PO'.eq {α:Type} {ex:Str->Prop} {x:Res α} {k:α->Prop} (h:PO' ex x k):PO' ex x fun a=>x=.ok a/\k a:=by
 cases x with
 | ok a=>exact⟨rfl,h⟩
 | error e=>cases e<;>exact h
theorem PO'.ok {α:Type} {ex:Str->Prop} {a:α} {k:α->Prop} (h:PO' ex (.ok a:Res α) k):k a:=h
theorem PO'.no {α:Type} {ex:Str->Prop} {k:α->Prop} (h:PO' ex (stk:Res α) k):False:=h
inductive LD where
 | l (xs:List V) | d (kvs:List (Key×V))
noncomputable abbrev LD.o:LD->HO
 | .l xs=>.lst xs
 | .d kvs=>.dK kvs
theorem KL.sq {K:PySem.W.Frag} {H:Hp} {a:Addr} {xs:List V} (h:KL K a xs):SqL K H a xs:=by
 obtain⟨its,n,h1,h2,h3⟩:=h
 exact .inr ⟨_,its.toArray,n,h1,rfl,rfl,rfl,by simpa using h2,by simpa using h3⟩
theorem Inv.ls {X:Cx} {pins:List (Addr×Obj)} {σ:St} {H:Hp} {s:Shared} {a:Addr} {xs:List V} (I:Inv X pins σ H s) (h:Ls X.K H a xs) :
  xs.length<=sizeLine/\∃ (its:List Value) (n:Nat),Vals xs its/\s.heap.get? a=some {cls:=.type "list",data:=.seq its.toArray n}:=by
 rcases h with h | ⟨its,n,h1,h2,h3⟩
 ·obtain⟨z,its,n,r,e⟩:=h.ok I.hok
  exact⟨z,its,n,r,e⟩
 ·exact⟨by rw[h3.length];exact h2,its,n,h3,I.kIn _ _ h1⟩
noncomputable def nameIn (K:PySem.W.Frag) (C:Addr):Option Str:=match K.lookup C with
 | some ⟨_,_,.cls cd,_⟩=>some cd.name
 | _=>none
noncomputable def XU:HO:=.ext fun _=>True
noncomputable def XO (K:PySem.W.Frag) (H:Hp) (a:Addr) (c:Str):Prop:=∃ (C:Addr) (o:Obj) (vs:Array Value),PySem.W.nsIn K mainGlobals c=some (some (.ref C))/\nameIn K C=some c/\H a=some (.frz o XU)/\o.cls=.ref C/\o.data=.fields vs
noncomputable def SqE (K:PySem.W.Frag) (H:Hp) (a:Addr):List V ⊕ Str->Prop
 | .inl xs=>SqT K H a xs
 | .inr c=>XO K H a c
mutual
inductive HRep (K:PySem.W.Frag) (S:Addr->Prop) (H:Hp):V->D->Prop where
 | non:HRep K S H .non .non
 | bl (b:Bool):HRep K S H (.bl b) (.bl b)
 | int (i:Int):HRep K S H (.int i) (.int i)
 | str (x:Str):HRep K S H (.str x) (.str x)
 | exc {a:Addr} {c:Str}:SqE K H a (.inr c)->HRep K S H (.ref a) (.exc c)
 | tup {a:Addr} {xs:List V} {ds:List D}:SqT K H a xs->HReps K S H xs ds->HRep K S H (.ref a) (.tup ds)
 | lst {a:Addr} {xs:List V} {o:Bool} {ds:List D}:S a->Rd H a (.lst xs)->HReps K S H xs ds->HRep K S H (.ref a) (.lst o ds)
 | lstK {a:Addr} {xs:List V} {o:Bool} {ds:List D}:KL K a xs->HReps K S H xs ds->HRep K S H (.ref a) (.lst o ds)
 | dct {a:Addr} {kvs:List (Key×V)} {o:Bool} {ks:List Key} {ds:List D}:S a->Rd H a (.dK kvs)->kvs.map (·.1)=ks->HReps K S H (kvs.map (·.2)) ds->HRep K S H (.ref a) (.dct o ks ds)
inductive HReps (K:PySem.W.Frag) (S:Addr->Prop) (H:Hp):List V->List D->Prop where
 | nil:HReps K S H [] []
 | cons {v:V} {d:D} {vs:List V} {ds:List D}:HRep K S H v d->HReps K S H vs ds->HReps K S H (v::vs) (d::ds)
end
mutual
inductive MRep (K:PySem.W.Frag) (F:Addr->Prop) (H:Hp):V->D->List Addr->Prop where
 | non:MRep K F H .non .non []
 | bl (b:Bool):MRep K F H (.bl b) (.bl b) []
 | int (i:Int):MRep K F H (.int i) (.int i) []
 | str (x:Str):MRep K F H (.str x) (.str x) []
 | exc {a:Addr} {c:Str}:SqE K H a (.inr c)->MRep K F H (.ref a) (.exc c) []
 | tup {a:Addr} {xs:List V} {ds:List D} {f:List Addr}:SqT K H a xs->MReps K F H xs ds f->MRep K F H (.ref a) (.tup ds) f
 | lstS {a:Addr} {xs:List V} {ds:List D}:F a->Rd H a (.lst xs)->MReps K F H xs ds []->MRep K F H (.ref a) (.lst false ds) []
 | lstK {a:Addr} {xs:List V} {ds:List D}:KL K a xs->MReps K F H xs ds []->MRep K F H (.ref a) (.lst false ds) []
 | lstO {a:Addr} {xs:List V} {ds:List D} {f:List Addr}:¬ F a->H a=some (.lst xs)->MReps K F H xs ds f->MRep K F H (.ref a) (.lst true ds) (a::f)
 | dctS {a:Addr} {kvs:List (Key×V)} {ks:List Key} {ds:List D}:F a->Rd H a (.dK kvs)->kvs.map (·.1)=ks->MReps K F H (kvs.map (·.2)) ds []->MRep K F H (.ref a) (.dct false ks ds) []
 | dctO {a:Addr} {kvs:List (Key×V)} {ks:List Key} {ds:List D} {f:List Addr}:¬ F a->H a=some (.dK kvs)->kvs.map (·.1)=ks->MReps K F H (kvs.map (·.2)) ds f->MRep K F H (.ref a) (.dct true ks ds) (a::f)
inductive MReps (K:PySem.W.Frag) (F:Addr->Prop) (H:Hp):List V->List D->List Addr->Prop where
 | nil:MReps K F H [] [] []
 | cons {v:V} {d:D} {f:List Addr} {vs:List V} {ds:List D} {g:List Addr}:MRep K F H v d f->MReps K F H vs ds g->MReps K F H (v::vs) (d::ds) (f++g)
end
theorem ak.rd {H H':Hp} {a:Addr} {u:HO} (e:ak H H') (h:Rd H a u):Rd H' a u:=by
 rcases h with h | ⟨o,h⟩
 ·exact .inl (e _ _ h)
 ·exact .inr ⟨o,e _ _ h⟩
theorem ak.seqT {K:PySem.W.Frag} {H H':Hp} {a:Addr} {xs:List V ⊕ Str} (e:ak H H') (h:SqE K H a xs):SqE K H' a xs:=by
 cases xs with
 | inl xs=>
  rcases h with h | h
  ·exact .inl (e.rd h)
  ·exact .inr h
 | inr c=>
  obtain⟨C,o,vs,h0,h1,h2,h3⟩:=h
  exact⟨C,o,vs,h0,h1,e _ _ h2,h3⟩
theorem SqE.upd {K:PySem.W.Frag} {H:Hp} {a l:Addr} {xs:List V ⊕ Str} {ys zs:List V} (hl:H l=some (.lst ys)) (h:SqE K H a xs):SqE K (upd H l (.lst zs)) a xs:=by
 cases xs with
 | inl xs=>
  rcases h with h | h
  ·have:a≠l:=by
    rintro rfl
    rcases h with h | ⟨o,h⟩<;>(rw[hl] at h;cases h)
   refine .inl ?_
   unfold Rd
   rw[aj this]
   exact h
  ·exact .inr h
 | inr c=>
  obtain⟨C,o,vs,h0,h1,h2,h3⟩:=h
  have:a≠l:=by
   rintro rfl
   rw[hl] at h2;cases h2
  exact⟨C,o,vs,h0,h1,by rw[aj this];exact h2,h3⟩
theorem Rd.some {H:Hp} {a:Addr} {u:HO} (h:Rd H a u):H a≠none:=by
 rcases h with h | ⟨o,h⟩<;>(rw[h];simp)
section
variable {K:PySem.W.Frag} {S S' F F':Addr->Prop} {H H':Hp}
theorem HRep.step (hl:∀ a (u:LD),S a->Rd H a u.o->S' a/\Rd H' a u.o) (ht:∀ a xs,SqE K H a xs->SqE K H' a xs) {v:V} {d:D} (h:HRep K S H v d):HRep K S' H' v d:=
 HRep.rec (motive_1:=fun v d _=>HRep K S' H' v d) (motive_2:=fun v d _=>HReps K S' H' v d) .non .bl .int .str (fun h=>.exc (ht _ (.inr _) h)) (fun h1 _ i=>.tup (ht _ (.inl _) h1) i)
  (fun h0 h1 _ i=>.lst (hl _ (.l _) h0 h1).1 (hl _ (.l _) h0 h1).2 i) (fun h1 _ i=>.lstK h1 i) (fun h0 h1 h2 _ i=>.dct (hl _ (.d _) h0 h1).1 (hl _ (.d _) h0 h1).2 h2 i) .nil (fun _ _ i j=>.cons i j) h
theorem HReps.step (hl:∀ a (u:LD),S a->Rd H a u.o->S' a/\Rd H' a u.o) (ht:∀ a xs,SqE K H a xs->SqE K H' a xs) {v:List V} {d:List D} (h:HReps K S H v d):HReps K S' H' v d:=
 HReps.rec (motive_1:=fun v d _=>HRep K S' H' v d) (motive_2:=fun v d _=>HReps K S' H' v d) .non .bl .int .str (fun h=>.exc (ht _ (.inr _) h)) (fun h1 _ i=>.tup (ht _ (.inl _) h1) i)
  (fun h0 h1 _ i=>.lst (hl _ (.l _) h0 h1).1 (hl _ (.l _) h0 h1).2 i) (fun h1 _ i=>.lstK h1 i) (fun h0 h1 h2 _ i=>.dct (hl _ (.d _) h0 h1).1 (hl _ (.d _) h0 h1).2 h2 i) .nil (fun _ _ i j=>.cons i j) h
theorem HRep.mono {v:V} {d:D} (h:HRep K S H v d) (hS:∀ a,S a->S' a) (e:ak H H'):HRep K S' H' v d:=h.step (fun a xs s r=>⟨hS a s,e.rd r⟩) fun a xs s=>e.seqT s
theorem HReps.mono {v:List V} {d:List D} (h:HReps K S H v d) (hS:∀ a,S a->S' a) (e:ak H H'):HReps K S' H' v d:=h.step (fun a xs s r=>⟨hS a s,e.rd r⟩) fun a xs s=>e.seqT s
theorem HReps.tight {v:List V} {d:List D} (h:HReps K S H v d):HReps K (fun a=>S a/\H a≠none) H v d:=h.step (fun a xs s r=>⟨⟨s,r.some⟩,r⟩) fun a xs s=>s
theorem HRep.frozen {v:V} {d:D} (h:HRep K F H v d):MRep K F H v (L2.er d) []:=
 HRep.rec (motive_1:=fun v d _=>MRep K F H v (L2.er d) []) (motive_2:=fun v d _=>MReps K F H v (L2.ers d) []) .non .bl .int .str (fun h=>.exc h) (fun h1 _ i=>.tup h1 i) (fun h0 h1 _ i=>.lstS h0 h1 i) (fun h1 _ i=>.lstK h1 i) (fun h0 h1 h2 _ i=>.dctS h0 h1 h2 i) .nil (fun _ _ i j=>.cons (f:=[]) (g:=[]) i j) h
theorem HReps.frozen {v:List V} {d:List D} (h:HReps K F H v d):MReps K F H v (L2.ers d) []:=
 HReps.rec (motive_1:=fun v d _=>MRep K F H v (L2.er d) []) (motive_2:=fun v d _=>MReps K F H v (L2.ers d) []) .non .bl .int .str (fun h=>.exc h) (fun h1 _ i=>.tup h1 i) (fun h0 h1 _ i=>.lstS h0 h1 i) (fun h1 _ i=>.lstK h1 i) (fun h0 h1 h2 _ i=>.dctS h0 h1 h2 i) .nil (fun _ _ i j=>.cons (f:=[]) (g:=[]) i j) h
theorem rA {a b:Bool} (h:(a && b)=true):a=true/\b=true:=by rwa [Bool.and_eq_true] at h
theorem HRep.free {v:V} {d:D} (n:ao d=true) (h:HRep K S H v d):MRep K F H v d []:=
 HRep.rec (motive_1:=fun v d _=>ao d=true->MRep K F H v d []) (motive_2:=fun v d _=>ae d=true->MReps K F H v d []) (fun _=>.non) (fun b _=>.bl b) (fun b _=>.int b) (fun b _=>.str b) (fun h _=>.exc h) (fun h1 _ i n=>.tup h1 (i n)) (fun _ _ _ _ n=>nomatch n) (fun _ _ _ n=>nomatch n) (fun _ _ _ _ _ n=>nomatch n) (fun _=>.nil) (fun _ _ i j n=>.cons (f:=[]) (g:=[]) (i (rA n).1) (j (rA n).2)) h n
theorem HReps.free {v:List V} {d:List D} (n:ae d=true) (h:HReps K S H v d):MReps K F H v d []:=
 HReps.rec (motive_1:=fun v d _=>ao d=true->MRep K F H v d []) (motive_2:=fun v d _=>ae d=true->MReps K F H v d []) (fun _=>.non) (fun b _=>.bl b) (fun b _=>.int b) (fun b _=>.str b) (fun h _=>.exc h) (fun h1 _ i n=>.tup h1 (i n)) (fun _ _ _ _ n=>nomatch n) (fun _ _ _ n=>nomatch n) (fun _ _ _ _ _ n=>nomatch n) (fun _=>.nil) (fun _ _ i j n=>.cons (f:=[]) (g:=[]) (i (rA n).1) (j (rA n).2)) h n
theorem bj {p:Addr->Prop}:∀ a ∈ ([]:List Addr),p a:=fun _ h=>nomatch h
theorem MRep.read {v:V} {d:D} {f:List Addr} (hF:∀ a,F a->S a) (hf:∀ a ∈ f,S a) (h:MRep K F H v d f):HRep K S H v d:=
 MRep.rec (motive_1:=fun v d f _=>(∀ a ∈ f,S a)->HRep K S H v d) (motive_2:=fun v d f _=>(∀ a ∈ f,S a)->HReps K S H v d) (fun _=>.non) (fun b _=>.bl b) (fun b _=>.int b) (fun b _=>.str b) (fun h _=>.exc h) (fun h1 _ i hf=>.tup h1 (i hf))
  (fun h0 h1 _ i _=>.lst (hF _ h0) h1 (i bj)) (fun h1 _ i _=>.lstK h1 (i bj)) (fun _ h1 _ i hf=>.lst (hf _ (.head _)) (.inl h1) (i fun b hb=>hf b (.tail _ hb))) (fun h0 h1 h2 _ i _=>.dct (hF _ h0) h1 h2 (i bj)) (fun _ h1 h2 _ i hf=>.dct (hf _ (.head _)) (.inl h1) h2 (i fun b hb=>hf b (.tail _ hb))) (fun _=>.nil)
  (fun _ _ i j hf=>.cons (i fun a ha=>hf a (List.mem_append_left _ ha)) (j fun a ha=>hf a (List.mem_append_right _ ha))) h hf
theorem MReps.read {v:List V} {d:List D} {f:List Addr} (hF:∀ a,F a->S a) (hf:∀ a ∈ f,S a) (h:MReps K F H v d f):HReps K S H v d:=
 MReps.rec (motive_1:=fun v d f _=>(∀ a ∈ f,S a)->HRep K S H v d) (motive_2:=fun v d f _=>(∀ a ∈ f,S a)->HReps K S H v d) (fun _=>.non) (fun b _=>.bl b) (fun b _=>.int b) (fun b _=>.str b) (fun h _=>.exc h) (fun h1 _ i hf=>.tup h1 (i hf))
  (fun h0 h1 _ i _=>.lst (hF _ h0) h1 (i bj)) (fun h1 _ i _=>.lstK h1 (i bj)) (fun _ h1 _ i hf=>.lst (hf _ (.head _)) (.inl h1) (i fun b hb=>hf b (.tail _ hb))) (fun h0 h1 h2 _ i _=>.dct (hF _ h0) h1 h2 (i bj)) (fun _ h1 h2 _ i hf=>.dct (hf _ (.head _)) (.inl h1) h2 (i fun b hb=>hf b (.tail _ hb))) (fun _=>.nil)
  (fun _ _ i j hf=>.cons (i fun a ha=>hf a (List.mem_append_left _ ha)) (j fun a ha=>hf a (List.mem_append_right _ ha))) h hf
theorem bR {α:Type} {x:Option α} {y:α} (h:x=some y):x≠none:=fun e=>nomatch h.symm.trans e
theorem MRep.step (hl:∀ a (u:LD),F a->Rd H a u.o->F' a/\Rd H' a u.o) (ht:∀ a xs,SqE K H a xs->SqE K H' a xs) {v:V} {d:D} {f:List Addr} (k:∀ a ∈ f,¬ F a->H a≠none->¬ F' a/\H' a=H a)
  (h:MRep K F H v d f):MRep K F' H' v d f:=
 MRep.rec (motive_1:=fun v d f _=>(∀ a ∈ f,¬ F a->H a≠none->¬ F' a/\H' a=H a)->MRep K F' H' v d f) (motive_2:=fun v d f _=>(∀ a ∈ f,¬ F a->H a≠none->¬ F' a/\H' a=H a)->MReps K F' H' v d f) (fun _=>.non) (fun b _=>.bl b) (fun b _=>.int b) (fun b _=>.str b)
  (fun h _=>.exc (ht _ (.inr _) h)) (fun h1 _ i k=>.tup (ht _ (.inl _) h1) (i k)) (fun h0 h1 _ i _=>.lstS (hl _ (.l _) h0 h1).1 (hl _ (.l _) h0 h1).2 (i bj)) (fun h1 _ i _=>.lstK h1 (i bj))
  (fun h0 h1 _ i k=>.lstO (k _ (.head _) h0 (bR h1)).1 ((k _ (.head _) h0 (bR h1)).2.trans h1) (i fun b hb=>k b (.tail _ hb))) (fun h0 h1 h2 _ i _=>.dctS (hl _ (.d _) h0 h1).1 (hl _ (.d _) h0 h1).2 h2 (i bj)) (fun h0 h1 h2 _ i k=>.dctO (k _ (.head _) h0 (bR h1)).1 ((k _ (.head _) h0 (bR h1)).2.trans h1) h2 (i fun b hb=>k b (.tail _ hb))) (fun _=>.nil)
  (fun _ _ i j k=>.cons (i fun a ha=>k a (List.mem_append_left _ ha)) (j fun a ha=>k a (List.mem_append_right _ ha))) h k
theorem MReps.step (hl:∀ a (u:LD),F a->Rd H a u.o->F' a/\Rd H' a u.o) (ht:∀ a xs,SqE K H a xs->SqE K H' a xs) {v:List V} {d:List D} {f:List Addr} (k:∀ a ∈ f,¬ F a->H a≠none->¬ F' a/\H' a=H a)
  (h:MReps K F H v d f):MReps K F' H' v d f:=
 MReps.rec (motive_1:=fun v d f _=>(∀ a ∈ f,¬ F a->H a≠none->¬ F' a/\H' a=H a)->MRep K F' H' v d f) (motive_2:=fun v d f _=>(∀ a ∈ f,¬ F a->H a≠none->¬ F' a/\H' a=H a)->MReps K F' H' v d f) (fun _=>.non) (fun b _=>.bl b) (fun b _=>.int b) (fun b _=>.str b)
  (fun h _=>.exc (ht _ (.inr _) h)) (fun h1 _ i k=>.tup (ht _ (.inl _) h1) (i k)) (fun h0 h1 _ i _=>.lstS (hl _ (.l _) h0 h1).1 (hl _ (.l _) h0 h1).2 (i bj)) (fun h1 _ i _=>.lstK h1 (i bj))
  (fun h0 h1 _ i k=>.lstO (k _ (.head _) h0 (bR h1)).1 ((k _ (.head _) h0 (bR h1)).2.trans h1) (i fun b hb=>k b (.tail _ hb))) (fun h0 h1 h2 _ i _=>.dctS (hl _ (.d _) h0 h1).1 (hl _ (.d _) h0 h1).2 h2 (i bj)) (fun h0 h1 h2 _ i k=>.dctO (k _ (.head _) h0 (bR h1)).1 ((k _ (.head _) h0 (bR h1)).2.trans h1) h2 (i fun b hb=>k b (.tail _ hb))) (fun _=>.nil)
  (fun _ _ i j k=>.cons (i fun a ha=>k a (List.mem_append_left _ ha)) (j fun a ha=>k a (List.mem_append_right _ ha))) h k
theorem rB {p:Addr->Prop} {x:Addr} {f:List Addr} (h:p x) (i:∀ a ∈ f,p a):∀ a ∈ x::f,p a:=by
 intro b hb
 rcases List.mem_cons.mp hb with rfl | hb
 ·exact h
 ·exact i b hb
theorem yh {p:Addr->Prop} {f g:List Addr} (h:∀ a ∈ f,p a) (i:∀ a ∈ g,p a):∀ a ∈ f++g,p a:=fun b hb=>(List.mem_append.mp hb).elim (h b) (i b)
theorem MRep.own {v:V} {d:D} {f:List Addr} (h:MRep K F H v d f):∀ a ∈ f,¬ F a/\∃ u,H a=some u:=
 MRep.rec (motive_1:=fun _ _ f _=>∀ a ∈ f,¬ F a/\∃ u,H a=some u) (motive_2:=fun _ _ f _=>∀ a ∈ f,¬ F a/\∃ u,H a=some u) bj (fun _=>bj) (fun _=>bj) (fun _=>bj) (fun _=>bj) (fun _ _ i=>i) (fun _ _ _ _=>bj) (fun _ _ _=>bj)
  (fun h0 h1 _ i=>rB ⟨h0,_,h1⟩ i) (fun _ _ _ _ _=>bj) (fun h0 h1 _ _ i=>rB ⟨h0,_,h1⟩ i) bj (fun _ _ i j=>yh i j) h
theorem MReps.own {v:List V} {d:List D} {f:List Addr} (h:MReps K F H v d f):∀ a ∈ f,¬ F a/\∃ u,H a=some u:=
 MReps.rec (motive_1:=fun _ _ f _=>∀ a ∈ f,¬ F a/\∃ u,H a=some u) (motive_2:=fun _ _ f _=>∀ a ∈ f,¬ F a/\∃ u,H a=some u) bj (fun _=>bj) (fun _=>bj) (fun _=>bj) (fun _=>bj) (fun _ _ i=>i) (fun _ _ _ _=>bj) (fun _ _ _=>bj)
  (fun h0 h1 _ i=>rB ⟨h0,_,h1⟩ i) (fun _ _ _ _ _=>bj) (fun h0 h1 _ _ i=>rB ⟨h0,_,h1⟩ i) bj (fun _ _ i j=>yh i j) h
theorem HReps.ind {P:List V->List D->Prop} (n:P [] []) (c:∀ v d vs ds,HRep K S H v d->HReps K S H vs ds->P vs ds->P (v::vs) (d::ds)) {vs:List V} {ds:List D} (h:HReps K S H vs ds):P vs ds:=
 HReps.rec (motive_1:=fun _ _ _=>True) (motive_2:=fun v d _=>P v d) trivial (fun _=>trivial) (fun _=>trivial) (fun _=>trivial) (fun _=>trivial) (fun _ _ _=>trivial) (fun _ _ _ _=>trivial) (fun _ _ _=>trivial) (fun _ _ _ _ _=>trivial) n (fun a b _ j=>c _ _ _ _ a b j) h
theorem MReps.ind {P:List V->List D->List Addr->Prop} (n:P [] [] []) (c:∀ v d f vs ds g,MRep K F H v d f->MReps K F H vs ds g->P vs ds g->P (v::vs) (d::ds) (f++g)) {vs:List V} {ds:List D} {f:List Addr} (h:MReps K F H vs ds f):P vs ds f:=
 MReps.rec (motive_1:=fun _ _ _ _=>True) (motive_2:=fun v d f _=>P v d f) trivial (fun _=>trivial) (fun _=>trivial) (fun _=>trivial) (fun _=>trivial) (fun _ _ _=>trivial) (fun _ _ _ _=>trivial) (fun _ _ _=>trivial) (fun _ _ _ _=>trivial) (fun _ _ _ _ _=>trivial) (fun _ _ _ _ _=>trivial) n (fun a b _ j=>c _ _ _ _ _ _ a b j) h
theorem HReps.length {vs:List V} {ds:List D} (h:HReps K S H vs ds):vs.length=ds.length:=
 HReps.ind (P:=fun v d=>v.length=d.length) rfl (fun _ _ _ _ _ _ j=>congrArg (· + 1) j) h
theorem HReps.get {i:Nat} {vs:List V} {ds:List D} {d:D} (h:HReps K S H vs ds) (e:ds[i]? = some d):∃ v,vs[i]? = some v/\HRep K S H v d:=
 HReps.ind (P:=fun vs ds=>∀ i d,ds[i]? = some d->∃ v,vs[i]? = some v/\HRep K S H v d) (fun i d e=>nomatch (show none=some d from e)) (fun v d _ _ a _ j i d e=>by
  cases i with
  | zero=>exact⟨_,rfl,Option.some.inj e ▸ a⟩
  | succ i=>exact j i d e) h i d e
theorem HReps.getV {i:Nat} {vs:List V} {ds:List D} {v:V} (h:HReps K S H vs ds) (e:vs[i]? = some v):∃ d,ds[i]? = some d/\HRep K S H v d:=
 HReps.ind (P:=fun vs ds=>∀ i v,vs[i]? = some v->∃ d,ds[i]? = some d/\HRep K S H v d) (fun i d e=>nomatch (show none=some d from e)) (fun v d _ _ a _ j i d e=>by
  cases i with
  | zero=>exact⟨_,rfl,Option.some.inj e ▸ a⟩
  | succ i=>exact j i d e) h i v e
theorem HReps.append {vs ws:List V} {ds es:List D} (h:HReps K S H vs ds) (h':HReps K S H ws es):HReps K S H (vs++ws) (ds++es):=
 HReps.ind (P:=fun v d=>HReps K S H (v++ws) (d++es)) h' (fun _ _ _ _ a _ j=>.cons a j) h
theorem HReps.take {vs:List V} {ds:List D} (n:Nat) (h:HReps K S H vs ds):HReps K S H (vs.take n) (ds.take n):=
 HReps.ind (P:=fun v d=>∀ n,HReps K S H (v.take n) (d.take n)) (fun n=>by cases n<;>exact .nil) (fun _ _ _ _ a _ j n=>by
  cases n with
  | zero=>exact .nil
  | succ n=>exact .cons a (j n)) h n
theorem HReps.drop {vs:List V} {ds:List D} (n:Nat) (h:HReps K S H vs ds):HReps K S H (vs.drop n) (ds.drop n):=
 HReps.ind (P:=fun v d=>∀ n,HReps K S H (v.drop n) (d.drop n)) (fun n=>by cases n<;>exact .nil) (fun _ _ _ _ a b j n=>by
  cases n with
  | zero=>exact .cons a b
  | succ n=>exact j n) h n
theorem MReps.length {vs:List V} {ds:List D} {f:List Addr} (h:MReps K F H vs ds f):vs.length=ds.length:=
 MReps.ind (P:=fun v d _=>v.length=d.length) rfl (fun _ _ _ _ _ _ _ _ j=>congrArg (· + 1) j) h
theorem MReps.append {vs ws:List V} {ds es:List D} {f g:List Addr} (h:MReps K F H vs ds f) (h':MReps K F H ws es g):MReps K F H (vs++ws) (ds++es) (f++g):=
 MReps.ind (P:=fun v d f=>MReps K F H (v++ws) (d++es) (f++g)) h' (fun _ _ _ _ _ _ a _ j=>by
  rw[List.append_assoc]
  exact .cons a j) h
theorem HRep.lstR {v:V} {o:Bool} {ds:List D} (h:HRep K S H v (.lst o ds)):∃ a xs,v=.ref a/\SqL K H a xs/\HReps K S H xs ds:=by
 cases h with
 | lst h0 h1 h2=>exact⟨_,_,rfl,.inl h1,h2⟩
 | lstK h1 h2=>exact⟨_,_,rfl,h1.sq,h2⟩
theorem HRep.lstL {v:V} {o:Bool} {ds:List D} (h:HRep K S H v (.lst o ds)):∃ a xs,v=.ref a/\Ls K H a xs/\HReps K S H xs ds:=by
 cases h with
 | lst h0 h1 h2=>exact⟨_,_,rfl,.inl h1,h2⟩
 | lstK h1 h2=>exact⟨_,_,rfl,.inr h1,h2⟩
theorem HRep.tupR {v:V} {ds:List D} (h:HRep K S H v (.tup ds)):∃ a xs,v=.ref a/\SqT K H a xs/\HReps K S H xs ds:=by
 cases h with
 | tup h1 h2=>exact⟨_,_,rfl,h1,h2⟩
theorem HRep.intR {v:V} {i:Int} (h:HRep K S H v (.int i)):v=.int i:=by cases h;rfl
theorem HRep.blR {v:V} {i:Bool} (h:HRep K S H v (.bl i)):v=.bl i:=by cases h;rfl
theorem HRep.strR {v:V} {i:Str} (h:HRep K S H v (.str i)):v=.str i:=by cases h;rfl
theorem HRep.nonR {v:V} (h:HRep K S H v .non):v=.non:=by cases h;rfl
theorem HReps.ints {vs:List V} {ns:List Int} (h:HReps K S H vs (ns.map .int)):vs=ns.map .int:=
 HReps.ind (P:=fun v d=>∀ ns:List Int,d=ns.map .int->v=ns.map .int) (fun ns e=>by
  cases ns with
  | nil=>rfl
  | cons n ns=>exact nomatch e) (fun _ _ _ _ a _ j ns e=>by
  cases ns with
  | nil=>exact nomatch e
  | cons n ns=>
   obtain⟨h1,h2⟩:=List.cons.inj e
   subst h1
   rw[j ns h2,a.intR]
   rfl) h ns rfl
theorem HReps.strs {vs:List V} {ns:List Str} (h:HReps K S H vs (ns.map .str)):vs=ns.map .str:=
 HReps.ind (P:=fun v d=>∀ ns:List Str,d=ns.map .str->v=ns.map .str) (fun ns e=>by
  cases ns with
  | nil=>rfl
  | cons n ns=>exact nomatch e) (fun _ _ _ _ a _ j ns e=>by
  cases ns with
  | nil=>exact nomatch e
  | cons n ns=>
   obtain⟨h1,h2⟩:=List.cons.inj e
   subst h1
   rw[j ns h2,a.strR]
   rfl) h ns rfl
theorem HReps.bls {vs:List V} {ns:List Bool} (h:HReps K S H vs (ns.map .bl)):vs=ns.map .bl:=
 HReps.ind (P:=fun v d=>∀ ns:List Bool,d=ns.map .bl->v=ns.map .bl) (fun ns e=>by
  cases ns with
  | nil=>rfl
  | cons n ns=>exact nomatch e) (fun _ _ _ _ a _ j ns e=>by
  cases ns with
  | nil=>exact nomatch e
  | cons n ns=>
   obtain⟨h1,h2⟩:=List.cons.inj e
   subst h1
   rw[j ns h2,a.blR]
   rfl) h ns rfl
theorem HReps.ofInts:∀ (ns:List Int),HReps K S H (ns.map .int) (ns.map .int)
 | []=>.nil
 | n::ns=>.cons (.int n) (HReps.ofInts ns)
end
theorem ak.upd {H:Hp} {a:Addr} {o:HO} (h:H a=none):ak H (upd H a o):=fun b u e=>by
 rw[aj (aB e h)]
 exact e
inductive BOp where
 | add | sub | mul | fdiv | mod | pow
 deriving DecidableEq
inductive COp where
 | eq | ne | lt | le | gt | ge | in_ | nin | is_ | isn
 deriving DecidableEq
inductive Kd where
 | str | int | bool | list | tuple
 deriving DecidableEq
inductive Bi where
 | len | sum | min2 | max2 | sorted | list | tuple | ord | int | all | any | str | set | abs
 deriving DecidableEq
inductive Mt where
 | join | index | starts
 deriving DecidableEq
inductive Tg where
 | nm (i:Nat) | tp (ts:List Tg)
structure Gm where
 N:List Str
 kd:List NameKind
 gl:List Nat
 df:Bool
 cm:Bool:=true
 rs:Bool:=true
 tr:Bool:=false
mutual
inductive IR where
 | c (d:D)
 | g (n:Nat) (d:D)
 | v (i:Nat)
 | bin (op:BOp) (a b:IR)
 | neg (a:IR)
 | cmp (op:COp) (a b:IR)
 | chain (op op':COp) (a b c:IR)
 | and_ (a b:IR)
 | or_ (a b:IR)
 | not_ (a:IR)
 | ite (t a b:IR)
 | tup (es:List IR)
 | lst (es:List IR)
 | idx (a i:IR)
 | sl (a:IR) (lo hi:Option IR)
 | call (f:Nat) (es:List IR)
 | bi (f:Bi) (es:List IR)
 | dnew
 | dget (a k:IR)
 | din (n:Bool) (k a:IR)
 | isi (a:IR) (k:Kd)
 | isx (a:IR) (ns:List Nat) (tb:List (Str×Bool))
 | lrev (a:IR)
 | sset (a:IR)
 | ftr (x:Str) (a:IR) (y:Option Str)
 | mth (m:Mt) (o:IR) (es:List IR)
 | comp (G:Gm) (fr:List Nat) (tg:Tg) (src:Sr) (ifs:List IR) (elt:IR)
inductive Sr where
 | rng1 (n:IR) | rng2 (a b:IR) | val (e:IR) | zip (a b:IR)
end
inductive IS where
 | asg (tg:Tg) (e:IR)
 | par (i j:Nat) (a b:IR)
 | setix (i:Nat) (k e:IR)
 | app (i:Nat) (e:IR)
 | appx (i:Nat) (k:Nat) (e:IR)
 | dset (i:Nat) (k e:IR)
 | ext (i:Nat) (e:IR)
 | ins (i:Nat) (k e:IR)
 | rvs (i:Nat)
 | clr (i:Nat)
 | exp (e:IR)
 | ret (e:IR)
 | retN
 | if_ (t:IR) (a b:List IS)
 | for_ (tg:Tg) (src:Sr) (body:List IS)
 | while_ (t:IR) (body:List IS)
 | brk | cnt | pass
 | never
 | raise_ (n:Nat) (c:Str) (w:Str)
 | raisee (n:Nat) (c:Str) (e:IR)
 | tryc (i f:Nat) (es:List IR) (n:Nat) (cs:List Str) (k:Nat) (h:List IS)
 | tryx (body:List IS) (n:Nat) (cs:List Str) (i:Nat) (h:List IS)
noncomputable abbrev Ev:=List (Option D)
inductive Fl where
 | nx (τ:Ev) | rt (d:D) | bk (τ:Ev) | ct (τ:Ev)
noncomputable def dh {α:Type} (xs:List α) (lo hi:Option Int):List α:=(xs.drop (HT.sIx xs.length 0 lo)).take (HT.sIx xs.length xs.length hi - HT.sIx xs.length 0 lo)
noncomputable def aL (n:Nat):Bool:=decide (n<=sizeLine)
noncomputable def bO (n:Nat):Bool:=decide (n < sizeLine)
noncomputable def opB:BOp->D->D->Res D
 | .add,.int a,.int b=>.ok (.int (a + b))
 | .add,.str a,.str b=>grd (aL (a.length + b.length)) (.ok (.str (a++b)))
 | .add,.lst _ a,.lst _ b=>grd (aL (a.length + b.length)) (.ok (.lst true (a++b)))
 | .sub,.int a,.int b=>.ok (.int (a - b))
 | .mul,.int a,.int b=>grd (decide (-(2 ^ 64) < a/\a < 2 ^ 64) || decide (-(2 ^ 64) < b/\b < 2 ^ 64)) (.ok (.int (a * b)))
 | .mul,.str a,.int b=>grd (decide (-16000<=b/\b<=16000/\a.length<=1000)) (.ok (.str (Txt.mul a b)))
 | .fdiv,.int a,.int b=>grd (decide (0 < b/\b < 1073741824)) (.ok (.int (a / b)))
 | .mod,.int a,.int b=>grd (decide (0 < b)) (.ok (.int (a % b)))
 | .pow,.int a,.int b=>grd (decide (0<=b/\b<=1000000/\a.natAbs < 2 ^ 64)) (.ok (.int (a ^ b.toNat)))
 | _,_,_=>stk
noncomputable def bo:D->D->Res D
 | .lst _ ds,.int i=>match atI ds i with
  | some d=>.ok d
  | none=>stk
 | .tup ds,.int i=>match atI ds i with
  | some d=>.ok d
  | none=>stk
 | .str z,.int i=>grd (aL z.length) (match atI z.cps.toList i with
  | some c=>.ok (.str ⟨#[c]⟩)
  | none=>stk)
 | _,_=>stk
noncomputable def iM:D->Option Int->Option Int->Res D
 | .lst _ ds,lo,hi=>.ok (.lst true (dh ds lo hi))
 | .str z,lo,hi=>grd (aL z.length) (.ok (.str (Txt.slice z lo hi)))
 | _,_,_=>stk
noncomputable def aI:D->Res Bool
 | .non=>.ok false
 | .bl b=>.ok b
 | .int i=>.ok (i != 0)
 | .str x=>grd (aL x.length) (.ok ((x.length:Int) != 0))
 | .tup ds=>.ok (!ds.isEmpty)
 | .lst _ ds=>.ok (!ds.isEmpty)
 | .exc _=>stk
 | .dct _ _ _=>stk
noncomputable def nt (f:D->D->Res Bool):List D->List D->Res Bool
 | [],[]=>.ok true
 | a::r,b::t=>bnd (f a b) fun x=>bnd (nt f r t) fun y=>.ok (x && y)
 | _,_=>.ok false
noncomputable def eqN:Nat->D->D->Res Bool
 | 0,_,_=>stk
 | _ + 1,.exc _,_=>stk
 | _ + 1,_,.exc _=>stk
 | _ + 1,.dct _ _ _,_=>stk
 | _ + 1,_,.dct _ _ _=>stk
 | _ + 1,.non,.non=>.ok true
 | _ + 1,.non,_=>.ok false
 | _ + 1,.bl a,.bl b=>.ok (a == b)
 | _ + 1,.bl a,.int b=>.ok ((if a then 1 else 0) == b)
 | _ + 1,.bl _,_=>.ok false
 | _ + 1,.int a,.bl b=>.ok (a == (if b then 1 else 0))
 | _ + 1,.int a,.int b=>.ok (a == b)
 | _ + 1,.int _,_=>.ok false
 | _ + 1,.str a,.str b=>.ok (a == b)
 | _ + 1,.str _,_=>.ok false
 | _ + 1,.tup _,_=>stk
 | _ + 1,.lst _ _,_=>stk
noncomputable def anyN (d:D):List D->Res Bool
 | []=>.ok false
 | e::r=>bnd (eqN 40 e d) fun x=>bnd (anyN d r) fun y=>.ok (x || y)
noncomputable def cU:D->Bool
 | .non=>true
 | _=>false
noncomputable def dI:D->Bool
 | .exc _=>false
 | .dct _ _ _=>false
 | _=>true
noncomputable def opC:COp->D->D->Res Bool
 | .eq,a,b=>eqN 40 a b
 | .ne,a,b=>bnd (eqN 40 a b) fun r=>.ok !r
 | .lt,.int a,.int b=>.ok (decide (a < b))
 | .gt,.int a,.int b=>.ok (decide (b < a))
 | .in_,a,.lst _ ds=>anyN a ds
 | .in_,a,.tup ds=>anyN a ds
 | .is_,a,.non=>.ok (cU a)
 | _,_,_=>stk
noncomputable def bC:List D->Option (List Int)
 | []=>some []
 | .int i::r=>(bC r).map (i::·)
 | _::_=>none
noncomputable def aP:List D->Option (List Str)
 | []=>some []
 | .str i::r=>(aP r).map (i::·)
 | _::_=>none
noncomputable def cV:List D->Option (List Bool)
 | []=>some []
 | .bl i::r=>(cV r).map (i::·)
 | _::_=>none
noncomputable def bf:Kd->D->Bool
 | .str,.str _=>true
 | .int,.int _=>true
 | .int,.bl _=>true
 | .bool,.bl _=>true
 | .list,.lst _ _=>true
 | .tuple,.tup _=>true
 | _,_=>false
noncomputable def Bg (tb:List (Str×Bool)):D->Res D
 | .exc c=>match tb.lookup c with
  | some b=>.ok (.bl b)
  | none=>stk
 | _=>stk
noncomputable def cA (x:Str):List D:=x.cps.toList.map fun c=>.str ⟨#[c]⟩
noncomputable def cO:Bi->List D->Res D
 | .len,[.str x]=>grd (aL x.length) (.ok (.int x.length))
 | .len,[.tup ds]=>.ok (.int ds.length)
 | .len,[.lst _ ds]=>.ok (.int ds.length)
 | .min2,[.int a,.int b]=>.ok (.int (if b < a then b else a))
 | .max2,[.int a,.int b]=>.ok (.int (if b > a then b else a))
 | .tuple,[.lst _ ds]=>.ok (.tup ds)
 | .tuple,[.str x]=>grd (aL x.length) (.ok (.tup (cA x)))
 | .all,[.lst _ ds]=>match cV ds with
  | some bs=>.ok (.bl (bs.all id))
  | none=>stk
 | _,_=>stk
noncomputable def dJ:D->Option Key
 | .int i=>some (.inl i)
 | .str x=>some (.inr x)
 | _=>none
noncomputable def look:List Key->List D->Key->Option D
 | k::ks,d::ds,q=>if k=q then some d else look ks ds q
 | _,_,_=>none
noncomputable def iN (ks:List Key) (q:Key):Bool:=ks.any fun k=>decide (k=q)
noncomputable def dj (ks:List Key) (q:Key):List Key:=if iN ks q=true then ks else ks++[q]
noncomputable def cG (ks:List Key) (ds:List D) (q:Key) (d:D):List D:=if iN ks q=true then List.zipWith (fun k e=>if k=q then d else e) ks ds else ds++[d]
noncomputable def yi:D->D->Res D
 | .dct _ ks ds,y=>match dJ y with
  | some q=>(match look ks ds q with
   | some d=>.ok d
   | none=>stk)
  | none=>stk
 | _,_=>stk
noncomputable def iO (n:Bool):D->D->Res D
 | .dct _ ks ds,y=>match dJ y with
  | some q=>.ok (.bl (n != (look ks ds q).isSome))
  | none=>stk
 | _,_=>stk
noncomputable def cW:D->Bool
 | .str _=>true
 | _=>false
noncomputable def fI:Mt->D->List D->Res D
 | .join,.str x,[.lst _ ds]=>match aP ds with
  | some ys=>grd (decide ((ys.map (·.length)).sum + ys.length * x.length<=16777216)) (.ok (.str (Txt.join x ys)))
  | none=>stk
 | _,_,_=>stk
noncomputable def dM:D->Res (List D)
 | .lst _ ds=>.ok ds
 | .tup ds=>.ok ds
 | .str x=>grd (aL x.length) (.ok (cA x))
 | _=>stk
noncomputable def jC:D->Res (List D)
 | .lst _ ds=>.ok ds
 | .tup ds=>.ok ds
 | _=>stk
noncomputable def cQ (ds es:List D):List D:=List.zipWith (fun a b=>.tup [a,b]) ds es
noncomputable def rC (x y:D):Res (List D):=bnd (jC x) fun ds=>bnd (jC y) fun es=>.ok (cQ ds es)
noncomputable def bp (a b:Int):List D:=(List.range (b - a).toNat).map fun k=>.int (a + (k:Nat))
noncomputable def Bh:D->Res D
 | .lst _ ds=>.ok (.lst true ds.reverse)
 | _=>stk
noncomputable def iP:D->Res D
 | .lst _ ds=>match bC ds with
  | some ns=>grd (decide (ns.length < 64)) (.ok (.lst true ((PySem.W.sortI (dd ns)).map .int)))
  | none=>match aP ds with
   | some ns=>grd (decide (ns.length < 64)) (.ok (.lst true ((br (ddT ns)).map .str)))
   | none=>stk
 | _=>stk
noncomputable def Bj (x:Str) (y:Option Str):D->Res D
 | .str z=>grd (aL (x.length + (reprText z).length + (y.getD Str.empty).length)) (.ok (.str (x++reprText z++y.getD Str.empty)))
 | _=>stk
noncomputable def bF (i:Int):Bool:=decide (-(2 ^ 62)<=i/\i < 2 ^ 62)
noncomputable def aA {α β:Type} (f:α->Res (Option β)):List α->Res (List β)
 | []=>.ok []
 | x::xs=>bnd (f x) fun
  | some d=>bnd (aA f xs) fun r=>.ok (d::r)
  | none=>aA f xs
noncomputable def noX {α:Type}:Res α->Res α
 | .error _=>stk
 | .ok a=>.ok a
mutual
noncomputable def bD:Tg->D->Ev->Res Ev
 | .nm i,d,τ=>.ok (τ.set i (some d))
 | .tp ts,.tup ds,τ=>grd (decide (ds.length=ts.length)) (dk ts ds τ)
 | .tp ts,.lst _ ds,τ=>grd (decide (ds.length=ts.length)) (dk ts ds τ)
 | .tp _,_,_=>stk
noncomputable def dk:List Tg->List D->Ev->Res Ev
 | t::ts,d::ds,τ=>bnd (bD t d τ) fun τ'=>dk ts ds τ'
 | [],[],τ=>.ok τ
 | _,_,_=>stk
end
noncomputable def ai (τ:Ev) (i:Nat):Option D:=(τ[i]?).join
mutual
noncomputable def vars:IR->List Nat
 | .c _=>[]
 | .g _ _=>[]
 | .v i=>[i]
 | .bin _ a b=>vars a++vars b
 | .neg a=>vars a
 | .cmp _ a b=>vars a++vars b
 | .chain _ _ a b c=>vars a++vars b++vars c
 | .and_ a b=>vars a++vars b
 | .or_ a b=>vars a++vars b
 | .not_ a=>vars a
 | .ite t a b=>vars t++vars a++vars b
 | .tup es=>au es
 | .lst es=>au es
 | .idx a i=>vars a++vars i
 | .sl a lo hi=>vars a++nu lo++nu hi
 | .call _ es=>au es
 | .bi _ es=>au es
 | .dnew=>[]
 | .dget a k=>vars a++vars k
 | .din _ k a=>vars k++vars a
 | .isi a _=>vars a
 | .isx a _ _=>vars a
 | .lrev a=>vars a
 | .sset a=>vars a
 | .ftr _ a _=>vars a
 | .mth _ o es=>vars o++au es
 | .comp _ fr _ src _ _=>fr++dn src
noncomputable def au:List IR->List Nat
 | []=>[]
 | e::es=>vars e++au es
noncomputable def nu:Option IR->List Nat
 | none=>[]
 | some e=>vars e
noncomputable def dn:Sr->List Nat
 | .rng1 n=>vars n
 | .rng2 a b=>vars a++vars b
 | .val e=>vars e
 | .zip a b=>vars a++vars b
end
mutual
noncomputable def evR (cl:Nat->List D->Res D):IR->Ev->Res D
 | .c d,_=>.ok d
 | .g _ d,_=>.ok d
 | .v i,τ=>match ai τ i with
  | some d=>.ok d
  | none=>stk
 | .bin op a b,τ=>bnd (evR cl a τ) fun x=>bnd (evR cl b τ) fun y=>opB op x y
 | .neg a,τ=>bnd (evR cl a τ) fun
  | .int i=>.ok (.int (-i))
  | _=>stk
 | .cmp op a b,τ=>bnd (evR cl a τ) fun x=>bnd (evR cl b τ) fun y=>bnd (opC op x y) fun r=>.ok (.bl r)
 | .chain op op' a b c,τ=>bnd (evR cl a τ) fun x=>bnd (evR cl b τ) fun y=>bnd (opC op x y) fun r=>
  if r=true then bnd (evR cl c τ) fun z=>bnd (opC op' y z) fun r'=>.ok (.bl r') else .ok (.bl false)
 | .and_ a b,τ=>bnd (evR cl a τ) fun x=>bnd (aI x) fun r=>if r=true then evR cl b τ else .ok x
 | .or_ a b,τ=>bnd (evR cl a τ) fun x=>bnd (aI x) fun r=>if r=true then .ok x else evR cl b τ
 | .not_ a,τ=>bnd (evR cl a τ) fun x=>bnd (aI x) fun r=>.ok (.bl !r)
 | .ite t a b,τ=>bnd (evR cl t τ) fun x=>bnd (aI x) fun r=>if r=true then evR cl a τ else evR cl b τ
 | .tup es,τ=>bnd (aV cl es τ) fun ds=>grd (aL ds.length) (.ok (.tup ds))
 | .lst es,τ=>bnd (aV cl es τ) fun ds=>grd (aL ds.length) (.ok (.lst true ds))
 | .idx a i,τ=>bnd (evR cl a τ) fun x=>bnd (evR cl i τ) fun y=>bo x y
 | .sl a lo hi,τ=>bnd (evR cl a τ) fun x=>bnd (gJ cl lo τ) fun l=>bnd (gJ cl hi τ) fun h=>iM x l h
 | .call f es,τ=>bnd (aV cl es τ) fun ds=>cl f (ers ds)
 | .bi f es,τ=>bnd (aV cl es τ) fun ds=>cO f ds
 | .dnew,_=>.ok (.dct true [] [])
 | .dget a k,τ=>bnd (evR cl a τ) fun x=>bnd (evR cl k τ) fun y=>yi x y
 | .din n k a,τ=>bnd (evR cl k τ) fun y=>bnd (evR cl a τ) fun x=>iO n x y
 | .isi a k,τ=>bnd (evR cl a τ) fun x=>grd (dI x) (.ok (.bl (bf k x)))
 | .isx a _ tb,τ=>bnd (evR cl a τ) (Bg tb)
 | .lrev a,τ=>bnd (evR cl a τ) Bh
 | .sset a,τ=>bnd (evR cl a τ) iP
 | .ftr x a y,τ=>bnd (evR cl a τ) (Bj x y)
 | .mth m o es,τ=>bnd (evR cl o τ) fun x=>grd (cW x) (bnd (aV cl es τ) fun ds=>fI m x ds)
 | .comp G fr tg src ifs elt,τ=>bnd (cR cl src τ) fun its=>grd (bO its.length) (bnd (noX (aA (fun x=>bnd (bD tg x (fr.map (ai τ)++List.replicate (G.N.length - fr.length) none)) fun τ1=>
   bnd (cX cl ifs τ1) fun r=>if r=true then bnd (evR cl elt τ1) fun d=>.ok (some d) else .ok none) its)) fun ds=>.ok (.lst true ds))
noncomputable def aV (cl:Nat->List D->Res D):List IR->Ev->Res (List D)
 | [],_=>.ok []
 | e::es,τ=>bnd (evR cl e τ) fun d=>bnd (aV cl es τ) fun ds=>.ok (d::ds)
noncomputable def gJ (cl:Nat->List D->Res D):Option IR->Ev->Res (Option Int)
 | none,_=>.ok none
 | some e,τ=>bnd (evR cl e τ) fun
  | .int i=>.ok (some i)
  | _=>stk
noncomputable def cX (cl:Nat->List D->Res D):List IR->Ev->Res Bool
 | [],_=>.ok true
 | e::es,τ=>bnd (bnd (evR cl e τ) aI) fun r=>if r=true then cX cl es τ else .ok false
noncomputable def cR (cl:Nat->List D->Res D):Sr->Ev->Res (List D)
 | .rng1 n,τ=>bnd (evR cl n τ) fun
  | .int i=>grd (bF i) (.ok (bp 0 i))
  | _=>stk
 | .rng2 a b,τ=>bnd (evR cl a τ) fun x=>bnd (evR cl b τ) fun y=>match x,y with
  | .int i,.int j=>grd (bF i && bF j) (.ok (bp i j))
  | _,_=>stk
 | .val e,τ=>bnd (evR cl e τ) dM
 | .zip a b,τ=>bnd (evR cl a τ) fun x=>bnd (evR cl b τ) fun y=>rC x y
end
noncomputable def evT (cl:Nat->List D->Res D) (t:IR) (τ:Ev):Res Bool:=bnd (evR cl t τ) aI
noncomputable def fJ (is:List Nat):Nat->Ev->Ev
 | _,[]=>[]
 | k,o::τ=>(if is.contains k then o.map er else o)::fJ is (k + 1) τ
noncomputable abbrev frz (is:List Nat) (τ:Ev):Ev:=fJ is 0 τ
noncomputable def av : IR->Bool
 | .bin .add _ _=>true
 | .sl _ _ _=>true
 | .comp _ _ _ _ _ _=>true
 | _=>false
noncomputable def aE (e:IR) (d:D) (τ:Ev):D×Ev:=
 if ao d=true then (d,τ)
 else match av e,d with
  | true,.lst _ ds=>if ae ds=true then (.lst true ds,τ) else (.lst true (ers ds),frz (vars e) τ)
  | _,_=>(er d,frz (vars e) τ)
mutual
noncomputable def evO (cl:Nat->List D->Res D) (mv:Bool):IR->Ev->Res (D×Ev)
 | .v i,τ=>match ai τ i with
  | some d=>if mv=true then .ok (d,τ.set i none) else .ok (er d,τ.set i (some (er d)))
  | none=>stk
 | .tup es,τ=>bnd (eS cl mv es τ) fun p=>grd (aL p.1.length) (.ok (.tup p.1,p.2))
 | .lst es,τ=>bnd (eS cl mv es τ) fun p=>grd (aL p.1.length) (.ok (.lst true p.1,p.2))
 | .dnew,τ=>.ok (.dct true [] [],τ)
 | .ite t a b,τ=>bnd (evT cl t τ) fun r=>if r=true then evO cl mv a τ else evO cl mv b τ
 | .call f es,τ=>bnd (aV cl es τ) fun ds=>bnd (cl f (ers ds)) fun d=>if ao d=true then .ok (d,τ) else .ok (d,frz (au es) τ)
 | e,τ=>bnd (evR cl e τ) fun d=>.ok (aE e d τ)
noncomputable def eS (cl:Nat->List D->Res D) (mv:Bool):List IR->Ev->Res (List D×Ev)
 | [],τ=>.ok ([],τ)
 | e::es,τ=>bnd (evO cl mv e τ) fun p=>bnd (eS cl mv es p.2) fun q=>.ok (p.1::q.1,q.2)
end
noncomputable def forM (body:D->Ev->Res Fl):List D->Ev->Res Fl
 | [],τ=>.ok (.nx τ)
 | x::xs,τ=>bnd (body x τ) fun
  | .nx τ'=>forM body xs τ'
  | .ct τ'=>forM body xs τ'
  | .bk τ'=>.ok (.nx τ')
  | .rt d=>.ok (.rt d)
noncomputable def jD (test:Ev->Res Bool) (body:Ev->Res Fl):Nat->Ev->Res Fl
 | 0,_=>stk
 | n + 1,τ=>bnd (test τ) fun r=>if r=true then bnd (body τ) fun
  | .nx τ'=>jD test body n τ'
  | .ct τ'=>jD test body n τ'
  | .bk τ'=>.ok (.nx τ')
  | .rt d=>.ok (.rt d)
  else .ok (.nx τ)
noncomputable def jE (cl:Nat->List D->Res D) (s:Sr) (τ:Ev):Res (List D×Ev):=bnd (cR cl s τ) fun its=>match s with
 | .rng1 _=>.ok (its,τ)
 | .rng2 _ _=>.ok (its,τ)
 | s=>.ok (ers its,frz (dn s) τ)
noncomputable def yj:Nat:=1000000
mutual
noncomputable def evS (cl:Nat->List D->Res D):IS->Ev->Res Fl
 | .asg tg e,τ=>bnd (evO cl false e τ) fun p=>bnd (bD tg p.1 p.2) fun τ'=>.ok (.nx τ')
 | .par i j a b,τ=>bnd (eS cl false [a,b] τ) fun p=>match p.1 with
  | [x,y]=>.ok (.nx ((p.2.set i (some x)).set j (some y)))
  | _=>stk
 | .setix i k e,τ=>bnd (evO cl false e τ) fun p=>match ai p.2 i with
  | some (.lst true ds)=>bnd (evR cl k p.2) fun
   | .int z=>(match ixN ds.length z with
    | some j=>.ok (.nx (p.2.set i (some (.lst true (ds.set j p.1)))))
    | none=>stk)
   | _=>stk
  | _=>stk
 | .app i e,τ=>match ai τ i with
  | some (.lst _ _)=>bnd (evO cl false e τ) fun p=>(match ai p.2 i with
   | some (.lst true ds)=>grd (bO ds.length) (.ok (.nx (p.2.set i (some (.lst true (ds++[p.1]))))))
   | _=>stk)
  | _=>stk
 | .dset i k e,τ=>bnd (evR cl e τ) fun d=>match ai τ i with
  | some (.dct true ks ds)=>bnd (evR cl k τ) fun y=>(match dJ y with
   | some q=>grd (ao d && ae ds && bO ks.length) (.ok (.nx (τ.set i (some (.dct true (dj ks q) (cG ks ds q d))))))
   | none=>stk)
  | _=>stk
 | .ext i e,τ=>match ai τ i with
  | some (.lst _ _)=>bnd (evO cl false e τ) fun p=>(match p.1,ai p.2 i with
   | .lst _ es,some (.lst true ds)=>grd (aL (ds.length + es.length)) (.ok (.nx (p.2.set i (some (.lst true (ds++es))))))
   | _,_=>stk)
  | _=>stk
 | .ins i k e,τ=>match ai τ i with
  | some (.lst _ _)=>bnd (evR cl k τ) fun y=>bnd (evO cl false e τ) fun p=>(match y,ai p.2 i with
   | .int z,some (.lst true ds)=>grd (decide (0<=z/\z.toNat<=ds.length) && bO ds.length) (.ok (.nx (p.2.set i (some (.lst true (ds.take z.toNat++p.1::ds.drop z.toNat))))))
   | _,_=>stk)
  | _=>stk
 | .appx _ _ _,_=>stk
 | .rvs i,τ=>match ai τ i with
  | some (.lst true ds)=>.ok (.nx (τ.set i (some (.lst true ds.reverse))))
  | _=>stk
 | .clr i,τ=>match ai τ i with
  | some (.lst true _)=>.ok (.nx (τ.set i (some (.lst true []))))
  | _=>stk
 | .exp e,τ=>bnd (evR cl e τ) fun _=>.ok (.nx τ)
 | .ret e,τ=>bnd (evO cl true e τ) fun p=>.ok (.rt p.1)
 | .retN,_=>.ok (.rt .non)
 | .if_ t a b,τ=>bnd (evT cl t τ) fun r=>if r=true then bh cl a τ else bh cl b τ
 | .for_ tg s body,τ=>bnd (jE cl s τ) fun p=>forM (fun x τ=>bnd (bD tg x τ) fun τ'=>bh cl body τ') p.1 p.2
 | .while_ t body,τ=>jD (evT cl t) (bh cl body) yj τ
 | .brk,τ=>.ok (.bk τ)
 | .cnt,τ=>.ok (.ct τ)
 | .pass,τ=>.ok (.nx τ)
 | .never,_=>stk
 | .raise_ _ c _,_=>.error (.exc c)
 | .raisee _ c e,τ=>bnd (noX (evR cl e τ)) fun _=>.error (.exc c)
 | .tryc i f es _ cs k h,τ=>bnd (noX (aV cl es τ)) fun ds=>match cl f (ers ds) with
  | .ok d=>if ao d=true then .ok (.nx (τ.set i (some d))) else .ok (.nx ((frz (au es) τ).set i (some d)))
  | .error (.exc c)=>grd (cs.contains c) (bnd (noX (bh cl h (τ.set k (some (.exc c))))) fun
   | .nx τ'=>.ok (.nx (τ'.set k none))
   | _=>stk)
  | .error .stuck=>stk
 | .tryx body _ cs i h,τ=>match bh cl body τ with
  | .ok (.nx τ')=>.ok (.nx τ')
  | .error (.exc c)=>grd (cs.contains c) (bnd (noX (bh cl h ((List.replicate τ.length none).set i (some (.exc c))))) fun
   | .nx τ'=>.ok (.nx (τ'.set i none))
   | _=>stk)
  | _=>stk
noncomputable def bh (cl:Nat->List D->Res D):List IS->Ev->Res Fl
 | [],τ=>.ok (.nx τ)
 | s::r,τ=>bnd (evS cl s τ) fun
  | .nx τ'=>bh cl r τ'
  | .ct τ'=>.ok (.ct τ')
  | .bk τ'=>.ok (.bk τ')
  | .rt d=>.ok (.rt d)
end
structure Fn where
 np:Nat
 G:Gm
 body:List IS
noncomputable def gK (cl:Nat->List D->Res D) (fn:Fn) (ds:List D):Res D:=
 grd (decide (ds.length=fn.np)) (bnd (bh cl fn.body (ds.map some++List.replicate (fn.G.N.length - fn.np) none)) fun
  | .nx _=>.ok .non
  | .rt d=>.ok d
  | _=>stk)
noncomputable abbrev Tb:=Nat->Option Fn
noncomputable def af (T:Tb):Nat->Nat->List D->Res D
 | 0,_,_=>stk
 | n + 1,f,ds=>match T f with
  | some fn=>gK (af T n) fn ds
  | none=>stk
theorem yk {cl:Nat->List D->Res D} {i:Nat} {τ:Ev}:evR cl (.v i) τ=(match ai τ i with | some d=>.ok d | none=>stk):=rfl
theorem yl {cl:Nat->List D->Res D} {i:Nat} {τ:Ev} {mv:Bool}:evO cl mv (.v i) τ=(match ai τ i with | some d=>if mv=true then .ok (d,τ.set i none) else .ok (er d,τ.set i (some (er d))) | none=>stk):=rfl
section
variable {X:Cx} {pins:List (Addr×Obj)} {σ:St} {H:Hp} {S:Addr->Prop} {s:Shared}
end
theorem nv {α β:Type} {x:Res α} {f:α->Res β} {b:β} (h:bnd x f=.ok b):∃ a,x=.ok a/\f a=.ok b:=by
 cases x with
 | error e=>cases h
 | ok a=>exact⟨a,rfl,h⟩
theorem v3 {α:Type} {c:Bool} {x:Res α} {b:α} (h:grd c x=.ok b):c=true/\x=.ok b:=by
 unfold grd at h
 cases c with
 | true=>exact⟨rfl,h⟩
 | false=>cases h
section
variable {X:Cx} {pins:List (Addr×Obj)} {σ:St} {H:Hp} {S:Addr->Prop} {s:Shared}
structure EqAll (A:Around) (s:Shared) (v u:Value) (r:Bool):Prop where
 eq:EqAt A s v u r
 rc:RcAt A s v u r
 ne:RcNeAt A s v u (!r)
set_option maxHeartbeats 4000000 in
theorem jF (I:Inv X pins σ H s):∀ (n:Nat) (A:Around) (x y:V) (v u:Value) (d e:D) (r:Bool),HRep X.K S H x d->HRep X.K S H y e->RelV x v->RelV y u->eqN n d e=.ok r->
  A.units + n < cLine->EqAll A s v u r
 | 0,_,_,_,_,_,_,_,_,_,_,_,_,h,_=>by cases h
 | n + 1,A,x,y,v,u,d,e,r,hx,hy,rx,ry,h,hu=>by
  have hu0:A.units < cLine:=by omega
  have hu1:A.in1.units + n < cLine:=by show A.units + 1 + n < cLine;omega
  cases d with
  | non=>
   cases hx.nonR;cases rx
   cases e with
   | non=>cases hy.nonR;cases ry;cases h;exact⟨.same _,.none_none,.none_none⟩
   | bl b'=>cases hy.blR;cases ry;cases h;exact⟨.none_bool _,.none_bool _,.none_bool _⟩
   | int i'=>cases hy.intR;obtain⟨t2,rfl⟩:=ry;cases h;exact⟨.none_int _ _,.none_int _ _,.none_int _ _⟩
   | str z'=>cases hy.strR;obtain⟨t2,rfl⟩:=ry;cases h;exact⟨.none_str _ _,.none_str _ _,.none_str _ _⟩
   | tup es=>obtain⟨a2,xs2,rfl,q2,m2⟩:=hy.tupR;cases ry;obtain⟨its2,rv2,p2,_⟩:=I.tuple q2;cases h;exact⟨.none_tuple p2 hu0,.none_tuple p2 hu0,.none_tuple p2 hu0⟩
   | lst o' es=>obtain⟨a2,xs2,rfl,q2,m2⟩:=hy.lstR;cases ry;obtain⟨its2,rv2,p2,_⟩:=I.list q2;cases h;exact⟨.none_list p2.isList hu0,.none_list p2.isList hu0,.none_list p2.isList hu0⟩
   | exc _=>cases h
   | dct _ _ _=>cases h
  | bl b=>
   cases hx.blR;cases rx
   cases e with
   | non=>cases hy.nonR;cases ry;cases h;exact⟨.bool_none _,.bool_none _,.bool_none _⟩
   | bl b'=>cases hy.blR;cases ry;cases h;exact⟨.bool_bool _ _,.bool_bool _ _,.bool_bool _ _⟩
   | int i'=>cases hy.intR;obtain⟨t2,rfl⟩:=ry;cases h;exact⟨.bool_int _ _ _,.bool_int _ _ _,.bool_int _ _ _⟩
   | str z'=>cases hy.strR;obtain⟨t2,rfl⟩:=ry;cases h;exact⟨.bool_str _ _ _,.bool_str _ _ _,.bool_str _ _ _⟩
   | tup es=>obtain⟨a2,xs2,rfl,q2,m2⟩:=hy.tupR;cases ry;obtain⟨its2,rv2,p2,_⟩:=I.tuple q2;cases h;exact⟨.bool_tuple _ p2 hu0,.bool_tuple _ p2 hu0,.bool_tuple _ p2 hu0⟩
   | lst o' es=>obtain⟨a2,xs2,rfl,q2,m2⟩:=hy.lstR;cases ry;obtain⟨its2,rv2,p2,_⟩:=I.list q2;cases h;exact⟨.bool_list _ p2.isList hu0,.bool_list _ p2.isList hu0,.bool_list _ p2.isList hu0⟩
   | exc _=>cases h
   | dct _ _ _=>cases h
  | int i=>
   cases hx.intR;obtain⟨t1,rfl⟩:=rx
   cases e with
   | non=>cases hy.nonR;cases ry;cases h;exact⟨.int_none _ _,.int_none _ _,.int_none _ _⟩
   | bl b'=>cases hy.blR;cases ry;cases h;exact⟨.int_bool _ _ _,.int_bool _ _ _,.int_bool _ _ _⟩
   | int i'=>cases hy.intR;obtain⟨t2,rfl⟩:=ry;cases h;exact⟨.int_int _ _ _ _,.int_int _ _ _ _,.int_int _ _ _ _⟩
   | str z'=>cases hy.strR;obtain⟨t2,rfl⟩:=ry;cases h;exact⟨.int_str _ _ _ _,.int_str _ _ _ _,.int_str _ _ _ _⟩
   | tup es=>obtain⟨a2,xs2,rfl,q2,m2⟩:=hy.tupR;cases ry;obtain⟨its2,rv2,p2,_⟩:=I.tuple q2;cases h;exact⟨.int_tuple _ _ p2 hu0,.int_tuple _ _ p2 hu0,.int_tuple _ _ p2 hu0⟩
   | lst o' es=>obtain⟨a2,xs2,rfl,q2,m2⟩:=hy.lstR;cases ry;obtain⟨its2,rv2,p2,_⟩:=I.list q2;cases h;exact⟨.int_list _ _ p2.isList hu0,.int_list _ _ p2.isList hu0,.int_list _ _ p2.isList hu0⟩
   | exc _=>cases h
   | dct _ _ _=>cases h
  | str z=>
   cases hx.strR;obtain⟨t1,rfl⟩:=rx
   cases e with
   | non=>cases hy.nonR;cases ry;cases h;exact⟨.str_none _ _,.str_none _ _,.str_none _ _⟩
   | bl b'=>cases hy.blR;cases ry;cases h;exact⟨.str_bool _ _ _,.str_bool _ _ _,.str_bool _ _ _⟩
   | int i'=>cases hy.intR;obtain⟨t2,rfl⟩:=ry;cases h;exact⟨.str_int _ _ _ _,.str_int _ _ _ _,.str_int _ _ _ _⟩
   | str z'=>cases hy.strR;obtain⟨t2,rfl⟩:=ry;cases h;exact⟨.str_str _ _ _ _,.str_str _ _ _ _,.str_str _ _ _ _⟩
   | tup es=>obtain⟨a2,xs2,rfl,q2,m2⟩:=hy.tupR;cases ry;obtain⟨its2,rv2,p2,_⟩:=I.tuple q2;cases h;exact⟨.str_tuple _ _ p2 hu0,.str_tuple _ _ p2 hu0,.str_tuple _ _ p2 hu0⟩
   | lst o' es=>obtain⟨a2,xs2,rfl,q2,m2⟩:=hy.lstR;cases ry;obtain⟨its2,rv2,p2,_⟩:=I.list q2;cases h;exact⟨.str_list _ _ p2.isList hu0,.str_list _ _ p2.isList hu0,.str_list _ _ p2.isList hu0⟩
   | exc _=>cases h
   | dct _ _ _=>cases h
  | tup ds=>cases e<;>cases h
  | lst o ds=>cases e<;>cases h
  | exc _=>cases h
  | dct _ _ _=>cases e<;>cases h
end
noncomputable abbrev nw (S:Addr->Prop) (H:Hp):Addr->Prop:=fun a=>S a∨H a=none
noncomputable abbrev Kk (K:PySem.W.Frag) (S:Addr->Prop) (H:Hp) (Q:VK):D->Prop:=fun d=>∀ w H',ak H H'->HRep K (nw S H) H' w d->Q w H'
theorem HRep.nw {K:PySem.W.Frag} {S:Addr->Prop} {H:Hp} {v:V} {d:D} (h:HRep K S H v d):HRep K (nw S H) H v d:=h.mono (fun _=>.inl) (.refl _)
theorem v5 {K:PySem.W.Frag} {S:Addr->Prop} {H:Hp} {p:Addr} {vs:List V} {ds:List D} (hp:H p=none) (h:HReps K S H vs ds):HRep K (nw S H) (upd H p (.tup vs)) (.ref p) (.tup ds):=
 .tup (.inl (.inl ar)) (h.mono (fun _=>.inl) (.upd hp))
theorem v7 {K:PySem.W.Frag} {S:Addr->Prop} {H:Hp} {p:Addr} {vs:List V} {ds:List D} {o:Bool} (hp:H p=none) (h:HReps K S H vs ds):HRep K (nw S H) (upd H p (.lst vs)) (.ref p) (.lst o ds):=
 .lst (.inr hp) (.inl ar) (h.mono (fun _=>.inl) (.upd hp))
noncomputable def bop:BOp->Operator
 | .add=>.Add | .sub=>.Sub | .mul=>.Mult | .fdiv=>.FloorDiv | .mod=>.Mod | .pow=>.Pow
noncomputable def cop:COp->CmpOp
 | .eq=>.Eq | .ne=>.NotEq | .lt=>.Lt | .le=>.LtE | .gt=>.Gt | .ge=>.GtE | .in_=>.In | .nin=>.NotIn | .is_=>.Is | .isn=>.IsNot
noncomputable def Bl (K:PySem.W.Frag) (ex:Str->Prop) (op:BOp):R2:=fun x y H Q=>∃ S d e,HRep K S H x d/\HRep K S H y e/\PO' ex (opB op d e) (Kk K S H Q)
noncomputable def Bm (K:PySem.W.Frag) (ex:Str->Prop) (op:COp):R2:=fun x y H Q=>∃ S d e,HRep K S H x d/\HRep K S H y e/\PO' ex (opC op d e) fun r=>Q (.bl r) H
section
variable {X:Cx} {ex:Str->Prop}
theorem ba {n:Nat} (h:aL n=true):n<=sizeLine:=of_decide_eq_true h
theorem ek {n:Nat} (h:bO n=true):n < sizeLine:=of_decide_eq_true h
theorem kj:OpR X (binaryOp .Add) (fun x y H Q=>∃ l b xs zs,x=.ref l/\y=.ref b/\Ls X.K H l xs/\Ls X.K H b zs/\xs.length + zs.length<=sizeLine/\∀ p,H p=none->Q (.ref p) (upd H p (.lst (xs++zs)))):=by
 intro pins s σ H x y v u Q I rx ry h
 obtain⟨l,b,xs,zs,rfl,rfl,hH,hB,hz,q⟩:=h
 cases rx
 cases ry
 obtain⟨hl,its,n,r,e⟩:=I.ls hH
 obtain⟨hl2,its2,n2,r2,e'⟩:=I.ls hB
 have e1:=r.length
 have e2:=r2.length
 refine PySem.P.add_list e e' ?_ (by rw[List.size_toArray,List.size_toArray];omega)
 have ea:its.toArray++its2.toArray=(its++its2).toArray:=by simp
 rw[ea]
 exact⟨.ref _,_,I.lnew (t':=s.toks) (r.append r2) (by rw[List.length_append];omega),rfl,q _ I.fresh⟩
theorem v8 (op:BOp):OpR X (binaryOp (bop op)) (Bl X.K ex op):=by
 intro pins s σ H x y v u Q I rx ry h
 obtain⟨S,d,e,hx,hy,h⟩:=h
 have stuck:∀ {P:Prop},opB op d e=stk->P:=fun z=>by rw[z] at h;exact h.no.elim
 cases op with
 | add=>
  cases d with
  | int a=>
   cases e with
   | int b=>cases hx.intR;cases hy.intR;exact vA pins s σ H _ _ v u Q I rx ry ⟨a,b,rfl,rfl,h.ok _ _ (.refl _) (.int _)⟩
   | _=>exact stuck rfl
  | str a=>
   cases e with
   | str b=>
    cases hx.strR;cases hy.strR
    obtain⟨g,h⟩:=PO'.grd h
    exact ju pins s σ H _ _ v u Q I rx ry ⟨a,b,rfl,rfl,ba g,h.ok _ _ (.refl _) (.str _)⟩
   | _=>exact stuck rfl
  | lst o a=>
   cases e with
   | lst o' b=>
    obtain⟨p,xs,rfl,q1,m1⟩:=hx.lstL
    obtain⟨p',ys,rfl,q2,m2⟩:=hy.lstL
    obtain⟨g,h⟩:=PO'.grd h
    have g':=ba g
    have l1:=m1.length
    have l2:=m2.length
    exact kj pins s σ H _ _ v u Q I rx ry ⟨p,p',xs,ys,rfl,rfl,q1,q2,by omega,fun z hz=>h.ok _ _ (.upd hz) (v7 hz (m1.append m2))⟩
   | _=>exact stuck rfl
  | _=>exact stuck rfl
 | sub=>
  cases d with
  | int a=>
   cases e with
   | int b=>cases hx.intR;cases hy.intR;exact vB pins s σ H _ _ v u Q I rx ry ⟨a,b,rfl,rfl,h.ok _ _ (.refl _) (.int _)⟩
   | _=>exact stuck rfl
  | _=>exact stuck rfl
 | mul=>
  cases d with
  | int a=>
   cases e with
   | int b=>
    cases hx.intR;cases hy.intR
    obtain⟨g,h⟩:=PO'.grd h
    rw[Bool.or_eq_true] at g
    exact vD pins s σ H _ _ v u Q I rx ry ⟨a,b,rfl,rfl,g.elim (fun z=>.inl (of_decide_eq_true z)) (fun z=>.inr (of_decide_eq_true z)),h.ok _ _ (.refl _) (.int _)⟩
   | _=>exact stuck rfl
  | str a=>
   cases e with
   | int b=>
    cases hx.strR;cases hy.intR
    obtain⟨g,h⟩:=PO'.grd h
    have g':=of_decide_eq_true g
    exact jx pins s σ H _ _ v u Q I rx ry ⟨a,b,rfl,rfl,g'.1,g'.2.1,g'.2.2,h.ok _ _ (.refl _) (.str _)⟩
   | _=>exact stuck rfl
  | lst _ _=>cases e<;>exact stuck rfl
  | _=>exact stuck rfl
 | fdiv=>
  cases d with
  | int a=>
   cases e with
   | int b=>
    cases hx.intR;cases hy.intR
    obtain⟨g,h⟩:=PO'.grd h
    exact qN pins s σ H _ _ v u Q I rx ry ⟨a,b,rfl,rfl,show 0 < b/\b < 1073741824 from of_decide_eq_true g,h.ok _ _ (.refl _) (.int _)⟩
   | _=>exact stuck rfl
  | _=>exact stuck rfl
 | mod=>
  cases d with
  | int a=>
   cases e with
   | int b=>
    cases hx.intR;cases hy.intR
    obtain⟨g,h⟩:=PO'.grd h
    exact vE pins s σ H _ _ v u Q I rx ry ⟨a,b,rfl,rfl,of_decide_eq_true g,h.ok _ _ (.refl _) (.int _)⟩
   | _=>exact stuck rfl
  | _=>exact stuck rfl
 | pow=>
  cases d with
  | int a=>
   cases e with
   | int b=>
    cases hx.intR;cases hy.intR
    obtain⟨g,h⟩:=PO'.grd h
    exact vF pins s σ H _ _ v u Q I rx ry ⟨a,b,rfl,rfl,show 0<=b/\b<=1000000/\a.natAbs < 2 ^ 64 from of_decide_eq_true g,h.ok _ _ (.refl _) (.int _)⟩
   | _=>exact stuck rfl
  | _=>exact stuck rfl
theorem PO'.eqN {ex:Str->Prop}:∀ {n:Nat} {d e:D} {k:Bool->Prop},PO' ex (L2.eqN n d e) k->∃ r,L2.eqN n d e=.ok r/\k r:=by
 have no:∀ (n:Nat) (d e:D) (c:Str),L2.eqN n d e≠.error (.exc c):=by
  intro n
  have seqs:∀ (f:D->D->Res Bool),(∀ d e c,f d e≠.error (.exc c))->∀ (ds es:List D) (c:Str),nt f ds es≠.error (.exc c):=by
   intro f hf ds
   induction ds with
   | nil=>intro es c h;cases es<;>cases h
   | cons a ds ih=>
    intro es c h
    cases es with
    | nil=>cases h
    | cons b es=>
     have h':L2.bnd (f a b) (fun x=>L2.bnd (nt f ds es) fun y=>.ok (x && y))=.error (.exc c):=h
     cases q:f a b with
     | error z=>rw[q] at h';exact hf a b c (by rw[q];exact h')
     | ok x=>
      rw[q] at h'
      have h2:L2.bnd (nt f ds es) (fun y=>.ok (x && y))=.error (.exc c):=h'
      cases q2:nt f ds es with
      | error z=>rw[q2] at h2;exact ih es c (by rw[q2];exact h2)
      | ok y=>rw[q2] at h2;cases h2
  induction n with
  | zero=>intro d e c h;cases h
  | succ n ih=>
   intro d e c h
   cases d<;>cases e<;>first | cases h | exact seqs _ ih _ _ _ h
 intro n d e k h
 cases q:L2.eqN n d e with
 | ok r=>rw[q] at h;exact⟨r,rfl,h⟩
 | error z=>
  rw[q] at h
  cases z with
  | stuck=>exact h.no.elim
  | exc c=>exact absurd q (no n d e c)
theorem PO'.anyN {ex:Str->Prop} {d:D}:∀ {ds:List D} {k:Bool->Prop},PO' ex (L2.anyN d ds) k->∃ f:Nat->Bool,(∀ i e,ds[i]? = some e->L2.eqN 40 e d=.ok (f i))/\k ((List.range ds.length).any f)
 | [],k,h=>⟨fun _=>false,fun i e z=>by simp at z,h⟩
 | e::r,k,h=>by
  obtain⟨x,ex',h1⟩:=PO'.eqN (PO'.bnd h)
  obtain⟨f,h2,h3⟩:=PO'.anyN (PO'.bnd h1)
  refine⟨fun i=>match i with | 0=>x | j + 1=>f j,fun i e' z=>?_,?_⟩
  ·cases i with
   | zero=>simp at z;subst z;exact ex'
   | succ j=>exact h2 j e' (by simpa using z)
  ·rw[List.length_cons,List.range_succ_eq_map,List.any_cons,List.any_map]
   exact h3
theorem jG {A:Around} {s:Shared} {v:Value} (its:List Value) (f:Nat->Bool) (h:∀ i u,its[i]? = some u->EqAt A s u v (f i)) :
  ∃ e:Value->Bool,(∀ y,y ∈ its.toArray->EqAt A s y v (e y))/\its.toArray.any e=(List.range its.length).any f:=by
 classical
 refine⟨fun y=>decide (∃ i,its[i]? = some y/\f i=true),fun y hy=>?_,?_⟩
 ·have hy':y ∈ its:=by simpa using hy
  obtain⟨j,hj⟩:=List.getElem?_of_mem hy'
  show EqAt A s y v (decide (∃ i,its[i]? = some y/\f i=true))
  by_cases q:∃ i,its[i]? = some y/\f i=true
  ·rw[decide_eq_true q]
   obtain⟨i,hi,fi⟩:=q
   have:=h i y hi
   rw[fi] at this
   exact this
  ·rw[decide_eq_false q]
   have:=h j y hj
   have fj:f j=false:=by
    cases z:f j with
    | false=>rfl
    | true=>exact absurd ⟨j,hj,z⟩ q
   rw[fj] at this
   exact this
 ·rw[Bool.eq_iff_iff]
  simp only[List.any_toArray,List.any_eq_true,List.mem_range,decide_eq_true_eq]
  constructor
  ·rintro ⟨y,hy,i,hi,fi⟩
   exact⟨i,(List.getElem?_eq_some_iff.mp hi).1,fi⟩
  ·rintro ⟨i,hi,fi⟩
   exact⟨its[i],List.getElem_mem hi,i,by simp[hi],fi⟩
theorem fZ (hu:X.A.units + 42 < cLine) {pins:List (Addr×Obj)} {s:Shared} {σ:St} {H:Hp} {S:Addr->Prop} {x:V} {v:Value} {d:D} {k:Bool->Prop} (I:Inv X pins σ H s) (rx:RelV x v) (hx:HRep X.K S H x d)
  {xs:List V} {its:List Value} {ds:List D} (rv:Vals xs its) (m:HReps X.K S H xs ds) (h:PO' ex (anyN d ds) k) :
  ∃ e:Value->Bool,(∀ y,y ∈ its.toArray->EqAt X.A.in1 s y v (e y))/\k (its.toArray.any e):=by
 obtain⟨f,h1,h2⟩:=PO'.anyN h
 have l1:=rv.length
 have l2:=m.length
 obtain⟨e,h3,h4⟩:=jG (A:=X.A.in1) (s:=s) (v:=v) its f fun i u hi=>by
  have hlt:i < its.length:=(List.getElem?_eq_some_iff.mp hi).1
  obtain⟨y,hy,my⟩:=m.get (i:=i) (d:=ds[i]'(by omega)) (by simp)
  obtain⟨u',hu',ru⟩:=rv.get hy
  rw[hi] at hu';cases hu'
  exact(jF I 40 X.A.in1 y x u v _ d _ my hx ru rx (h1 i _ (by simp)) (by show X.A.units + 1 + 40 < cLine;omega)).eq
 refine⟨e,h3,?_⟩
 rw[h4,show its.length=ds.length by omega]
 exact h2
theorem ny (hu:X.A.units + 42 < cLine) (op:COp):OpR X (compareOp (cop op)) (Bm X.K ex op):=by
 intro pins s σ H x y v u Q I rx ry h
 obtain⟨S,d,e,hx,hy,h⟩:=h
 have stuck:∀ {P:Prop},opC op d e=stk->P:=fun z=>by rw[z] at h;exact h.no.elim
 have fin:∀ {b:Bool},Q (.bl b) H->EP X pins σ Q (.bool b) s:=fun q=>⟨.bl _,H,I,rfl,q⟩
 cases op with
 | eq=>
  obtain⟨r,h1,h2⟩:=PO'.eqN h
  exact(jF I 40 X.A x y v u d e r hx hy rx ry h1 (by omega)).rc _ _ _ _ (fin h2)
 | ne=>
  obtain⟨r,h1,h2⟩:=PO'.eqN (PO'.bnd h)
  exact(jF I 40 X.A x y v u d e r hx hy rx ry h1 (by omega)).ne _ _ _ _ (fin h2.ok)
 | lt=>
  cases d with
  | int a=>
   cases e with
   | int b=>cases hx.intR;cases hy.intR;obtain⟨t,rfl⟩:=rx;obtain⟨t',rfl⟩:=ry;exact lt_int (fin h.ok)
   | _=>exact stuck rfl
  | _=>exact stuck rfl
 | le=>cases d<;>cases e<;>exact stuck rfl
 | gt=>
  cases d with
  | int a=>
   cases e with
   | int b=>cases hx.intR;cases hy.intR;obtain⟨t,rfl⟩:=rx;obtain⟨t',rfl⟩:=ry;exact gt_int (fin h.ok)
   | _=>exact stuck rfl
  | _=>exact stuck rfl
 | ge=>cases d<;>cases e<;>exact stuck rfl
 | in_=>
  cases e with
  | str b=>cases d<;>exact stuck rfl
  | lst o ds=>
   obtain⟨a,xs,rfl,q1,m1⟩:=hy.lstR
   cases ry
   obtain⟨its,rv,pl,_⟩:=I.list q1
   obtain⟨e,h1,h2⟩:=fZ (ex:=ex) hu I rx hx rv m1 (by cases d<;>exact h)
   exact in_listAt e pl.isList h1 (fin h2)
  | tup ds=>
   obtain⟨a,xs,rfl,q1,m1⟩:=hy.tupR
   cases ry
   obtain⟨its,rv,pl,_⟩:=I.tuple q1
   obtain⟨e,h1,h2⟩:=fZ (ex:=ex) hu I rx hx rv m1 (by cases d<;>exact h)
   exact in_tupleAt e pl h1 (fin h2)
  | non=>cases d<;>exact stuck rfl
  | bl _=>cases d<;>exact stuck rfl
  | int _=>cases d<;>exact stuck rfl
  | exc _=>cases d<;>exact stuck rfl
  | dct _ _ _=>cases d<;>exact stuck rfl
 | nin=>cases d<;>cases e<;>exact stuck rfl
 | is_=>
  cases e with
  | non=>
   cases hy.nonR;cases ry
   have ev:cU d=(v == Value.none):=by
    cases hx with
    | non=>cases rx;rfl
    | bl b=>cases rx;rfl
    | int i=>obtain⟨t,rfl⟩:=rx;rfl
    | str z=>obtain⟨t,rfl⟩:=rx;rfl
    | tup _ _=>cases rx;rfl
    | lst _ _ _=>cases rx;rfl
    | lstK _ _=>cases rx;rfl
    | exc _=>cases rx;rfl
    | dct _ _ _ _=>cases rx;rfl
   have h':Q (.bl (cU d)) H:=by cases d<;>exact h
   rw[ev] at h'
   exact is_none_gen (fin h')
  | _=>cases d<;>exact stuck rfl
 | isn=>cases d<;>cases e<;>exact stuck rfl
theorem en {pins:List (Addr×Obj)} {s:Shared} {σ:St} {H:Hp} {S:Addr->Prop} {x:V} {v:Value} {d:D} {Q:Bool->Hp->Prop} (I:Inv X pins σ H s) (rx:RelV x v) (hx:HRep X.K S H x d) (h:PO' ex (aI d) fun b=>Q b H) :
  wpAny (model X.prog X.w) X.A (truthy v) (TP X pins σ Q) X.xe s:=by
 refine vH pins s σ H x v Q I rx ?_
 cases d with
 | exc c=>exact h.no.elim
 | dct _ _ _=>exact h.no.elim
 | non=>cases hx.nonR;exact⟨false,rfl,h⟩
 | bl b=>cases hx.blR;exact⟨b,rfl,h⟩
 | int i=>cases hx.intR;exact⟨_,rfl,h⟩
 | str z=>
  cases hx.strR
  obtain⟨g,h⟩:=PO'.grd h
  exact⟨_,⟨ba g,rfl⟩,h⟩
 | tup ds=>
  obtain⟨a,xs,rfl,q,m⟩:=hx.tupR
  refine⟨!ds.isEmpty,.inr (.inl ⟨xs,q,?_⟩),h⟩
  have:=m.length
  cases xs<;>cases ds<;>simp_all
 | lst o ds=>
  obtain⟨a,xs,rfl,q,m⟩:=hx.lstR
  refine⟨!ds.isEmpty,.inl ⟨xs,q,?_⟩,h⟩
  have:=m.length
  cases xs<;>cases ds<;>simp_all
theorem kl {K:PySem.W.Frag} {S:Addr->Prop} {H:Hp} {vs:List V} {ds:List D} {i:Int} {d:D} (m:HReps K S H vs ds) (h:atI ds i=some d):∃ v,atI vs i=some v/\HRep K S H v d:=by
 unfold atI at h ⊢
 rw[m.length]
 cases q:ixN ds.length i with
 | none=>rw[q] at h;cases h
 | some j=>rw[q] at h;exact m.get h
noncomputable def Bn (K:PySem.W.Frag) (ex:Str->Prop):R2:=fun x y H Q=>∃ S d e,HRep K S H x d/\HRep K S H y e/\PO' ex (bo d e) (Kk K S H Q)
theorem rD:IxR X (Bn X.K ex):=by
 intro value slice pins s σ H x y v u Q I rx ry h hs
 obtain⟨S,d,e,hx,hy,h⟩:=h
 refine vL value slice pins s σ H x y v u Q I rx ry ?_ hs
 have stuck:∀ {P:Prop},bo d e=stk->P:=fun z=>by rw[z] at h;exact h.no.elim
 cases e with
 | int i=>
  cases hy.intR
  cases d with
  | lst o ds=>
   obtain⟨a,xs,rfl,q,m⟩:=hx.lstR
   have h':PO' ex (match atI ds i with | some d=>.ok d | none=>stk) (Kk X.K S H Q):=h
   cases z:atI ds i with
   | none=>rw[z] at h';exact h'.no.elim
   | some d=>
    rw[z] at h'
    obtain⟨w,ew,mw⟩:=kl m z
    exact .inl ⟨a,xs,i,w,rfl,rfl,q,ew,h'.ok _ _ (.refl _) mw.nw⟩
  | tup ds=>
   obtain⟨a,xs,rfl,q,m⟩:=hx.tupR
   have h':PO' ex (match atI ds i with | some d=>.ok d | none=>stk) (Kk X.K S H Q):=h
   cases z:atI ds i with
   | none=>rw[z] at h';exact h'.no.elim
   | some d=>
    rw[z] at h'
    obtain⟨w,ew,mw⟩:=kl m z
    exact .inr (.inl ⟨a,xs,i,w,rfl,rfl,q,ew,h'.ok _ _ (.refl _) mw.nw⟩)
  | str z=>
   cases hx.strR
   obtain⟨g,h⟩:=PO'.grd h
   cases q:atI z.cps.toList i with
   | none=>rw[q] at h;exact h.no.elim
   | some c=>
    rw[q] at h
    exact .inr (.inr ⟨z,i,c,rfl,rfl,ba g,q,h.ok _ _ (.refl _) (.str _)⟩)
  | _=>exact stuck rfl
 | _=>cases d<;>exact stuck rfl
noncomputable def Bo (K:PySem.W.Frag) (ex:Str->Prop):V->Option Int->Option Int->Hp->VK->Prop:=fun x lo hi H Q=>∃ S d,HRep K S H x d/\PO' ex (iM d lo hi) (Kk K S H Q)
theorem v9:SlR X (fun x lo hi H Q=>∃ z,x=.str z/\z.length<=sizeLine/\Q (.str (Txt.slice z lo hi)) H):=by
 intro pins s σ H x v vl vu lo hi sl Q I rx hs pl pu h
 obtain⟨z,rfl,hz,q⟩:=h
 obtain⟨t,rfl⟩:=rx
 refine⟨"str",_,F.slot_str_getitem.lookup,typeIs_str s z t,?_⟩
 have fin:∀ (l u:Option (Int×Tok)),vl=partValue l->vu=partValue u->l.map (·.1)=lo->u.map (·.1)=hi->wpAny (model X.prog X.w) X.A (getItem (.str z t) (.ref sl)) (EP X pins σ Q) X.xe s:=by
  intro l u e1 e2 e3 e4
  subst e1 e2 e3 e4
  refine wpAny_getItem_str_slice (l:=l) (u:=u) (st:=none) hs rfl ?_
  exact post_val_or_str ⟨Nat.le_trans (Txt.slice_le z _ _) hz,fun t' k=>⟨.str _,H,I.tok _,⟨_,rfl⟩,q⟩⟩
 cases pl with
 | none=>
  cases pu with
  | none=>exact fin none none rfl rfl rfl rfl
  | int j t'=>exact fin none (some (j,t')) rfl rfl rfl rfl
 | int i t'=>
  cases pu with
  | none=>exact fin (some (i,t')) none rfl rfl rfl rfl
  | int j t''=>exact fin (some (i,t')) (some (j,t'')) rfl rfl rfl rfl
end
open PySem.W
section
variable {prog:Program} {w:World} {A:Around} {E:Value->Shared->Prop} {K:Frag} {x C:Addr} {hh:Heap} {g:Array GenState} {d:Drawn} {t:Nat} {os:OsState}
structure ExcAt (K:Frag) (C:Addr):Prop where
 ga:findIn K (.ref C) "__getattribute__" = some (some (.builtin "BaseException.__getattribute__"))
 no:findIn K (.ref C) "__getattr__" = some none
 cl:findIn K (.ref C) "__class__" = some (some (.builtin "object.__class__"))
 be:mroIn K C (.type "BaseException")=some true
 ob:mroIn K C (.type "object")=some true
 is:(clsIn K C).isSome=true
open Builtin Builtin.ObjectAttr Builtin.Getset_descriptor in
end
section
variable {X:Cx} {ex:Str->Prop}
theorem km {K:PySem.W.Frag} {S:Addr->Prop} {H:Hp} {vs:List V} {ds:List D} (lo hi:Option Int) (m:HReps K S H vs ds):HReps K S H (lU vs lo hi) (dh ds lo hi):=by
 unfold lU dh
 rw[m.length]
 exact(m.drop _).take _
theorem rE:SlR X (Bo X.K ex):=by
 intro pins s σ H x v vl vu lo hi sl Q I rx hs pl pu h
 obtain⟨S,d,hx,h⟩:=h
 cases d with
 | lst o ds=>
  obtain⟨a,xs,rfl,q,m⟩:=hx.lstR
  exact kc pins s σ H _ v vl vu lo hi sl Q I rx hs pl pu ⟨a,xs,rfl,q,fun p hp=>h.ok _ _ (.upd hp) (v7 hp (km lo hi m))⟩
 | str z=>
  cases hx.strR
  obtain⟨g,h⟩:=PO'.grd h
  exact v9 pins s σ H _ v vl vu lo hi sl Q I rx hs pl pu ⟨z,rfl,ba g,h.ok _ _ (.refl _) (.str _)⟩
 | _=>exact h.no.elim
theorem iQ {ns:List Str}:∀ {us:List Value},Vals (ns.map V.str) us->StrsAre us ns:=by
 induction ns with
 | nil=>intro us r;rw[List.map_nil] at r;cases r;exact .nil
 | cons n ns ih=>
  intro us r
  rw[List.map_cons] at r
  cases r with
  | cons r1 r2=>
   obtain⟨t,e⟩:=r1
   subst e
   exact .cons n t (ih r2)
theorem eT:∀ {ds:List D} {ns:List Int},bC ds=some ns->ds=ns.map .int
 | [],ns,h=>by cases h;rfl
 | .int i::r,ns,h=>by
  have h':(bC r).map (i::·)=some ns:=h
  cases q:bC r with
  | none=>rw[q] at h';cases h'
  | some ms=>
   rw[q] at h'
   cases h'
   rw[eT q]
   rfl
 | .non::_,_,h=>by cases h
 | .bl _::_,_,h=>by cases h
 | .str _::_,_,h=>by cases h
 | .tup _::_,_,h=>by cases h
 | .lst _ _::_,_,h=>by cases h
theorem cY:∀ {ds:List D} {ns:List Str},aP ds=some ns->ds=ns.map .str
 | [],ns,h=>by cases h;rfl
 | .str i::r,ns,h=>by
  have h':(aP r).map (i::·)=some ns:=h
  cases q:aP r with
  | none=>rw[q] at h';cases h'
  | some ms=>
   rw[q] at h'
   cases h'
   rw[cY q]
   rfl
 | .non::_,_,h=>by cases h
 | .bl _::_,_,h=>by cases h
 | .int _::_,_,h=>by cases h
 | .tup _::_,_,h=>by cases h
 | .lst _ _::_,_,h=>by cases h
theorem f6:∀ {ds:List D} {ns:List Bool},cV ds=some ns->ds=ns.map .bl
 | [],ns,h=>by cases h;rfl
 | .bl i::r,ns,h=>by
  have h':(cV r).map (i::·)=some ns:=h
  cases q:cV r with
  | none=>rw[q] at h';cases h'
  | some ms=>
   rw[q] at h'
   cases h'
   rw[f6 q]
   rfl
 | .non::_,_,h=>by cases h
 | .str _::_,_,h=>by cases h
 | .int _::_,_,h=>by cases h
 | .tup _::_,_,h=>by cases h
 | .lst _ _::_,_,h=>by cases h
theorem md (hc:X.calm=true):bE X (.builtin "all") (fun xs H Q=>∃ (p:Addr) (bs:List Bool),xs=[.ref p]/\SqL X.K H p (bs.map V.bl)/\Q (.bl (bs.all id)) H):=by
 intro pins s σ H xs us Q I r h
 obtain⟨p,bs,rfl,hq,q⟩:=h
 obtain⟨u,rfl,rx⟩:=vals1 r
 cases rx
 obtain⟨its,rv,pl,hz⟩:=I.list hq
 have hl:=rv.length
 rw[List.length_map] at hl
 have hlt:p < s.heap.objs.size:=by
  obtain⟨o,e,_⟩:=pl.isList
  exact Heap.lt_size e
 refine call_all_walk (wpAny_pyIter_list pl.isList ?_)
 refine⟨s.heap.objs.size,_,_,_,_,_,fun i=>bs.getD i true,rfl,Walks.list (A:=X.A.in1) (show X.A.in1.handled=none from I.ok.hd hc) s.heap.objs.size p (Nat.ne_of_lt hlt) its.toArray,⟨⟨_,Heap.get?_push_size _ rfl,rfl,rfl⟩,?_⟩,?_,?_⟩
 ·obtain⟨o,e,c,n,d⟩:=pl.isList
  exact⟨o,Heap.get?_push_of_some _ e,c,n,d⟩
 ·intro i v s' Q' E' hv hq'
  have hv':its[i]? = some v:=by simpa using hv
  have hlt':i < bs.length:=by
   have:=(List.getElem?_eq_some_iff.mp hv').1
   omega
  obtain⟨u,hu,ru⟩:=rv.get (i:=i) (x:=.bl bs[i]) (by rw[List.getElem?_map,List.getElem?_eq_getElem hlt'];rfl)
  rw[hv'] at hu
  cases hu
  cases ru
  refine wpAny_truthy_bool ?_
  have e:bs.getD i true=bs[i]:=by simp[List.getD,hlt']
  rw[<- e]
  exact hq'
 ·intro h' tk kp
  have hall:(List.range its.toArray.size).all (fun i=>bs.getD i true)=bs.all id:=by
   rw[show its.toArray.size=bs.length by simp[hl]]
   rw[Bool.eq_iff_iff,List.all_eq_true,List.all_eq_true]
   constructor
   ·intro z b hb
    obtain⟨i,hi,rfl⟩:=List.getElem_of_mem hb
    have:=z i (List.mem_range.mpr hi)
    simpa[List.getD,hi] using this
   ·intro z i hi
    have hi':=List.mem_range.mp hi
    have:=z bs[i] (List.getElem_mem hi')
    simpa[List.getD,hi'] using this
  rw[hall]
  refine⟨.bl (bs.all id),H,I.kept (t':=tk) fun b o e=>kp b o ?_ (Heap.get?_push_of_some _ e),rfl,q⟩
  intro hm
  have hb:b=s.heap.objs.size:=by simpa using hm
  subst hb
  exact absurd (Heap.lt_size e) (Nat.lt_irrefl _)
noncomputable def dN:Bi->Str
 | .len=>"len" | .sum=>"sum" | .min2=>"min" | .max2=>"max" | .sorted=>"sorted" | .list=>"list" | .tuple=>"tuple" | .ord=>"ord" | .int=>"int" | .all=>"all" | .any=>"any" | .str=>"str" | .set=>"set" | .abs=>"abs"
noncomputable def ym:Bi->Bool
 | .list=>true | .tuple=>true | .int=>true | .str=>true | .set=>true
 | _=>false
noncomputable def yn:Bi->String
 | .len=>"len" | .sum=>"sum" | .min2=>"min" | .max2=>"max" | .sorted=>"sorted" | .list=>"list" | .tuple=>"tuple" | .ord=>"ord" | .int=>"int" | .all=>"all" | .any=>"any" | .str=>"str" | .set=>"set" | .abs=>"abs"
noncomputable def nA (f:Bi):Value:=if ym f=true then .type (yn f) else .builtin (yn f)
theorem rF (f:Bi):bootBuiltins (dN f)=some (nA f):=by cases f<;>decide +kernel
noncomputable def rBi (K:PySem.W.Frag) (ex:Str->Prop) (f:Bi):List V->Hp->VK->Prop:=fun xs H Q=>∃ S ds,HReps K S H xs ds/\PO' ex (cO f ds) (Kk K S H Q)
theorem HReps.one1 {K:PySem.W.Frag} {S:Addr->Prop} {H:Hp} {xs:List V} {d:D} (h:HReps K S H xs [d]):∃ x,xs=[x]/\HRep K S H x d:=by
 cases h with
 | cons h1 h2=>cases h2;exact⟨_,rfl,h1⟩
theorem HReps.two2 {K:PySem.W.Frag} {S:Addr->Prop} {H:Hp} {xs:List V} {d e:D} (h:HReps K S H xs [d,e]):∃ x y,xs=[x,y]/\HRep K S H x d/\HRep K S H y e:=by
 cases h with
 | cons h1 h2=>
  cases h2 with
  | cons h3 h4=>cases h4;exact⟨_,_,rfl,h1,h3⟩
theorem me {K:PySem.W.Frag} {S:Addr->Prop} {H:Hp} (z:Str):HReps K S H (dF z) (cA z):=by
 unfold dF cA
 induction z.cps.toList with
 | nil=>exact .nil
 | cons c cs ih=>exact .cons (.str _) ih
theorem rG (hc:X.calm=true) (f:Bi):bE X (nA f) (rBi X.K ex f):=by
 intro pins s σ H xs us Q I r h
 obtain⟨S,ds,hx,h⟩:=h
 have stuck:∀ {P:Prop},cO f ds=stk->P:=fun z=>by rw[z] at h;exact h.no.elim
 have one:∀ {d e:D} {r':List D},ds=d::e::r'->¬ (f=.min2∨f=.max2)->cO f ds=stk:=by
  intro d e r' z nf
  subst z
  cases f<;>first | rfl | (exfalso;exact nf (.inl rfl)) | (exfalso;exact nf (.inr rfl)) | (cases d<;>rfl)
 have two:∀ {d e g:D} {r':List D},ds=d::e::g::r'->cO f ds=stk:=by
  intro d e g r' z
  subst z
  cases f<;>first | rfl | (cases d<;>rfl) | (cases d<;>cases e<;>rfl)
 have nil:ds=[]->cO f ds=stk:=by
  intro z
  subst z
  cases f<;>rfl
 match ds,hx with
 | [],hx=>exact stuck (nil rfl)
 | d::e::g::r',hx=>exact stuck (two rfl)
 | [d,e],hx=>
  by_cases nf:f=.min2∨f=.max2
  ·obtain⟨x,y,rfl,hd,he⟩:=hx.two2
   rcases nf with rfl | rfl
   ·cases d with
    | int a=>
     cases e with
     | int b=>cases hd.intR;cases he.intR;exact lR hc pins s σ H _ us Q I r ⟨a,b,rfl,h.ok _ _ (.refl _) (.int _)⟩
     | _=>exact stuck rfl
    | _=>exact stuck rfl
   ·cases d with
    | int a=>
     cases e with
     | int b=>cases hd.intR;cases he.intR;exact lQ hc pins s σ H _ us Q I r ⟨a,b,rfl,h.ok _ _ (.refl _) (.int _)⟩
     | _=>exact stuck rfl
    | _=>exact stuck rfl
  ·exact stuck (one rfl nf)
 | [d],hx=>
  obtain⟨x,rfl,hd⟩:=hx.one1
  cases f with
  | len=>
   cases d with
   | str z=>cases hd.strR;obtain⟨g,h⟩:=PO'.grd h;exact eG pins s σ H _ us Q I r ⟨_,_,rfl,⟨ba g,rfl⟩,h.ok _ _ (.refl _) (.int _)⟩
   | tup ds=>
    obtain⟨a,ys,rfl,q,m⟩:=hd.tupR
    exact eG pins s σ H _ us Q I r ⟨_,ds.length,rfl,.inr ⟨ys,q,m.length.symm⟩,h.ok _ _ (.refl _) (.int _)⟩
   | lst o ds=>
    obtain⟨a,ys,rfl,q,m⟩:=hd.lstR
    exact eG pins s σ H _ us Q I r ⟨_,ds.length,rfl,.inl ⟨ys,q,m.length.symm⟩,h.ok _ _ (.refl _) (.int _)⟩
   | _=>exact stuck rfl
  | sum=>cases d<;>exact stuck rfl
  | all=>
   cases d with
   | lst o ds=>
    obtain⟨a,ys,rfl,q,m⟩:=hd.lstR
    have h':PO' ex (match cV ds with | some bs=>.ok (.bl (bs.all id)) | none=>stk) (Kk X.K S H Q):=h
    cases z:cV ds with
    | none=>rw[z] at h';exact h'.no.elim
    | some ns=>
     rw[z] at h'
     rw[f6 z] at m
     rw[m.bls] at q
     exact md hc pins s σ H _ us Q I r ⟨a,ns,rfl,q,h'.ok _ _ (.refl _) (.bl _)⟩
   | _=>exact stuck rfl
  | any=>cases d<;>exact stuck rfl
  | ord=>cases d<;>exact stuck rfl
  | int=>cases d<;>exact stuck rfl
  | list=>cases d<;>exact stuck rfl
  | abs=>cases d<;>exact stuck rfl
  | min2=>cases d<;>exact stuck rfl
  | max2=>cases d<;>exact stuck rfl
  | sorted=>cases d<;>exact stuck rfl
  | tuple=>
   cases d with
   | str z=>
    cases hd.strR
    obtain⟨g,h⟩:=PO'.grd h
    exact eM hc pins s σ H _ us Q I r ⟨z,rfl,ba g,fun p hp=>h.ok _ _ (.upd hp) (v5 hp (me z))⟩
   | lst o ds=>
    obtain⟨a,ys,rfl,q,m⟩:=hd.lstR
    exact fH pins s σ H _ us Q I r ⟨a,ys,rfl,.inl ⟨q,fun p hp=>h.ok _ _ (.upd hp) (v5 hp m)⟩⟩
   | _=>exact stuck rfl
  | str=>exact stuck rfl
  | set=>exact stuck rfl
noncomputable def cZ:Kd->Str
 | .str=>"str" | .int=>"int" | .bool=>"bool" | .list=>"list" | .tuple=>"tuple"
noncomputable def nB:Kd->Value
 | .str=>.type "str" | .int=>.type "int" | .bool=>.type "bool" | .list=>.type "list" | .tuple=>.type "tuple"
theorem rH (k:Kd):bootBuiltins (cZ k)=some (nB k):=by cases k<;>decide +kernel
noncomputable def dTy:D->Value
 | .non=>.type "NoneType" | .bl _=>.type "bool" | .int _=>.type "int" | .str _=>.type "str" | .tup _=>.type "tuple" | .lst _ _=>.type "list" | .exc _=>.none | .dct _ _ _=>.none
theorem rJ (K:PySem.W.Frag) (k:Kd) (d:D) (hn:dI d=true):PySem.W.kitOne K (dTy d) (nB k)=some (bf k d):=by
 cases k<;>cases d<;>first | rfl | cases hn
theorem rK {pins:List (Addr×Obj)} {s:Shared} {σ:St} {H:Hp} {S:Addr->Prop} {x:V} {v:Value} {d:D} {Q:VK} (I:Inv X pins σ H s) (rx:RelV x v) (hx:HRep X.K S H x d) (k:Kd) (hn:dI d=true) (h:Q (.bl (bf k d)) H) :
  wpAny (model X.prog X.w) X.A (call (.builtin "isinstance") [v,nB k]) (EP X pins σ Q) X.xe s:=by
 have e:=rJ X.K k d hn
 have fin:∀ tk,EP X pins σ Q (.bool (bf k d)) {s with toks:=tk}:=fun tk=>⟨.bl _,H,I.tok _,rfl,h⟩
 cases d with
 | non=>cases hx.nonR;cases rx;exact PySem.W.kia_one PySem.W.kitx_none I.kIn True.intro e (fun z=>nomatch z) fin
 | bl b=>cases hx.blR;cases rx;exact PySem.W.kia_one PySem.W.kitx_bool I.kIn True.intro e (fun z=>nomatch z) fin
 | int b=>cases hx.intR;obtain⟨t,rfl⟩:=rx;exact PySem.W.kia_one PySem.W.kitx_int I.kIn True.intro e (fun z=>nomatch z) fin
 | str b=>cases hx.strR;obtain⟨t,rfl⟩:=rx;exact PySem.W.kia_one PySem.W.kitx_str I.kIn True.intro e (fun z=>nomatch z) fin
 | tup ds=>
  obtain⟨a,ys,rfl,q,m⟩:=hx.tupR
  cases rx
  obtain⟨its,_,⟨o,h1,h2,_⟩,_⟩:=I.tuple q
  exact PySem.W.kia_one PySem.W.kitx_tuple I.kIn ⟨o,h1,h2⟩ e (fun z=>nomatch z) fin
 | lst o ds=>
  obtain⟨a,ys,rfl,q,m⟩:=hx.lstR
  cases rx
  obtain⟨its,_,pl,_⟩:=I.list q
  obtain⟨o,h1,h2,_⟩:=pl.isList
  exact PySem.W.kia_one PySem.W.kitx_list I.kIn ⟨o,h1,h2⟩ e (fun z=>nomatch z) fin
 | exc c=>cases hn
 | dct o ks ds=>cases hn
noncomputable def CV (X:Cx) (x:Str) (v:V):Prop:=(∃ C,v=.ref C/\X.mg x=some (.ref C))∨(∃ T,v=.ty T/\X.mg x=none/\bootBuiltins x=some (.type T))
noncomputable def vv:V->Value
 | .ref C=>.ref C
 | .ty T=>.type T
 | _=>.none
noncomputable def eU:Mt->Str
 | .join=>"join" | .index=>"index" | .starts=>"startswith"
noncomputable def Bp:Mt->String
 | .join=>"str.join" | .index=>"str.index" | .starts=>"str.startswith"
noncomputable def rMt (K:PySem.W.Frag) (ex:Str->Prop) (m:Mt):V->List V->Hp->VK->Prop:=fun x xs H Q=>∃ S d ds,HRep K S H x d/\HReps K S H xs ds/\PO' ex (fI m d ds) (Kk K S H Q)
theorem nC {m:Mt} {d:D} {ds:List D} {k:D->Prop} (h:PO' ex (fI m d ds) k):∃ x,d=.str x:=by
 cases m<;>cases d<;>first | exact⟨_,rfl⟩ | exact h.no.elim
theorem gM (m:Mt) (hc:m=.index->X.calm=true):MtR X (Bp m) (rMt X.K ex m):=by
 intro pins s σ H x xs v us Q I rx rs h
 obtain⟨S,d,ds,hx,hs,h⟩:=h
 obtain⟨z,rfl⟩:=nC h
 cases hx.strR
 obtain⟨t,rfl⟩:=rx
 have stuck:∀ {P:Prop},fI m (.str z) ds=stk->P:=fun z=>by rw[z] at h;exact h.no.elim
 match ds,hs with
 | [],_=>cases m<;>exact stuck rfl
 | d::e::r,_=>cases m<;>cases d<;>exact stuck rfl
 | [d],hs=>
  obtain⟨y,rfl,hd⟩:=hs.one1
  obtain⟨u,rfl,ru⟩:=vals1 rs
  cases m with
  | join=>
   cases d with
   | lst o ds=>
    obtain⟨a,ys,rfl,q,m⟩:=hd.lstR
    cases ru
    have h':PO' ex (match aP ds with | some ys=>grd (decide ((ys.map (·.length)).sum + ys.length * z.length<=16777216)) (.ok (.str (Txt.join z ys))) | none=>stk) (Kk X.K S H Q):=h
    cases w:aP ds with
    | none=>rw[w] at h';exact h'.no.elim
    | some ns=>
     rw[w] at h'
     obtain⟨g,h'⟩:=PO'.grd h'
     rw[cY w] at m
     rw[m.strs] at q
     obtain⟨its,rv,pl,_⟩:=I.list q
     exact join_list pl.isList (by simpa using iQ rv) (of_decide_eq_true g) fun t' k=>⟨.str _,H,I.tok _,⟨_,rfl⟩,h'.ok _ _ (.refl _) (.str _)⟩
   | _=>exact stuck rfl
  | index=>cases d<;>exact stuck rfl
  | starts=>cases d<;>exact stuck rfl
noncomputable def Its (x:Str):It:=⟨fun i _=>i < x.cps.size,fun i H v H'=>H'=H/\∃ c,x.cps[i]? = some c/\v=.str ⟨#[c]⟩,fun i _=>x.cps.size<=i⟩
theorem nE {P:Program} {w:World} {K:PySem.W.Frag} {tg:Expr} {it:Addr} {x:Str} {t:Tok} {ty:String} (hty:ty = "str_ascii_iterator"∨ty = "str_iterator")
  (W:∀ A':Around,A'.handled=none->Walks P w A' it [it] [it] x.cps.size (SignAt x) (fun i h=>h.IsStrIter it ty x t i)):Turn P w K tg (Its x) [it] it (fun i h=>i<=x.cps.size/\h.IsStrIter it ty x t i) where
 mem:=by simp
 obj:=fun i h st b hb=>by
  have e:b=it:=by simpa using hb
  subst e
  obtain⟨_,o,e,c,d⟩:=st
  exact⟨o,e,fun v z=>by rw[d] at z;cases z⟩
 keep:=fun i h h' st k=>by
  obtain⟨l,o,e,c,d⟩:=st
  exact⟨l,o,k it (by simp) o e,c,d⟩
 item:=by
  intro X hP hw hK hc i pins s σ H E I hf st hg
  subst hP hw hK
  obtain⟨f0,f1,f2,f3,f4,f5⟩:=hf it (by simp)
  refine(W X.A (I.ok.hd hc)).item i s _ _ hg st.2 fun v h' tk hv st' kk=>?_
  obtain⟨c,u,hcx,rfl⟩:=hv
  have I1:Inv X pins σ H {s with heap:=h',toks:=tk}:=I.turned (fun b o hb e=>kk b o (by simpa using hb) e) f0 f1 f3 f4 f5
  obtain⟨o,e,cc,d⟩:=id st'
  refine⟨_,rfl,kb (s:={s with heap:=h',toks:=tk}) (n:=ty) e cc d (by rcases hty with rfl | rfl<;>decide) ⟨.str ⟨#[c]⟩,H,I1,⟨u,rfl⟩,⟨rfl,c,hcx,rfl⟩,⟨hg,st'⟩,fun b hb=>(hf b hb).1⟩⟩
 done:=by
  intro X hP hw hK hc i pins s σ H E I hf st hg
  subst hP hw hK
  obtain⟨f0,f1,f2,f3,f4,f5⟩:=hf it (by simp)
  have e:i=x.cps.size:=Nat.le_antisymm st.1 hg
  refine(W X.A (I.ok.hd hc)).done s _ _ (by rw[<- e];exact st.2) fun h' tk kk=>⟨rfl,I.turned (fun b o hb e=>kk b o (by simpa using hb) e) f0 f1 f3 f4 f5⟩
 self:=fun A i s Q E st h=>by
  obtain⟨_,st⟩:=st
  rcases hty with rfl | rfl
  ·exact wpAny_pyIter_striter_ascii st h
  ·exact wpAny_pyIter_striter_wide st h
theorem wa {tg:Expr} {pins:List (Addr×Obj)} {s:Shared} {σ:St} {H:Hp} {x:Str} {t:Tok} {R:It->Hp->Prop} (I:Inv X pins σ H s) (q:R (Its x) H):wpAny (model X.prog X.w) X.A (pyIter (.str x t)) (PIE X pins σ tg R) X.xe s:=by
 have fin:∀ ty,(ty = "str_ascii_iterator"∨ty = "str_iterator")->(∀ A':Around,A'.handled=none->Walks X.prog X.w A' s.heap.objs.size [s.heap.objs.size] [s.heap.objs.size] x.cps.size (SignAt x) (fun i h=>h.IsStrIter s.heap.objs.size ty x t i))->
   PIE X pins σ tg R (.ref s.heap.objs.size) {s with heap:=s.heap.push {cls:=.type ty,data:=.fields #[.str x t,.int 0 0]}}:=fun ty hty W=>by
  refine⟨s.heap.objs.size,[s.heap.objs.size],_,_,H,rfl,I.kept (t':=s.toks) fun b o e=>Heap.get?_push_of_some _ e,nE hty W,⟨Nat.zero_le _,_,Heap.get?_push_size _ rfl,rfl,rfl⟩,fun b hb=>?_,q⟩
  have e:b=s.heap.objs.size:=by simpa using hb
  subst e
  exact I.fpOk (Nat.le_refl _) (I.hok.fresh (Nat.le_refl _))
 cases ha:x.cps.all (· < 128)
 ·exact wpAny_pyIter_wide ha (fin _ (.inr rfl) fun A' hA=>Walks.strWide hA _ x t)
 ·exact wpAny_pyIter_ascii ha (fin _ (.inl rfl) fun A' hA=>Walks.strAscii hA _ x t)
end
theorem aD.at {P:Program} {w:World} {H:Hp} {h:Heap} {a:Addr} {o:HO} (x:aD P w H h a o):∃ ob,h.get? a=some ob:=by
 cases o with
 | lst xs=>obtain⟨_,_,_,_,e⟩:=x;exact⟨_,e⟩
 | tup xs=>obtain⟨_,_,_,ob,e,_⟩:=x;exact⟨_,e⟩
 | dK kvs=>obtain⟨_,_,_,_,o,_,_,e,_⟩:=x;exact⟨_,e⟩
 | dT kvs=>obtain⟨_,_,_,_,o,_,_,e,_⟩:=x;exact⟨_,e⟩
 | set S n=>obtain⟨o,_,_,_,e,_⟩:=x;exact⟨_,e⟩
 | ins C dx fs=>obtain⟨_,_,_,e,_⟩:=x;exact⟨_,e⟩
 | own y=>exact x
 | xd fs=>obtain⟨_,⟨_,_,_,e,_⟩,_⟩:=x;exact⟨_,e⟩
 | rng lo hi=>obtain⟨_,_,_,e⟩:=x;exact⟨_,e⟩
 | frz ob u=>exact⟨_,x.1⟩
 | tbl ps=>exact⟨_,x⟩
 | met f y=>exact⟨_,x⟩
 | ext φ=>exact x.2.1
noncomputable def indep:HO->Bool
 | .lst _=>true
 | .tup _=>true
 | .ext _=>true
 | .dK _=>true
 | _=>false
theorem eV {P:Program} {w:World} {H H':Hp} {h:Heap} {a:Addr} {u:HO} (i:indep u=true) (x:aD P w H h a u):aD P w H' h a u:=by
 cases u with
 | lst _=>exact x
 | tup _=>exact x
 | ext _=>exact x
 | dK _=>exact x
 | _=>cases i
noncomputable def aC (h:Heap) (H:Hp):Hp:=fun b=>match H b with
 | some (.lst xs)=>(h.get? b).map fun o=>.frz o (.lst xs)
 | some (.dK kvs)=>(h.get? b).map fun o=>.frz o (.dK kvs)
 | some (.tup xs)=>some (.tup xs)
 | some (.frz o u)=>if indep u=true then some (.frz o u) else none
 | _=>none
noncomputable def dq (H H':Hp):Hp:=fun b=>match H b with
 | some o=>some o
 | none=>H' b
noncomputable def LTH (H:Hp):Prop:=∀ b o,H b=some o->(∃ ob u,o=.frz ob u)∨∃ xs,o=.tup xs
theorem nG (h:Heap) (H:Hp):LTH (aC h H):=fun b o e=>by
 unfold aC at e
 split at e
 ·obtain⟨ob,_,rfl⟩:=Option.map_eq_some_iff.mp e
  exact .inl ⟨_,_,rfl⟩
 ·obtain⟨ob,_,rfl⟩:=Option.map_eq_some_iff.mp e
  exact .inl ⟨_,_,rfl⟩
 ·cases e;exact .inr ⟨_,rfl⟩
 ·split at e
  ·cases e;exact .inl ⟨_,_,rfl⟩
  ·cases e
 ·cases e
structure Pers (h:Heap) (Hc H':Hp):Prop where
 frzs:∀ b o u,Hc b=some (.frz o u)->H' b=some (.frz o u)
 tups:∀ b xs,Hc b=some (.tup xs)->H' b=some (.tup xs)
 free:∀ b o,h.get? b=some o->Hc b=none->H' b=none
inductive Bk (h:Heap) (H H':Hp) (b:Addr):HO->Prop where
 | lst {xs:List V} {ob:Obj}:h.get? b=some ob->H' b=some (.frz ob (.lst xs))->Bk h H H' b (.lst xs)
 | dK {xs:List (Key×V)} {ob:Obj}:h.get? b=some ob->H' b=some (.frz ob (.dK xs))->Bk h H H' b (.dK xs)
 | tup {xs:List V}:H' b=some (.tup xs)->Bk h H H' b (.tup xs)
 | frz {o:Obj} {u:HO}:indep u=true->H' b=some (.frz o u)->Bk h H H' b (.frz o u)
 | oth {o:HO} {ob:Obj}:h.get? b=some ob->aC h H b=none->H' b=none->(∀ xs,o≠.lst xs)->(∀ xs,o≠.tup xs)->(∀ xs,o≠.dK xs)->Bk h H H' b o
section
variable {P:Program} {w:World} {H H':Hp} {h g:Heap}
theorem f7 (x:HOk P w H h) (p:Pers h (aC h H) H') {b:Addr} {o:HO} (e:H b=some o):Bk h H H' b o:=by
 obtain⟨ob,he⟩:=(x b o e).at
 have hc:aC h H b=(match (some o:Option HO) with
  | some (.lst xs)=>(h.get? b).map fun o=>.frz o (.lst xs)
  | some (.dK kvs)=>(h.get? b).map fun o=>.frz o (.dK kvs)
  | some (.tup xs)=>some (.tup xs)
  | some (.frz o u)=>if indep u=true then some (.frz o u) else none
  | _=>none):=by unfold aC;rw[e]
 cases o with
 | lst xs=>
  have hc:aC h H b=(h.get? b).map fun o=>.frz o (.lst xs):=hc
  rw[he] at hc
  exact .lst he (p.frzs _ _ _ hc)
 | dK xs=>
  have hc:aC h H b=(h.get? b).map fun o=>.frz o (.dK xs):=hc
  rw[he] at hc
  exact .dK he (p.frzs _ _ _ hc)
 | tup xs=>exact .tup (p.tups _ _ hc)
 | frz o' u=>
  have hc:aC h H b=if indep u=true then some (.frz o' u) else none:=hc
  by_cases i:indep u=true
  ·rw[if_pos i] at hc
   exact .frz i (p.frzs _ _ _ hc)
  ·rw[if_neg i] at hc
   exact .oth he hc (p.free _ _ he hc) (fun _ z=>by cases z) (fun _ z=>by cases z) (fun _ z=>by cases z)
 | _=>exact .oth he hc (p.free _ _ he hc) (fun _ z=>by cases z) (fun _ z=>by cases z) (fun _ z=>by cases z)
theorem nH (x:HOk P w H h):HOk P w (aC h H) h:=fun b o e=>by
 cases q:H b with
 | none=>unfold aC at e;rw[q] at e;cases e
 | some u=>
  have y:=x b u q
  unfold aC at e
  rw[q] at e
  cases u with
  | lst xs=>
   obtain⟨ob,he⟩:=y.at
   have e:(h.get? b).map (fun o=>HO.frz o (.lst xs))=some o:=e
   rw[he] at e
   cases e
   exact⟨he,y⟩
  | dK xs=>
   obtain⟨ob,he⟩:=y.at
   have e:(h.get? b).map (fun o=>HO.frz o (.dK xs))=some o:=e
   rw[he] at e
   cases e
   exact⟨he,y⟩
  | tup xs=>cases e;exact y
  | frz o' u=>
   have e:(if indep u=true then some (HO.frz o' u) else none)=some o:=e
   by_cases i:indep u=true
   ·rw[if_pos i] at e;cases e;exact⟨y.1,eV i y.2⟩
   ·rw[if_neg i] at e;cases e
  | _=>cases e
theorem bB (e:H a=none):aC h H a=none:=by unfold aC;rw[e]
theorem res_some {b:Addr} {o:HO} (e:H b=some o):dq H H' b=some o:=by unfold dq;rw[e]
theorem res_none {b:Addr} (e:H b=none):dq H H' b=H' b:=by unfold dq;rw[e]
theorem iR:ak H (dq H H'):=fun b o e=>res_some e
theorem jH (x:HOk P w H h) (y:HOk P w H' g) (p:Pers h (aC h H) H') {fs:List Addr} (keep:∀ b o,h.get? b=some o->aC h H b=none->b ∉ fs->g.get? b=some o) (fr:∀ b ∈ fs,H b=none):HOk P w (dq H H') g:=by
 have tp:∀ c xs,H' c=some (.tup xs)->dq H H' c=some (.tup xs):=fun c xs e=>by
  cases q:H c with
  | none=>rw[res_none q];exact e
  | some o=>
   rw[res_some q]
   cases f7 x p q with
   | lst _ z=>rw[z] at e;cases e
   | dK _ z=>rw[z] at e;cases e
   | tup z=>rw[z] at e;exact e
   | frz _ z=>rw[z] at e;cases e
   | oth _ _ z _ _ _=>rw[z] at e;cases e
 intro b o e
 cases q:H b with
 | some o'=>
  rw[res_some q] at e
  cases e
  cases f7 x p q with
  | lst h1 z=>
   have h2:=(y b _ z).1
   obtain⟨a1,its,n,a2,a3⟩:=x b _ q
   rw[h1] at a3
   exact⟨a1,its,n,a2,by rw[h2,<- a3]⟩
  | dK h1 z=>exact eV rfl (y b _ z).2
  | tup z=>exact y b _ z
  | frz i z=>exact⟨(y b _ z).1,eV i (y b _ z).2⟩
  | oth h1 h2 z n1 n2 n3=>
   refine(x b _ q).stay (fun c u hc hu=>?_) (fun c hc=>res_some hc) fun c xs hc=>res_some hc
   rcases hc with rfl | hc
   ·exact keep _ _ hu h2 fun z=>by rw[fr _ z] at q;cases q
   ·refine keep _ _ hu ?_ fun z=>by rw[fr _ z] at hc;cases hc
    unfold aC
    rw[hc]
 | none=>
  rw[res_none q] at e
  refine(y b o e).stay (fun _ _ _ z=>z) (fun c hc=>?_) tp
  cases q':H c with
  | none=>rw[res_none q'];exact hc
  | some o'=>
   exfalso
   cases f7 x p q' with
   | lst _ z=>rw[z] at hc;cases hc
   | dK _ z=>rw[z] at hc;cases hc
   | tup z=>rw[z] at hc;cases hc
   | frz _ z=>rw[z] at hc;cases hc
   | oth _ _ z _ _ _=>rw[z] at hc;cases hc
theorem du {fs:List Addr} (u:Un fs [] (aC h H) H' h g):Pers h (aC h H) H':=⟨u.frzs,u.tups,fun b o e n=>u.free b o e n (by simp)⟩
theorem jI {fs:List Addr} (x:HOk P w H h) (u:Un fs [] (aC h H) H' h g):Un fs [] H (dq H H') h g where
 keep:=fun b o e n f i=>u.keep b o e (bB n) f i
 slot:=fun b o e n f i=>u.slot b o e (bB n) f i
 free:=fun b o e n i=>by rw[res_none n];exact u.free b o e (bB n) i
 there:=u.there
 tups:=fun b xs e=>res_some e
 frzs:=fun b o v e=>res_some e
 tbls:=fun b ps e=>⟨#[],by rw[res_some e];simp⟩
end
noncomputable def H0:Hp:=fun _=>none
noncomputable def CX1 (P:Program) (w:World):CXT:=fun outer H s E e s'=>∃ (a:Addr) (cls a0:Value) (H':Hp) (B:Heap),e=.ref a/\s'.os=s.os/\AllBare s'.gens/\Un (frs outer) [] H H' s.heap s'.heap/\HOk P w H' B/\ak H H'/\
 (∀ b o,s.heap.get? b=some o->H b=none->b ∉ frs outer->B.get? b=some o)/\Heap.FlyingW B outer a cls a0 s'.heap/\E cls none H0
noncomputable def xp1 (K:PySem.W.Frag):XK->Hp->Str->Prop:=fun E _ c=>∀ C,PySem.W.nsIn K mainGlobals c=some (some (.ref C))->E (.ref C) none H0
noncomputable def bg:List Str:=["len","sum","min","max","sorted","list","tuple","ord","int","all","any","str","set","abs","isinstance","range","bool","zip"]
noncomputable def kn:Bi->Nat
 | .len=>0 | .sum=>1 | .min2=>2 | .max2=>3 | .sorted=>4 | .list=>5 | .tuple=>6 | .ord=>7 | .int=>8 | .all=>9 | .any=>10 | .str=>11 | .set=>12 | .abs=>13
noncomputable def ko:Kd->Nat
 | .str=>11 | .int=>8 | .bool=>16 | .list=>5 | .tuple=>6
theorem wb (f:Bi):bg[kn f]? = some (dN f):=by cases f<;>rfl
theorem wc (f:Kd):bg[ko f]? = some (cZ f):=by cases f<;>rfl
structure Sg where
 nm:List Str
 kst:List (Nat×D)
 fns:List Nat
 cls:List Nat:=[]
 xt:List (Str×Nat×Bool):=[]
 pl:List Nat:=[]
 rc:List (Nat×Str):=[]
 xm:List (Str×Nat):=[]
noncomputable def Sg.name (Z:Sg) (n:Nat):Option Str:=(bg++Z.nm)[n]?
noncomputable def Gm.glc (G:Gm) (n:Nat):Bool:=G.cm && G.gl.contains n
theorem we {G:Gm} {n:Nat} (h:G.glc n=true):G.gl.contains n=true:=by
 unfold Gm.glc at h;rw[Bool.and_eq_true] at h;exact h.2
theorem wg {G:Gm} {n:Nat} (h:G.glc n=true):G.cm=true:=by
 unfold Gm.glc at h;rw[Bool.and_eq_true] at h;exact h.1
noncomputable def Sg.fnc (Z:Sg) (G:Gm) (f:Nat):Bool:=Z.fns.contains f && (G.cm || Z.pl.contains f)
theorem gN {Z:Sg} {G:Gm} {f:Nat} (h:Z.fnc G f=true):f ∈ Z.fns/\(G.cm=true∨f ∈ Z.pl):=by
 unfold Sg.fnc at h
 rw[Bool.and_eq_true,Bool.or_eq_true] at h
 exact⟨by simpa using h.1,h.2.elim .inl fun z=>.inr (by simpa using z)⟩
noncomputable def jJ:Mt->Bool
 | .join=>true
 | _=>false
noncomputable def notStar:Expr->Bool
 | .Starred ..=>false
 | _=>true
noncomputable def cb:Expr->Bool
 | .Slice ..=>false
 | _=>true
noncomputable def eW:Expr->Bool
 | .Call _ [] [] _=>false
 | _=>true
noncomputable def cI (G:Gm) (i:Nat) (x:Str):Bool:=G.N[i]? == some x && (G.kd[i]? == some .local || G.kd[i]? == some .cell || G.kd[i]? == some .free)
noncomputable def iS (Z:Sg) (G:Gm) (n:Nat) (x:Str):Bool:=Z.name n == some x && G.gl.contains n
noncomputable def yo:D->Const->Bool
 | .int i,.int j=>i == j
 | .str x,.str y=>x == y
 | .bl a,.bool b=>a == b
 | .non,.none=>true
 | _,_=>false
mutual
noncomputable def cB (G:Gm):Tg->Expr->Bool
 | .nm i,.Name x _=>G.N[i]? == some x && (G.kd[i]? == some .local || (G.df && G.kd[i]? == some .cell))
 | .tp ts,.Tuple es _ _=>G.cm && eX G ts es
 | _,_=>false
noncomputable def eX (G:Gm):List Tg->List Expr->Bool
 | [],[]=>true
 | t::ts,e::es=>notStar e && cB G t e && eX G ts es
 | _,_=>false
end
mutual
noncomputable def tgs:Tg->List Nat
 | .nm i=>[i]
 | .tp ts=>nJ ts
noncomputable def nJ:List Tg->List Nat
 | []=>[]
 | t::ts=>tgs t++nJ ts
end
noncomputable def bt (Z : Sg) (G : Gm) (scope : Scope) (G' : Gm) (fr : List Nat) : Bool :=
  (G.cm && scope.kind == .function) && !G'.tr && !G'.df && G'.kd.length == G'.N.length
  && scope.names.all (fun y => y.2 != .cell) && scope.names.all (fun y => y.2 != .local || scope.names.lookup y.1 == some .local)
  && scope.names.all (fun y => y.2 != .free || (List.range G.N.length).any fun i => G.N[i]? == some y.1 && (G.kd[i]? == some .cell || G.kd[i]? == some .free))
  && (List.range fr.length).all (fun j => G'.N[j]? == (fr[j]?).bind (G.N[·]?) && ((G'.N[j]?).bind (scope.names.lookup ·) == some .free) && ((fr[j]?).bind (G.kd[·]?) == some .cell || (fr[j]?).bind (G.kd[·]?) == some .free)
      && (G'.kd[j]? == some (if ((fr[j]?).bind (G.kd[·]?) == some .cell) then .cell else .free)))
  && decide (fr.length <= G'.N.length)
  && ((List.range G'.N.length).drop fr.length).all (fun j => (G'.N[j]?).bind (scope.names.lookup ·) == some .local && G'.kd[j]? == some .local)
  && G'.N.all (fun x => !(x == "__debug__") && !(x == "__classdict__"))
  && decide (G'.N.Nodup)
  && G'.gl.all (fun n => match Z.name n with | some x => scope.names.lookup x == some .globalImplicit | none => false)
theorem aa {P:Prop} (h:false=true):P:=by cases h
noncomputable def mf:List Comprehension->(Expr->Expr->List Expr->Bool)->Bool
 | [⟨t,it,fs,0⟩],k=>k t it fs
 | _,_=>false
theorem gO {gens:List Comprehension} {k:Expr->Expr->List Expr->Bool} (h:mf gens k=true):∃ t it fs,gens=[⟨t,it,fs,0⟩]/\k t it fs=true:=by
 unfold mf at h
 split at h
 ·exact⟨_,_,_,rfl,h⟩
 ·cases h
noncomputable def wj:Expr->Bool
 | .Tuple _ _ _=>true
 | _=>false
noncomputable def d9:Sr->Expr->Bool
 | .zip _ _,t=>wj t
 | _,_=>true
noncomputable def mh:Bool->CmpOp
 | true=>.NotIn
 | false=>.In
noncomputable def dcv:Expr->Bool
 | .Dict ks vs _=>ks.isEmpty && vs.isEmpty
 | _=>false
theorem nK {e:Expr} (h:dcv e=true):∃ p,e=.Dict [] [] p:=by
 cases e with
 | Dict ks vs p=>
  have h':=Bool.and_eq_true_iff.mp (show (ks.isEmpty && vs.isEmpty)=true from h)
  cases ks with
  | cons _ _=>exact aa h'.1
  | nil=>
   cases vs with
   | cons _ _=>exact aa h'.2
   | nil=>exact⟨p,rfl⟩
 | _=>exact aa h
noncomputable def cpx:Expr->(Expr->CmpOp->Expr->Bool)->Bool
 | .Compare l [o] [r] _,k=>k l o r
 | _,_=>false
theorem wm {e:Expr} {k:Expr->CmpOp->Expr->Bool} (h:cpx e k=true):∃ l o r p,e=.Compare l [o] [r] p/\k l o r=true:=by
 unfold cpx at h
 split at h
 ·exact⟨_,_,_,_,rfl,h⟩
 ·cases h
noncomputable def lrv:Expr->(Str->Str->Expr->Bool)->Bool
 | .Call (.Name x _) [.Call (.Name y _) [e] [] _] [] _,k=>k x y e
 | _,_=>false
theorem wo {e:Expr} {k:Str->Str->Expr->Bool} (h:lrv e k=true):∃ x p y p' e' q' q,e=.Call (.Name x p) [.Call (.Name y p') [e'] [] q'] [] q/\k x y e'=true:=by
 unfold lrv at h
 split at h
 ·exact⟨_,_,_,_,_,_,_,rfl,h⟩
 ·cases h
mutual
noncomputable def chk (Z:Sg) (G:Gm):IR->Expr->Bool
 | .c d,.Constant k _ _=>yo d k
 | .v i,.Name x _=>cI G i x
 | .bin op a b,.BinOp l o r _=>o == bop op && chk Z G a l && chk Z G b r
 | .neg a,.UnaryOp .USub e _=>chk Z G a e
 | .cmp op a b,.Compare l [o] [r] _=>o == cop op && chk Z G a l && chk Z G b r && !behindInMarks o r
 | .and_ a b,.BoolOp .And [e,e'] _=>chk Z G a e && chk Z G b e'
 | .and_ a b,.BoolOp .And (e::e'::e''::rest) p=>chk Z G a e && chk Z G b (.BoolOp .And (e'::e''::rest) p)
 | .or_ a b,.BoolOp .Or [e,e'] _=>chk Z G a e && chk Z G b e'
 | .or_ a b,.BoolOp .Or (e::e'::e''::rest) p=>chk Z G a e && chk Z G b (.BoolOp .Or (e'::e''::rest) p)
 | .not_ a,.UnaryOp .Not e _=>chk Z G a e
 | .tup es,.Tuple l _ _=>aW Z G es l
 | .lst es,.List l _=>aW Z G es l
 | .sl a lo hi,.Subscript e (.Slice l h none _) _=>chk Z G a e && jK Z G lo l && jK Z G hi h
 | .idx a i,.Subscript e s _=>cb s && chk Z G a e && chk Z G i s
 | .call f es,.Call (.Name x _) args [] _=>iS Z G f x && Z.fnc G f && aW Z G es args
 | .bi f es,.Call (.Name x _) (a::args) [] _=>x == dN f && G.glc (kn f) && aW Z G es (a::args)
 | .isi a k,.Call (.Name x _) [e,.Name y _] [] _=>x == "isinstance" && G.gl.contains 14 && y == cZ k && G.gl.contains (ko k) && notStar e && chk Z G a e
 | .dnew,e=>dcv e
 | .din n k a,e=>cpx e fun l o r=>o == mh n && chk Z G k l && chk Z G a r && !behindInMarks o r
 | .sset a,e=>lrv e fun x y e=>x == "sorted" && G.gl.contains 4 && y == "set" && G.gl.contains 12 && (notStar e && G.cm) && chk Z G a e
 | .mth m o es,.Call (.Attribute oe name apos) (a::args) [] cpos=>name == eU m && eW oe && apos.endLine == cpos.line && (decide ((a::args).length < 29) && (G.cm || jJ m)) && chk Z G o oe && aW Z G es (a::args)
 | .comp G' fr tg src ifs elt,.ListComp e gens scope _=>mf gens fun t it fs=>bt Z G scope G' fr && cB G' tg t && (tgs tg).all (fun i=>decide (fr.length<=i)) && (bS Z G src it && d9 src t) && aW Z G' ifs fs && chk Z G' elt e
 | _,_=>false
noncomputable def aW (Z:Sg) (G:Gm):List IR->List Expr->Bool
 | [],[]=>true
 | a::es,e::l=>notStar e && chk Z G a e && aW Z G es l
 | _,_=>false
noncomputable def jK (Z:Sg) (G:Gm):Option IR->Option Expr->Bool
 | none,none=>true
 | some a,some e=>chk Z G a e
 | _,_=>false
noncomputable def bS (Z:Sg) (G:Gm):Sr->Expr->Bool
 | .rng1 n,.Call (.Name x _) [e] [] _=>x == "range" && G.gl.contains 15 && notStar e && chk Z G n e
 | .zip a b,.Call (.Name x _) [e,e'] [] _=>x == "zip" && G.gl.contains 17 && notStar e && notStar e' && chk Z G a e && chk Z G b e'
 | .val a,e=>chk Z G a e
 | _,_=>false
end
noncomputable def bmV:List Value:=[.type "ValueError",.type "Exception",.type "BaseException",.type "object"]
noncomputable def FOk (F:Addr->Prop) (H:Hp):Prop:=∀ a,F a->H a≠none
structure Out (K:PySem.W.Frag) (F:Addr->Prop) (H:Hp) (F':Addr->Prop) (H':Hp) (v:V) (d:D) (fv:List Addr):Prop where
 fok:FOk F' H'
 same:ak H H'
 rep:MRep K F' H' v d fv
 nod:fv.Nodup
 new:∀ a ∈ fv,H a=none
 inn:∀ a,F a->F' a
 out:∀ a,F' a->F a∨H a=none
noncomputable def spF (K:PySem.W.Frag) (cl:Nat->List D->Res D) (xp:XK->Hp->Str->Prop) (f:Nat) (ps:List Str):Sp:=fun vs H Q E=>vs.length=ps.length/\LTH H/\∃ F ds,FOk F H/\HReps K F H vs ds/\
 PO' (xp E H) (cl f (ers ds)) fun d=>∀ v H' F' fv,Out K F H F' H' v d fv->Q v H'
structure FnC (P:Program) (w:World) (K:PySem.W.Frag) (mg:Str->Option Value) (base:Heap) (CX:CXT) (A:Around) (cl:Nat->List D->Res D) (xp:XK->Hp->Str->Prop) (f:Nat) (x:Str):Prop where
 ex:∃ (k:Nat) (fa:Addr) (fd:FuncData) (ps:List Str),mg x=some (.ref fa)/\PySem.W.keepIn K (.ref fa)=true/\Binds K fd ps []/\FnOk P w K mg base CX k fa fd ps (spF K cl xp f ps)/\Room k A/\
  ∀ (ex:Str->Prop) ds (k:D->Prop),PO' ex (cl f ds) k->ds.length=ps.length
structure TrOk (Z:Sg) (CX:CXT) (cl:Nat->List D->Res D) (xp:XK->Hp->Str->Prop) (X:Cx):Prop where
 st:X.stack=X.env::X.outer
 fr:X.env.frame=some X.env.locals
 lt:LTH X.H₀
 pl:∀ a:Addr,∀ f ∈ Z.fns,f ∈ Z.pl->∀ x,Z.name f=some x->FnC X.prog X.w X.K X.mg X.base CX (X.A.mark (some (.ref a))) cl xp f x
 cx:∀ (outer:List Env) (H:Hp) (s:Shared) (E:XK) (e:Value) (s':Shared),CX outer H s E e s'->CX1 X.prog X.w outer H s E e s'
 xp:∀ (c:Str) (C:Addr) (H:Hp),PySem.W.nsIn X.K mainGlobals c=some (some (.ref C))->xp (fun cls _ _=>cls=.ref C) H c
structure GOk (Z:Sg) (CX:CXT) (cl:Nat->List D->Res D) (xp:XK->Hp->Str->Prop) (X:Cx) (ex:Str->Prop) (G:Gm):Prop where
 N:X.N=G.N
 nod:G.N.Nodup
 calm:G.cm=true->X.calm=true
 fk:X.env.scope.kind=.function
 un:X.A.units + 42 < cLine
 own:G.rs=true->PassesOwn (model X.prog X.w) X.A X.env X.xe
 kd:∀ (i:Nat) (x:Str),G.N[i]? = some x->X.env.kindOf x=G.kd[i]?
 noD:∀ (i:Nat) (x:Str),G.N[i]? = some x->(x == ("__debug__" : Str))=false/\(x == ("__classdict__" : Str))=false
 gl:∀ n ∈ G.gl,∀ x,Z.name n=some x->Gl X x
 nam:∀ n x,Z.name n=some x->x≠"__name__"/\(x == ("__debug__" : Str))=false
 df:G.df=true->∀ x,X.fn x=true
 blt:∀ (n:Nat) (x:Str),bg[n]? = some x->X.mg x=none
 cst:∀ n d x,(n,d) ∈ Z.kst->Z.name n=some x->∃ u v,X.mg x=some u/\RelV v u/\∀ S H,HRep X.K S H v d
 fns:∀ f ∈ Z.fns,(G.cm=true∨f ∈ Z.pl)->∀ x,Z.name f=some x->FnC X.prog X.w X.K X.mg X.base CX X.A cl xp f x
 xcv:∀ n ∈ Z.cls,∀ x,Z.name n=some x->∃ v,CV X x v
 xcl:∀ c n b x,(c,n,b) ∈ Z.xt->Z.name n=some x->∃ C,PySem.W.nsIn X.K mainGlobals c=some (some (.ref C))/\ExcAt X.K C/\∀ v,CV X x v->PySem.W.kitOne X.K (.ref C) (vv v)=some b
 xmt:∀ c n x,(c,n) ∈ Z.xm->Z.name n=some x->∃ C C',PySem.W.nsIn X.K mainGlobals c=some (some (.ref C))/\PySem.W.nsIn X.K mainGlobals x=some (some (.ref C'))/\nameIn X.K C=some c/\X.mg x=some (.ref C')/\PySem.W.exmOne X.K (.ref C) (.ref C')=some true
 xrs:∀ n c,(n,c) ∈ Z.rc->Z.name n=some c/\∃ C,X.mg c=some (.ref C)/\PySem.W.nsIn X.K mainGlobals c=some (some (.ref C))/\PySem.W.excIn X.K C bmV "ValueError.__new__" = true
 rse:G.rs=true->∀ (pins:List (Addr×Obj)) (σ:St) (H:Hp) (s:Shared) (c:Str) (C:Addr) (h':Heap) (e:Addr) (vs:List Value),Inv X pins σ H s->ex c->PySem.W.nsIn X.K mainGlobals c=some (some (.ref C))->Heap.MadeExcOf s.heap h' e (.ref C) vs->X.xe (.ref e) {s with heap:=h'}
 tr:G.tr=true->TrOk Z CX cl xp X
 exs:∃ E:XK,Passes CX X E/\∀ c H,ex c->xp E H c
 hid:∀ (outer:List Env) (H:Hp) (s:Shared) (E:XK) (e:Value) (s':Shared),HOk X.prog X.w H s.heap->(∀ b ∈ frs outer,H b=none)->CX outer (aC s.heap H) s E e s'->CX outer H s E e s'
 exn:∀ (H:Hp) (outer:List Env) (s:Shared) (e:Value) (s':Shared),¬ CX outer H s (fun _ _ _=>False) e s'
section
variable {P:Program} {w:World} {H H':Hp} {h:Heap} {K:PySem.W.Frag} {Fc F':Addr->Prop}
theorem kq {vs:List V} {ds:List D} (x:HOk P w H h) (m:HReps K Fc H vs ds):HReps K (fun a=>Fc a/\aC h H a≠none) (aC h H) vs ds:=by
 refine(m.step (S':=Fc) (H':=aC h H) (fun a xs f r=>⟨f,?_⟩) fun a xs r=>?_).tight
 ·rcases r with r | ⟨o,r⟩
  ·obtain⟨ob,he⟩:=(x a _ r).at
   refine .inr ⟨ob,?_⟩
   unfold aC
   rw[r]
   cases xs with
   | l ys=>show (h.get? a).map _=_;rw[he];rfl
   | d ys=>show (h.get? a).map _=_;rw[he];rfl
  ·refine .inr ⟨o,?_⟩
   unfold aC
   rw[r]
   cases xs<;>rfl
 ·cases xs with
  | inl xs=>
   rcases r with (r | ⟨o,r⟩) | r
   ·refine .inl (.inl ?_)
    unfold aC
    rw[r]
   ·refine .inl (.inr ⟨o,?_⟩)
    unfold aC
    rw[r]
    rfl
   ·exact .inr r
  | inr c=>
   obtain⟨C,o,vs,h0,h1,h2,h3⟩:=r
   refine⟨C,o,vs,h0,h1,?_,h3⟩
   unfold aC
   rw[h2]
   rfl
theorem iT (x:HOk P w H h) (p:Pers h (aC h H) H') {a:Addr} (n:aC h H a=none) (e:H' a≠none):H a=none:=by
 cases q:H a with
 | none=>rfl
 | some o=>
  obtain⟨ob,he⟩:=(x a o q).at
  exact absurd (p.free a ob he n) e
theorem kr {v:V} {d:D} {fv:List Addr} (x:HOk P w H h) (fok:FOk Fc H) (p:Pers h (aC h H) H') (o:Out K (fun a=>Fc a/\aC h H a≠none) (aC h H) F' H' v d fv):Out K Fc H (fun a=>Fc a∨F' a) (dq H H') v d fv:=by
 have new:∀ a ∈ fv,H a=none:=fun a ha=>iT x p (o.new a ha) (by obtain⟨_,xs,e⟩:=o.rep.own a ha;rw[e];simp)
 refine⟨fun a ha=>?_,iR,o.rep.step (fun a xs f r=>⟨.inr f,?_⟩) (fun a xs r=>?_) fun a ha nf hn=>⟨fun z=>?_,res_none (new a ha)⟩,o.nod,new,fun a ha=>.inl ha,fun a ha=>?_⟩
 ·cases q:H a with
  | some u=>rw[res_some q];simp
  | none=>
   rw[res_none q]
   rcases ha with ha | ha
   ·exact absurd q (fok a ha)
   ·exact o.fok a ha
 ·cases q:H a with
  | none=>unfold Rd;rw[res_none q];exact r
  | some u=>
   unfold Rd
   rw[res_some q]
   cases f7 x p q with
   | lst _ z=>
    cases xs with
    | l ys=>
     rcases r with r | ⟨o',r⟩
     ·rw[z] at r;cases r
     ·rw[z] at r;cases r;exact .inl rfl
    | d ys=>rcases r with r | ⟨o',r⟩<;>(rw[z] at r;cases r)
   | dK _ z=>
    cases xs with
    | d ys=>
     rcases r with r | ⟨o',r⟩
     ·rw[z] at r;cases r
     ·rw[z] at r;cases r;exact .inl rfl
    | l ys=>rcases r with r | ⟨o',r⟩<;>(rw[z] at r;cases r)
   | tup z=>cases xs<;>rcases r with r | ⟨o',r⟩<;>(rw[z] at r;cases r)
   | frz _ z=>
    cases xs with
    | l ys=>
     rcases r with r | ⟨o',r⟩
     ·rw[z] at r;cases r
     ·rw[z] at r;cases r;exact .inr ⟨_,rfl⟩
    | d ys=>
     rcases r with r | ⟨o',r⟩
     ·rw[z] at r;cases r
     ·rw[z] at r;cases r;exact .inr ⟨_,rfl⟩
   | oth _ _ z _ _ _=>exact absurd z r.some
 ·cases xs with
  | inl xs=>
   rcases r with r | r
   ·refine .inl ?_
    cases q:H a with
    | none=>unfold Rd;rw[res_none q];exact r
    | some u=>
     unfold Rd
     rw[res_some q]
     cases f7 x p q with
     | lst _ z=>rcases r with r | ⟨o',r⟩<;>(rw[z] at r;cases r)
     | dK _ z=>rcases r with r | ⟨o',r⟩<;>(rw[z] at r;cases r)
     | tup z=>
      rcases r with r | ⟨o',r⟩
      ·rw[z] at r;cases r;exact .inl rfl
      ·rw[z] at r;cases r
     | frz _ z=>
      rcases r with r | ⟨o',r⟩
      ·rw[z] at r;cases r
      ·rw[z] at r;cases r;exact .inr ⟨_,rfl⟩
     | oth _ _ z _ _ _=>exact absurd z r.some
   ·exact .inr r
  | inr c=>
   obtain⟨C,ob,vs,h0,h1,h2,h3⟩:=r
   refine⟨C,ob,vs,h0,h1,?_,h3⟩
   cases q:H a with
   | none=>rw[res_none q];exact h2
   | some u=>
    rw[res_some q]
    cases f7 x p q with
    | lst _ z=>rw[z] at h2;cases h2
    | dK _ z=>rw[z] at h2;cases h2
    | tup z=>rw[z] at h2;cases h2
    | frz _ z=>rw[z] at h2;cases h2;rfl
    | oth _ _ z _ _ _=>rw[z] at h2;cases h2
 ·rcases z with z | z
  ·exact fok a z (new a ha)
  ·exact nf z
 ·rcases ha with ha | ha
  ·exact .inl ha
  ·rcases o.out a ha with z | z
   ·exact .inl z.1
   ·exact .inr (iT x p z (o.fok a ha))
end
section
variable {X:Cx} {CX:CXT} {cl:Nat->List D->Res D} {xp:XK->Hp->Str->Prop}
theorem Inv.env0h {pins:List (Addr×Obj)} {σ:St} {H:Hp} {s:Shared} (I:Inv X pins σ H s):Env0 X.prog X.w X.K X.mg X.base X.A X.stack s (aC s.heap H):=
 ⟨I.env0.frames,I.env0.mod,fun b o e=>⟨(I.env0.bs b o e).1,bB (I.env0.bs b o e).2⟩,I.env0.bsz,I.env0.funs,fun b hb=>bB (I.env0.frf b hb),nH I.hok,I.env0.bare⟩
theorem ku {k:Nat} {f:Nat} {fa:Addr} {fd:FuncData} {ps:List Str} {E:XK} {pins:List (Addr×Obj)} {σ:St} {H:Hp} {s:Shared} {Q:VK} {us:List Value} {vs:List V} {ds:List D} {Fc:Addr->Prop}
  (F:FnOk X.prog X.w X.K X.mg X.base CX k fa fd ps (spF X.K cl xp f ps)) (hr:Room k X.A) (hb:Binds X.K fd ps []) (hx:Passes CX X E)
  (hh:∀ (outer:List Env) (H:Hp) (s:Shared) (E:XK) (e:Value) (s':Shared),HOk X.prog X.w H s.heap->(∀ b ∈ frs outer,H b=none)->CX outer (aC s.heap H) s E e s'->CX outer H s E e s')
  (I:Inv X pins σ H s) (r:Vals vs us) (hl:vs.length=ps.length) (fok:FOk Fc H) (m:HReps X.K Fc H vs ds)
  (q:PO' (xp E (aC s.heap H)) (cl f (ers ds)) fun d=>∀ v H' F' fv,Out X.K Fc H F' H' v d fv->Q v H'):wpAny (model X.prog X.w) X.A (call (.ref fa) us) (EP X pins σ Q) X.xe s:=by
 have hsp:spF X.K cl xp f ps vs (aC s.heap H) (fun v H'=>Pers s.heap (aC s.heap H) H'->Q v (dq H H')) E:=
  ⟨hl,nG _ _,_,ds,fun a h=>h.2,kq I.hok m,q.mono fun d hd v H' F' fv o p=>hd v _ _ fv (kr I.hok fok p o)⟩
 have hl2:(us++([]:List Value)).length=ps.length:=by rw[List.append_nil,<- r.length];exact hl
 have bd:=hb s us I.kIn hl2
 rw[List.append_nil] at bd
 refine wpAny_call (codeAny_mono (F.run X.A X.stack s (aC s.heap H) ⟨us,[]⟩ us vs _ E hr I.env0h bd r hsp) fun r' s' hq=>?_)
 cases r' with
 | error e=>exact hx pins σ H s e s' I (hh X.stack H s E e s' I.hok I.env0.frf hq)
 | ok fl=>
  cases fl with
  | ret u=>
   obtain⟨v,H',a1,a2,a3,a4,a5,a6⟩:=hq
   exact I.after (Q:=Q) ⟨v,dq H H',a1,a2,jI I.hok a3,jH I.hok a4 (du a3) (fs:=frs X.stack) (fun b o e n f=>a3.keep b o e n f (by simp)) I.env0.frf,a5,a6 (du a3)⟩
  | next=>exact False.elim hq
  | brk=>exact False.elim hq
  | cont=>exact False.elim hq
end
noncomputable def Slots (K:PySem.W.Frag) (S:Addr->Prop) (H:Hp) (σ:St) (τ:Ev) (is:List Nat):Prop:=∀ i ∈ is,∀ d,ai τ i=some d->∃ v,σ[i]? = some (some v)/\HRep K S H v d
theorem Slots.sub {K:PySem.W.Frag} {S:Addr->Prop} {H:Hp} {σ:St} {τ:Ev} {is js:List Nat} (h:Slots K S H σ τ is) (s:∀ i ∈ js,i ∈ is):Slots K S H σ τ js:=fun i hi d e=>h i (s i hi) d e
theorem Slots.left {K:PySem.W.Frag} {S:Addr->Prop} {H:Hp} {σ:St} {τ:Ev} {is js:List Nat} (h:Slots K S H σ τ (is++js)):Slots K S H σ τ is:=h.sub fun _ hi=>List.mem_append_left _ hi
theorem Slots.right {K:PySem.W.Frag} {S:Addr->Prop} {H:Hp} {σ:St} {τ:Ev} {is js:List Nat} (h:Slots K S H σ τ (is++js)):Slots K S H σ τ js:=h.sub fun _ hi=>List.mem_append_right _ hi
theorem Slots.go {K:PySem.W.Frag} {S:Addr->Prop} {H H':Hp} {σ:St} {τ:Ev} {is:List Nat} (h:Slots K S H σ τ is) (e:ak H H'):Slots K (nw S H) H' σ τ is:=fun i hi d z=>by
 obtain⟨v,h1,h2⟩:=h i hi d z
 exact⟨v,h1,h2.mono (fun _=>.inl) e⟩
noncomputable def RD (K:PySem.W.Frag) (ex:Str->Prop) (is:List Nat) (f:Ev->Res D):TE:=fun σ H Q=>∃ S τ,Slots K S H σ τ is/\PO' ex (f τ) (Kk K S H Q)
noncomputable def RT (K:PySem.W.Frag) (ex:Str->Prop) (is:List Nat) (f:Ev->Res Bool):TT:=fun σ H Q=>∃ S τ,Slots K S H σ τ is/\PO' ex (f τ) fun b=>∀ H',ak H H'->Q b H'
noncomputable def RA (K:PySem.W.Frag) (ex:Str->Prop) (is:List Nat) (f:Ev->Res (List D)):TA:=fun σ H Q=>∃ S τ,Slots K S H σ τ is/\PO' ex (f τ) fun ds=>∀ vs H',ak H H'->HReps K (nw S H) H' vs ds->Q vs H'
noncomputable def ROp (K:PySem.W.Frag) (ex:Str->Prop) (is:List Nat) (f:Ev->Res (Option Int)):TO:=fun σ H Q=>∃ S τ,Slots K S H σ τ is/\PO' ex (f τ) fun o=>∀ H',ak H H'->Q o H'
noncomputable def WS (K:PySem.W.Frag) (S:Addr->Prop) (H:Hp) (k:Zp.Kq) (a:Addr) (xs:List V):Prop:=match k with
 | .l=>(S a/\Rd H a (.lst xs))∨KL K a xs
 | .t=>SqT K H a xs
theorem WS.sq {K:PySem.W.Frag} {S:Addr->Prop} {H:Hp} {k:Zp.Kq} {a:Addr} {xs:List V} (h:WS K S H k a xs):SqK K H k a xs:=by
 cases k with
 | l=>exact h.elim (fun z=>.inl z.2) fun z=>z.sq
 | t=>exact h
inductive Wlk (K:PySem.W.Frag) (S:Addr->Prop) (H:Hp):It->List D->Prop where
 | lst {a:Addr} {xs:List V} {ds:List D}:S a->Rd H a (.lst xs)->HReps K S H xs ds->Wlk K S H (Itl K a) ds
 | lstK {a:Addr} {xs:List V} {ds:List D}:KL K a xs->HReps K S H xs ds->Wlk K S H (Itl K a) ds
 | tup {a:Addr} {xs:List V} {ds:List D}:SqT K H a xs->HReps K S H xs ds->Wlk K S H (Itt K a) ds
 | rng (lo hi:Int):Wlk K S H (Itr lo (hi - lo).toNat) (bp lo hi)
 | str (x:Str):Wlk K S H (Its x) (cA x)
 | zip {p q:Zp.Kq} {l m:Addr} {xs ys:List V} {ds es:List D}:WS K S H p l xs->WS K S H q m ys->HReps K S H xs ds->HReps K S H ys es->Wlk K S H (Itz K p q l m) (cQ ds es)
noncomputable def RI (K:PySem.W.Frag) (ex:Str->Prop) (is:List Nat) (f:Ev->Res (List D)):TI:=fun σ H R=>∃ S τ,Slots K S H σ τ is/\PO' ex (f τ) fun ds=>∀ J H',ak H H'->Wlk K (nw S H) H' J ds->R J H'
theorem f9 {S:Addr->Prop} {H H1:Hp} (e:ak H H1):∀ a,nw (nw S H) H1 a->nw S H a:=fun a h=>by
 rcases h with h | h
 ·exact h
 ·exact .inr (e.free h)
section
variable {Z:Sg} {CX:CXT} {cl:Nat->List D->Res D} {xp:XK->Hp->Str->Prop} {X:Cx} {ex:Str->Prop} {G:Gm}
theorem Kk.fit {K:PySem.W.Frag} {S:Addr->Prop} {H H1:Hp} {Q:VK} {d:D} (e:ak H H1) (h:Kk K S H Q d):Kk K (nw S H) H1 Q d:=fun w H' e' m=>h w H' (e.trans e') (m.mono (f9 e) (.refl _))
theorem sT (g:GOk Z CX cl xp X ex G) {n:Nat} {x:Str} (h:iS Z G n x=true):Gl X x/\Z.name n=some x/\x≠"__name__"/\(x == ("__debug__" : Str))=false:=by
 unfold iS at h
 rw[Bool.and_eq_true] at h
 have e:Z.name n=some x:=eq_of_beq h.1
 exact⟨g.gl n (by simpa using h.2) x e,e,g.nam n x e⟩
theorem sU (Z:Sg) {n:Nat} {x:Str} (h:bg[n]? = some x):Z.name n=some x:=by
 unfold Sg.name
 rw[List.getElem?_append_left (List.getElem?_eq_some_iff.mp h).1]
 exact h
theorem dX (g:GOk Z CX cl xp X ex G) {n:Nat} {x:Str} (h:bg[n]? = some x) (hc:G.gl.contains n=true):Gl X x/\X.mg x=none/\x≠"__name__"/\(x == ("__debug__" : Str))=false:=
 ⟨g.gl n (by simpa using hc) x (sU Z h),g.blt n x h,g.nam n x (sU Z h)⟩
theorem ag {e:Expr} (h:notStar e=true) (es:List Expr) (env:Env):starEach (e::es) env=(false,eval e env)::starEach es env:=by
 cases e<;>first | rfl | cases h
theorem bI (Z:Sg) (G:Gm):∀ {es:List IR} {l:List Expr} (p:Pos) (env:Env),aW Z G es l=true->(backTo p (starEach l env)).any (·.1)=false
 | [],[],_,_,_=>rfl
 | a::es,e::l,p,env,h=>by
  have h':(notStar e && chk Z G a e && aW Z G es l)=true:=h
  simp only[Bool.and_eq_true] at h'
  rw[ag h'.1.1]
  have ih:=bI Z G (es:=es) (l:=l) p env h'.2
  show (false || (backTo p (starEach l env)).any (·.1))=false
  rw[ih]
  rfl
 | [],_::_,_,_,h=>by cases h
 | _::_,[],_,_,h=>by cases h
theorem rL {d:D} {v:V} (h:∀ S H,HRep X.K S H v d) {σ:St} {H:Hp} {Q:VK} {is:List Nat} (q:RD X.K ex is (fun _=>.ok d) σ H Q):Q v H:=by
 obtain⟨S,τ,_,q⟩:=q
 exact q.ok _ _ (.refl _) (h _ _)
theorem yp {e:Expr} {is:List Nat} {f:Ev->Res D} (h:PE X e (RD X.K ex is f)) (he:∀ whole,isTrue e X.env whole=(do let v <- whole;standAt e.pos;holding [v] (truthy v))):PT X e (RT X.K ex is fun τ=>bnd (f τ) aI):=by
 intro pins s σ H Q I hw
 obtain⟨S,τ,hs,hw⟩:=hw
 refine isTrue_plain (thn (h pins s σ H (fun v H'=>∃ d,ak H H'/\HRep X.K (nw S H) H' v d/\PO' ex (aI d) fun b=>∀ H',ak H H'->Q b H') I ⟨S,τ,hs,(PO'.bnd hw).mono fun d hd v H' e m=>⟨d,e,m,hd⟩⟩) fun v s1 ⟨x,H1,I1,r1,d,e,m,hd⟩=>?_) (he _)
 exact en I1 r1 m (hd.mono fun b z=>z H1 e)
end
section
variable {Z:Sg} {CX:CXT} {cl:Nat->List D->Res D} {xp:XK->Hp->Str->Prop} {X:Cx} {ex:Str->Prop} {G:Gm} {K:PySem.W.Frag} {S:Addr->Prop} {H H1:Hp} {σ:St} {τ:Ev}
theorem bb {is:List Nat} {f:Ev->Res D} {Kt:D->Prop} {Q:VK} (e:ak H H1) (hs:Slots K S H σ τ is) (h:PO' ex (f τ) Kt) (k:∀ x v H2,ak H H2->ak H1 H2->HRep K (nw S H) H2 v x->Kt x->Q v H2):RD K ex is f σ H1 Q:=
 ⟨nw S H,τ,hs.go e,h.mono fun x hx v H2 e2 m=>k x v H2 (e.trans e2) e2 (m.mono (f9 e) (.refl _)) hx⟩
theorem gP {is:List Nat} {f:Ev->Res Bool} {Kt:Bool->Prop} {Q:Bool->Hp->Prop} (e:ak H H1) (hs:Slots K S H σ τ is) (h:PO' ex (f τ) Kt) (k:∀ x H2,ak H H2->ak H1 H2->Kt x->Q x H2):RT K ex is f σ H1 Q:=
 ⟨nw S H,τ,hs.go e,h.mono fun x hx H2 e2=>k x H2 (e.trans e2) e2 hx⟩
theorem jL {is:List Nat} {f:Ev->Res (List D)} {Kt:List D->Prop} {Q:List V->Hp->Prop} (e:ak H H1) (hs:Slots K S H σ τ is) (h:PO' ex (f τ) Kt) (k:∀ x v H2,ak H H2->ak H1 H2->HReps K (nw S H) H2 v x->Kt x->Q v H2):RA K ex is f σ H1 Q:=
 ⟨nw S H,τ,hs.go e,h.mono fun x hx v H2 e2 m=>k x v H2 (e.trans e2) e2 (m.mono (f9 e) (.refl _)) hx⟩
theorem rM {is:List Nat} {f:Ev->Res (Option Int)} {Kt:Option Int->Prop} {Q:Option Int->Hp->Prop} (e:ak H H1) (hs:Slots K S H σ τ is) (h:PO' ex (f τ) Kt) (k:∀ x H2,ak H H2->ak H1 H2->Kt x->Q x H2):ROp K ex is f σ H1 Q:=
 ⟨nw S H,τ,hs.go e,h.mono fun x hx H2 e2=>k x H2 (e.trans e2) e2 hx⟩
theorem HRep.later {v:V} {d:D} {H2:Hp} (h:HRep K (L2.nw S H) H1 v d) (e:ak H1 H2):HRep K (L2.nw S H) H2 v d:=h.mono (fun _ z=>z) e
theorem HReps.later {v:List V} {d:List D} {H2:Hp} (h:HReps K (L2.nw S H) H1 v d) (e:ak H1 H2):HReps K (L2.nw S H) H2 v d:=h.mono (fun _ z=>z) e
theorem s_v (g:GOk Z CX cl xp X ex G) {i:Nat} {x:Str} {pos:Pos} (h:cI G i x=true):PE X (.Name x pos) (RD X.K ex [i] (evR cl (.v i))):=by
 unfold cI at h
 rw[Bool.and_eq_true] at h
 have hx:G.N[i]? = some x:=eq_of_beq h.1
 have hk:=g.kd i x hx
 have hv:Vis X.env.scope x:=by
  have h2:=h.2
  rw[Bool.or_eq_true,Bool.or_eq_true] at h2
  rcases h2 with (h2 | h2) | h2
  ·exact .inl (hk.trans (eq_of_beq h2))
  ·exact .inr (.inl (hk.trans (eq_of_beq h2)))
  ·exact .inr (.inr (hk.trans (eq_of_beq h2)))
 refine ay (mB (i:=i) (by rw[g.N];exact hx) hv (g.noD i x hx).1 (g.noD i x hx).2) fun σ H Q q=>?_
 obtain⟨S,τ,hs,q⟩:=q
 rw[yk] at q
 cases z:ai τ i with
 | none=>rw[z] at q;exact q.no.elim
 | some d=>
  rw[z] at q
  obtain⟨v,h1,h2⟩:=hs i (by simp) d z
  exact⟨v,h1,q.ok _ _ (.refl _) h2.nw⟩
theorem s_c {d:D} {k:Const} {j:Nat} {pos:Pos} (h:yo d k=true):PE X (.Constant k j pos) (RD X.K ex [] (evR cl (.c d))):=by
 cases d with
 | non=>
  cases k with
  | none=>exact ay vf fun σ H Q q=>rL (fun _ _=>.non) q
  | _=>cases h
 | bl b=>
  cases k with
  | bool b'=>
   have e:b=b':=eq_of_beq h
   subst e
   exact ay xG fun σ H Q q=>rL (fun _ _=>.bl _) q
  | _=>cases h
 | int b=>
  cases k with
  | int b'=>
   have e:b=b':=eq_of_beq h
   subst e
   exact ay ve fun σ H Q q=>rL (fun _ _=>.int _) q
  | _=>cases h
 | str b=>
  cases k with
  | str b'=>
   have e:b=b':=eq_of_beq h
   subst e
   exact ay vg fun σ H Q q=>rL (fun _ _=>.str _) q
  | _=>cases h
 | tup _=>cases k<;>cases h
 | lst _ _=>cases k<;>cases h
 | exc _=>cases k<;>cases h
 | dct o ks ds=>cases k<;>cases h
theorem yq {op:BOp} {a b:Expr} {pos:Pos} {va vb:List Nat} {fa fb:Ev->Res D} (ha:PE X a (RD X.K ex va fa)) (hb:PE X b (RD X.K ex vb fb)) :
  PE X (.BinOp a (bop op) b pos) (RD X.K ex (va++vb) fun τ=>bnd (fa τ) fun x=>bnd (fb τ) fun y=>opB op x y):=by
 refine ay (sQ (v8 (ex:=ex) op) ha hb) fun σ H Q ⟨S,τ,hs,q⟩=>?_
 refine bb (.refl _) hs.left (PO'.bnd q) fun x v H1 e1 _ m1 q1=>?_
 refine bb e1 hs.right (PO'.bnd q1) fun y w H2 e2 e2' m2 q2=>?_
 exact⟨nw S H,x,y,m1.later e2',m2,q2.mono fun d hd=>hd.fit e2⟩
theorem yr {a:Expr} {pos:Pos} {va:List Nat} {fa:Ev->Res D} (ha:PE X a (RD X.K ex va fa)) :
  PE X (.UnaryOp .USub a pos) (RD X.K ex va fun τ=>bnd (fa τ) fun | .int i=>.ok (.int (-i)) | _=>stk):=by
 refine ay (xQ vG ha) fun σ H Q ⟨S,τ,hs,q⟩=>?_
 refine bb (.refl _) hs (PO'.bnd q) fun x v H1 e1 _ m1 q1=>?_
 cases x with
 | int i=>cases m1.intR;exact⟨i,rfl,q1.ok _ _ e1 (.int _)⟩
 | _=>exact q1.no.elim
theorem yt (g:GOk Z CX cl xp X ex G) {op:COp} {a b:Expr} {pos:Pos} {va vb:List Nat} {fa fb:Ev->Res D} (ha:PE X a (RD X.K ex va fa)) (hb:PE X b (RD X.K ex vb fb)) (hm:behindInMarks (cop op) b=false) :
  PE X (.Compare a [cop op] [b] pos) (RD X.K ex (va++vb) fun τ=>bnd (fa τ) fun x=>bnd (fb τ) fun y=>bnd (opC op x y) fun r=>.ok (.bl r))/\
  PT X (.Compare a [cop op] [b] pos) (RT X.K ex (va++vb) fun τ=>bnd (bnd (fa τ) fun x=>bnd (fb τ) fun y=>bnd (opC op x y) fun r=>.ok (.bl r)) aI):=by
 refine⟨ay (qO (ny (ex:=ex) g.un op) ha hb hm) fun σ H Q ⟨S,τ,hs,q⟩=>?_,dE (qP (ny (ex:=ex) g.un op) ha hb hm) fun σ H Q ⟨S,τ,hs,q⟩=>?_⟩
 ·refine bb (.refl _) hs.left (PO'.bnd q) fun x v H1 e1 _ m1 q1=>?_
  refine bb e1 hs.right (PO'.bnd q1) fun y w H2 e2 e2' m2 q2=>?_
  exact⟨nw S H,x,y,m1.later e2',m2,(PO'.bnd q2).mono fun d hd=>hd.ok _ _ e2 (.bl _)⟩
 ·refine bb (.refl _) hs.left (PO'.bnd (PO'.bnd q)) fun x v H1 e1 _ m1 q1=>?_
  refine bb e1 hs.right (PO'.bnd q1) fun y w H2 e2 e2' m2 q2=>?_
  exact⟨nw S H,x,y,m1.later e2',m2,(PO'.bnd q2).mono fun d hd=>⟨d,rfl,hd.ok.ok H2 e2⟩⟩
theorem sV {a b:Expr} {rest:List Expr} {pos:Pos} {va vb:List Nat} {fa fb:Ev->Res D} (ha:PE X a (RD X.K ex va fa)) (hb:PE X (.BoolOp .And (b::rest) pos) (RD X.K ex vb fb)) :
  PE X (.BoolOp .And (a::b::rest) pos) (RD X.K ex (va++vb) fun τ=>bnd (fa τ) fun x=>bnd (aI x) fun r=>if r=true then fb τ else .ok x):=by
 intro pins s σ H Q I h
 obtain⟨S,τ,hs,q⟩:=h
 refine BoolOp_and (thn (ha pins s σ H (fun v H'=>∃ d,ak H H'/\HRep X.K (nw S H) H' v d/\_) I (bb (.refl _) hs.left (PO'.bnd q) fun x v H1 e1 _ m1 q1=>⟨x,e1,m1,q1⟩)) fun v s1 ⟨x,H1,I1,r1,d,e1,m1,q1⟩=>?_)
 refine thn (en (Q:=fun b H'=>H'=H1/\PO' ex (if b=true then fb τ else .ok d) (Kk X.K S H Q)) I1 r1 m1 ((PO'.bnd q1).mono fun b z=>⟨rfl,z⟩)) fun c s2 ⟨H2,I2,e2,q2⟩=>?_
 subst e2
 cases c with
 | true=>
  rw[if_pos rfl] at q2 ⊢
  exact hb pins s2 σ _ Q I2 (bb e1 hs.right q2 fun y w H3 e3 _ m3 q3=>q3 _ _ e3 m3)
 | false=>
  rw[if_neg Bool.false_ne_true] at q2 ⊢
  exact⟨x,_,I2,r1,q2.ok _ _ e1 m1⟩
theorem yu {a b:Expr} {rest:List Expr} {pos:Pos} {va vb:List Nat} {fa fb:Ev->Res D} (ha:PE X a (RD X.K ex va fa)) (hb:PE X (.BoolOp .Or (b::rest) pos) (RD X.K ex vb fb)) :
  PE X (.BoolOp .Or (a::b::rest) pos) (RD X.K ex (va++vb) fun τ=>bnd (fa τ) fun x=>bnd (aI x) fun r=>if r=true then .ok x else fb τ):=by
 intro pins s σ H Q I h
 obtain⟨S,τ,hs,q⟩:=h
 refine BoolOp_or (thn (ha pins s σ H (fun v H'=>∃ d,ak H H'/\HRep X.K (nw S H) H' v d/\_) I (bb (.refl _) hs.left (PO'.bnd q) fun x v H1 e1 _ m1 q1=>⟨x,e1,m1,q1⟩)) fun v s1 ⟨x,H1,I1,r1,d,e1,m1,q1⟩=>?_)
 refine thn (en (Q:=fun b H'=>H'=H1/\PO' ex (if b=true then .ok d else fb τ) (Kk X.K S H Q)) I1 r1 m1 ((PO'.bnd q1).mono fun b z=>⟨rfl,z⟩)) fun c s2 ⟨H2,I2,e2,q2⟩=>?_
 subst e2
 cases c with
 | false=>
  rw[if_neg Bool.false_ne_true] at q2 ⊢
  exact hb pins s2 σ _ Q I2 (bb e1 hs.right q2 fun y w H3 e3 _ m3 q3=>q3 _ _ e3 m3)
 | true=>
  rw[if_pos rfl] at q2 ⊢
  exact⟨x,_,I2,r1,q2.ok _ _ e1 m1⟩
theorem yv {a:Expr} {pos:Pos} {va:List Nat} {fa:Ev->Res D} (ha:PE X a (RD X.K ex va fa)) (ht:PT X a (RT X.K ex va fun τ=>bnd (fa τ) aI)) :
  PE X (.UnaryOp .Not a pos) (RD X.K ex va fun τ=>bnd (fa τ) fun x=>bnd (aI x) fun r=>.ok (.bl !r))/\PT X (.UnaryOp .Not a pos) (RT X.K ex va fun τ=>bnd (bnd (fa τ) fun x=>bnd (aI x) fun r=>.ok (.bl !r)) aI):=by
 constructor
 ·intro pins s σ H Q I h
  obtain⟨S,τ,hs,q⟩:=h
  refine UnaryOp_ (thn (ha pins s σ H (fun v H'=>∃ d,ak H H'/\HRep X.K (nw S H) H' v d/\_) I (bb (.refl _) hs (PO'.bnd q) fun x v H1 e1 _ m1 q1=>⟨x,e1,m1,q1⟩)) fun v s1 ⟨x,H1,I1,r1,d,e1,m1,q1⟩=>?_)
  refine not_of (thn (en (Q:=fun b H'=>Q (.bl !b) H') I1 r1 m1 ((PO'.bnd q1).mono fun b z=>z.ok _ _ e1 (.bl _))) fun c s2 ⟨H2,I2,q2⟩=>⟨.bl !c,H2,I2,rfl,q2⟩)
 ·refine dE (vk ht) fun σ H Q ⟨S,τ,hs,q⟩=>?_
  exact gP (.refl _) hs (PO'.mk ((PO'.bnd (PO'.bnd q)).mono fun x hx=>(PO'.bnd hx).mono fun r hr=>hr.ok.ok)) fun x H2 e2 _ k=>k H2 e2
theorem nL {e:Expr} {pos:Pos} {op:BoolOp} {es:List Expr} {t:TT} (h:PT X (.BoolOp op es pos) t):PW X (.BoolOp op es pos) t:=fun _ pins s σ H Q I q=>h pins s σ H Q I q
theorem sW {a b:Expr} {rest:List Expr} {pos:Pos} {va vb:List Nat} {fa fb:Ev->Res D} (ha:PT X a (RT X.K ex va fun τ=>bnd (fa τ) aI)) (hb:PW X (.BoolOp .And (b::rest) pos) (RT X.K ex vb fun τ=>bnd (fb τ) aI)) :
  PT X (.BoolOp .And (a::b::rest) pos) (RT X.K ex (va++vb) fun τ=>bnd (bnd (fa τ) fun x=>bnd (aI x) fun r=>if r=true then fb τ else .ok x) aI):=by
 refine dE (vj ha hb).pt fun σ H Q ⟨S,τ,hs,q⟩=>?_
 refine gP (.refl _) hs.left (Kt:=fun r=>PO' ex (if r=true then bnd (fb τ) aI else .ok false) fun b=>∀ H',ak H H'->Q b H') (PO'.mk ((PO'.bnd (PO'.bnd q)).mono fun x hx=>(PO'.bnd hx).eq.mono fun r hr=>?_)) fun r H2 e2 _ k=>?_
 ·obtain⟨er,hr⟩:=hr
  cases r with
  | true=>rw[if_pos rfl] at hr ⊢;exact PO'.mk hr
  | false=>
   rw[if_neg Bool.false_ne_true] at hr ⊢
   have hr':PO' ex (aI x) _:=hr
   rw[er] at hr'
   exact hr'
 ·cases r with
  | true=>rw[if_pos rfl] at k ⊢;exact gP e2 hs.right k fun b H3 e3 _ z=>z H3 e3
  | false=>rw[if_neg Bool.false_ne_true] at k ⊢;exact k.ok H2 e2
theorem yy {a b:Expr} {rest:List Expr} {pos:Pos} {va vb:List Nat} {fa fb:Ev->Res D} (ha:PT X a (RT X.K ex va fun τ=>bnd (fa τ) aI)) (hb:PW X (.BoolOp .Or (b::rest) pos) (RT X.K ex vb fun τ=>bnd (fb τ) aI)) :
  PT X (.BoolOp .Or (a::b::rest) pos) (RT X.K ex (va++vb) fun τ=>bnd (bnd (fa τ) fun x=>bnd (aI x) fun r=>if r=true then .ok x else fb τ) aI):=by
 refine dE (xI ha hb).pt fun σ H Q ⟨S,τ,hs,q⟩=>?_
 refine gP (.refl _) hs.left (Kt:=fun r=>PO' ex (if r=true then .ok true else bnd (fb τ) aI) fun b=>∀ H',ak H H'->Q b H') (PO'.mk ((PO'.bnd (PO'.bnd q)).mono fun x hx=>(PO'.bnd hx).eq.mono fun r hr=>?_)) fun r H2 e2 _ k=>?_
 ·obtain⟨er,hr⟩:=hr
  cases r with
  | false=>rw[if_neg Bool.false_ne_true] at hr ⊢;exact PO'.mk hr
  | true=>
   rw[if_pos rfl] at hr ⊢
   have hr':PO' ex (aI x) _:=hr
   rw[er] at hr'
   exact hr'
 ·cases r with
  | false=>rw[if_neg Bool.false_ne_true] at k ⊢;exact gP e2 hs.right k fun b H3 e3 _ z=>z H3 e3
  | true=>rw[if_pos rfl] at k ⊢;exact k.ok H2 e2
theorem yz {es:List Expr} {n:Nat} {pos:Pos} {va:List Nat} {fa:Ev->Res (List D)} (h:PA X es (RA X.K ex va fa)):PE X (.Tuple es n pos) (RD X.K ex va fun τ=>bnd (fa τ) fun ds=>grd (aL ds.length) (.ok (.tup ds))):=by
 refine ay (mN h) fun σ H Q ⟨S,τ,hs,q⟩=>?_
 refine jL (.refl _) hs (PO'.bnd q) fun ds vs H1 e1 _ m1 q1=>?_
 obtain⟨g,q1⟩:=PO'.grd q1
 exact⟨by rw[m1.length];exact ba g,fun p hp=>q1.ok _ _ (e1.trans (.upd hp)) ((v5 hp m1).mono (f9 e1) (.refl _))⟩
theorem yB {es:List Expr} {pos:Pos} {va:List Nat} {fa:Ev->Res (List D)} (h:PA X es (RA X.K ex va fa)):PE X (.List es pos) (RD X.K ex va fun τ=>bnd (fa τ) fun ds=>grd (aL ds.length) (.ok (.lst true ds))):=by
 refine ay (mO h) fun σ H Q ⟨S,τ,hs,q⟩=>?_
 refine jL (.refl _) hs (PO'.bnd q) fun ds vs H1 e1 _ m1 q1=>?_
 obtain⟨g,q1⟩:=PO'.grd q1
 exact⟨by rw[m1.length];exact ba g,fun p hp=>q1.ok _ _ (e1.trans (.upd hp)) ((v7 hp m1).mono (f9 e1) (.refl _))⟩
theorem yC {a b:Expr} {pos:Pos} {va vb:List Nat} {fa fb:Ev->Res D} (ha:PE X a (RD X.K ex va fa)) (hb:PE X b (RD X.K ex vb fb)) (hp:cb b=true) :
  PE X (.Subscript a b pos) (RD X.K ex (va++vb) fun τ=>bnd (fa τ) fun x=>bnd (fb τ) fun y=>bo x y):=by
 refine ay (xV (rD (ex:=ex)) ha hb fun o i=>by cases b<;>first | rfl | cases hp) fun σ H Q ⟨S,τ,hs,q⟩=>?_
 refine bb (.refl _) hs.left (PO'.bnd q) fun x v H1 e1 _ m1 q1=>?_
 refine bb e1 hs.right (PO'.bnd q1) fun y w H2 e2 e2' m2 q2=>?_
 exact⟨nw S H,x,y,m1.later e2',m2,q2.mono fun d hd=>hd.fit e2⟩
theorem Bq {a:Expr} {lo hi:Option Expr} {pos p2:Pos} {va vl vh:List Nat} {fa:Ev->Res D} {fl fh:Ev->Res (Option Int)} (ha:PE X a (RD X.K ex va fa)) (hl:PO X lo (ROp X.K ex vl fl)) (hh:PO X hi (ROp X.K ex vh fh)) :
  PE X (.Subscript a (.Slice lo hi none p2) pos) (RD X.K ex (va++vl++vh) fun τ=>bnd (fa τ) fun x=>bnd (fl τ) fun l=>bnd (fh τ) fun h=>iM x l h):=by
 refine ay (iB (rE (ex:=ex)) ha hl hh) fun σ H Q ⟨S,τ,hs,q⟩=>?_
 refine bb (.refl _) hs.left.left (PO'.bnd q) fun x v H1 e1 _ m1 q1=>?_
 refine rM e1 hs.left.right (PO'.bnd q1) fun l H2 e2 e2' q2=>?_
 refine rM e2 hs.right (PO'.bnd q2) fun h H3 e3 e3' q3=>?_
 exact⟨nw S H,x,m1.later (e2'.trans e3'),q3.mono fun d hd=>hd.fit e3⟩
theorem s_call (g:GOk Z CX cl xp X ex G) {f:Nat} {x:Str} {p pos:Pos} {es:List IR} {args:List Expr} (h1:iS Z G f x=true) (h2:Z.fnc G f=true) (hst:aW Z G es args=true) (h:PA X args (RA X.K ex (au es) (aV cl es))) :
  PE X (.Call (.Name x p) args [] pos) (RD X.K ex (au es) fun τ=>bnd (aV cl es τ) fun ds=>cl f (ers ds)):=by
 obtain⟨k1,k2,k3,k4⟩:=sT g h1
 obtain⟨k,fa',fd,ps,hm,hkp,hb,F,hr,hlen⟩:=(g.fns f (gN h2).1 (gN h2).2 x k2).ex
 obtain⟨E,hP,hE⟩:=g.exs
 intro pins s σ H Q I q
 obtain⟨S,τ,hs,q⟩:=q
 have fin:∀ (us:List Value) (s1:Shared) (vs:List V) (H1:Hp) (ds:List D),Inv X pins σ H1 s1->Vals vs us->ak H H1->HReps X.K (nw S H) H1 vs ds->PO' ex (cl f (ers ds)) (Kk X.K S H Q)->wpAny (model X.prog X.w) X.A (call (.ref fa') us) (EP X pins σ Q) X.xe s1:=by
  intro us s1 vs H1 ds I1 r e m q1
  have hl:=hlen ex _ _ q1
  rw[bM] at hl
  refine ku F hr hb hP g.hid I1 r (by rw[m.length];exact hl) (Fc:=fun a=>nw S H a/\H1 a≠none) (fun a z=>z.2) m.tight ?_
  cases z:cl f (ers ds) with
  | error er=>
   rw[z] at q1
   cases er with
   | stuck=>exact q1.no.elim
   | exc c=>exact hE c _ q1
  | ok d=>
   rw[z] at q1
   intro v H' F' fv o
   refine q1.ok _ _ (e.trans o.same) (o.rep.read (fun a ha=>?_) fun a ha=>?_)
   ·rcases o.out a ha with z | z
    ·exact z.1
    ·exact .inr (e.free z)
   ·exact .inr (e.free (o.new a ha))
 refine wpAny_Call_Name_kw (j9 I k1 hm ?_ k4)
 cases args with
 | nil=>
  cases es with
  | cons _ _=>cases hst
  | nil=>
   exact PySem.W.callWith_K0 I.kIn hkp (fin [] s [] H [] I .nil (.refl _) .nil q)
 | cons e l=>
  cases es with
  | nil=>cases hst
  | cons a es=>
   have hst':(notStar e && chk Z G a e && aW Z G es l)=true:=hst
   simp only[Bool.and_eq_true] at hst'
   refine PySem.W.callWith_K (h₀:=X.base) I.ok.mod.kin hkp (thn (h pos pins s σ H (fun vs H1=>∃ ds,ak H H1/\HReps X.K (nw S H) H1 vs ds/\PO' ex (cl f (ers ds)) (Kk X.K S H Q)) I ⟨S,τ,hs,(PO'.bnd q).mono fun ds hd vs H1 e m=>⟨ds,e,m,hd⟩⟩) fun us s1 ⟨vs,H1,I1,r,ds,e,m,q1⟩=>⟨I1.kIn,?_⟩) (ag hst'.1.1 l X.env) (bI Z G (es:=es) pos X.env hst'.2)
   exact fin us s1 vs H1 ds I1 r e m q1
theorem Br (g:GOk Z CX cl xp X ex G) {f:Bi} {p pos:Pos} {es:List IR} {a:Expr} {args:List Expr} (hg:G.glc (kn f)=true) (hst:aW Z G es (a::args)=true) (h:PA X (a::args) (RA X.K ex (au es) (aV cl es))) :
  PE X (.Call (.Name (dN f) p) (a::args) [] pos) (RD X.K ex (au es) fun τ=>bnd (aV cl es τ) fun ds=>cO f ds):=by
 obtain⟨k1,k2,k3,k4⟩:=dX g (wb f) (we hg)
 cases es with
 | nil=>cases hst
 | cons b es=>
  have hst':(notStar a && chk Z G b a && aW Z G es args)=true:=hst
  simp only[Bool.and_eq_true] at hst'
  have mono:∀ σ H Q,RD X.K ex (au (b::es)) (fun τ=>bnd (aV cl (b::es) τ) fun ds=>cO f ds) σ H Q->tCB (rBi X.K ex f) (RA X.K ex (au (b::es)) (aV cl (b::es))) σ H Q:=by
   rintro σ H Q ⟨S,τ,hs,q⟩
   refine jL (.refl _) hs (PO'.bnd q) fun ds vs H1 e1 _ m1 q1=>?_
   exact⟨nw S H,ds,m1,q1.mono fun d hd=>hd.fit e1⟩
  refine ay ?_ mono
  have hv:=rF f
  have hc:=rG (X:=X) (ex:=ex) (g.calm (wg hg)) f
  unfold nA at hv hc
  cases z:ym f with
  | true=>
   rw[z,if_pos rfl] at hv hc
   exact fS hc k1 k2 hv h k3 k4 (ag hst'.1.1 args X.env) (bI Z G (es:=es) pos X.env hst'.2)
  | false=>
   rw[z,if_neg Bool.false_ne_true] at hv hc
   exact eJ hc k1 k2 hv h k3 k4 (ag hst'.1.1 args X.env) (bI Z G (es:=es) pos X.env hst'.2)
noncomputable def kdV:Kd->V
 | .str=>.ty "str" | .int=>.ty "int" | .bool=>.ty "bool" | .list=>.ty "list" | .tuple=>.ty "tuple"
theorem kx (k:Kd):RelV (kdV k) (nB k):=by cases k<;>rfl
theorem nM (k:Kd):bE X (.builtin "isinstance") (fun xs H Q=>∃ S x d,xs=[x,kdV k]/\HRep X.K S H x d/\dI d=true/\Q (.bl (bf k d)) H):=by
 intro pins s σ H xs us Q I r h
 obtain⟨S,x,d,rfl,m,hn,q⟩:=h
 obtain⟨u,w',rfl,r1,r2⟩:=vals2 r
 have e:w'=nB k:=by
  have:=r2.abs
  have h2:=(kx k).abs
  cases k<;>(revert r2;intro r2;exact r2)
 subst e
 exact rK I r1 m k hn q
theorem yD (g:GOk Z CX cl xp X ex G) {k:Kd} {e:Expr} {p p' pos:Pos} {va:List Nat} {fa:Ev->Res D} (hg:G.gl.contains 14=true) (hk:G.gl.contains (ko k)=true) (hn:notStar e=true) (ha:PE X e (RD X.K ex va fa)) :
  PE X (.Call (.Name "isinstance" p) [e,.Name (cZ k) p'] [] pos) (RD X.K ex va fun τ=>bnd (fa τ) fun x=>grd (dI x) (.ok (.bl (bf k x)))):=by
 obtain⟨k1,k2,k3,k4⟩:=dX g (show bg[14]? = some ("isinstance" : Str) from rfl) hg
 obtain⟨j1,j2,j3,j4⟩:=dX g (wc k) hk
 have pa:PA X [e,.Name (cZ k) p'] (eI (RD X.K ex va fa) (eI (tC (kdV k)) mM)):=aR ha (aR (qH j1 j2 (rH k) (kx k) j3 j4) bK rfl) (ag hn _ _)
 refine ay (eJ (nM k) k1 k2 PyProof.Rows.boot_isinstance pa k3 k4 (ag hn _ _) rfl) fun σ H Q ⟨S,τ,hs,q⟩=>?_
 refine bb (.refl _) hs (PO'.bnd q) fun x v H1 e1 _ m1 q1=>?_
 obtain⟨gd,q1⟩:=PO'.grd q1
 exact⟨nw S H,v,x,rfl,m1,gd,q1.ok _ _ e1 (.bl _)⟩
theorem HReps.ofStrs {K:PySem.W.Frag} {S:Addr->Prop} {H:Hp}:∀ (ns:List Str),HReps K S H (ns.map .str) (ns.map .str)
 | []=>.nil
 | n::r=>.cons (.str n) (HReps.ofStrs r)
theorem wq (g:GOk Z CX cl xp X ex G) {e:Expr} {p p' pos pos':Pos} {va:List Nat} {fa:Ev->Res D} (h1:G.gl.contains 4=true) (h2:G.gl.contains 12=true) (hn:notStar e=true) (hcm:G.cm=true) (ha:PE X e (RD X.K ex va fa)) :
  PE X (.Call (.Name "sorted" p) [.Call (.Name "set" p') [e] [] pos'] [] pos) (RD X.K ex va fun τ=>bnd (fa τ) iP):=by
 obtain⟨k1,k2,k3,k4⟩:=dX g (show bg[4]? = some ("sorted" : Str) from rfl) h1
 obtain⟨j1,j2,j3,j4⟩:=dX g (show bg[12]? = some ("set" : Str) from rfl) h2
 have cc:bE X (.type "set") (fun xs H Q=>(∃ (p:Addr) (ns:List Int),xs=[.ref p]/\SqL X.K H p (ns.map V.int)/\ns.length < 64/\∀ a o,H a=none->rn X (dd ns) o->Q (.ref a) (upd H a (.frz o XS)))∨
   (∃ (p:Addr) (ns:List Str),xs=[.ref p]/\SqL X.K H p (ns.map V.str)/\ns.length < 64/\∀ a o,H a=none->rp X (ddT ns) o->Q (.ref a) (upd H a (.frz o XS)))):=fun pins s σ H xs us Q I r h=>
  h.elim (l9 (g.calm hcm) pins s σ H xs us Q I r) (ma (g.calm hcm) pins s σ H xs us Q I r)
 have cs:bE X (.builtin "sorted") (fun xs H Q=>(∃ (p:Addr) (o:Obj) (ns:List Int),xs=[.ref p]/\H p=some (.frz o XS)/\rn X ns o/\ns.length < 64/\∀ l,H l=none->Q (.ref l) (upd H l (.lst ((PySem.W.sortI ns).map V.int))))∨
   (∃ (p:Addr) (o:Obj) (ns:List Str),xs=[.ref p]/\H p=some (.frz o XS)/\rp X ns o/\ns.length < 64/\∀ l,H l=none->Q (.ref l) (upd H l (.lst ((br ns).map V.str))))):=fun pins s σ H xs us Q I r h=>
  h.elim (gH (g.calm hcm) pins s σ H xs us Q I r) (gI (g.calm hcm) pins s σ H xs us Q I r)
 have i1:=fS (p:=p') (pos:=pos') cc j1 j2 (by decide +kernel) (aR ha bK (ag hn _ _)) (by decide) (by decide) (ag hn _ _) rfl
 have i2:=eJ (p:=p) (pos:=pos) cs k1 k2 (by decide +kernel) (aR i1 bK rfl) (by decide) (by decide) rfl rfl
 refine ay i2 fun σ H Q ⟨S,τ,hs,q⟩=>?_
 refine bb (.refl _) hs (PO'.bnd q) fun d v H1 e1 _ m1 q1=>?_
 cases d with
 | lst o ds=>
  obtain⟨a,ys,rfl,qq,m⟩:=m1.lstR
  have q2:PO' ex (match bC ds with | some ns=>grd (decide (ns.length < 64)) (.ok (.lst true ((PySem.W.sortI (dd ns)).map .int))) | none=>match aP ds with | some ns=>grd (decide (ns.length < 64)) (.ok (.lst true ((br (ddT ns)).map .str))) | none=>stk) (Kk X.K S H Q):=q1
  cases z:bC ds with
  | none=>
   rw[z] at q2
   cases z':aP ds with
   | none=>rw[z'] at q2;exact q2.no.elim
   | some ns=>
    rw[z'] at q2
    obtain⟨gd,q3⟩:=PO'.grd q2
    have h64:ns.length < 64:=of_decide_eq_true gd
    rw[cY z'] at m
    rw[m.strs] at qq
    refine .inr ⟨a,ns,rfl,qq,h64,fun a' o' ha' ho'=>.inr ⟨a',o',ddT ns,rfl,ar,ho',Nat.lt_of_le_of_lt (ki ns) h64,fun l hl=>?_⟩⟩
    have hl1:H1 l=none:=(ak.upd ha').free hl
    exact q3.ok _ _ ((e1.trans (.upd ha')).trans (.upd hl)) (.lst (.inr (e1.free hl1)) (.inl ar) (HReps.ofStrs _))
  | some ns=>
   rw[z] at q2
   obtain⟨gd,q3⟩:=PO'.grd q2
   have h64:ns.length < 64:=of_decide_eq_true gd
   rw[eT z] at m
   rw[m.ints] at qq
   refine .inl ⟨a,ns,rfl,qq,h64,fun a' o' ha' ho'=>.inl ⟨a',o',dd ns,rfl,ar,ho',Nat.lt_of_le_of_lt (nj ns) h64,fun l hl=>?_⟩⟩
   have hl1:H1 l=none:=(ak.upd ha').free hl
   exact q3.ok _ _ ((e1.trans (.upd ha')).trans (.upd hl)) (.lst (.inr (e1.free hl1)) (.inl ar) (HReps.ofInts _))
 | _=>exact q1.no.elim
theorem jM {d:D} (h:cW d=true):∃ x,d=.str x:=by
 cases d<;>first | exact⟨_,rfl⟩ | cases h
theorem yE (g:GOk Z CX cl xp X ex G) {m:Mt} {o:Expr} {apos cpos:Pos} {vo:List Nat} {fo:Ev->Res D} {es:List IR} {a:Expr} {args:List Expr} (hn:eW o=true) (hl:(apos.endLine == cpos.line)=true) (hlen:(a::args).length < 29) (hcm:(G.cm || jJ m)=true)
  (hst:aW Z G es (a::args)=true) (ho:PE X o (RD X.K ex vo fo)) (h:PA X (a::args) (RA X.K ex (au es) (aV cl es))) :
  PE X (.Call (.Attribute o (eU m) apos) (a::args) [] cpos) (RD X.K ex (vo++au es) fun τ=>bnd (fo τ) fun x=>grd (cW x) (bnd (aV cl es τ) fun ds=>fI m x ds)):=by
 cases es with
 | nil=>cases hst
 | cons b es=>
  have hst':(notStar a && chk Z G b a && aW Z G es args)=true:=hst
  simp only[Bool.and_eq_true] at hst'
  have star:=bI Z G (es:=es) cpos X.env hst'.2
  have mono:∀ σ H Q,RD X.K ex (vo++au (b::es)) (fun τ=>bnd (fo τ) fun x=>grd (cW x) (bnd (aV cl (b::es) τ) fun ds=>fI m x ds)) σ H Q->tBM X.K "str" (rMt X.K ex m) (RD X.K ex vo fo) (RA X.K ex (au (b::es)) (aV cl (b::es))) σ H Q:=by
   rintro σ H Q ⟨S,τ,hs,q⟩
   refine bb (.refl _) hs.left (PO'.bnd q) fun x v H1 e1 _ m1 q1=>?_
   obtain⟨gd,q1⟩:=PO'.grd q1
   obtain⟨z,rfl⟩:=jM gd
   cases m1.strR
   refine⟨rfl,jL e1 hs.right (PO'.bnd q1) fun ds vs H2 e2 e2' m2 q2=>?_⟩
   exact⟨nw S H,.str z,ds,.str z,m2,q2.mono fun d hd=>hd.fit e2⟩
  have hbase:attributeBase o (eU m) X.env (eval o X.env)=eval o X.env:=by
   cases o with
   | Call f args kws pos=>
    cases args with
    | nil=>
     cases kws with
     | nil=>cases hn
     | cons _ _=>cases f<;>rfl
    | cons _ _=>cases f<;>rfl
   | _=>rfl
  have all0:(backTo cpos (starEach (a::args) X.env)).all (fun x=>!x.1)=true:=by
   rw[ag hst'.1.1]
   show (true && (backTo cpos (starEach args X.env)).all (fun x=>!x.1))=true
   rw[Bool.true_and,List.all_eq_true]
   intro y hy
   have:=List.any_eq_false.mp star y hy
   simpa using this
  have hfew:((backTo cpos (starEach (a::args) X.env)).all (fun x=>!x.1) && (backToKw cpos (keywordEach [] X.env)).all (fun x=>x.1.isSome) && decide ((a::args).length + ([]:List Keyword).length + (if ([]:List Keyword).isEmpty then 0 else 1) < 30))=true:=by
   rw[all0]
   have:decide ((a::args).length + ([]:List Keyword).length + (if ([]:List Keyword).isEmpty then 0 else 1) < 30)=true:=decide_eq_true (by simp at hlen ⊢;omega)
   rw[this]
   rfl
  refine ay ?_ mono
  cases m with
  | join=>exact fT PySem.F.plainAttrs_str PySem.F.slot_str_join PySem.F.type_str_join (gM (ex:=ex) .join fun z=>by cases z) ho h hbase hfew hl (ag hst'.1.1 args X.env) star
  | index=>exact fT PySem.F.plainAttrs_str PySem.F.slot_str_index PySem.F.type_str_index (gM (ex:=ex) .index fun _=>g.calm (by rw[Bool.or_eq_true] at hcm;exact hcm.elim id fun z=>by cases z)) ho h hbase hfew hl (ag hst'.1.1 args X.env) star
  | starts=>exact fT PySem.F.plainAttrs_str PySem.F.slot_str_startswith PySem.F.type_str_startswith (gM (ex:=ex) .starts fun z=>by cases z) ho h hbase hfew hl (ag hst'.1.1 args X.env) star
end
section
variable {Z:Sg} {CX:CXT} {cl:Nat->List D->Res D} {xp:XK->Hp->Str->Prop} {X:Cx} {ex:Str->Prop} {G:Gm}
theorem gQ {K:PySem.W.Frag} {S:Addr->Prop} {H:Hp} {w:V} {y:D} {q:Key} (m:HRep K S H w y) (h:dJ y=some q):w=kV q:=by
 cases y with
 | int i=>cases h;cases m.intR;rfl
 | str x=>cases h;cases m.strR;rfl
 | _=>cases h
theorem iU {K:PySem.W.Frag} {S:Addr->Prop} {H:Hp} (q:Key):∀ (kvs:List (Key×V)) (ds:List D),HReps K S H (kvs.map (·.2)) ds->
  (∀ d,look (kvs.map (·.1)) ds q=some d->∃ v,dG kvs q=some v/\HRep K S H v d)/\(look (kvs.map (·.1)) ds q).isSome=(dG kvs q).isSome:=by
 intro kvs
 induction kvs with
 | nil=>intro ds _;exact⟨fun d h=>(by cases h),rfl⟩
 | cons p kvs ih=>
  intro ds m
  rw[List.map_cons] at m
  cases ds with
  | nil=>exact absurd m.length (by simp)
  | cons d ds=>
   cases m with
   | cons m1 m2=>
    obtain⟨i1,i2⟩:=ih ds m2
    have e1:look ((p::kvs).map (·.1)) (d::ds) q=if p.1=q then some d else look (kvs.map (·.1)) ds q:=rfl
    rw[e1]
    unfold dG at i1 i2 ⊢
    rw[List.find?_cons]
    by_cases h:p.1=q
    ·rw[if_pos h,decide_eq_true h]
     exact⟨fun d' z=>⟨p.2,rfl,by cases z;exact m1⟩,rfl⟩
    ·rw[if_neg h,decide_eq_false h]
     exact⟨i1,i2⟩
theorem HRep.dctR {K:PySem.W.Frag} {S:Addr->Prop} {H:Hp} {v:V} {o:Bool} {ks:List Key} {ds:List D} (h:HRep K S H v (.dct o ks ds)):∃ a kvs,v=.ref a/\Rd H a (.dK kvs)/\kvs.map (·.1)=ks/\HReps K S H (kvs.map (·.2)) ds:=by
 cases h with
 | dct h0 h1 h2 h3=>exact⟨_,_,rfl,h1,h2,h3⟩
theorem wt {pos:Pos}:PE X (.Dict [] [] pos) (RD X.K ex [] (evR cl .dnew)):=by
 refine ay iF fun σ H Q ⟨S,τ,hs,q⟩=>fun p hp=>?_
 exact q.ok _ _ (.upd hp) (.dct (kvs:=[]) (.inr hp) (.inl ar) rfl .nil)
theorem bU {is:List Nat} {f:Ev->Res D} {σ:St} {H:Hp} {Q Q':VK} (h:RD X.K ex is f σ H Q) (m:∀ v H',Q v H'->Q' v H'):RD X.K ex is f σ H Q':=by
 obtain⟨S,τ,hs,q⟩:=h
 exact⟨S,τ,hs,q.mono fun d hd w H' e r=>m w H' (hd w H' e r)⟩
theorem iV {n:Bool} {va vb:List Nat} {fa fb:Ev->Res D} {σ:St} {H:Hp} {Q:VK} (h:RD X.K ex (vb++va) (fun τ=>bnd (fb τ) fun y=>bnd (fa τ) fun x=>iO n x y) σ H Q) :
  RD X.K ex vb fb σ H fun y H1=>RD X.K ex va fa σ H1 fun x H2=>∃ a o,x=.ref a/\lY H2 a y o/\Q (.bl (n != o.isSome)) H2:=by
 obtain⟨S,τ,hs,q⟩:=h
 refine bb (.refl _) hs.left (PO'.bnd q) fun y w H1 e1 _ m1 q1=>?_
 refine bb e1 hs.right (PO'.bnd q1) fun x v H2 e2 e2' m2 q2=>?_
 cases x with
 | dct o ks ds=>
  have q3:PO' ex (match dJ y with | some q=>.ok (.bl (n != (look ks ds q).isSome)) | none=>stk) (Kk X.K S H Q):=q2
  cases hk:dJ y with
  | none=>rw[hk] at q3;exact q3.no.elim
  | some k=>
   simp only[hk] at q3
   obtain⟨p,kvs,rfl,h1,rfl,h3⟩:=m2.dctR
   rw[(iU k kvs ds h3).2] at q3
   exact⟨p,_,rfl,.inl ⟨kvs,k,h1,gQ (m1.later e2') hk,rfl⟩,q3.ok _ _ e2 (.bl _)⟩
 | _=>exact q2.no.elim
theorem gb {n:Bool} {va vb:List Nat} {fa fb:Ev->Res D} {σ:St} {H:Hp} {Q:Bool->Hp->Prop} (h:RT X.K ex (vb++va) (fun τ=>bnd (bnd (fb τ) fun y=>bnd (fa τ) fun x=>iO n x y) aI) σ H Q) :
  RD X.K ex vb fb σ H fun y H1=>RD X.K ex va fa σ H1 fun x H2=>∃ a o,x=.ref a/\lY H2 a y o/\∃ c,V.bl (n != o.isSome)=.bl c/\Q c H2:=by
 obtain⟨S,τ,hs,q⟩:=h
 refine bb (.refl _) hs.left (PO'.bnd (PO'.bnd q)) fun y w H1 e1 _ m1 q1=>?_
 refine bb e1 hs.right (PO'.bnd q1) fun x v H2 e2 e2' m2 q2=>?_
 cases x with
 | dct o ks ds=>
  cases hk:dJ y with
  | none=>
   have q3:iO n (.dct o ks ds) y=stk:=by show ((match dJ y with | some q=>.ok (.bl (n != (look ks ds q).isSome)) | none=>stk:Res D))=_;rw[hk]
   rw[q3] at q2;exact q2.no.elim
  | some k=>
   have q3:iO n (.dct o ks ds) y=.ok (.bl (n != (look ks ds k).isSome)):=by show ((match dJ y with | some q=>.ok (.bl (n != (look ks ds q).isSome)) | none=>stk:Res D))=_;rw[hk]
   rw[q3] at q2
   obtain⟨p,kvs,rfl,h1,rfl,h3⟩:=m2.dctR
   rw[(iU k kvs ds h3).2] at q2
   exact⟨p,_,rfl,.inl ⟨kvs,k,h1,gQ (m1.later e2') hk,rfl⟩,_,rfl,(q2.ok).ok _ e2⟩
 | _=>exact q2.no.elim
theorem yF (g:GOk Z CX cl xp X ex G) {n:Bool} {a b:Expr} {pos:Pos} {va vb:List Nat} {fa fb:Ev->Res D} (hb:PE X b (RD X.K ex vb fb)) (ha:PE X a (RD X.K ex va fa)) (hm:behindInMarks (mh n) a=false) :
  PE X (.Compare b [mh n] [a] pos) (RD X.K ex (vb++va) fun τ=>bnd (fb τ) fun y=>bnd (fa τ) fun x=>iO n x y)/\
  PT X (.Compare b [mh n] [a] pos) (RT X.K ex (vb++va) fun τ=>bnd (bnd (fb τ) fun y=>bnd (fa τ) fun x=>iO n x y) aI):=by
 have hu:=g.un
 cases n with
 | false=>
  refine⟨ay (mC (mV (by omega) hb ha) hm) fun σ H Q h=>?_,dE (mD (mV (by omega) hb ha) hm) fun σ H Q h=>?_⟩
  ·refine bU (iV h) fun y H1 z=>bU z fun x H2 ⟨p,o,e,d,q⟩=>⟨p,o,e,d,?_⟩
   rw[show (false != o.isSome)=o.isSome by cases o.isSome<;>rfl] at q
   exact q
  ·refine bU (gb h) fun y H1 z=>bU z fun x H2 ⟨p,o,e,d,q⟩=>⟨p,o,e,d,?_⟩
   rw[show (false != o.isSome)=o.isSome by cases o.isSome<;>rfl] at q
   exact q
 | true=>
  refine⟨ay (mC (fX (by omega) hb ha) hm) fun σ H Q h=>?_,dE (mD (fX (by omega) hb ha) hm) fun σ H Q h=>?_⟩
  ·refine bU (iV h) fun y H1 z=>bU z fun x H2 ⟨p,o,e,d,q⟩=>⟨p,o,e,d,?_⟩
   rw[show (true != o.isSome) = !o.isSome by cases o.isSome<;>rfl] at q
   exact q
  ·refine bU (gb h) fun y H1 z=>bU z fun x H2 ⟨p,o,e,d,q⟩=>⟨p,o,e,d,?_⟩
   rw[show (true != o.isSome) = !o.isSome by cases o.isSome<;>rfl] at q
   exact q
end
section
variable {prog:Program} {w:World} {A:Around} {E:Value->Shared->Prop} {s:Shared}
theorem eY {it t:Addr} {items:Array Value} (hne:t≠it):∀ (n i:Nat) (s:Shared) (Q:List Value->Shared->Prop),s.heap.IsListIter it t i->s.heap.IsList t items->i + n<=items.size->
  (∀ h',h'.IsListIter it t (i + n)->Heap.SameBut it s.heap h'->Q ((items.toList.drop i).take n) {s with heap:=h'})->wpAny (model prog w) A (draw (.ref it) n) Q E s
 | 0,i,s,Q,hit,_,_,hQ=>by
  show wpAny _ _ (pure []) Q E s
  exact wpAny_pure (by simpa using hQ s.heap hit (Heap.SameBut.refl ..))
 | n + 1,i,s,Q,hit,ht,hle,hQ=>by
  have hlt:i < items.size:=by omega
  show wpAny _ _ (pyNext (.ref it) >>= _) Q E s
  refine wpAny_bind (wpAny_pyNext_list_item hit ht (x:=items[i]) (by simp[hlt]) fun h₁ hit₁ hs₁=>?_)
  refine wpAny_bind (wpAny_holding (eY hne n (i + 1) _ _ hit₁ (ht.extBut hs₁.extBut hne) (by omega) fun h₂ hit₂ hs₂=>wpAny_pure ?_))
  have hd:items.toList.drop i=items[i]::items.toList.drop (i + 1):=by simp[List.drop_eq_getElem_cons,hlt]
  have:=hQ h₂ (by rw[show i + (n + 1)=i + 1 + n by omega];exact hit₂) (hs₁.trans hs₂)
  rw[hd,List.take_succ_cons] at this
  exact this
theorem dO {t:Addr} {items:Array Value} {Q:List Value->Shared->Prop} (hh:A.handled=none) (ht:s.heap.IsList t items)
  (hQ:∀ h',Heap.ExtBut s.heap.objs.size s.heap h'->Q items.toList {s with heap:=h'}):wpAny (model prog w) A (unpackItems (.ref t) items.size none) Q E s:=by
 have hlt:t≠s.heap.objs.size:=by obtain⟨o,ho,_⟩:=ht;exact Nat.ne_of_lt (Heap.lt_size ho)
 have push:∀ o,(s.heap.push o).IsList t items:=fun o=>by
  obtain⟨ob,e,c,n,d⟩:=ht
  exact⟨ob,Heap.get?_push_of_some _ e,c,n,d⟩
 unfold unpackItems
 refine wpAny_bind ?_
 ·unfold notIterableAtAll
  refine wpAny_bind (wpAny_specialOf ht.typeIs slot_list_iter.lookup ?_)
  refine wpAny_pure ?_
  simp only[Bool.false_eq_true,if_false]
  refine wpAny_bind (wpAny_holding (wpAny_pyIter_list ht ?_))
  refine wpAny_bind (wpAny_holding (eY hlt items.size 0 _ _ ⟨_,Heap.get?_push_size _ rfl,rfl,rfl⟩ (push _) (by omega) fun h₁ hit₁ hs₁=>?_))
  have hall:List.take items.size (List.drop 0 items.toList)=items.toList:=by
   rw[List.drop_zero];exact List.take_of_length_le (by simp)
  rw[hall]
  rw[if_neg (by simp)]
  have ht₁:h₁.IsList t items:=(push _).extBut hs₁.extBut hlt
  refine wpAny_bind (wpAny_holding (wpAny_pyNext_list_end hh hit₁ ht₁ (by simp) fun h₂ he₂=>?_))
  simp only[Option.isSome_none,Bool.false_eq_true,if_false]
  refine wpAny_pure (hQ h₂ fun b o hb e=>he₂ b o hb (hs₁.extBut b o hb (Heap.get?_push_of_some _ e)))
end
noncomputable def yG (K:PySem.W.Frag) (n:Nat) (t:TGs):TG:=fun v σ H Q=>∃ a xs,v=.ref a/\(SqT K H a xs∨SqL K H a xs)/\xs.length=n/\t xs σ H Q
theorem wu {X:Cx} {pos:Pos} {es:List Expr} {k:Nat} {t:TGs} {n:Nat} (hc:X.calm=true) (h:PGs X es t) (hn:(assignEach es X.env).length=n) (hst:(assignEach es X.env).findIdx? (·.1)=none):PG X (.Tuple es k pos) (yG X.K n t):=by
 intro pins s σ H v u Q I r hw
 obtain⟨a,xs,e1,hq,hl,hw⟩:=hw
 subst e1
 cases r
 rcases hq with hq | hq
 ·obtain⟨its,rv,ht,hz⟩:=I.tuple hq
  refine assign_Tuple_tuple (I.ok.hd hc) ht (by simp[hn,<- hl,rv.length]) hst fun h' hx=>?_
  have I1:Inv X pins σ H {s with heap:=h'}:=I.kept (t':=s.toks) fun b o e=>hx b o (Nat.ne_of_lt (Heap.lt_size e)) e
  exact h pins _ σ H xs _ Q I1 (by simpa using rv) hw
 ·obtain⟨its,rv,pl,hz⟩:=I.list hq
  rw[assign_Tuple]
  refine wpAny_bind (wpAny_standAt ?_)
  unfold unpack
  have hlen:(assignEach es X.env).length=its.toArray.size:=by simp[hn,<- hl,rv.length]
  rw[hlen,hst]
  refine wpAny_bind (wpAny_holding (dO (I.ok.hd hc) pl.isList fun h' hx=>?_))
  have I1:Inv X pins σ H {s with heap:=h'}:=I.kept (t':=s.toks) fun b o e=>hx b o (Nat.ne_of_lt (Heap.lt_size e)) e
  exact h pins _ σ H xs _ Q I1 (by simpa using rv) hw
mutual
noncomputable def gT (K:PySem.W.Frag):Tg->TG
 | .nm i=>mI i
 | .tp ts=>yG K ts.length (gTs K ts)
noncomputable def gTs (K:PySem.W.Frag):List Tg->TGs
 | []=>xO
 | t::ts=>sP (gT K t) (gTs K ts)
end
theorem dv {e:Expr} (h:notStar e=true) (es:List Expr) (env:Env):assignEach (e::es) env=(false,assign e env)::assignEach es env:=by
 cases e<;>first | rfl | cases h
section
variable {Z:Sg} {CX:CXT} {cl:Nat->List D->Res D} {xp:XK->Hp->Str->Prop} {X:Cx} {ex:Str->Prop} {G:Gm}
theorem eZ (G:Gm):∀ {ts:List Tg} {es:List Expr} (env:Env),eX G ts es=true->(assignEach es env).length=ts.length/\(assignEach es env).findIdx? (·.1)=none
 | [],[],_,_=>⟨rfl,rfl⟩
 | t::ts,e::es,env,h=>by
  have h':(notStar e && cB G t e && eX G ts es)=true:=h
  simp only[Bool.and_eq_true] at h'
  obtain⟨h1,h2⟩:=eZ G (ts:=ts) (es:=es) env h'.2
  rw[dv h'.1.1]
  refine⟨by rw[List.length_cons,h1,List.length_cons],?_⟩
  rw[List.findIdx?_cons,if_neg (by simp),h2]
  rfl
 | [],_::_,_,h=>by cases h
 | _::_,[],_,h=>by cases h
mutual
theorem pgT (g:GOk Z CX cl xp X ex G):∀ (t:Tg) (e:Expr),cB G t e=true->PG X e (gT X.K t)
 | .nm i,e,h=>by
  cases e with
  | Name x pos=>
   have h':(G.N[i]? == some x && (G.kd[i]? == some .local || (G.df && G.kd[i]? == some .cell)))=true:=h
   rw[Bool.and_eq_true,Bool.or_eq_true,Bool.and_eq_true] at h'
   obtain⟨h1,h2⟩:=h'
   have hx:G.N[i]? = some x:=eq_of_beq h1
   have hk:=g.kd i x hx
   refine qL (by rw[g.N];exact g.nod) (by rw[g.N];exact hx) ?_ ?_
   ·rcases h2 with h2 | h2
    ·exact .inl (hk.trans (eq_of_beq h2))
    ·exact .inr (hk.trans (eq_of_beq h2.2))
   ·rcases h2 with h2 | h2
    ·exact .inr (hk.trans (eq_of_beq h2))
    ·exact .inl (g.df h2.1 x)
  | _=>cases h
 | .tp ts,e,h=>by
  cases e with
  | Tuple es k pos=>
   have h0:(G.cm && eX G ts es)=true:=h
   rw[Bool.and_eq_true] at h0
   have h':=h0.2
   obtain⟨h1,h2⟩:=eZ G X.env h'
   exact wu (g.calm h0.1) (yI g ts es h') h1 h2
  | _=>cases h
theorem yI (g:GOk Z CX cl xp X ex G):∀ (ts:List Tg) (es:List Expr),eX G ts es=true->PGs X es (gTs X.K ts)
 | [],[],_=>qM
 | t::ts,e::es,h=>by
  have h':(notStar e && cB G t e && eX G ts es)=true:=h
  simp only[Bool.and_eq_true] at h'
  exact mJ (pgT g t e h'.1.2) (yI g ts es h'.2) (by rw[dv h'.1.1];rfl)
 | [],_::_,h=>by cases h
 | _::_,[],h=>by cases h
end
end
noncomputable def SlA (K:PySem.W.Frag) (S:Addr->Prop) (H:Hp) (σ:St) (τ:Ev):Prop:=τ.length=σ.length/\∀ i d,ai τ i=some d->∃ v,σ[i]? = some (some v)/\HRep K S H v d
theorem mi {τ:Ev} {i j:Nat} {o:Option D}:ai (τ.set i o) j=if i=j/\i < τ.length then o else ai τ j:=by
 unfold ai
 rw[List.getElem?_set]
 by_cases h:i=j
 ·subst h
  by_cases h2:i < τ.length
  ·simp[h2]
  ·rw[if_pos rfl,if_neg h2,if_neg (by omega)]
   rw[List.getElem?_eq_none (by omega)]
 ·rw[if_neg h,if_neg (by omega)]
section
variable {K:PySem.W.Frag} {S:Addr->Prop} {H:Hp} {ex:Str->Prop}
mutual
theorem ky:∀ (t:Tg) {σ:St} {τ:Ev} {v:V} {d:D} {Kt:Ev->Prop} {Q:St->Hp->Prop},SlA K S H σ τ->HRep K S H v d->PO' ex (bD t d τ) Kt->
  (∀ τ' σ',SlA K S H σ' τ'->σ'.length=σ.length->(∀ j,j ∉ tgs t->σ'[j]? = σ[j]?)->Kt τ'->Q σ' H)->gT K t v σ H Q
 | .nm i,σ,τ,v,d,Kt,Q,hs,m,h,k=>by
  refine k (τ.set i (some d)) (σ.set i (some v)) ⟨by rw[List.length_set,List.length_set,hs.1],fun j e z=>?_⟩ (by rw[List.length_set]) (fun j hj=>?_) h.ok
  ·rw[mi] at z
   by_cases q:i=j/\i < τ.length
   ·rw[if_pos q] at z
    obtain⟨rfl,q⟩:=q
    cases z
    exact⟨v,by rw[List.getElem?_set_self (by rw[<- hs.1];exact q)],m⟩
   ·rw[if_neg q] at z
    obtain⟨w,h1,h2⟩:=hs.2 j e z
    refine⟨w,?_,h2⟩
    by_cases q2:i=j
    ·subst q2
     exfalso
     have:i < σ.length:=by
      have:=(List.getElem?_eq_some_iff.mp h1).1
      exact this
     exact q ⟨rfl,by rw[hs.1];exact this⟩
    ·rw[List.getElem?_set_ne q2];exact h1
  ·have:i≠j:=fun z=>hj (by subst z;simp[tgs])
   rw[List.getElem?_set_ne this]
 | .tp ts,σ,τ,v,d,Kt,Q,hs,m,h,k=>by
  cases d with
  | tup ds=>
   obtain⟨a,xs,rfl,q,ms⟩:=m.tupR
   obtain⟨g,h⟩:=PO'.grd h
   have g':ds.length=ts.length:=of_decide_eq_true g
   exact⟨a,xs,rfl,.inl q,by rw[ms.length,g'],ff ts hs ms h k⟩
  | lst o ds=>
   obtain⟨a,xs,rfl,q,ms⟩:=m.lstR
   obtain⟨g,h⟩:=PO'.grd h
   have g':ds.length=ts.length:=of_decide_eq_true g
   exact⟨a,xs,rfl,.inr q,by rw[ms.length,g'],ff ts hs ms h k⟩
  | _=>exact h.no.elim
theorem ff:∀ (ts:List Tg) {σ:St} {τ:Ev} {vs:List V} {ds:List D} {Kt:Ev->Prop} {Q:St->Hp->Prop},SlA K S H σ τ->HReps K S H vs ds->PO' ex (dk ts ds τ) Kt->
  (∀ τ' σ',SlA K S H σ' τ'->σ'.length=σ.length->(∀ j,j ∉ nJ ts->σ'[j]? = σ[j]?)->Kt τ'->Q σ' H)->gTs K ts vs σ H Q
 | [],σ,τ,vs,ds,Kt,Q,hs,m,h,k=>by
  cases m with
  | nil=>exact⟨rfl,k τ σ hs rfl (fun _ _=>rfl) h.ok⟩
  | cons _ _=>exact h.no.elim
 | t::ts,σ,τ,vs,ds,Kt,Q,hs,m,h,k=>by
  cases m with
  | nil=>exact h.no.elim
  | cons m1 m2=>
   refine⟨_,_,rfl,ky t hs m1 (PO'.bnd h) fun τ' σ' hs' hn hk h'=>?_⟩
   refine ff ts hs' m2 h' fun τ'' σ'' hs'' hn' hk' h''=>k τ'' σ'' hs'' (hn'.trans hn) (fun j hj=>?_) h''
   have hj':j ∉ tgs t/\j ∉ nJ ts:=by
    constructor<;>(intro z;apply hj;simp[nJ,z])
   rw[hk' j hj'.2,hk j hj'.1]
end
end
section
variable {K:PySem.W.Frag} {S S':Addr->Prop} {H H':Hp} {J:It} {ds:List D}
theorem WS.step (hl:∀ a (u:LD),S a->Rd H a u.o->S' a/\Rd H' a u.o) (ht:∀ a xs,SqE K H a xs->SqE K H' a xs) {k:Zp.Kq} {a:Addr} {xs:List V} (h:WS K S H k a xs):WS K S' H' k a xs:=by
 cases k with
 | l=>exact h.elim (fun z=>.inl (hl _ (.l _) z.1 z.2)) fun z=>.inr z
 | t=>exact ht _ (.inl _) h
theorem iW (ds es:List D):(cQ ds es).length=min ds.length es.length:=by unfold cQ;rw[List.length_zipWith]
theorem Wlk.step (hl:∀ a (u:LD),S a->Rd H a u.o->S' a/\Rd H' a u.o) (ht:∀ a xs,SqE K H a xs->SqE K H' a xs) (h:Wlk K S H J ds):Wlk K S' H' J ds:=by
 cases h with
 | lst h0 h1 h2=>exact .lst (hl _ (.l _) h0 h1).1 (hl _ (.l _) h0 h1).2 (h2.step hl ht)
 | lstK h1 h2=>exact .lstK h1 (h2.step hl ht)
 | tup h1 h2=>exact .tup (ht _ (.inl _) h1) (h2.step hl ht)
 | rng lo hi=>exact .rng lo hi
 | str x=>exact .str x
 | zip h1 h2 h3 h4=>exact .zip (h1.step hl ht) (h2.step hl ht) (h3.step hl ht) (h4.step hl ht)
theorem Wlk.mono (h:Wlk K S H J ds) (hS:∀ a,S a->S' a) (e:ak H H'):Wlk K S' H' J ds:=h.step (fun a xs s r=>⟨hS a s,e.rd r⟩) fun a xs s=>e.seqT s
theorem fg (x:Str):(cA x).length=x.cps.size:=by unfold cA;simp
theorem aX (a b:Int):(bp a b).length=(b - a).toNat:=by unfold bp;simp
theorem Wlk.stop (h:Wlk K S H J ds) {i:Nat} (hi:ds.length<=i):J.stop i H:=by
 cases h with
 | lst h0 h1 h2=>exact⟨_,.inl h1,by rw[h2.length];exact hi⟩
 | lstK h1 h2=>exact⟨_,h1.sq,by rw[h2.length];exact hi⟩
 | tup h1 h2=>exact⟨_,h1,by rw[h2.length];exact hi⟩
 | rng lo hi'=>rw[aX] at hi;exact hi
 | str x=>rw[fg] at hi;exact hi
 | zip h1 h2 h3 h4=>exact⟨_,_,h1.sq,h2.sq,by rw[iW] at hi;rw[h3.length,h4.length];omega⟩
theorem Wlk.go (h:Wlk K S H J ds) {i:Nat} (hi:i < ds.length):J.go i H:=by
 cases h with
 | lst h0 h1 h2=>obtain⟨v,hv,_⟩:=h2.get (i:=i) (d:=ds[i]) (by simp[hi]);exact⟨_,v,.inl h1,hv⟩
 | lstK h1 h2=>obtain⟨v,hv,_⟩:=h2.get (i:=i) (d:=ds[i]) (by simp[hi]);exact⟨_,v,h1.sq,hv⟩
 | tup h1 h2=>obtain⟨v,hv,_⟩:=h2.get (i:=i) (d:=ds[i]) (by simp[hi]);exact⟨_,v,h1,hv⟩
 | rng lo hi'=>rw[aX] at hi;exact hi
 | str x=>rw[fg] at hi;exact hi
 | zip h1 h2 h3 h4=>
  rename_i ds' es'
  rw[iW] at hi
  obtain⟨v,hv,_⟩:=h3.get (i:=i) (d:=ds'[i]) (by rw[List.getElem?_eq_getElem])
  obtain⟨u,hu,_⟩:=h4.get (i:=i) (d:=es'[i]) (by rw[List.getElem?_eq_getElem])
  exact⟨_,_,v,u,h1.sq,h2.sq,hv,hu⟩
theorem Wlk.yld (h:Wlk K S H J ds) {i:Nat} {x:V} {H2:Hp} (y:J.yld i H x H2) {d:D} (hd:ds[i]? = some d):ak H H2/\HRep K S H2 x d:=by
 have fin:∀ {xs:List V},HReps K S H xs ds->xs[i]? = some x->HRep K S H x d:=fun m e=>by
  obtain⟨d',e',m'⟩:=m.getV e
  rw[hd] at e';cases e';exact m'
 cases h with
 | lst h0 h1 h2=>obtain⟨e,y⟩:=y;subst e;exact⟨.refl _,fin h2 (y _ (.inl h1))⟩
 | lstK h1 h2=>obtain⟨e,y⟩:=y;subst e;exact⟨.refl _,fin h2 (y _ h1.sq)⟩
 | tup h1 h2=>obtain⟨e,y⟩:=y;subst e;exact⟨.refl _,fin h2 (y _ h1)⟩
 | zip h1 h2 h3 h4=>
  obtain⟨T,a,b,e1,hT,e2,hy⟩:=y
  subst e1 e2
  obtain⟨y1,y2⟩:=hy _ _ h1.sq h2.sq
  obtain⟨d1,g1,m1⟩:=h3.getV y1
  obtain⟨d2,g2,m2⟩:=h4.getV y2
  unfold cQ at hd
  rw[List.getElem?_zipWith,g1,g2] at hd
  cases hd
  have e:ak H (upd H T (.tup [a,b])):=.upd hT
  exact⟨e,.tup (SqT.of ar) (.cons (m1.mono (fun _ z=>z) e) (.cons (m2.mono (fun _ z=>z) e) .nil))⟩
 | rng lo hi'=>
  obtain⟨e1,e2⟩:=y
  subst e1
  refine⟨.refl _,?_⟩
  subst e2
  unfold bp at hd
  rw[List.getElem?_map] at hd
  have hi:i < (hi' - lo).toNat:=by
   have:=(Option.map_eq_some_iff.mp hd)
   obtain⟨z,h1,_⟩:=this
   have:=(List.getElem?_eq_some_iff.mp h1).1
   simpa using this
  rw[List.getElem?_range hi] at hd
  cases hd
  exact .int _
 | str x=>
  obtain⟨e1,c,h1,e2⟩:=y
  subst e1
  refine⟨.refl _,?_⟩
  subst e2
  unfold cA at hd
  rw[List.getElem?_map] at hd
  have h2:x.cps.toList[i]? = some c:=by simpa using h1
  rw[h2] at hd
  cases hd
  exact .str _
end
section
variable {Z:Sg} {CX:CXT} {cl:Nat->List D->Res D} {xp:XK->Hp->Str->Prop} {X:Cx} {ex:Str->Prop} {G:Gm} {K:PySem.W.Frag} {S:Addr->Prop} {H H1:Hp} {σ:St} {τ:Ev}
theorem yJ {is:List Nat} {f:Ev->Res (List D)} {Kt:List D->Prop} {R:It->Hp->Prop} (e:ak H H1) (hs:Slots K S H σ τ is) (h:PO' ex (f τ) Kt) (k:∀ ds J H2,ak H H2->ak H1 H2->Wlk K (nw S H) H2 J ds->Kt ds->R J H2):RI K ex is f σ H1 R:=
 ⟨nw S H,τ,hs.go e,h.mono fun x hx J H2 e2 m=>k x J H2 (e.trans e2) e2 (m.mono (f9 e) (.refl _)) hx⟩
theorem kz {tg:Expr} {pins:List (Addr×Obj)} {s:Shared} {a:Addr} {xs:List V} {R:It->Hp->Prop} (I:Inv X pins σ H s) (hq:SqL X.K H a xs) (q:R (Itl X.K a) H):wpAny (model X.prog X.w) X.A (pyIter (.ref a)) (PIE X pins σ tg R) X.xe s:=by
 obtain⟨its,rv,p,hz⟩:=I.list hq
 refine wpAny_pyIter_list p.isList ?_
 refine⟨s.heap.objs.size,[s.heap.objs.size],_,_,H,rfl,I.kept (t':=s.toks) fun b o e=>Heap.get?_push_of_some _ e,lO a _,⟨_,Heap.get?_push_size _ rfl,rfl,rfl⟩,fun b hb=>?_,q⟩
 have e:b=s.heap.objs.size:=by simpa using hb
 subst e
 exact I.fpOk (Nat.le_refl _) (I.hok.fresh (Nat.le_refl _))
theorem nN {tg:Expr} {pins:List (Addr×Obj)} {s:Shared} {a:Addr} {xs:List V} {R:It->Hp->Prop} (I:Inv X pins σ H s) (hq:SqT X.K H a xs) (q:R (Itt X.K a) H):wpAny (model X.prog X.w) X.A (pyIter (.ref a)) (PIE X pins σ tg R) X.xe s:=by
 obtain⟨its,rv,p,hz⟩:=I.tuple hq
 refine wpAny_pyIter_tuple (show s.heap.IsTuple a its.toArray from p) ?_
 refine⟨s.heap.objs.size,[s.heap.objs.size],_,_,H,rfl,I.kept (t':=s.toks) fun b o e=>Heap.get?_push_of_some _ e,jq a _,⟨_,Heap.get?_push_size _ rfl,rfl,rfl⟩,fun b hb=>?_,q⟩
 have e:b=s.heap.objs.size:=by simpa using hb
 subst e
 exact I.fpOk (Nat.le_refl _) (I.hok.fresh (Nat.le_refl _))
theorem yL {tg e:Expr} {va:List Nat} {fa:Ev->Res D} (ha:PE X e (RD X.K ex va fa)):PI X tg e (RI X.K ex va fun τ=>bnd (fa τ) dM):=by
 intro pins s σ H R I h
 obtain⟨S,τ,hs,q⟩:=h
 refine thn (ha pins s σ H (fun v H'=>∃ d,ak H H'/\HRep X.K (nw S H) H' v d/\_) I (bb (.refl _) hs (PO'.bnd q) fun x v H1 e1 _ m1 q1=>⟨x,e1,m1,q1⟩)) fun v s1 ⟨x,H1,I1,r1,d,e1,m1,q1⟩=>?_
 cases d with
 | lst o ds=>
  cases m1 with
  | lst h0 h1 h2=>cases r1;exact kz I1 (.inl h1) (q1.ok _ _ e1 (.lst h0 h1 h2))
  | lstK h1 h2=>cases r1;exact kz I1 h1.sq (q1.ok _ _ e1 (.lstK h1 h2))
 | tup ds=>
  obtain⟨a,xs,rfl,h1,h2⟩:=m1.tupR
  cases r1
  exact nN I1 h1 (q1.ok _ _ e1 (.tup h1 h2))
 | str z=>
  cases m1.strR
  obtain⟨t,rfl⟩:=r1
  obtain⟨_,q1⟩:=PO'.grd q1
  exact wa I1 (q1.ok _ _ e1 (.str z))
 | _=>exact q1.no.elim
theorem wx (g:GOk Z CX cl xp X ex G) {tg e:Expr} {p pos:Pos} {va:List Nat} {fa:Ev->Res D} (hg:G.gl.contains 15=true) (hn:notStar e=true) (ha:PE X e (RD X.K ex va fa)) :
  PI X tg (.Call (.Name "range" p) [e] [] pos) (RI X.K ex va fun τ=>bnd (fa τ) fun | .int i=>grd (bF i) (.ok (bp 0 i)) | _=>stk):=by
 obtain⟨k1,k2,_,_⟩:=dX g (show bg[15]? = some ("range" : Str) from rfl) hg
 refine jw (fN k1 k2 (aR ha bK (ag hn _ _)) (ag hn _ _)) fun σ H Q ⟨S,τ,hs,q⟩=>?_
 refine bb (.refl _) hs (PO'.bnd q) fun x v H1 e1 _ m1 q1=>?_
 cases x with
 | int i=>
  cases m1.intR
  obtain⟨gd,q1⟩:=PO'.grd q1
  have gd' : -(2 ^ 62)<=i/\i < 2 ^ 62:=of_decide_eq_true gd
  refine⟨i,rfl,gd'.1,gd'.2,?_⟩
  have:=q1.ok _ _ e1 (.rng 0 i)
  rw[Int.sub_zero] at this
  exact this
 | _=>exact q1.no.elim
theorem yM {a:Addr} {v:V} {d:D} {ds:List D} (m:HRep K S H v d) (h:jC d=.ok ds):∃ k a xs,v=.ref a/\WS K S H k a xs/\HReps K S H xs ds:=by
 cases d with
 | lst o es=>
  cases h
  cases m with
  | lst h0 h1 h2=>exact⟨.l,_,_,rfl,.inl ⟨h0,h1⟩,h2⟩
  | lstK h1 h2=>exact⟨.l,_,_,rfl,.inr h1,h2⟩
 | tup es=>
  cases h
  obtain⟨a,xs,rfl,h1,h2⟩:=m.tupR
  exact⟨.t,a,xs,rfl,h1,h2⟩
 | _=>cases h
theorem yN (g:GOk Z CX cl xp X ex G) {es:List Expr} {c:Nat} {tp:Pos} {e e':Expr} {p pos:Pos} {va vb:List Nat} {fa fb:Ev->Res D} (hg:G.gl.contains 17=true) (hn:notStar e=true) (hn':notStar e'=true) (ha:PE X e (RD X.K ex va fa)) (hb:PE X e' (RD X.K ex vb fb)) :
  PI X (.Tuple es c tp) (.Call (.Name "zip" p) [e,e'] [] pos) (RI X.K ex (va++vb) fun τ=>bnd (fa τ) fun x=>bnd (fb τ) fun y=>rC x y):=by
 obtain⟨k1,k2,_,_⟩:=dX g (show bg[17]? = some ("zip" : Str) from rfl) hg
 refine jw (vW k1 k2 (aR ha (aR hb bK (ag hn' _ _)) (ag hn _ _)) (by rw[ag hn,ag hn'];rfl) (ag hn' _ _)) fun σ H Q ⟨S,τ,hs,q⟩=>?_
 refine bb (.refl _) hs.left (PO'.bnd q) fun x v H1 e1 _ m1 q1=>?_
 refine bb e1 hs.right (PO'.bnd q1) fun y w H2 e2 e2' m2 q2=>?_
 have q3:=PO'.bnd (show PO' ex (bnd (jC x) fun ds=>bnd (jC y) fun es=>.ok (cQ ds es)) _ from q2)
 have m1':=m1.mono (fun _ z=>z) e2'
 cases hx:jC x with
 | error z=>
  rw[hx] at q3
  cases x<;>first | (cases hx;exact q3.no.elim) | cases hx
 | ok ds=>
  rw[hx] at q3
  have q4:=PO'.bnd q3.ok
  cases hy:jC y with
  | error z=>
   rw[hy] at q4
   cases y<;>first | (cases hy;exact q4.no.elim) | cases hy
  | ok es'=>
   rw[hy] at q4
   obtain⟨k1,a1,xs,rfl,w1,r1⟩:=yM (a:=0) m1' hx
   obtain⟨k2,a2,ys,rfl,w2,r2⟩:=yM (a:=0) m2 hy
   exact⟨k1,k2,a1,a2,xs,ys,rfl,w1.sq,w2.sq,q4.ok.ok _ _ e2 (.zip w1 w2 r1 r2)⟩
theorem cf {env:Env} {x:Str}:∀ (names:List (Str×NameKind)),
  (names.map fun (n,k)=>if (k == NameKind.free && env.scope.kind == .function && env.kindOf n == some .cell) then (n,NameKind.cell) else (n,k)).lookup x =
   (names.lookup x).map fun k=>if (k == NameKind.free && env.scope.kind == .function && env.kindOf x == some .cell) then NameKind.cell else k
 | []=>rfl
 | (n,k)::r=>by
  have ih:=cf (env:=env) (x:=x) r
  rw[List.map_cons]
  show List.lookup x ((if (k == NameKind.free && env.scope.kind == .function && env.kindOf n == some .cell)=true then (n,NameKind.cell) else (n,k))::_)=_
  by_cases hc:(k == NameKind.free && env.scope.kind == .function && env.kindOf n == some .cell)=true
  ·rw[if_pos hc,List.lookup_cons,List.lookup_cons]
   cases hx:x == n with
   | true=>
    have e:x=n:=eq_of_beq hx
    subst e
    show some NameKind.cell=some (if _ then _ else _)
    rw[if_pos hc]
   | false=>exact ih
  ·rw[if_neg hc,List.lookup_cons,List.lookup_cons]
   cases hx:x == n with
   | true=>
    have e:x=n:=eq_of_beq hx
    subst e
    show some k=some (if _ then _ else _)
    rw[if_neg hc]
   | false=>exact ih
theorem jN {scope:Scope} {env:Env} (h:∀ y ∈ scope.names,y.2=.free->∃ c,env.cells.lookup y.1=some c) :
  ∃ cl',closureFor scope env=pure cl'/\(∀ x c,cl'.lookup x=some c->env.cells.lookup x=some c)/\∀ y ∈ scope.names,y.2=.free->∃ c,cl'.lookup y.1=some c:=by
 have key:∀ (names:List (Str×NameKind)) (acc:List (Str×Addr)),(∀ y ∈ names,y.2=.free->∃ c,env.cells.lookup y.1=some c)->(∀ x c,acc.lookup x=some c->env.cells.lookup x=some c)->
   ∃ cl',(forIn names acc fun (p:Str×NameKind) (r:List (Str×Addr))=>(if (p.2 == NameKind.free)=true then do let a <- cellOf env p.1;pure (ForInStep.yield ((p.1,a)::r)) else pure (ForInStep.yield r):Sem (ForInStep (List (Str×Addr)))))=pure cl'/\(∀ x c,cl'.lookup x=some c->env.cells.lookup x=some c)/\
    (∀ y ∈ names,y.2=.free->∃ c,cl'.lookup y.1=some c)/\∀ x c,acc.lookup x=some c->∃ c',cl'.lookup x=some c':=by
  intro names
  induction names with
  | nil=>intro acc _ h2;exact⟨acc,rfl,h2,fun y hy=>absurd hy (by simp),fun x c e=>⟨c,e⟩⟩
  | cons p names ih=>
   intro acc h1 h2
   rw[List.forIn_cons]
   by_cases hp:p.2=.free
   ·obtain⟨c,hc⟩:=h1 p (by simp) hp
    have hb:(p.2 == NameKind.free)=true:=by rw[hp];rfl
    have h2':∀ x c',((p.1,c)::acc).lookup x=some c'->env.cells.lookup x=some c':=by
     intro x c' e
     rw[List.lookup_cons] at e
     cases hx:x == p.1 with
     | true=>
      rw[hx] at e
      cases e
      rw[eq_of_beq hx]
      exact hc
     | false=>rw[hx] at e;exact h2 x c' e
    obtain⟨cl',e1,e2,e3,e4⟩:=ih ((p.1,c)::acc) (fun y hy=>h1 y (List.mem_cons_of_mem _ hy)) h2'
    refine⟨cl',?_,e2,fun y hy hf=>?_,fun x c' e=>?_⟩
    ·rw[if_pos hb]
     have:cellOf env p.1=pure c:=by unfold cellOf;rw[hc]
     rw[this]
     exact e1
    ·rcases List.mem_cons.mp hy with rfl | hy
     ·exact e4 y.1 c (by rw[List.lookup_cons];simp)
     ·exact e3 y hy hf
    ·rcases hx:x == p.1 with _ | _
     ·exact e4 x c' (by rw[List.lookup_cons,hx];exact e)
     ·exact e4 x c (by rw[List.lookup_cons,hx])
   ·have hb:¬ (p.2 == NameKind.free)=true:=fun z=>hp (eq_of_beq z)
    obtain⟨cl',e1,e2,e3,e4⟩:=ih acc (fun y hy=>h1 y (List.mem_cons_of_mem _ hy)) h2
    refine⟨cl',?_,e2,fun y hy hf=>?_,e4⟩
    ·rw[if_neg hb]
     exact e1
    ·rcases List.mem_cons.mp hy with rfl | hy
     ·exact absurd hf hp
     ·exact e3 y hy hf
 obtain⟨cl',e1,e2,e3,_⟩:=key scope.names [] h (fun x c e=>by cases e)
 refine⟨cl',?_,e2,e3⟩
 unfold closureFor
 exact congrArg (fun (m:Sem (List (Str×Addr)))=>m >>= fun r=>pure r) e1
structure ScOk (Z:Sg) (G:Gm) (scope:Scope) (G':Gm) (fr:List Nat):Prop where
 cm:G.cm=true
 kind:scope.kind=.function
 tr:G'.tr=false
 df:G'.df=false
 kdl:G'.kd.length=G'.N.length
 nocell:∀ y ∈ scope.names,y.2≠.cell
 loc:∀ y ∈ scope.names,y.2=.local->scope.names.lookup y.1=some .local
 fre:∀ y ∈ scope.names,y.2=.free->∃ i:Nat,G.N[i]? = some y.1/\(G.kd[i]? = some .cell∨G.kd[i]? = some .free)
 frs:∀ (j:Nat) (i:Nat),fr[j]? = some i->∃ x,G.N[i]? = some x/\G'.N[j]? = some x/\scope.names.lookup x=some .free/\(G.kd[i]? = some .cell∨G.kd[i]? = some .free)/\G'.kd[j]? = some (if (G.kd[i]? == some .cell)=true then .cell else .free)
 fle:fr.length<=G'.N.length
 tgs:∀ (j:Nat) (x:Str),fr.length<=j->G'.N[j]? = some x->scope.names.lookup x=some .local/\G'.kd[j]? = some .local
 noD:∀ x ∈ G'.N,(x == ("__debug__" : Str))=false/\(x == ("__classdict__" : Str))=false
 nod:G'.N.Nodup
 gl:∀ n ∈ G'.gl,∃ x,Z.name n=some x/\scope.names.lookup x=some .globalImplicit
theorem gR {Z:Sg} {G:Gm} {scope:Scope} {G':Gm} {fr:List Nat} (h:bt Z G scope G' fr=true):ScOk Z G scope G' fr:=by
 unfold bt at h
 simp only[Bool.and_eq_true] at h
 obtain⟨⟨⟨⟨⟨⟨⟨⟨⟨⟨⟨⟨⟨h0,h1⟩,h1'⟩,h2⟩,h3⟩,h4⟩,h5⟩,h6⟩,h7⟩,h8⟩,h9⟩,h10⟩,h11⟩,h12⟩:=h
 rw[List.all_eq_true] at h4 h5 h6 h7 h9 h10 h12
 refine⟨h0,eq_of_beq h1,by simpa using h1',by simpa using h2,eq_of_beq h3,fun y hy=>by simpa using h4 y hy,fun y hy e=>?_,fun y hy e=>?_,fun j i e=>?_,of_decide_eq_true h8,fun j x hj e=>?_,fun x hx=>by simpa using h10 x hx,of_decide_eq_true h11,fun n hn=>?_⟩
 ·have:=h5 y hy
  rw[e] at this
  simpa using this
 ·have:=h6 y hy
  rw[e] at this
  simp only[bne_self_eq_false,Bool.false_or,List.any_eq_true,Bool.and_eq_true,Bool.or_eq_true] at this
  obtain⟨i,_,hi,hk⟩:=this
  exact⟨i,eq_of_beq hi,hk.elim (fun z=>.inl (eq_of_beq z)) fun z=>.inr (eq_of_beq z)⟩
 ·have hj:j < fr.length:=(List.getElem?_eq_some_iff.mp e).1
  have:=h7 j (List.mem_range.mpr hj)
  simp only[e,Option.bind_some,Bool.and_eq_true,Bool.or_eq_true] at this
  obtain⟨⟨⟨a1,a2⟩,a3⟩,a4⟩:=this
  have a1':=eq_of_beq a1
  have a2':=eq_of_beq a2
  cases q:G'.N[j]? with
  | none=>rw[q] at a2';cases a2'
  | some x=>
   rw[q] at a2' a1'
   exact⟨x,a1'.symm,rfl,a2',a3.elim (fun z=>.inl (eq_of_beq z)) fun z=>.inr (eq_of_beq z),eq_of_beq a4⟩
 ·have hlt:j < G'.N.length:=(List.getElem?_eq_some_iff.mp e).1
  have hm:j ∈ (List.range G'.N.length).drop fr.length:=by
   rw[List.mem_drop_iff_getElem]
   exact⟨j - fr.length,by simp;omega,by simp;omega⟩
  have:=h9 j hm
  rw[e] at this
  simp only[Option.bind_some,Bool.and_eq_true] at this
  exact⟨eq_of_beq this.1,eq_of_beq this.2⟩
 ·have:=h12 n hn
  cases q:Z.name n with
  | none=>rw[q] at this;cases this
  | some x=>
   rw[q] at this
   exact⟨x,rfl,eq_of_beq this⟩
noncomputable def frN (G:Gm) (fr:List Nat):List (Str×Nat):=fr.map fun i=>(G.N.getD i "",i)
theorem yO {scope:Scope} {G':Gm} {fr:List Nat} (s:ScOk Z G scope G' fr):(frN G fr).map (·.1)++G'.N.drop fr.length=G'.N:=by
 have e:(frN G fr).map (·.1)=G'.N.take fr.length:=by
  apply List.ext_getElem?
  intro j
  unfold frN
  rw[List.map_map,List.getElem?_map,List.getElem?_take]
  cases q:fr[j]? with
  | none=>
   have:¬ j < fr.length:=by
    intro z
    rw[List.getElem?_eq_getElem z] at q
    cases q
   rw[if_neg this]
   rfl
  | some i=>
   have:j < fr.length:=(List.getElem?_eq_some_iff.mp q).1
   rw[if_pos this]
   obtain⟨x,h1,h2,_⟩:=s.frs j i q
   rw[h2]
   show some (G.N.getD i "")=some x
   rw[List.getD_eq_getElem?_getD,h1]
   rfl
 rw[e,List.take_append_drop]
theorem dP (g:GOk Z CX cl xp X ex G) (ok:X.Ok) {scope:Scope} {G':Gm} {fr:List Nat} (s:ScOk Z G scope G' fr):∃ cl',CompSc X scope cl' (frN G fr) (G'.N.drop fr.length):=by
 have hfree:∀ y ∈ scope.names,y.2=.free->∃ c,X.env.cells.lookup y.1=some c:=fun y hy hf=>by
  obtain⟨i,h1,h2⟩:=s.fre y hy hf
  have hk:=g.kd i y.1 h1
  exact ok.has y.1 (h2.elim (fun z=>.inl (hk.trans z)) fun z=>.inr (hk.trans z))
 obtain⟨cl',e1,e2,e3⟩:=jN hfree
 refine⟨cl',e1,s.kind,s.nocell,s.loc,e2,fun x hx=>?_,fun p hp=>?_⟩
 ·have hl:=cf (env:=X.env) (x:=x) scope.names
  have hx':((scope.names.lookup x).map fun k=>if (k == NameKind.free && X.env.scope.kind == .function && X.env.kindOf x == some .cell)=true then NameKind.cell else k)=some .cell∨
    ((scope.names.lookup x).map fun k=>if (k == NameKind.free && X.env.scope.kind == .function && X.env.kindOf x == some .cell)=true then NameKind.cell else k)=some .free:=by
   rcases hx with hx | hx
   ·exact .inl (hl.symm.trans hx)
   ·exact .inr (hl.symm.trans hx)
  cases q:scope.names.lookup x with
  | none=>rw[q] at hx';rcases hx' with z | z<;>cases z
  | some k=>
   have hm:(x,k) ∈ scope.names:=PySem.mem_of_lookup q
   have hk:k=.free:=by
    rw[q] at hx'
    rcases hx' with z | z
    ·have z':(if (k == NameKind.free && X.env.scope.kind == .function && X.env.kindOf x == some .cell)=true then NameKind.cell else k)=.cell:=Option.some.inj z
     split at z'
     ·rename_i hc
      simp only[Bool.and_eq_true] at hc
      exact eq_of_beq hc.1.1
     ·exact absurd z' (s.nocell _ hm)
    ·have z':(if (k == NameKind.free && X.env.scope.kind == .function && X.env.kindOf x == some .cell)=true then NameKind.cell else k)=.free:=Option.some.inj z
     split at z'
     ·cases z'
     ·exact z'
   exact e3 (x,k) hm hk
 ·unfold frN at hp
  rw[List.mem_map] at hp
  obtain⟨i,hi,rfl⟩:=hp
  obtain⟨j,hj⟩:=List.getElem?_of_mem hi
  obtain⟨x,h1,h2,h3,h4,h5⟩:=s.frs j i hj
  have hn:G.N.getD i "" = x:=by rw[List.getD_eq_getElem?_getD,h1];rfl
  show X.N[i]? = some (G.N.getD i "")/\_
  rw[hn]
  have hk:=g.kd i x h1
  refine⟨by rw[g.N];exact h1,h4.elim (fun z=>.inl (hk.trans z)) fun z=>.inr (hk.trans z),?_⟩
  have hl:=cf (env:=X.env) (x:=x) scope.names
  rw[h3] at hl
  have hl':(relabel scope X.env).names.lookup x=some (if (NameKind.free == NameKind.free && X.env.scope.kind == .function && X.env.kindOf x == some .cell)=true then NameKind.cell else NameKind.free):=hl
  rw[hl']
  split
  ·exact .inl rfl
  ·exact .inr rfl
theorem bu (g:GOk Z CX cl xp X ex G) {scope:Scope} {G':Gm} {fr:List Nat} (s:ScOk Z G scope G' fr) (cl':List (Str×Addr)) (C:Addr) (s3:Shared) (H3:Hp) (fp:List Addr) :
  GOk Z CX cl xp (cxC X scope cl' ((frN G fr).map (·.1)++G'.N.drop fr.length) C s3 H3 fp) (fun _=>False) G' where
 N:=yO s
 nod:=s.nod
 calm:=fun _=>g.calm s.cm
 fk:=s.kind
 un:=g.un
 own:=fun _=>PassesOwn.never
 kd:=fun j x hx=>by
  show (relabel scope X.env).names.lookup x=_
  have hl:=cf (env:=X.env) (x:=x) scope.names
  by_cases hj:j < fr.length
  ·obtain⟨y,h1,h2,h3,h4,h5⟩:=s.frs j fr[j] (by simp[hj])
   rw[hx] at h2
   cases h2
   rw[h3] at hl
   rw[h5]
   refine hl.trans ?_
   have hk:=g.kd fr[j] x h1
   show some (if (NameKind.free == NameKind.free && X.env.scope.kind == .function && X.env.kindOf x == some .cell)=true then NameKind.cell else NameKind.free)=_
   rw[hk,g.fk]
   rfl
  ·obtain⟨h1,h2⟩:=s.tgs j x (by omega) hx
   rw[h1] at hl
   rw[h2]
   exact hl
 noD:=fun j x hx=>s.noD x (List.mem_of_getElem? hx)
 gl:=fun n hn x e=>by
  obtain⟨y,h1,h2⟩:=s.gl n hn
  rw[e] at h1
  cases h1
  show (relabel scope X.env).names.lookup x=_
  have hl:=cf (env:=X.env) (x:=x) scope.names
  rw[h2] at hl
  exact hl
 nam:=g.nam
 df:=fun z=>by rw[s.df] at z;cases z
 blt:=g.blt
 cst:=g.cst
 fns:=fun f hf _ x hx=>g.fns f hf (.inl s.cm) x hx
 xcv:=g.xcv
 xcl:=g.xcl
 xmt:=g.xmt
 xrs:=g.xrs
 rse:=fun _ pins σ H s c C h' e vs _ z=>z.elim
 tr:=fun z=>by rw[s.tr] at z;cases z
 exs:=⟨fun _ _ _=>False,fun pins σ H s e s' _ h=>(g.exn _ _ _ _ _ h).elim,fun c _ z=>z.elim⟩
 hid:=g.hid
 exn:=g.exn
end
noncomputable abbrev nox:Str->Prop:=fun _=>False
theorem PO'.noX {α:Type} {ex:Str->Prop} {x:Res α} {k:α->Prop} (h:PO' ex (L2.noX x) k):PO' nox x k:=by
 cases x with
 | ok a=>exact h
 | error e=>exact False.elim h
section
variable {K:PySem.W.Frag} {S:Addr->Prop} {H:Hp} {σ:St} {τ:Ev} {ex:Str->Prop} {cl:Nat->List D->Res D} {G G':Gm} {fr:List Nat}
noncomputable def blk (G':Gm) (fr:List Nat) (τ:Ev):Ev:=fr.map (ai τ)++List.replicate (G'.N.length - fr.length) none
theorem rN (hl:fr.length<=G'.N.length):(blk G' fr τ).length=G'.N.length:=by
 unfold blk
 rw[List.length_append,List.length_map,List.length_replicate]
 omega
theorem rO (Tg:List Str) (σ:St):(stC (frN G fr) Tg σ).length=fr.length + Tg.length:=by
 unfold stC frN
 rw[List.length_append,List.length_map,List.length_map,List.length_replicate]
theorem nO {j:Nat} {d:D} (h:ai (blk G' fr τ) j=some d):∃ i,fr[j]? = some i/\ai τ i=some d:=by
 unfold ai blk at h
 by_cases hj:j < fr.length
 ·rw[List.getElem?_append_left (by simpa using hj),List.getElem?_map,List.getElem?_eq_getElem hj] at h
  exact⟨fr[j],by simp[hj],h⟩
 ·rw[List.getElem?_append_right (by simpa using hj),List.getElem?_replicate] at h
  split at h<;>cases h
theorem rP {vs:List Nat} {σ':St} (hl:fr.length<=G'.N.length) (hs:Slots K S H σ τ (fr++vs)) (hn:σ'.length=G'.N.length) (hσ:∀ j,j < fr.length->σ'[j]? = (stC (frN G fr) (G'.N.drop fr.length) σ)[j]?):SlA K S H σ' (blk G' fr τ):=by
 refine⟨by rw[rN hl,hn],fun j d h=>?_⟩
 obtain⟨i,hi,hd⟩:=nO h
 have hj:j < fr.length:=(List.getElem?_eq_some_iff.mp hi).1
 obtain⟨v,h1,h2⟩:=hs i (List.mem_append_left _ (List.mem_of_getElem? hi)) d hd
 refine⟨v,?_,h2⟩
 rw[hσ j hj]
 unfold stC frN
 rw[List.getElem?_append_left (by simpa using hj),List.getElem?_map,List.getElem?_map,hi]
 show some ((σ[i]?).join)=some (some v)
 rw[h1]
 rfl
noncomputable def aG (cl:Nat->List D->Res D) (T:Tg) (I:List IR) (E:IR) (τ0:Ev) (x:D):Res (Option D):=bnd (bD T x τ0) fun τ1=>bnd (cX cl I τ1) fun r=>if r=true then bnd (evR cl E τ1) fun d=>.ok (some d) else .ok none
theorem ck {vs:List Nat} {fs:Ev->Res (List D)} {T:Tg} {I:List IR} {E:IR} {Kt:D->Prop} {Q:VK} (hl:fr.length<=G'.N.length) (ha:∀ i ∈ tgs T,fr.length<=i) (hs:Slots K S H σ τ (fr++vs))
  (q:PO' ex (bnd (fs τ) fun its=>grd (bO its.length) (bnd (noX (aA (aG cl T I E (blk G' fr τ)) its)) fun ds=>.ok (.lst true ds))) Kt)
  (fin:∀ A ys ds H',ak H H'->H A=none->H' A=some (.lst ys)->HReps K (fun a=>nw S H a/\a≠A) H' ys ds->Kt (.lst true ds)->Q (.ref A) H') :
  mS (RI K ex vs fs) (stC (frN G fr) (G'.N.drop fr.length)) (gT K T) (RT K nox (au I) (cX cl I)) (RD K nox (vars E) (evR cl E)) σ H Q:=by
 refine yJ (.refl _) hs.right (PO'.bnd q) fun its J H1 e1 _ w1 q1 A hA=>?_
 obtain⟨gd,q1⟩:=PO'.grd q1
 have q2:=PO'.noX (PO'.bnd q1)
 have hsz:=ek gd
 have hHA:H A=none:=e1.free hA
 -- what is read stands apart from the new list
 have tight:∀ a,nw S H a->H1 a≠none->nw S H a/\a≠A:=fun a h1 h2=>⟨h1,fun z=>h2 (by rw[z];exact hA)⟩
 have w2:Wlk K (fun a=>nw S H a/\a≠A) H1 J its:=w1.step (fun a xs h r=>⟨tight a h r.some,r⟩) fun a xs h=>h
 have hs2:Slots K (fun a=>nw S H a/\a≠A) H1 σ τ (fr++vs):=fun i hi d z=>by
  obtain⟨v,h1,h2⟩:=(hs.go e1) i hi d z
  exact⟨v,h1,h2.step (fun a xs h r=>⟨tight a h r.some,r⟩) fun a xs h=>h⟩
 refine⟨fun i m σ' H'=>m=its.length - i/\i<=its.length/\∃ ys acc,H' A=some (.lst ys)/\HReps K (fun a=>nw S H a/\a≠A) H' ys acc/\ys.length<=i/\ak H1 H'/\σ'.length=G'.N.length/\
   (∀ j,j < fr.length->σ'[j]? = (stC (frN G fr) (G'.N.drop fr.length) σ)[j]?)/\PO' nox (aA (aG cl T I E (blk G' fr τ)) (its.drop i)) fun ds=>Kt (.lst true (acc++ds)),⟨its.length,by simp,Nat.zero_le _,[],[],ar,.nil,Nat.le_refl _,.upd hA,?_,fun _ _=>rfl,?_⟩,?_⟩
 ·rw[rO,List.length_drop];omega
 ·rw[List.drop_zero]
  exact q2.mono fun ds z=>z.ok
 ·rintro i m σ' H' ⟨rfl,hi,ys,acc,hy,my,ly,e2,hn,hσ,q3⟩
  by_cases hlt:i < its.length
  ·refine .inr ⟨(w2.mono (fun _ z=>z) e2).go hlt,fun x H2 hy2=>?_⟩
   obtain⟨eH,mx⟩:=(w2.mono (fun _ z=>z) e2).yld hy2 (d:=its[i]) (by simp[hlt])
   have hy:=eH _ _ hy
   have my:=my.mono (fun _ z=>z) eH
   have e2:=e2.trans eH
   have hd:its.drop i=its[i]::its.drop (i + 1):=List.drop_eq_getElem_cons hlt
   rw[hd] at q3
   have q4:=PO'.bnd q3
   have q5:PO' nox (bD T its[i] (blk G' fr τ)) _:=PO'.bnd q4
   have sl:SlA K (fun a=>nw S H a/\a≠A) H2 σ' (blk G' fr τ):=rP (G:=G) (vs:=vs) (σ:=σ) hl (fun i hi d z=>by
    obtain⟨v,h1,h2⟩:=hs2 i hi d z
    exact⟨v,h1,h2.mono (fun _ z=>z) e2⟩) hn hσ
   refine ky T sl mx q5 fun τ' σ2 sl2 hn' hk q6=>?_
   have hn2:σ2.length=G'.N.length:=hn'.trans hn
   have hσ2:∀ j,j < fr.length->σ2[j]? = (stC (frN G fr) (G'.N.drop fr.length) σ)[j]?:=fun j hj=>by
    rw[hk j (fun z=>by have:=ha j z;omega)]
    exact hσ j hj
   have sl3:∀ is,Slots K (fun a=>nw S H a/\a≠A) H2 σ2 τ' is:=fun is i _ d z=>sl2.2 i d z
   refine gP (.refl _) (sl3 _) (PO'.bnd q6) fun r H4 e4 _ q7=>?_
   cases r with
   | false=>
    rw[if_neg Bool.false_ne_true] at q7 ⊢
    have q8:PO' nox (aA (aG cl T I E (blk G' fr τ)) (its.drop (i + 1))) fun ds=>Kt (.lst true (acc++ds)):=q7
    refine⟨its.length - (i + 1),by omega,rfl,hlt,ys,acc,e4 _ _ hy,my.mono (fun _ z=>z) e4,by omega,e2.trans e4,hn2,hσ2,q8⟩
   | true=>
    rw[if_pos rfl] at q7 ⊢
    refine bb e4 (sl3 _) (PO'.bnd q7) fun d v H5 e5 e5' m5 q8=>?_
    have q9:PO' nox (bnd (aA (aG cl T I E (blk G' fr τ)) (its.drop (i + 1))) fun r=>.ok (d::r)) fun ds=>Kt (.lst true (acc++ds)):=q8
    have q10:=PO'.bnd q9
    have hy5:H5 A=some (.lst ys):=e5 _ _ hy
    refine⟨ys,hy5,by omega,its.length - (i + 1),by omega,rfl,hlt,ys++[v],acc++[d],ar,?_,by rw[List.length_append,List.length_singleton];omega,?_,hn2,hσ2,?_⟩
    ·have hl5:∀ a (xs:LD),(nw S H a/\a≠A)->Rd H5 a xs.o->(nw S H a/\a≠A)/\Rd (upd H5 A (.lst (ys++[v]))) a xs.o:=fun a xs h r=>by
      refine⟨h,?_⟩
      unfold Rd
      rw[aj h.2]
      exact r
     have ht5:∀ a xs,SqE K H5 a xs->SqE K (upd H5 A (.lst (ys++[v]))) a xs:=fun a xs h=>h.upd hy5
     have m6:HRep K (fun a=>nw S H a/\a≠A) H5 v d:=m5.step (fun a xs h r=>⟨by
      rcases h with h | h
      ·exact h
      ·have:H a=none:=e1.free (e2.free h)
       exact⟨.inr this,fun z=>by rw[z,hy] at h;cases h⟩,r⟩) fun a xs h=>h
     exact(((my.mono (fun _ z=>z) e5).step hl5 ht5)).append (.cons (m6.step hl5 ht5) .nil)
    ·exact fun b o hb=>by
      have:b≠A:=by rintro rfl;rw[hA] at hb;cases hb
      rw[aj this]
      exact e5 _ _ (e2 _ _ hb)
    ·refine q10.mono fun ds z=>?_
     have z':=z.ok
     rw[List.append_assoc]
     exact z'
  ·have e:i=its.length:=by omega
   subst e
   refine .inl ⟨(w2.mono (fun _ z=>z) e2).stop (Nat.le_refl _),?_⟩
   rw[List.drop_length] at q3
   have q4:=q3.ok
   rw[List.append_nil] at q4
   exact fin A ys acc H' (e1.trans e2) hHA hy my q4
end
section
variable {Z:Sg} {CX:CXT} {cl:Nat->List D->Res D} {xp:XK->Hp->Str->Prop} {X:Cx} {ex:Str->Prop} {G G':Gm} {fr:List Nat}
theorem fq {T:Tg} {s:Sr} {I:List IR} {E:IR}:evR cl (.comp G' fr T s I E)=fun τ=>bnd (cR cl s τ) fun its=>grd (bO its.length) (bnd (noX (aA (aG cl T I E (blk G' fr τ)) its)) fun ds=>.ok (.lst true ds)):=rfl
theorem wy (g:GOk Z CX cl xp X ex G) {scope:Scope} {tg iter elt:Expr} {ifs:List Expr} {pos:Pos} {T:Tg} {s:Sr} {I:List IR} {E:IR} (hs:ScOk Z G scope G' fr) (hT:cB G' T tg=true) (ha:∀ i ∈ tgs T,fr.length<=i)
  (hi:PI X tg iter (RI X.K ex (dn s) (cR cl s))) (ht:∀ X',GOk Z CX cl xp X' nox G'->PTs X' ifs (RT X'.K nox (au I) (cX cl I))) (he:∀ X',GOk Z CX cl xp X' nox G'->PE X' elt (RD X'.K nox (vars E) (evR cl E)))
  (hf:∀ x,foldedSetIterable iter X.env x=pure x):PE X (.ListComp elt [⟨tg,iter,ifs,0⟩] scope pos) (RD X.K ex (fr++dn s) (evR cl (.comp G' fr T s I E))):=by
 intro pins s' σ H Q Iv h
 obtain⟨cl',S⟩:=dP g Iv.ok hs
 have p:=ke (pos:=pos) (elt:=elt) (ifs:=ifs) (tg:=tg) (g:=gT X.K T) (tt:=RT X.K nox (au I) (cX cl I)) (te:=RD X.K nox (vars E) (evR cl E)) (g.calm hs.cm) S hi (fun C s H fp=>pgT (bu g hs cl' C s H fp) T tg hT) (fun C s H fp=>ht _ (bu g hs cl' C s H fp)) (fun C s H fp=>he _ (bu g hs cl' C s H fp)) hf
 refine p pins s' σ H Q Iv ?_
 obtain⟨S0,τ,hsl,q⟩:=h
 rw[fq] at q
 exact ck hs.fle ha hsl q fun A ys ds H' e hA hA' m k=>k _ _ e (.lst (.inr hA) (.inl hA') (m.mono (fun _ z=>z.1) (.refl _)))
end
section
variable {Z:Sg} {CX:CXT} {cl:Nat->List D->Res D} {xp:XK->Hp->Str->Prop}
theorem mj {e:Expr} {a:IR} {G:Gm} (h:chk Z G a e=true) (env:Env) (x:Value):foldedSetIterable e env x=pure x:=by
 cases e<;>first | rfl | (cases a<;>cases h)
theorem bN {e:Expr} {a:Sr} {G:Gm} (h:bS Z G a e=true) (env:Env) (x:Value):foldedSetIterable e env x=pure x:=by
 cases a with
 | val a=>exact mj (show chk Z G a e=true from h) env x
 | _=>cases e<;>first | rfl | cases h
theorem both {X:Cx} {ex:Str->Prop} {e:Expr} {is:List Nat} {f:Ev->Res D} (h:PE X e (RD X.K ex is f)) (he:∀ whole,isTrue e X.env whole=(do let v <- whole;standAt e.pos;holding [v] (truthy v)):=by intro _;rfl) :
  PE X e (RD X.K ex is f)/\PT X e (RT X.K ex is fun τ=>bnd (f τ) aI):=⟨h,yp h he⟩
mutual
theorem snd:∀ (a:IR) (X:Cx) (ex:Str->Prop) (G:Gm) (e:Expr),GOk Z CX cl xp X ex G->chk Z G a e=true->PE X e (RD X.K ex (vars a) (evR cl a))/\PT X e (RT X.K ex (vars a) fun τ=>bnd (evR cl a τ) aI)
 | .c d,X,ex,G,e,g,h=>by
  cases e with
  | Constant k j pos=>exact both (s_c h)
  | _=>first | exact aa h | cases h
 | .g n d,X,ex,G,e,g,h=>by cases e<;>exact aa h
 | .v i,X,ex,G,e,g,h=>by
  cases e with
  | Name x pos=>exact both (s_v g h)
  | _=>first | exact aa h | cases h
 | .bin op a b,X,ex,G,e,g,h=>by
  cases e with
  | BinOp l o r pos=>
   have h':(o == bop op && chk Z G a l && chk Z G b r)=true:=h
   simp only[Bool.and_eq_true] at h'
   have e1:o=bop op:=eq_of_beq h'.1.1
   subst e1
   exact both (yq (snd a X ex G l g h'.1.2).1 (snd b X ex G r g h'.2).1)
  | _=>first | exact aa h | cases h
 | .neg a,X,ex,G,e,g,h=>by
  cases e with
  | UnaryOp o l pos=>
   cases o with
   | USub=>exact both (yr (snd a X ex G l g h).1)
   | _=>first | exact aa h | cases h
  | _=>first | exact aa h | cases h
 | .cmp op a b,X,ex,G,e,g,h=>by
  cases e with
  | Compare l os rs pos=>
   match os,rs,h with
   | [o],[r],h=>
    have h':(o == cop op && chk Z G a l && chk Z G b r && !behindInMarks o r)=true:=h
    simp only[Bool.and_eq_true] at h'
    have e1:o=cop op:=eq_of_beq h'.1.1.1
    subst e1
    exact yt g (snd a X ex G l g h'.1.1.2).1 (snd b X ex G r g h'.1.2).1 (by simpa using h'.2)
   | [],_,h=>first | exact aa h | cases h
   | [_],[],h=>first | exact aa h | cases h
   | [_],_::_::_,h=>first | exact aa h | cases h
   | _::_::_,_,h=>first | exact aa h | cases h
  | _=>first | exact aa h | cases h
 | .chain op op' a b c,X,ex,G,e,g,h=>by cases e<;>exact aa h
 | .and_ a b,X,ex,G,e,g,h=>by
  cases e with
  | BoolOp o es pos=>
   match o,es,h with
   | .And,[l,r],h=>
    have h':(chk Z G a l && chk Z G b r)=true:=h
    rw[Bool.and_eq_true] at h'
    obtain⟨pa,ta⟩:=snd a X ex G l g h'.1
    obtain⟨pb,tb⟩:=snd b X ex G r g h'.2
    exact⟨sV pa (mE pb),sW ta (qI tb)⟩
   | .And,l::r::r'::rest,h=>
    have h':(chk Z G a l && chk Z G b (.BoolOp .And (r::r'::rest) pos))=true:=h
    rw[Bool.and_eq_true] at h'
    obtain⟨pa,ta⟩:=snd a X ex G l g h'.1
    obtain⟨pb,tb⟩:=snd b X ex G _ g h'.2
    exact⟨sV pa pb,sW ta (nL (e:=l) tb)⟩
   | .And,[],h=>first | exact aa h | cases h
   | .And,[_],h=>first | exact aa h | cases h
   | .Or,_,h=>first | exact aa h | cases h
  | _=>first | exact aa h | cases h
 | .or_ a b,X,ex,G,e,g,h=>by
  cases e with
  | BoolOp o es pos=>
   match o,es,h with
   | .Or,[l,r],h=>
    have h':(chk Z G a l && chk Z G b r)=true:=h
    rw[Bool.and_eq_true] at h'
    obtain⟨pa,ta⟩:=snd a X ex G l g h'.1
    obtain⟨pb,tb⟩:=snd b X ex G r g h'.2
    exact⟨yu pa (mE pb),yy ta (vi tb)⟩
   | .Or,l::r::r'::rest,h=>
    have h':(chk Z G a l && chk Z G b (.BoolOp .Or (r::r'::rest) pos))=true:=h
    rw[Bool.and_eq_true] at h'
    obtain⟨pa,ta⟩:=snd a X ex G l g h'.1
    obtain⟨pb,tb⟩:=snd b X ex G _ g h'.2
    exact⟨yu pa pb,yy ta (nL (e:=l) tb)⟩
   | .Or,[],h=>first | exact aa h | cases h
   | .Or,[_],h=>first | exact aa h | cases h
   | .And,_,h=>first | exact aa h | cases h
  | _=>first | exact aa h | cases h
 | .not_ a,X,ex,G,e,g,h=>by
  cases e with
  | UnaryOp o l pos=>
   cases o with
   | Not=>
    obtain⟨pa,ta⟩:=snd a X ex G l g h
    exact yv pa ta
   | _=>first | exact aa h | cases h
  | _=>first | exact aa h | cases h
 | .ite t a b,X,ex,G,e,g,h=>by cases e<;>exact aa h
 | .tup es,X,ex,G,e,g,h=>by
  cases e with
  | Tuple l n pos=>exact both (yz (jO es X ex G l g h))
  | _=>first | exact aa h | cases h
 | .lst es,X,ex,G,e,g,h=>by
  cases e with
  | List l pos=>exact both (yB (jO es X ex G l g h))
  | _=>first | exact aa h | cases h
 | .idx a i,X,ex,G,e,g,h=>by
  cases e with
  | Subscript o s pos=>
   have h':(cb s && chk Z G a o && chk Z G i s)=true:=by
    cases s<;>first | exact h | (rename_i l u st p;cases st<;>exact h)
   simp only[Bool.and_eq_true] at h'
   exact both (yC (snd a X ex G o g h'.1.2).1 (snd i X ex G s g h'.2).1 h'.1.1)
  | _=>first | exact aa h | cases h
 | .sl a lo hi,X,ex,G,e,g,h=>by
  cases e with
  | Subscript o s pos=>
   match s,h with
   | .Slice l u none p,h=>
    have h':(chk Z G a o && jK Z G lo l && jK Z G hi u)=true:=h
    simp only[Bool.and_eq_true] at h'
    exact both (Bq (snd a X ex G o g h'.1.1).1 (rQ lo X ex G l g h'.1.2) (rQ hi X ex G u g h'.2))
   | .Slice _ _ (some _) _,h=>first | exact aa h | cases h
   | .BoolOp ..,h=>first | exact aa h | cases h
   | .NamedExpr ..,h=>first | exact aa h | cases h
   | .BinOp ..,h=>first | exact aa h | cases h
   | .UnaryOp ..,h=>first | exact aa h | cases h
   | .Lambda ..,h=>first | exact aa h | cases h
   | .IfExp ..,h=>first | exact aa h | cases h
   | .Dict ..,h=>first | exact aa h | cases h
   | .Set ..,h=>first | exact aa h | cases h
   | .ListComp ..,h=>first | exact aa h | cases h
   | .SetComp ..,h=>first | exact aa h | cases h
   | .DictComp ..,h=>first | exact aa h | cases h
   | .GeneratorExp ..,h=>first | exact aa h | cases h
   | .Await ..,h=>first | exact aa h | cases h
   | .Yield ..,h=>first | exact aa h | cases h
   | .YieldFrom ..,h=>first | exact aa h | cases h
   | .Compare ..,h=>first | exact aa h | cases h
   | .Call ..,h=>first | exact aa h | cases h
   | .FormattedValue ..,h=>first | exact aa h | cases h
   | .JoinedStr ..,h=>first | exact aa h | cases h
   | .Constant ..,h=>first | exact aa h | cases h
   | .Attribute ..,h=>first | exact aa h | cases h
   | .Subscript ..,h=>first | exact aa h | cases h
   | .Starred ..,h=>first | exact aa h | cases h
   | .Name ..,h=>first | exact aa h | cases h
   | .List ..,h=>first | exact aa h | cases h
   | .Tuple ..,h=>first | exact aa h | cases h
  | _=>first | exact aa h | cases h
 | .call f es,X,ex,G,e,g,h=>by
  cases e with
  | Call fn args kws pos=>
   cases fn with
   | Name x p=>
    cases kws with
    | nil=>
     have h':(iS Z G f x && Z.fnc G f && aW Z G es args)=true:=h
     simp only[Bool.and_eq_true] at h'
     exact both (s_call g h'.1.1 h'.1.2 h'.2 (jO es X ex G args g h'.2))
    | cons _ _=>first | exact aa h | cases h
   | _=>first | exact aa h | cases h
  | _=>first | exact aa h | cases h
 | .bi f es,X,ex,G,e,g,h=>by
  cases e with
  | Call fn args kws pos=>
   cases fn with
   | Name x p=>
    cases kws with
    | nil=>
     cases args with
     | nil=>first | exact aa h | cases h
     | cons a args=>
      have h':(x == dN f && G.glc (kn f) && aW Z G es (a::args))=true:=h
      simp only[Bool.and_eq_true] at h'
      have e1:x=dN f:=eq_of_beq h'.1.1
      subst e1
      exact both (Br g h'.1.2 h'.2 (jO es X ex G _ g h'.2))
    | cons _ _=>cases args<;>first | exact aa h | cases h
   | _=>first | exact aa h | cases h
  | _=>first | exact aa h | cases h
 | .lrev a,X,ex,G,e,g,h=>by cases e<;>exact aa h
 | .dnew,X,ex,G,e,g,h=>by
  have h:dcv e=true:=by cases e<;>exact h
  obtain⟨pos,rfl⟩:=nK h
  exact both wt
 | .dget a k,X,ex,G,e,g,h=>by cases e<;>exact aa h
 | .din n k a,X,ex,G,e,g,h=>by
  have h:cpx e (fun l o r=>o == mh n && chk Z G k l && chk Z G a r && !behindInMarks o r)=true:=by cases e<;>exact h
  obtain⟨l,o,r,pos,rfl,q3⟩:=wm h
  simp only[Bool.and_eq_true] at q3
  have e1:o=mh n:=eq_of_beq q3.1.1.1
  subst e1
  exact yF g (snd k X ex G l g q3.1.1.2).1 (snd a X ex G r g q3.1.2).1 (by simpa using q3.2)
 | .sset a,X,ex,G,e,g,h=>by
  have h:lrv e (fun x y e=>x == "sorted" && G.gl.contains 4 && y == "set" && G.gl.contains 12 && (notStar e && G.cm) && chk Z G a e)=true:=by cases e<;>exact h
  obtain⟨x,p,y,p',e',q',q,rfl,h⟩:=wo h
  have h:(x == "sorted" && G.gl.contains 4 && y == "set" && G.gl.contains 12 && (notStar e' && G.cm) && chk Z G a e')=true:=h
  simp only[Bool.and_eq_true] at h
  have e1:x = "sorted":=eq_of_beq h.1.1.1.1.1
  have e2:y = "set":=eq_of_beq h.1.1.1.2
  subst e1 e2
  exact both (wq g h.1.1.1.1.2 h.1.1.2 h.1.2.1 h.1.2.2 (snd a X ex G e' g h.2).1)
 | .ftr x a y,X,ex,G,e,g,h=>by cases e<;>exact aa h
 | .isx a ns tb,X,ex,G,e,g,h=>by cases e<;>exact aa h
 | .isi a k,X,ex,G,e,g,h=>by
  cases e with
  | Call fn args kws pos=>
   cases fn with
   | Name x p=>
    match args,kws,h with
    | [o,.Name y p'],[],h=>
     have h':(x == "isinstance" && G.gl.contains 14 && y == cZ k && G.gl.contains (ko k) && notStar o && chk Z G a o)=true:=h
     simp only[Bool.and_eq_true] at h'
     have e1:x = "isinstance":=eq_of_beq h'.1.1.1.1.1
     have e2:y=cZ k:=eq_of_beq h'.1.1.1.2
     subst e1 e2
     exact both (yD g h'.1.1.1.1.2 h'.1.1.2 h'.1.2 (snd a X ex G o g h'.2).1)
    | [],_,h=>first | exact aa h | cases h
    | [_],_,h=>first | exact aa h | cases h
    | _::b::_::_,k,h=>cases b<;>cases k<;>first | exact aa h | cases h
    | [_,.Name _ _],_::_,h=>first | exact aa h | cases h
    | [_,.BoolOp ..],_,h=>first | exact aa h | cases h
    | [_,.NamedExpr ..],_,h=>first | exact aa h | cases h
    | [_,.BinOp ..],_,h=>first | exact aa h | cases h
    | [_,.UnaryOp ..],_,h=>first | exact aa h | cases h
    | [_,.Lambda ..],_,h=>first | exact aa h | cases h
    | [_,.IfExp ..],_,h=>first | exact aa h | cases h
    | [_,.Dict ..],_,h=>first | exact aa h | cases h
    | [_,.Set ..],_,h=>first | exact aa h | cases h
    | [_,.ListComp ..],_,h=>first | exact aa h | cases h
    | [_,.SetComp ..],_,h=>first | exact aa h | cases h
    | [_,.DictComp ..],_,h=>first | exact aa h | cases h
    | [_,.GeneratorExp ..],_,h=>first | exact aa h | cases h
    | [_,.Await ..],_,h=>first | exact aa h | cases h
    | [_,.Yield ..],_,h=>first | exact aa h | cases h
    | [_,.YieldFrom ..],_,h=>first | exact aa h | cases h
    | [_,.Compare ..],_,h=>first | exact aa h | cases h
    | [_,.Call ..],_,h=>first | exact aa h | cases h
    | [_,.FormattedValue ..],_,h=>first | exact aa h | cases h
    | [_,.JoinedStr ..],_,h=>first | exact aa h | cases h
    | [_,.Constant ..],_,h=>first | exact aa h | cases h
    | [_,.Attribute ..],_,h=>first | exact aa h | cases h
    | [_,.Subscript ..],_,h=>first | exact aa h | cases h
    | [_,.Starred ..],_,h=>first | exact aa h | cases h
    | [_,.Slice ..],_,h=>first | exact aa h | cases h
    | [_,.List ..],_,h=>first | exact aa h | cases h
    | [_,.Tuple ..],_,h=>first | exact aa h | cases h
   | _=>first | exact aa h | cases h
  | _=>first | exact aa h | cases h
 | .mth m o es,X,ex,G,e,g,h=>by
  cases e with
  | Call fn args kws pos=>
   cases fn with
   | Attribute oe name apos=>
    match args,kws,h with
    | a::args,[],h=>
     have h':(name == eU m && eW oe && apos.endLine == pos.line && (decide ((a::args).length < 29) && (G.cm || jJ m)) && chk Z G o oe && aW Z G es (a::args))=true:=h
     simp only[Bool.and_eq_true] at h'
     have e1:name=eU m:=eq_of_beq h'.1.1.1.1.1
     subst e1
     exact both (yE g h'.1.1.1.1.2 h'.1.1.1.2 (of_decide_eq_true h'.1.1.2.1) h'.1.1.2.2 h'.2 (snd o X ex G oe g h'.1.2).1 (jO es X ex G _ g h'.2))
    | [],_,h=>first | exact aa h | cases h
    | _::_,_::_,h=>first | exact aa h | cases h
   | _=>first | exact aa h | cases h
  | _=>first | exact aa h | cases h
 | .comp G' fr tg src ifs elt,X,ex,G,e,g,h=>by
  cases e with
  | ListComp el gens scope pos=>
   have h:mf gens (fun t it fs=>bt Z G scope G' fr && cB G' tg t && (tgs tg).all (fun i=>decide (fr.length<=i)) && (bS Z G src it && d9 src t) && aW Z G' ifs fs && chk Z G' elt el)=true:=h
   obtain⟨t,it,fs,rfl,h⟩:=gO h
   have h':(bt Z G scope G' fr && cB G' tg t && (tgs tg).all (fun i=>decide (fr.length<=i)) && (bS Z G src it && d9 src t) && aW Z G' ifs fs && chk Z G' elt el)=true:=h
   simp only[Bool.and_eq_true] at h'
   exact both (wy g (gR h'.1.1.1.1.1) h'.1.1.1.1.2 (fun i hi=>of_decide_eq_true (List.all_eq_true.mp h'.1.1.1.2 i hi)) (rS src X ex G it t g h'.1.1.2.1 h'.1.1.2.2)
    (fun X' g'=>rR ifs X' nox G' fs g' h'.1.2) (fun X' g'=>(snd elt X' nox G' el g' h'.2).1) (fun x=>bN h'.1.1.2.1 X.env x))
  | _=>first | exact aa h | cases h
theorem jO:∀ (as:List IR) (X:Cx) (ex:Str->Prop) (G:Gm) (l:List Expr),GOk Z CX cl xp X ex G->aW Z G as l=true->PA X l (RA X.K ex (au as) (aV cl as))
 | [],X,ex,G,l,g,h=>by
  cases l with
  | nil=>exact gD bK fun σ H Q ⟨S,τ,hs,q⟩=>q.ok _ _ (.refl _) .nil
  | cons _ _=>first | exact aa h | cases h
 | a::as,X,ex,G,l,g,h=>by
  cases l with
  | nil=>first | exact aa h | cases h
  | cons e l=>
   have h':(notStar e && chk Z G a e && aW Z G as l)=true:=h
   simp only[Bool.and_eq_true] at h'
   refine gD (aR (snd a X ex G e g h'.1.2).1 (jO as X ex G l g h'.2) (ag h'.1.1 _ _)) fun σ H Q ⟨S,τ,hs,q⟩=>?_
   refine bb (.refl _) hs.left (PO'.bnd q) fun x v H1 e1 _ m1 q1=>?_
   refine jL e1 hs.right (PO'.bnd q1) fun ds vs H2 e2 e2' m2 q2=>?_
   exact q2.ok _ _ e2 (.cons (m1.later e2') m2)
theorem rQ:∀ (o:Option IR) (X:Cx) (ex:Str->Prop) (G:Gm) (e:Option Expr),GOk Z CX cl xp X ex G->jK Z G o e=true->PO X e (ROp X.K ex (nu o) (gJ cl o))
 | none,X,ex,G,e,g,h=>by
  cases e with
  | none=>
   intro pins s σ H Q I ⟨S,τ,hs,q⟩
   exact qR pins s σ H Q I (q.ok H (.refl _))
  | some _=>first | exact aa h | cases h
 | some a,X,ex,G,e,g,h=>by
  cases e with
  | none=>first | exact aa h | cases h
  | some e=>
   intro pins s σ H Q I ⟨S,τ,hs,q⟩
   refine qT (snd a X ex G e g h).1 pins s σ H Q I ?_
   refine bb (.refl _) hs (PO'.bnd q) fun x v H1 e1 _ m1 q1=>?_
   cases x with
   | int i=>cases m1.intR;exact⟨i,rfl,q1.ok _ e1⟩
   | _=>exact q1.no.elim
theorem rR:∀ (as:List IR) (X:Cx) (ex:Str->Prop) (G:Gm) (l:List Expr),GOk Z CX cl xp X ex G->aW Z G as l=true->PTs X l (RT X.K ex (au as) (cX cl as))
 | [],X,ex,G,l,g,h=>by
  cases l with
  | nil=>intro pins s σ H Q I ⟨S,τ,hs,q⟩;exact qZ pins s σ H Q I (q.ok H (.refl _))
  | cons _ _=>first | exact aa h | cases h
 | a::as,X,ex,G,l,g,h=>by
  cases l with
  | nil=>first | exact aa h | cases h
  | cons e l=>
   have h':(notStar e && chk Z G a e && aW Z G as l)=true:=h
   simp only[Bool.and_eq_true] at h'
   intro pins s σ H Q I ⟨S,τ,hs,q⟩
   refine mR (snd a X ex G e g h'.1.2).2 (rR as X ex G l g h'.2) pins s σ H Q I ?_
   refine gP (.refl _) hs.left (PO'.bnd q) fun r H2 e2 _ k=>?_
   cases r with
   | true=>rw[if_pos rfl] at k ⊢;exact gP e2 hs.right k fun b H3 e3 _ z=>z H3 e3
   | false=>rw[if_neg Bool.false_ne_true] at k ⊢;exact k.ok H2 e2
theorem rS:∀ (s:Sr) (X:Cx) (ex:Str->Prop) (G:Gm) (e tg:Expr),GOk Z CX cl xp X ex G->bS Z G s e=true->d9 s tg=true->PI X tg e (RI X.K ex (dn s) (cR cl s))
 | .rng1 n,X,ex,G,e,tg,g,h,ht=>by
  cases e with
  | Call fn args kws pos=>
   cases fn with
   | Name x p=>
    match args,kws,h with
    | [a],[],h=>
     have h':(x == "range" && G.gl.contains 15 && notStar a && chk Z G n a)=true:=h
     simp only[Bool.and_eq_true] at h'
     have e1:x = "range":=eq_of_beq h'.1.1.1
     subst e1
     exact wx g h'.1.1.2 h'.1.2 (snd n X ex G a g h'.2).1
    | [],_,h=>first | exact aa h | cases h
    | [_],_::_,h=>first | exact aa h | cases h
    | _::_::_,_,h=>first | exact aa h | cases h
   | _=>first | exact aa h | cases h
  | _=>first | exact aa h | cases h
 | .rng2 a b,X,ex,G,e,tg,g,h,ht=>by cases e<;>exact aa h
 | .val a,X,ex,G,e,tg,g,h,ht=>yL (snd a X ex G e g h).1
 | .zip a b,X,ex,G,e,tg,g,h,ht=>by
  cases tg with
  | Tuple tes tc tp=>
   cases e with
   | Call fn args kws pos=>
    cases fn with
    | Name x p=>
     match args,kws,h with
     | [l,r],[],h=>
      have h':(x == "zip" && G.gl.contains 17 && notStar l && notStar r && chk Z G a l && chk Z G b r)=true:=h
      simp only[Bool.and_eq_true] at h'
      have e1:x = "zip":=eq_of_beq h'.1.1.1.1.1
      subst e1
      exact yN g h'.1.1.1.1.2 h'.1.1.1.2 h'.1.1.2 (snd a X ex G l g h'.1.2).1 (snd b X ex G r g h'.2).1
     | [],_,h=>first | exact aa h | cases h
     | [_],_,h=>first | exact aa h | cases h
     | [_,_],_::_,h=>first | exact aa h | cases h
     | _::_::_::_,_,h=>first | exact aa h | cases h
    | _=>first | exact aa h | cases h
   | _=>first | exact aa h | cases h
  | _=>exact aa ht
end
end
inductive Rps (K:PySem.W.Frag) (F:Addr->Prop) (H:Hp):St->Ev->List Addr->Prop where
 | nil:Rps K F H [] [] []
 | none {o:Option V} {σ:St} {τ:Ev} {f:List Addr}:Rps K F H σ τ f->Rps K F H (o::σ) (.none::τ) f
 | some {v:V} {d:D} {f:List Addr} {σ:St} {τ:Ev} {g:List Addr}:MRep K F H v d f->Rps K F H σ τ g->Rps K F H (.some v::σ) (.some d::τ) (f++g)
section
variable {K:PySem.W.Frag} {F F':Addr->Prop} {H H':Hp} {σ:St} {τ:Ev} {f:List Addr}
theorem Rps.step (hl:∀ a (u:LD),F a->Rd H a u.o->F' a/\Rd H' a u.o) (ht:∀ a xs,SqE K H a xs->SqE K H' a xs):∀ {σ:St} {τ:Ev} {f:List Addr},(∀ a ∈ f,¬ F a->H a≠Option.none->¬ F' a/\H' a=H a)->Rps K F H σ τ f->Rps K F' H' σ τ f
 | _,_,_,_,.nil=>.nil
 | _,_,_,k,.none h=>.none (Rps.step hl ht k h)
 | _,_,_,k,.some m h=>.some (m.step hl ht fun a ha=>k a (List.mem_append_left _ ha)) (Rps.step hl ht (fun a ha=>k a (List.mem_append_right _ ha)) h)
theorem Rps.own:∀ {σ:St} {τ:Ev} {f:List Addr},Rps K F H σ τ f->∀ a ∈ f,¬ F a/\∃ u,H a=.some u
 | _,_,_,.nil=>fun _ h=>absurd h (by simp)
 | _,_,_,.none h=>Rps.own h
 | _,_,_,.some m h=>fun a ha=>by
  rcases List.mem_append.mp ha with ha | ha
  ·exact m.own a ha
  ·exact Rps.own h a ha
theorem bx {o:Option D} {τ:Ev} {i:Nat}:ai (o::τ) (i + 1)=ai τ i:=by unfold ai;simp
theorem cC {o:Option D} {τ:Ev}:ai (o::τ) 0=o:=by unfold ai;simp
theorem Rps.at:∀ {σ:St} {τ:Ev} {f:List Addr} {i:Nat} {d:D},Rps K F H σ τ f->ai τ i=.some d->∃ v fv g,σ[i]? = .some (.some v)/\MRep K F H v d fv/\Rps K F H σ (τ.set i .none) g/\f.Perm (fv++g)
 | _,_,_,i,d,.nil,h=>by simp[ai] at h
 | _,_,_,0,d,.none _,h=>by rw[cC] at h;cases h
 | _,_,_,0,d,.some m h',h=>by
  rw[cC] at h
  cases h
  exact⟨_,_,_,rfl,m,.none h',.refl _⟩
 | _,_,_,i + 1,d,.none h',h=>by
  rw[bx] at h
  obtain⟨v,fv,g,h1,h2,h3,h4⟩:=Rps.at h' h
  exact⟨v,fv,g,by simpa using h1,h2,.none h3,h4⟩
 | _,_,_,i + 1,d,.some (f:=f0) m h',h=>by
  rw[bx] at h
  obtain⟨v,fv,g,h1,h2,h3,h4⟩:=Rps.at h' h
  refine⟨v,fv,f0++g,by simpa using h1,h2,.some m h3,?_⟩
  refine(List.Perm.append_left f0 h4).trans ?_
  rw[<- List.append_assoc,<- List.append_assoc]
  exact List.Perm.append_right g List.perm_append_comm
theorem Rps.put:∀ {σ:St} {τ:Ev} {f:List Addr} (i:Nat) {v:V} {d:D} {fv:List Addr},Rps K F H σ τ f->MRep K F H v d fv->∃ g h,Rps K F H (σ.set i (.some v)) (τ.set i (.some d)) g/\(g++h).Perm (fv++f)
 | _,_,_,i,v,d,fv,.nil,m=>⟨[],_,.nil,.refl _⟩
 | _,_,_,0,v,d,fv,.none h,m=>⟨_,[],.some m h,by rw[List.append_nil]⟩
 | _,_,_,0,v,d,fv,.some (f:=f0) (g:=g0) m' h,m=>⟨_,f0,.some m h,by rw[List.append_assoc];exact List.Perm.append_left _ List.perm_append_comm⟩
 | _,_,_,i + 1,v,d,fv,.none h,m=>by
  obtain⟨g,h',h1,h2⟩:=Rps.put i h m
  exact⟨g,h',.none h1,h2⟩
 | _,_,_,i + 1,v,d,fv,.some (f:=f0) (g:=g0) m' h,m=>by
  obtain⟨g,h',h1,h2⟩:=Rps.put i h m
  refine⟨f0++g,h',.some m' h1,?_⟩
  rw[List.append_assoc]
  refine(List.Perm.append_left f0 h2).trans ?_
  rw[<- List.append_assoc,<- List.append_assoc]
  exact List.Perm.append_right g0 List.perm_append_comm
theorem Rps.slots {S:Addr->Prop} {is:List Nat} (h:Rps K F H σ τ f) (hF:∀ a,F a->S a) (hf:∀ a ∈ f,S a):Slots K S H σ τ is:=fun i hi d z=>by
 obtain⟨v,fv,g,h1,h2,h3,h4⟩:=h.at z
 exact⟨v,h1,h2.read hF fun a ha=>hf a (h4.mem_iff.mpr (List.mem_append_left _ ha))⟩
theorem Rps.freeze (is:List Nat):∀ {σ:St} {τ:Ev} {f:List Addr} (k:Nat),Rps K F H σ τ f->∃ fi g,f.Perm (fi++g)/\(∀ F':Addr->Prop,(∀ a,F a->F' a)->(∀ a ∈ fi,F' a)->(∀ a ∈ g,¬ F a->¬ F' a)->Rps K F' H σ (fJ is k τ) g)/\
  ∀ F':Addr->Prop,(∀ a,F a->F' a)->(∀ a ∈ fi,F' a)->∀ i,is.contains (k + i)=true->∀ d,ai τ i=.some d->∃ v,σ[i]? = .some (.some v)/\HRep K F' H v d
 | _,_,_,k,.nil=>⟨[],[],.refl _,fun _ _ _ _=>.nil,fun _ _ _ i _ d z=>by simp[ai] at z⟩
 | _,_,_,k,.none h=>by
  obtain⟨fi,g,h1,h2,h3⟩:=Rps.freeze is (k + 1) h
  refine⟨fi,g,h1,fun F' a b c=>?_,fun F' a b i hi d z=>?_⟩
  ·unfold fJ
   have e:(if is.contains k=true then Option.map er (Option.none:Option D) else Option.none)=Option.none:=by split<;>rfl
   rw[e]
   exact .none (h2 F' a b c)
  ·cases i with
   | zero=>rw[cC] at z;cases z
   | succ i=>
    rw[bx] at z
    obtain⟨v,q1,q2⟩:=h3 F' a b i (by rw[show k + 1 + i=k + (i + 1) by omega];exact hi) d z
    exact⟨v,by simpa using q1,q2⟩
 | _,_,_,k,.some (v:=v) (d:=d0) (f:=f0) (g:=g0) m h=>by
  obtain⟨fi,g,h1,h2,h3⟩:=Rps.freeze is (k + 1) h
  by_cases hc:is.contains k=true
  ·refine⟨f0++fi,g,by rw[List.append_assoc];exact List.Perm.append_left _ h1,fun F' a b c=>?_,fun F' a b i hi d z=>?_⟩
   ·unfold fJ
    rw[if_pos hc]
    exact .some (f:=[]) ((m.read a fun x hx=>b x (List.mem_append_left _ hx)).frozen) (h2 F' a (fun x hx=>b x (List.mem_append_right _ hx)) c)
   ·cases i with
    | zero=>
     rw[cC] at z
     cases z
     exact⟨v,rfl,m.read a fun x hx=>b x (List.mem_append_left _ hx)⟩
    | succ i=>
     rw[bx] at z
     obtain⟨v,q1,q2⟩:=h3 F' a (fun x hx=>b x (List.mem_append_right _ hx)) i (by rw[show k + 1 + i=k + (i + 1) by omega];exact hi) d z
     exact⟨v,by simpa using q1,q2⟩
  ·refine⟨fi,f0++g,?_,fun F' a b c=>?_,fun F' a b i hi d z=>?_⟩
   ·refine(List.Perm.append_left f0 h1).trans ?_
    rw[<- List.append_assoc,<- List.append_assoc]
    exact List.Perm.append_right g List.perm_append_comm
   ·unfold fJ
    rw[if_neg hc]
    exact .some (m.step (fun x xs q r=>⟨a x q,r⟩) (fun x xs q=>q) fun x hx n _=>⟨c x (List.mem_append_left _ hx) n,rfl⟩) (h2 F' a b fun x hx=>c x (List.mem_append_right _ hx))
   ·cases i with
    | zero=>exact absurd hi hc
    | succ i=>
     rw[bx] at z
     obtain⟨v,q1,q2⟩:=h3 F' a b i (by rw[show k + 1 + i=k + (i + 1) by omega];exact hi) d z
     exact⟨v,by simpa using q1,q2⟩
end
structure Stp (F:Addr->Prop) (H:Hp) (f:List Addr) (F':Addr->Prop) (H':Hp):Prop where
 same:ak H H'
 inn:∀ a,F a->F' a
 out:∀ a,F' a->F a∨a ∈ f∨H a=none
structure Ow (K:PySem.W.Frag) (F:Addr->Prop) (H:Hp) (f:List Addr) (F':Addr->Prop) (H':Hp) (σ:St) (v:V) (d:D) (fv:List Addr) (τ':Ev) (f':List Addr):Prop where
 stp:Stp F H f F' H'
 fok:FOk F' H'
 rep:MRep K F' H' v d fv
 rps:Rps K F' H' σ τ' f'
 nod:(fv++f').Nodup
 mem:∀ a ∈ fv++f',a ∈ f∨H a=none
structure Ows (K:PySem.W.Frag) (F:Addr->Prop) (H:Hp) (f:List Addr) (F':Addr->Prop) (H':Hp) (σ:St) (v:List V) (d:List D) (fv:List Addr) (τ':Ev) (f':List Addr):Prop where
 stp:Stp F H f F' H'
 fok:FOk F' H'
 rep:MReps K F' H' v d fv
 rps:Rps K F' H' σ τ' f'
 nod:(fv++f').Nodup
 mem:∀ a ∈ fv++f',a ∈ f∨H a=none
section
variable {K:PySem.W.Frag} {F F' F'':Addr->Prop} {H H' H'':Hp} {f f':List Addr}
theorem Stp.refl:Stp F H f F H:=⟨.refl _,fun _ h=>h,fun _ h=>.inl h⟩
theorem Stp.trans (a:Stp F H f F' H') (b:Stp F' H' f' F'' H'') (hf:∀ x ∈ f',x ∈ f∨H x=none):Stp F H f F'' H'':=⟨a.same.trans b.same,fun x h=>b.inn x (a.inn x h),fun x h=>by
 rcases b.out x h with h | h | h
 ·exact a.out x h
 ·rcases hf x h with h | h
  ·exact .inr (.inl h)
  ·exact .inr (.inr h)
 ·exact .inr (.inr (a.same.free h))⟩
theorem MRep.stp {v:V} {d:D} {fv:List Addr} (m:MRep K F H v d fv) (s:Stp F H f F' H') (h:∀ a ∈ fv,a ∉ f):MRep K F' H' v d fv:=
 m.step (fun a xs q r=>⟨s.inn a q,s.same.rd r⟩) (fun a xs q=>s.same.seqT q) fun a ha n hn=>by
  obtain⟨_,xs,e⟩:=m.own a ha
  refine⟨fun z=>?_,(s.same _ _ e).trans e.symm⟩
  rcases s.out a z with z | z | z
  ·exact n z
  ·exact h a ha z
  ·exact hn z
theorem MReps.stp {v:List V} {d:List D} {fv:List Addr} (m:MReps K F H v d fv) (s:Stp F H f F' H') (h:∀ a ∈ fv,a ∉ f):MReps K F' H' v d fv:=
 m.step (fun a xs q r=>⟨s.inn a q,s.same.rd r⟩) (fun a xs q=>s.same.seqT q) fun a ha n hn=>by
  obtain⟨_,xs,e⟩:=m.own a ha
  refine⟨fun z=>?_,(s.same _ _ e).trans e.symm⟩
  rcases s.out a z with z | z | z
  ·exact n z
  ·exact h a ha z
  ·exact hn z
end
noncomputable def RO (K:PySem.W.Frag) (ex:Str->Prop) (g:Ev->Res (D×Ev)):TE:=fun σ H Q=>∃ F τ f,FOk F H/\Rps K F H σ τ f/\f.Nodup/\PO' ex (g τ) fun p=>∀ v H' F' fv f',Ow K F H f F' H' σ v p.1 fv p.2 f'->Q v H'
noncomputable def ROs (K:PySem.W.Frag) (ex:Str->Prop) (g:Ev->Res (List D×Ev)):TA:=fun σ H Q=>∃ F τ f,FOk F H/\Rps K F H σ τ f/\f.Nodup/\PO' ex (g τ) fun p=>∀ v H' F' fv f',Ows K F H f F' H' σ v p.1 fv p.2 f'->Q v H'
noncomputable abbrev Kn (K:PySem.W.Frag) (S:Addr->Prop) (H:Hp) (Q:VK):List D->Prop:=fun ds=>∀ p ys H',ak H H'->H p=none->H' p=some (.lst ys)->HReps K (fun a=>nw S H a/\a≠p) H' ys ds->Q (.ref p) H'
noncomputable def RN (K:PySem.W.Frag) (ex:Str->Prop) (is:List Nat) (f:Ev->Res (List D)):TE:=fun σ H Q=>∃ S τ,Slots K S H σ τ is/\PO' ex (f τ) (Kn K S H Q)
noncomputable def dY:D->Res (List D)
 | .lst _ ds=>.ok ds
 | _=>stk
section
variable {K:PySem.W.Frag} {F F':Addr->Prop} {H H':Hp} {σ:St} {τ:Ev} {f:List Addr} {ex:Str->Prop} {S:Addr->Prop}
theorem yQ {vs ws:List V} {ds:List D} {p:Addr} {H2:Hp} (m:HReps K (nw S H) H2 vs ds) (hp:H2 p=none):HReps K (fun a=>nw S H a/\a≠p) (upd H2 p (.lst ws)) vs ds:=
 m.step (fun a xs h r=>by
  have hne:a≠p:=fun z=>r.some (by rw[z];exact hp)
  refine⟨⟨h,hne⟩,?_⟩
  unfold Rd
  rw[aj hne]
  exact r) fun a xs h=>(ak.upd hp).seqT h
theorem grow (P:Addr->Prop) (fok:FOk F H) (r:Rps K F H σ τ f) (e:ak H H') :
  FOk (fun a=>F a∨(P a/\H a=none/\H' a≠none)) H'/\Rps K (fun a=>F a∨(P a/\H a=none/\H' a≠none)) H' σ τ f/\Stp F H f (fun a=>F a∨(P a/\H a=none/\H' a≠none)) H':=by
 refine⟨fun a h=>?_,r.step (fun a xs q rd=>⟨.inl q,e.rd rd⟩) (fun a xs q=>e.seqT q) fun a ha n hn=>⟨fun z=>?_,?_⟩,⟨e,fun a h=>.inl h,fun a h=>?_⟩⟩
 ·rcases h with h | h
  ·intro z
   exact fok a h (e.free z)
  ·exact h.2.2
 ·rcases z with z | z
  ·exact n z
  ·exact hn z.2.1
 ·obtain⟨_,xs,q⟩:=r.own a ha
  exact(e _ _ q).trans q.symm
 ·rcases h with h | h
  ·exact .inl h
  ·exact .inr (.inr h.2.1)
theorem dZ (fok:FOk F H) (r:Rps K F H σ τ f) (e:ak H H'):FOk F H'/\Rps K F H' σ τ f/\Stp F H f F H':=by
 refine⟨fun a h z=>fok a h (e.free z),r.step (fun a xs q rd=>⟨q,e.rd rd⟩) (fun a xs q=>e.seqT q) fun a ha n hn=>⟨n,?_⟩,⟨e,fun a h=>h,fun a h=>.inl h⟩⟩
 obtain⟨_,xs,q⟩:=r.own a ha
 exact(e _ _ q).trans q.symm
theorem dw (is:List Nat) (fok:FOk F H) (r:Rps K F H σ τ f) (nd:f.Nodup):∃ F1 g,FOk F1 H/\Rps K F1 H σ (frz is τ) g/\g.Nodup/\Stp F H f F1 H/\(∀ a ∈ g,a ∈ f)/\Slots K F1 H σ τ is:=by
 obtain⟨fi,g,h1,h2,h3⟩:=r.freeze is 0
 have nd':(fi++g).Nodup:=h1.nodup_iff.mp nd
 have dis:∀ a ∈ g,a ∉ fi:=fun a ha hb=>(List.nodup_append.mp nd').2.2 a hb a ha rfl
 have inF:∀ a ∈ fi,a ∈ f:=fun a ha=>h1.mem_iff.mpr (List.mem_append_left _ ha)
 have inG:∀ a ∈ g,a ∈ f:=fun a ha=>h1.mem_iff.mpr (List.mem_append_right _ ha)
 refine⟨fun a=>F a∨a ∈ fi,g,fun a h=>?_,h2 _ (fun a h=>.inl h) (fun a h=>.inr h) (fun a ha n z=>?_),(List.nodup_append.mp nd').2.1,⟨.refl _,fun a h=>.inl h,fun a h=>?_⟩,inG,fun i hi d z=>?_⟩
 ·rcases h with h | h
  ·exact fok a h
  ·obtain⟨_,xs,q⟩:=r.own a (inF a h)
   rw[q];simp
 ·rcases z with z | z
  ·exact n z
  ·exact dis a ha z
 ·rcases h with h | h
  ·exact .inl h
  ·exact .inr (.inl (inF a h))
 ·exact h3 _ (fun a h=>.inl h) (fun a h=>.inr h) i (by simpa using hi) d z
theorem bc {is:List Nat} (r:Rps K F H σ τ f):Slots K (fun _=>True) H σ τ is:=r.slots (fun _ _=>trivial) fun _ _=>trivial
theorem HRep.fix {v:V} {d:D} (m:HRep K (L2.nw F H) H' v d):HRep K (fun a=>F a∨(True/\H a=none/\H' a≠none)) H' v d:=m.step (fun a xs h r=>⟨h.elim (fun z=>.inl z) fun z=>.inr ⟨trivial,z,r.some⟩,r⟩) fun a xs h=>h
end
section
variable {X:Cx} {ex:Str->Prop} {cl:Nat->List D->Res D}
theorem o_v {i:Nat} {e:Expr} (he:PE X e (vd i)) (mv:Bool):PE X e (RO X.K ex (evO cl mv (.v i))):=by
 refine ay he fun σ H Q ⟨F,τ,f,fok,r,nd,q⟩=>?_
 rw[yl] at q
 cases z:ai τ i with
 | none=>rw[z] at q;exact q.no.elim
 | some d=>
  rw[z] at q
  obtain⟨v,fv,g,h1,h2,h3,h4⟩:=r.at z
  have nd':(fv++g).Nodup:=h4.nodup_iff.mp nd
  cases mv with
  | true=>
   have q':=(show PO' ex (.ok (d,τ.set i none):Res (D×Ev)) _ from q).ok
   exact⟨v,h1,q' v H F fv g ⟨.refl,fok,h2,h3,nd',fun a ha=>.inl (h4.mem_iff.mpr ha)⟩⟩
  | false=>
   have q':=(show PO' ex (.ok (er d,τ.set i (some (er d))):Res (D×Ev)) _ from q).ok
   have dis:∀ a ∈ g,a ∉ fv:=fun a ha hb=>(List.nodup_append.mp nd').2.2 a hb a ha rfl
   have m1:MRep X.K (fun a=>F a∨a ∈ fv) H v (er d) []:=(h2.read (fun a h=>.inl h) (fun a h=>.inr h)).frozen
   have r1:Rps X.K (fun a=>F a∨a ∈ fv) H σ (τ.set i none) g:=h3.step (fun a xs h r=>⟨.inl h,r⟩) (fun a xs h=>h) fun a ha n _=>⟨fun z=>z.elim n (dis a ha),rfl⟩
   obtain⟨g',h',r2,p2⟩:=r1.put i m1
   have hσ:σ.set i (some v)=σ:=by
    apply List.ext_getElem?
    intro j
    rw[List.getElem?_set]
    by_cases hj:i=j
    ·subst hj
     have hlt:i < σ.length:=(List.getElem?_eq_some_iff.mp h1).1
     rw[if_pos rfl,if_pos hlt,h1]
    ·rw[if_neg hj]
   rw[hσ,List.set_set] at r2
   rw[List.nil_append] at p2
   have nd2:(g'++h').Nodup:=p2.nodup_iff.mpr (List.nodup_append.mp nd').2.1
   refine⟨v,h1,q' v H _ [] g' ⟨⟨.refl _,fun a h=>.inl h,fun a h=>?_⟩,fun a h=>?_,m1,r2,(List.nodup_append.mp nd2).1,fun a ha=>?_⟩⟩
   ·exact h.elim (fun z=>.inl z) fun z=>.inr (.inl (h4.mem_iff.mpr (List.mem_append_left _ z)))
   ·rcases h with h | h
    ·exact fok a h
    ·obtain⟨_,xs,e⟩:=h2.own a h
     rw[e];simp
   ·have:a ∈ g:=p2.mem_iff.mp (List.mem_append_left _ (by simpa using ha))
    exact .inl (h4.mem_iff.mpr (List.mem_append_right _ this))
theorem o_tup {l:List Expr} {n:Nat} {pos:Pos} {g:Ev->Res (List D×Ev)} (h:PA X l (ROs X.K ex g)):PE X (.Tuple l n pos) (RO X.K ex fun τ=>bnd (g τ) fun p=>grd (aL p.1.length) (.ok (.tup p.1,p.2))):=by
 refine ay (mN h) fun σ H Q ⟨F,τ,f,fok,r,nd,q⟩=>⟨F,τ,f,fok,r,nd,(PO'.bnd q).mono fun p hp vs H1 F1 fv f1 o=>?_⟩
 obtain⟨gd,hp⟩:=PO'.grd hp
 refine⟨by rw[o.rep.length];exact ba gd,fun p' hp'=>hp.ok _ _ F1 fv f1 ?_⟩
 have e:ak H1 (upd H1 p' (.tup vs)):=.upd hp'
 obtain⟨k1,k2,k3⟩:=dZ o.fok o.rps e
 refine⟨o.stp.trans k3 (fun x hx=>o.mem x (List.mem_append_right _ hx)),k1,.tup (.inl (.inl ar)) (o.rep.stp k3 fun a ha hb=>(List.nodup_append.mp o.nod).2.2 a ha a hb rfl),k2,o.nod,o.mem⟩
theorem o_lst {l:List Expr} {pos:Pos} {g:Ev->Res (List D×Ev)} (h:PA X l (ROs X.K ex g)):PE X (.List l pos) (RO X.K ex fun τ=>bnd (g τ) fun p=>grd (aL p.1.length) (.ok (.lst true p.1,p.2))):=by
 refine ay (mO h) fun σ H Q ⟨F,τ,f,fok,r,nd,q⟩=>⟨F,τ,f,fok,r,nd,(PO'.bnd q).mono fun p hp vs H1 F1 fv f1 o=>?_⟩
 obtain⟨gd,hp⟩:=PO'.grd hp
 refine⟨by rw[o.rep.length];exact ba gd,fun p' hp'=>hp.ok _ _ F1 (p'::fv) f1 ?_⟩
 have e:ak H1 (upd H1 p' (.lst vs)):=.upd hp'
 obtain⟨k1,k2,k3⟩:=dZ o.fok o.rps e
 refine⟨o.stp.trans k3 (fun x hx=>o.mem x (List.mem_append_right _ hx)),k1,.lstO (fun z=>o.fok _ z hp') ar (o.rep.stp k3 fun a ha hb=>(List.nodup_append.mp o.nod).2.2 a ha a hb rfl),k2,?_,fun a ha=>?_⟩
 ·rw[List.cons_append,List.nodup_cons]
  refine⟨fun z=>?_,o.nod⟩
  rcases List.mem_append.mp z with z | z
  ·obtain⟨_,xs,e⟩:=o.rep.own _ z
   rw[hp'] at e;cases e
  ·obtain⟨_,xs,e⟩:=o.rps.own _ z
   rw[hp'] at e;cases e
 ·rw[List.cons_append] at ha
  rcases List.mem_cons.mp ha with rfl | ha
  ·exact .inr (o.stp.same.free hp')
  ·exact o.mem a ha
theorem wz:PA X [] (ROs X.K ex fun τ=>.ok ([],τ)):=gD bK fun σ H Q ⟨F,τ,f,fok,r,nd,q⟩=>q.ok [] H F [] f ⟨.refl,fok,.nil,r,nd,fun a ha=>.inl ha⟩
theorem rT {e:Expr} {l:List Expr} {ga:Ev->Res (D×Ev)} {gs:Ev->Res (List D×Ev)} (hn:notStar e=true) (ha:PE X e (RO X.K ex ga)) (hr:PA X l (ROs X.K ex gs)) :
  PA X (e::l) (ROs X.K ex fun τ=>bnd (ga τ) fun p=>bnd (gs p.2) fun q=>.ok (p.1::q.1,q.2)):=by
 refine gD (aR ha hr (ag hn _ _)) fun σ H Q ⟨F,τ,f,fok,r,nd,q⟩=>⟨F,τ,f,fok,r,nd,(PO'.bnd q).mono fun p hp v H1 F1 fv f1 o=>?_⟩
 refine⟨F1,p.2,f1,o.fok,o.rps,(List.nodup_append.mp o.nod).2.1,(PO'.bnd hp).mono fun p' hp' vs H2 F2 fvs f2 o2=>?_⟩
 have dis:∀ a ∈ fv,a ∉ f1:=fun a h1 h2=>(List.nodup_append.mp o.nod).2.2 a h1 a h2 rfl
 have m2:=o.rep.stp o2.stp dis
 refine hp'.ok (v::vs) H2 F2 (fv++fvs) f2 ⟨o.stp.trans o2.stp (fun x hx=>o.mem x (List.mem_append_right _ hx)),o2.fok,.cons m2 o2.rep,o2.rps,?_,fun a ha=>?_⟩
 ·rw[List.append_assoc]
  refine List.nodup_append.mpr ⟨(List.nodup_append.mp o.nod).1,o2.nod,fun a h1 b h2 e=>?_⟩
  subst e
  rcases o2.mem a h2 with z | z
  ·exact dis a h1 z
  ·obtain⟨_,xs,e⟩:=o.rep.own a h1
   rw[z] at e;cases e
 ·rw[List.append_assoc] at ha
  rcases List.mem_append.mp ha with ha | ha
  ·exact o.mem a (List.mem_append_left _ ha)
  ·rcases o2.mem a ha with z | z
   ·exact o.mem a (List.mem_append_right _ z)
   ·exact .inr (o.stp.same.free z)
end
section
variable {Z:Sg} {CX:CXT} {cl:Nat->List D->Res D} {xp:XK->Hp->Str->Prop} {X:Cx} {ex:Str->Prop} {G:Gm}
noncomputable def spP (K:PySem.W.Frag) (ex:Str->Prop) (cl:Nat->List D->Res D) (f:Nat) (vs:List V) (H:Hp) (Q:VK):Prop:=∃ F ds,FOk F H/\HReps K F H vs ds/\PO' ex (cl f (ers ds)) fun d=>∀ v H' F' fv,Out K F H F' H' v d fv->Q v H'
theorem nP (g:GOk Z CX cl xp X ex G) {f:Nat} {x:Str} {p pos:Pos} {es:List IR} {args:List Expr} {t:TA} (h1:iS Z G f x=true) (h2:Z.fnc G f=true) (hst:aW Z G es args=true) (h:PA X args t)
  (h0:args=[]->∀ σ H (Q:List V->Hp->Prop),t σ H Q->Q [] H):PE X (.Call (.Name x p) args [] pos) (fun σ H Q=>t σ H fun vs H1=>spP X.K ex cl f vs H1 Q):=by
 obtain⟨k1,k2,k3,k4⟩:=sT g h1
 obtain⟨k,fa',fd,ps,hm,hkp,hb,F,hr,hlen⟩:=(g.fns f (gN h2).1 (gN h2).2 x k2).ex
 obtain⟨E,hP,hE⟩:=g.exs
 intro pins s σ H Q I q
 have fin:∀ (us:List Value) (s1:Shared) (vs:List V) (H1:Hp),Inv X pins σ H1 s1->Vals vs us->spP X.K ex cl f vs H1 Q->wpAny (model X.prog X.w) X.A (call (.ref fa') us) (EP X pins σ Q) X.xe s1:=by
  intro us s1 vs H1 I1 r ⟨Fc,ds,fok,m,q1⟩
  have hl:=hlen ex _ _ q1
  rw[bM] at hl
  refine ku F hr hb hP g.hid I1 r (by rw[m.length];exact hl) fok m ?_
  cases z:cl f (ers ds) with
  | error er=>
   rw[z] at q1
   cases er with
   | stuck=>exact q1.no.elim
   | exc c=>exact hE c _ q1
  | ok d=>
   rw[z] at q1
   exact q1.ok
 refine wpAny_Call_Name_kw (j9 I k1 hm ?_ k4)
 cases args with
 | nil=>
  cases es with
  | cons _ _=>cases hst
  | nil=>exact PySem.W.callWith_K0 I.kIn hkp (fin [] s [] H I .nil (h0 rfl σ H _ q))
 | cons e l=>
  cases es with
  | nil=>cases hst
  | cons a es=>
   have hst':(notStar e && chk Z G a e && aW Z G es l)=true:=hst
   simp only[Bool.and_eq_true] at hst'
   refine PySem.W.callWith_K (h₀:=X.base) I.ok.mod.kin hkp (thn (h pos pins s σ H _ I q) fun us s1 ⟨vs,H1,I1,r,q1⟩=>⟨I1.kIn,?_⟩) (ag hst'.1.1 l X.env) (bI Z G (es:=es) pos X.env hst'.2)
   exact fin us s1 vs H1 I1 r q1
theorem MRep.lfree_nil {K:PySem.W.Frag} {F F':Addr->Prop} {H:Hp} {v:V} {d:D} {fv:List Addr} (m:MRep K F H v d fv) (n:ao d=true):MRep K F' H v d []:=(m.read (S:=fun _=>True) (fun _ _=>trivial) fun _ _=>trivial).free n
theorem o_call (g:GOk Z CX cl xp X ex G) {f:Nat} {x:Str} {p pos:Pos} {es:List IR} {args:List Expr} (h1:iS Z G f x=true) (h2:Z.fnc G f=true) (hst:aW Z G es args=true) (mv:Bool) :
  PE X (.Call (.Name x p) args [] pos) (RO X.K ex (evO cl mv (.call f es))):=by
 have pa:=jO es X ex G args g hst
 have pe:=nP (p:=p) (pos:=pos) g h1 h2 hst pa (fun e σ H Q ⟨S,τ,hs,q⟩=>by
  subst e
  cases es with
  | nil=>exact q.ok [] H (.refl _) .nil
  | cons _ _=>cases hst)
 refine ay pe fun σ H Q ⟨F,τ,fo,fok,r,nd,q⟩=>?_
 have q':PO' ex (bnd (aV cl es τ) fun ds=>bnd (cl f (ers ds)) fun d=>if ao d=true then .ok (d,τ) else .ok (d,frz (au es) τ)) (fun p=>∀ v H' F' fv f',Ow X.K F H fo F' H' σ v p.1 fv p.2 f'->Q v H'):=q
 -- read without giving up
 have borrow:(∀ ds,aV cl es τ=.ok ds->PO' ex (cl f (ers ds)) fun d=>ao d=true/\∀ v H' F' fv f',Ow X.K F H fo F' H' σ v d fv τ f'->Q v H')->PO' ex (aV cl es τ) (fun _=>True)->RA X.K ex (au es) (aV cl es) σ H (fun vs H1=>spP X.K ex cl f vs H1 Q):=by
  intro hk hok
  refine jL (.refl _) (bc r) hok.eq fun ds vs H1 e1 _ m1 q1=>?_
  refine⟨fun a=>H1 a≠none,ds,fun a h=>h,m1.step (fun a xs h rd=>⟨rd.some,rd⟩) fun a xs h=>h,(hk ds q1.1).mono fun d hd v H' F' fv o=>?_⟩
  obtain⟨k1,k2,k3⟩:=dZ fok r (e1.trans o.same)
  exact hd.2 v H' F [] fo ⟨k3,k1,o.rep.lfree_nil hd.1,k2,by simpa using nd,fun a ha=>.inl (by simpa using ha)⟩
 cases z:aV cl es τ with
 | error er=>
  rw[z] at q'
  cases er with
  | stuck=>exact q'.no.elim
  | exc c=>exact borrow (fun ds h=>by rw[z] at h;cases h) (by rw[z];exact q')
 | ok ds=>
  rw[z] at q'
  have q1:PO' ex (bnd (cl f (ers ds)) fun d=>if ao d=true then .ok (d,τ) else .ok (d,frz (au es) τ)) (fun p=>∀ v H' F' fv f',Ow X.K F H fo F' H' σ v p.1 fv p.2 f'->Q v H'):=q'
  cases zc:cl f (ers ds) with
  | error er=>
   rw[zc] at q1
   cases er with
   | stuck=>exact q1.no.elim
   | exc c=>exact borrow (fun ds' h=>by rw[z] at h;cases h;rw[zc];exact q1) (by rw[z];trivial)
  | ok d=>
   rw[zc] at q1
   have q2:PO' ex (if ao d=true then .ok (d,τ) else .ok (d,frz (au es) τ)) (fun p=>∀ v H' F' fv f',Ow X.K F H fo F' H' σ v p.1 fv p.2 f'->Q v H'):=q1
   by_cases hl:ao d=true
   ·rw[if_pos hl] at q2
    exact borrow (fun ds' h=>by rw[z] at h;cases h;rw[zc];exact⟨hl,q2.ok⟩) (by rw[z];trivial)
   ·rw[if_neg hl] at q2
    obtain⟨F1,gg,b1,b2,b3,b4,b5,b6⟩:=dw (au es) fok r nd
    refine jL (Kt:=fun ds'=>ds'=ds) (.refl _) b6 (by rw[z];rfl) fun ds' vs H1 e1 _ m1 e=>?_
    subst e
    have hm:HReps X.K (fun a=>F1 a∨(True/\H a=none/\H1 a≠none)) H1 vs ds':=m1.step (fun a xs h r=>⟨h.elim (fun z=>.inl z) fun z=>.inr ⟨trivial,z,r.some⟩,r⟩) fun a xs h=>h
    obtain⟨c1,c2,c3⟩:=grow (fun _=>True) b1 b2 e1
    refine⟨_,ds',c1,hm,?_⟩
    rw[zc]
    intro v H' F' fv o
    have s1:Stp (fun a=>F1 a∨(True/\H a=none/\H1 a≠none)) H1 gg F' H':=⟨o.same,o.inn,fun a h=>(o.out a h).elim (fun z=>.inl z) fun z=>.inr (.inr z)⟩
    have r2:Rps X.K F' H' σ (frz (au es) τ) gg:=c2.step (fun a xs q rd=>⟨o.inn a q,o.same.rd rd⟩) (fun a xs q=>o.same.seqT q) fun a ha n hn=>by
     obtain⟨_,xs,e⟩:=c2.own a ha
     refine⟨fun z=>?_,(o.same _ _ e).trans e.symm⟩
     rcases o.out a z with z | z
     ·exact n z
     ·exact hn z
    refine q2.ok v H' F' fv gg ⟨(b4.trans c3 (fun x hx=>.inl (b5 x hx))).trans s1 (fun x hx=>.inl (b5 x hx)),o.fok,o.rep,r2,?_,fun a ha=>?_⟩
    ·refine List.nodup_append.mpr ⟨o.nod,b3,fun a h1 b h2 e=>?_⟩
     subst e
     obtain⟨_,xs,e⟩:=c2.own a h2
     rw[o.new a h1] at e
     cases e
    ·rcases List.mem_append.mp ha with ha | ha
     ·exact .inr (e1.free (o.new a ha))
     ·exact .inl (b5 a ha)
theorem aH {a:IR} {e:Expr} (he:PE X e (RD X.K ex (vars a) (evR cl a))) (hN:av a=true->PE X e (RN X.K ex (vars a) fun τ=>bnd (evR cl a τ) dY)):PE X e (RO X.K ex fun τ=>bnd (evR cl a τ) fun d=>.ok (aE a d τ)):=by
 intro pins s σ H Q I h
 obtain⟨F,τ,fo,fok,r,nd,q⟩:=h
 replace q:PO' ex (bnd (evR cl a τ) fun d=>.ok (aE a d τ)) (fun p=>∀ v H' F' fv f',Ow X.K F H fo F' H' σ v p.1 fv p.2 f'->Q v H'):=q
 have rd:RD X.K ex (vars a) (evR cl a) σ H Q->wpAny (model X.prog X.w) X.A (eval e X.env) (EP X pins σ Q) X.xe s:=fun h=>he pins s σ H Q I h
 cases z:evR cl a τ with
 | error er=>
  rw[z] at q
  cases er with
  | stuck=>exact q.no.elim
  | exc c=>exact rd ⟨fun _=>True,τ,bc r,by rw[z];exact q⟩
 | ok d=>
  rw[z] at q
  have q1:∀ v H' F' fv f',Ow X.K F H fo F' H' σ v (aE a d τ).1 fv (aE a d τ).2 f'->Q v H':=q
  by_cases hl:ao d=true
  ·unfold aE at q1
   rw[if_pos hl] at q1
   refine rd ⟨fun _=>True,τ,bc r,?_⟩
   rw[z]
   intro v H' e m
   obtain⟨k1,k2,k3⟩:=dZ fok r e
   exact q1 v H' F [] fo ⟨k3,k1,m.free hl,k2,by simpa using nd,fun a ha=>.inl (by simpa using ha)⟩
  ·have other:aE a d τ=(er d,frz (vars a) τ)->wpAny (model X.prog X.w) X.A (eval e X.env) (EP X pins σ Q) X.xe s:=fun hk=>by
    rw[hk] at q1
    obtain⟨F1,gg,b1,b2,b3,b4,b5,b6⟩:=dw (vars a) fok r nd
    refine rd ⟨F1,τ,b6,?_⟩
    rw[z]
    intro v H' e m
    obtain⟨c1,c2,c3⟩:=grow (fun _=>True) b1 b2 e
    exact q1 v H' _ [] gg ⟨b4.trans c3 (fun x hx=>.inl (b5 x hx)),c1,m.fix.frozen,c2,by simpa using b3,fun a ha=>.inl (b5 a (by simpa using ha))⟩
   by_cases hn:av a=true
   ·cases d with
    | lst o ds=>
     by_cases hi:ae ds=true
     ·have hk:aE a (.lst o ds) τ=(.lst true ds,τ):=by
       unfold aE
       rw[if_neg hl,hn]
       show (if ae ds=true then _ else _)=_
       rw[if_pos hi]
      rw[hk] at q1
      refine hN hn pins s σ H Q I ⟨fun _=>True,τ,bc r,?_⟩
      show PO' ex (bnd (evR cl a τ) dY) _
      rw[z]
      intro p ys H' e hp hy m
      obtain⟨k1,k2,k3⟩:=dZ fok r e
      refine q1 (.ref p) H' F [p] fo ⟨k3,k1,.lstO (fun zz=>fok p zz hp) hy (m.free hi),k2,?_,fun a ha=>?_⟩
      ·rw[List.singleton_append,List.nodup_cons]
       refine⟨fun zz=>?_,nd⟩
       obtain⟨_,xs,e⟩:=r.own p zz
       rw[hp] at e;cases e
      ·rw[List.singleton_append] at ha
       rcases List.mem_cons.mp ha with rfl | ha
       ·exact .inr hp
       ·exact .inl ha
     ·have hk:aE a (.lst o ds) τ=(.lst true (ers ds),frz (vars a) τ):=by
       unfold aE
       rw[if_neg hl,hn]
       show (if ae ds=true then _ else _)=_
       rw[if_neg hi]
      rw[hk] at q1
      obtain⟨F1,gg,b1,b2,b3,b4,b5,b6⟩:=dw (vars a) fok r nd
      refine hN hn pins s σ H Q I ⟨F1,τ,b6,?_⟩
      show PO' ex (bnd (evR cl a τ) dY) _
      rw[z]
      intro p ys H' e hp hy m
      obtain⟨c1,c2,c3⟩:=grow (fun a=>a≠p) b1 b2 e
      have m2:HReps X.K (fun a=>F1 a∨(a≠p/\H a=none/\H' a≠none)) H' ys ds:=m.step (fun a xs h r=>⟨h.1.elim (fun z=>.inl z) fun z=>.inr ⟨h.2,z,r.some⟩,r⟩) fun a xs h=>h
      refine q1 (.ref p) H' _ [p] gg ⟨b4.trans c3 (fun x hx=>.inl (b5 x hx)),c1,.lstO (fun zz=>?_) hy m2.frozen,c2,?_,fun a ha=>?_⟩
      ·rcases zz with zz | zz
       ·exact b1 p zz hp
       ·exact zz.1 rfl
      ·rw[List.singleton_append,List.nodup_cons]
       refine⟨fun zz=>?_,b3⟩
       obtain⟨_,xs,e⟩:=b2.own p zz
       rw[hp] at e;cases e
      ·rw[List.singleton_append] at ha
       rcases List.mem_cons.mp ha with rfl | ha
       ·exact .inr hp
       ·exact .inl (b5 a ha)
    | _=>
     refine other ?_
     unfold aE
     rw[if_neg hl,hn]
   ·have hn':av a=false:=by simpa using hn
    refine other ?_
    unfold aE
    rw[if_neg hl,hn']
theorem yR {a b:Expr} {pos:Pos} {va vb:List Nat} {fa fb:Ev->Res D} (ha:PE X a (RD X.K ex va fa)) (hb:PE X b (RD X.K ex vb fb)) :
  PE X (.BinOp a .Add b pos) (RN X.K ex (va++vb) fun τ=>bnd (bnd (fa τ) fun x=>bnd (fb τ) fun y=>opB .add x y) dY):=by
 refine ay (sQ kj ha hb) fun σ H Q ⟨S,τ,hs,q⟩=>?_
 refine bb (.refl _) hs.left (PO'.bnd (PO'.bnd q)) fun x v H1 e1 _ m1 q1=>?_
 refine bb e1 hs.right (PO'.bnd q1) fun y w H2 e2 e2' m2 q2=>?_
 have stuck:∀ {P:Prop},opB .add x y=stk->P:=fun z=>by rw[z] at q2;exact q2.no.elim
 cases x with
 | int a=>cases y with
  | int b=>exact q2.ok.no.elim
  | _=>exact stuck rfl
 | str a=>cases y with
  | str b=>exact(PO'.grd q2).2.ok.no.elim
  | _=>exact stuck rfl
 | lst o a=>cases y with
  | lst o' b=>
   obtain⟨p,xs,rfl,h1,n1⟩:=m1.lstL
   obtain⟨p',ys,rfl,h2,n2⟩:=m2.lstL
   obtain⟨gd,q3⟩:=PO'.grd q2
   have g':=ba gd
   have l1:=n1.length
   have l2:=n2.length
   have h1':Ls X.K H2 p xs:=h1.elim (fun z=>.inl (e2'.rd z)) .inr
   exact⟨p,p',xs,ys,rfl,rfl,h1',h2,by omega,fun z hz=>q3.ok.ok z _ _ (e2.trans (.upd hz)) (e2.free hz) ar (yQ ((n1.later e2').append n2) hz)⟩
  | _=>exact stuck rfl
 | _=>exact stuck rfl
theorem Bt {a:Expr} {lo hi:Option Expr} {pos p2:Pos} {va vl vh:List Nat} {fa:Ev->Res D} {fl fh:Ev->Res (Option Int)} (ha:PE X a (RD X.K ex va fa)) (hl:PO X lo (ROp X.K ex vl fl)) (hh:PO X hi (ROp X.K ex vh fh)) :
  PE X (.Subscript a (.Slice lo hi none p2) pos) (RN X.K ex (va++vl++vh) fun τ=>bnd (bnd (fa τ) fun x=>bnd (fl τ) fun l=>bnd (fh τ) fun h=>iM x l h) dY):=by
 refine ay (iB kc ha hl hh) fun σ H Q ⟨S,τ,hs,q⟩=>?_
 refine bb (.refl _) hs.left.left (PO'.bnd (PO'.bnd q)) fun x v H1 e1 _ m1 q1=>?_
 refine rM e1 hs.left.right (PO'.bnd q1) fun l H2 e2 e2' q2=>?_
 refine rM e2 hs.right (PO'.bnd q2) fun h H3 e3 e3' q3=>?_
 cases x with
 | lst o ds=>
  obtain⟨p,xs,rfl,h1,n1⟩:=m1.lstR
  exact⟨p,xs,rfl,(e2'.trans e3').seq h1,fun z hz=>q3.ok.ok z _ _ (e3.trans (.upd hz)) (e3.free hz) ar (yQ (km l h (n1.later (e2'.trans e3'))) hz)⟩
 | str _=>exact(PO'.grd q3).2.ok.no.elim
 | _=>exact q3.no.elim
end
section
variable {Z:Sg} {CX:CXT} {cl:Nat->List D->Res D} {xp:XK->Hp->Str->Prop}
theorem iX {X:Cx} {ex:Str->Prop} {G:Gm} (g:GOk Z CX cl xp X ex G) {i:Nat} {x:Str} {pos:Pos} (h:cI G i x=true):PE X (.Name x pos) (vd i):=by
 unfold cI at h
 rw[Bool.and_eq_true] at h
 have hx:G.N[i]? = some x:=eq_of_beq h.1
 have hk:=g.kd i x hx
 have hv:Vis X.env.scope x:=by
  have h2:=h.2
  rw[Bool.or_eq_true,Bool.or_eq_true] at h2
  rcases h2 with (h2 | h2) | h2
  ·exact .inl (hk.trans (eq_of_beq h2))
  ·exact .inr (.inl (hk.trans (eq_of_beq h2)))
  ·exact .inr (.inr (hk.trans (eq_of_beq h2)))
 exact mB (i:=i) (by rw[g.N];exact hx) hv (g.noD i x hx).1 (g.noD i x hx).2
theorem wA {X:Cx} {ex:Str->Prop} {G G':Gm} {fr:List Nat} (g:GOk Z CX cl xp X ex G) {scope:Scope} {tg iter elt:Expr} {ifs:List Expr} {pos:Pos} {T:Tg} {s:Sr} {I:List IR} {E:IR} (hs:ScOk Z G scope G' fr) (hT:cB G' T tg=true) (ha:∀ i ∈ tgs T,fr.length<=i)
  (hi:bS Z G s iter=true/\d9 s tg=true) (ht:aW Z G' I ifs=true) (he:chk Z G' E elt=true) :
  PE X (.ListComp elt [⟨tg,iter,ifs,0⟩] scope pos) (RN X.K ex (vars (.comp G' fr T s I E)) fun τ=>bnd (evR cl (.comp G' fr T s I E) τ) dY):=by
 intro pins s' σ H Q Iv h
 obtain⟨cl',S⟩:=dP g Iv.ok hs
 have p:=ke (pos:=pos) (elt:=elt) (ifs:=ifs) (tg:=tg) (g:=gT X.K T) (tt:=RT X.K nox (au I) (cX cl I)) (te:=RD X.K nox (vars E) (evR cl E)) (g.calm hs.cm) S (rS s X ex G iter tg g hi.1 hi.2) (fun C s H fp=>pgT (bu g hs cl' C s H fp) T tg hT)
  (fun C s H fp=>rR I _ nox G' ifs (bu g hs cl' C s H fp) ht) (fun C s H fp=>(snd E _ nox G' elt (bu g hs cl' C s H fp) he).1) (fun x=>bN hi.1 X.env x)
 refine p pins s' σ H Q Iv ?_
 obtain⟨S0,τ,hsl,q⟩:=h
 have q':=PO'.bnd (show PO' ex (bnd (evR cl (.comp G' fr T s I E) τ) dY) _ from q)
 rw[fq] at q'
 exact ck hs.fle ha hsl q' fun A ys ds H' e hA hA' m k=>k.ok A ys H' e hA hA' m
theorem snN:∀ (a:IR) (X:Cx) (ex:Str->Prop) (G:Gm) (e:Expr),GOk Z CX cl xp X ex G->chk Z G a e=true->av a=true->PE X e (RN X.K ex (vars a) fun τ=>bnd (evR cl a τ) dY):=by
 intro a X ex G e g h n
 cases a with
 | bin op a b=>
  cases op with
  | add=>
   cases e with
   | BinOp l o r pos=>
    have h':(o == bop .add && chk Z G a l && chk Z G b r)=true:=h
    simp only[Bool.and_eq_true] at h'
    have e1:o=bop .add:=eq_of_beq h'.1.1
    subst e1
    exact yR (snd a X ex G l g h'.1.2).1 (snd b X ex G r g h'.2).1
   | _=>first | exact aa h | cases h
  | _=>cases n
 | sl a lo hi=>
  cases e with
  | Subscript o s pos=>
   cases s with
   | Slice l u st p=>
    cases st with
    | none=>
     have h':(chk Z G a o && jK Z G lo l && jK Z G hi u)=true:=h
     simp only[Bool.and_eq_true] at h'
     exact Bt (snd a X ex G o g h'.1.1).1 (rQ lo X ex G l g h'.1.2) (rQ hi X ex G u g h'.2)
    | some _=>first | exact aa h | cases h
   | _=>first | exact aa h | cases h
  | _=>first | exact aa h | cases h
 | bi f es=>cases n
 | comp G' fr tg src ifs elt=>
  cases e with
  | ListComp el gens scope pos=>
   have h:mf gens (fun t it fs=>bt Z G scope G' fr && cB G' tg t && (tgs tg).all (fun i=>decide (fr.length<=i)) && (bS Z G src it && d9 src t) && aW Z G' ifs fs && chk Z G' elt el)=true:=h
   obtain⟨t,it,fs,rfl,h⟩:=gO h
   have h':(bt Z G scope G' fr && cB G' tg t && (tgs tg).all (fun i=>decide (fr.length<=i)) && (bS Z G src it && d9 src t) && aW Z G' ifs fs && chk Z G' elt el)=true:=h
   simp only[Bool.and_eq_true] at h'
   exact wA g (gR h'.1.1.1.1.1) h'.1.1.1.1.2 (fun i hi=>of_decide_eq_true (List.all_eq_true.mp h'.1.1.1.2 i hi)) h'.1.1.2 h'.1.2 h'.2
  | _=>first | exact aa h | cases h
 | _=>cases n
theorem o_dnew {X:Cx} {ex:Str->Prop} {pos:Pos} (mv:Bool):PE X (.Dict [] [] pos) (RO X.K ex (evO cl mv .dnew)):=by
 refine ay iF fun σ H Q ⟨F,τ,fo,fok,r,nd,q⟩=>fun p hp=>?_
 have q':∀ v H' F' fv f',Ow X.K F H fo F' H' σ v (.dct true [] []) fv τ f'->Q v H':=q
 have e:ak H (upd H p (.dK [])):=.upd hp
 obtain⟨k1,k2,k3⟩:=dZ fok r e
 have nF:¬ F p:=fun z=>fok p z hp
 have nfo:p ∉ fo:=fun z=>by
  obtain⟨_,u,eu⟩:=r.own p z
  rw[hp] at eu;cases eu
 exact q' _ _ F [p] fo ⟨k3,k1,.dctO (kvs:=[]) nF ar rfl .nil,k2,by rw[List.singleton_append,List.nodup_cons];exact⟨nfo,nd⟩,fun a ha=>by
  rcases List.mem_append.mp ha with ha | ha
  ·rw[List.mem_singleton.mp ha];exact .inr hp
  ·exact .inl ha⟩
mutual
theorem snO:∀ (a:IR) (mv:Bool) (X:Cx) (ex:Str->Prop) (G:Gm) (e:Expr),GOk Z CX cl xp X ex G->chk Z G a e=true->PE X e (RO X.K ex (evO cl mv a))
 | .v i,mv,X,ex,G,e,g,h=>by
  cases e with
  | Name x pos=>exact o_v (iX g h) mv
  | _=>first | exact aa h | cases h
 | .tup es,mv,X,ex,G,e,g,h=>by
  cases e with
  | Tuple l n pos=>exact o_tup (wB es mv X ex G l g h)
  | _=>first | exact aa h | cases h
 | .lst es,mv,X,ex,G,e,g,h=>by
  cases e with
  | List l pos=>exact o_lst (wB es mv X ex G l g h)
  | _=>first | exact aa h | cases h
 | .ite t a b,mv,X,ex,G,e,g,h=>by cases e<;>exact aa h
 | .call f es,mv,X,ex,G,e,g,h=>by
  cases e with
  | Call fn args kws pos=>
   cases fn with
   | Name x p=>
    cases kws with
    | nil=>
     have h':(iS Z G f x && Z.fnc G f && aW Z G es args)=true:=h
     simp only[Bool.and_eq_true] at h'
     exact o_call g h'.1.1 h'.1.2 h'.2 mv
    | cons _ _=>first | exact aa h | cases h
   | _=>first | exact aa h | cases h
  | _=>first | exact aa h | cases h
 | .c d,mv,X,ex,G,e,g,h=>aH (snd _ X ex G e g h).1 (snN _ X ex G e g h)
 | .g n d,mv,X,ex,G,e,g,h=>aH (snd _ X ex G e g h).1 (snN _ X ex G e g h)
 | .bin op a b,mv,X,ex,G,e,g,h=>aH (snd _ X ex G e g h).1 (snN _ X ex G e g h)
 | .neg a,mv,X,ex,G,e,g,h=>aH (snd _ X ex G e g h).1 (snN _ X ex G e g h)
 | .cmp op a b,mv,X,ex,G,e,g,h=>aH (snd _ X ex G e g h).1 (snN _ X ex G e g h)
 | .chain op op' a b c,mv,X,ex,G,e,g,h=>aH (snd _ X ex G e g h).1 (snN _ X ex G e g h)
 | .and_ a b,mv,X,ex,G,e,g,h=>aH (snd _ X ex G e g h).1 (snN _ X ex G e g h)
 | .or_ a b,mv,X,ex,G,e,g,h=>aH (snd _ X ex G e g h).1 (snN _ X ex G e g h)
 | .not_ a,mv,X,ex,G,e,g,h=>aH (snd _ X ex G e g h).1 (snN _ X ex G e g h)
 | .idx a i,mv,X,ex,G,e,g,h=>aH (snd _ X ex G e g h).1 (snN _ X ex G e g h)
 | .sl a lo hi,mv,X,ex,G,e,g,h=>aH (snd _ X ex G e g h).1 (snN _ X ex G e g h)
 | .bi f es,mv,X,ex,G,e,g,h=>aH (snd _ X ex G e g h).1 (snN _ X ex G e g h)
 | .isx a ns tb,mv,X,ex,G,e,g,h=>aH (snd _ X ex G e g h).1 (snN _ X ex G e g h)
 | .isi a k,mv,X,ex,G,e,g,h=>aH (snd _ X ex G e g h).1 (snN _ X ex G e g h)
 | .ftr x a y,mv,X,ex,G,e,g,h=>aH (snd _ X ex G e g h).1 (snN _ X ex G e g h)
 | .dget a k,mv,X,ex,G,e,g,h=>aH (snd _ X ex G e g h).1 (snN _ X ex G e g h)
 | .din n k a,mv,X,ex,G,e,g,h=>aH (snd _ X ex G e g h).1 (snN _ X ex G e g h)
 | .sset a,mv,X,ex,G,e,g,h=>aH (snd _ X ex G e g h).1 (snN _ X ex G e g h)
 | .dnew,mv,X,ex,G,e,g,h=>by
  have h:dcv e=true:=by cases e<;>exact h
  obtain⟨pos,rfl⟩:=nK h
  exact o_dnew mv
 | .lrev a,mv,X,ex,G,e,g,h=>aH (snd _ X ex G e g h).1 (snN _ X ex G e g h)
 | .mth m o es,mv,X,ex,G,e,g,h=>aH (snd _ X ex G e g h).1 (snN _ X ex G e g h)
 | .comp G' fr tg src ifs elt,mv,X,ex,G,e,g,h=>aH (snd _ X ex G e g h).1 (snN _ X ex G e g h)
theorem wB:∀ (as:List IR) (mv:Bool) (X:Cx) (ex:Str->Prop) (G:Gm) (l:List Expr),GOk Z CX cl xp X ex G->aW Z G as l=true->PA X l (ROs X.K ex (eS cl mv as))
 | [],mv,X,ex,G,l,g,h=>by
  cases l with
  | nil=>exact wz
  | cons _ _=>first | exact aa h | cases h
 | a::as,mv,X,ex,G,l,g,h=>by
  cases l with
  | nil=>first | exact aa h | cases h
  | cons e l=>
   have h':(notStar e && chk Z G a e && aW Z G as l)=true:=h
   simp only[Bool.and_eq_true] at h'
   exact rT h'.1.1 (snO a mv X ex G e g h'.1.2) (wB as mv X ex G l g h'.2)
end
end
structure Bs where
 F:Addr->Prop
 H:Hp
 L:Addr->LD->Prop
 T:Addr->List V ⊕ Str->Prop
structure Frm (K:PySem.W.Frag) (B:Bs) (F:Addr->Prop) (H:Hp) (σ:St) (τ:Ev) (f:List Addr):Prop where
 fok:FOk F H
 rps:Rps K F H σ τ f
 nod:f.Nodup
 same:ak B.H H
 own:∀ a ∈ f,B.H a=none
 inn:∀ a,B.F a->F a
 out:∀ a,F a->B.F a∨B.H a=none
 pin:∀ a xs,B.L a xs->F a/\Rd H a xs.o
 pit:∀ a xs,B.T a xs->SqE K H a xs
noncomputable def Fk (K:PySem.W.Frag) (B:Bs) (Dn:Ends):Fl->Prop
 | .nx τ=>∀ σ H F f,Frm K B F H σ τ f->Dn.nx σ H
 | .bk τ=>∀ σ H F f,Frm K B F H σ τ f->Dn.bk σ H
 | .ct τ=>∀ σ H F f,Frm K B F H σ τ f->Dn.ct σ H
 | .rt d=>∀ v H F fv,Out K B.F B.H F H v d fv->Dn.rt v H
noncomputable def RS (K:PySem.W.Frag) (ex:Str->Prop) (g:Ev->Res Fl):TS:=fun Dn σ H=>∃ B F τ f,Frm K B F H σ τ f/\PO' ex (g τ) (Fk K B Dn)
section
variable {K:PySem.W.Frag} {B:Bs} {F F':Addr->Prop} {H H':Hp} {σ:St} {τ τ':Ev} {f f':List Addr} {ex:Str->Prop}
theorem Frm.stp (m:Frm K B F H σ τ f) (s:Stp F H f F' H') (fok:FOk F' H') (r:Rps K F' H' σ τ' f') (nd:f'.Nodup) (hm:∀ a ∈ f',a ∈ f∨H a=none):Frm K B F' H' σ τ' f' where
 fok:=fok
 rps:=r
 nod:=nd
 same:=m.same.trans s.same
 own:=fun a ha=>(hm a ha).elim (m.own a) fun z=>m.same.free z
 inn:=fun a h=>s.inn a (m.inn a h)
 out:=fun a h=>by
  rcases s.out a h with h | h | h
  ·exact m.out a h
  ·exact .inr (m.own a h)
  ·exact .inr (m.same.free h)
 pin:=fun a xs h=>⟨s.inn a (m.pin a xs h).1,s.same.rd (m.pin a xs h).2⟩
 pit:=fun a xs h=>s.same.seqT (m.pit a xs h)
theorem Frm.ow {v:V} {d:D} {fv:List Addr} (m:Frm K B F H σ τ f) (o:Ow K F H f F' H' σ v d fv τ' f'):Frm K B F' H' σ τ' f'/\∀ a ∈ fv,B.H a=none:=
 ⟨m.stp o.stp o.fok o.rps (List.nodup_append.mp o.nod).2.1 fun a ha=>o.mem a (List.mem_append_right _ ha),fun a ha=>(o.mem a (List.mem_append_left _ ha)).elim (m.own a) fun z=>m.same.free z⟩
theorem Frm.grow (m:Frm K B F H σ τ f) (e:ak H H'):Frm K B F H' σ τ f:=by
 obtain⟨k1,k2,k3⟩:=dZ m.fok m.rps e
 exact m.stp k3 k1 k2 m.nod fun a ha=>.inl ha
theorem Frm.ro {g:Ev->Res (D×Ev)} {Kt:D×Ev->Prop} {Q:VK} (m:Frm K B F H σ τ f) (h:PO' ex (g τ) Kt) (k:∀ p v H' F' fv f',Ow K F H f F' H' σ v p.1 fv p.2 f'->Kt p->Q v H'):RO K ex g σ H Q:=
 ⟨F,τ,f,m.fok,m.rps,m.nod,h.mono fun p hp v H' F' fv f' o=>k p v H' F' fv f' o hp⟩
theorem Frm.rt {is:List Nat} {g:Ev->Res Bool} {Kt:Bool->Prop} {Q:Bool->Hp->Prop} (m:Frm K B F H σ τ f) (h:PO' ex (g τ) Kt) (k:∀ b H',Frm K B F H' σ τ f->ak H H'->Kt b->Q b H'):RT K ex is g σ H Q:=
 gP (.refl _) (bc m.rps) h fun b H2 e2 _ hb=>k b H2 (m.grow e2) e2 hb
theorem Frm.rd {is:List Nat} {g:Ev->Res D} {Kt:D->Prop} {Q:VK} (m:Frm K B F H σ τ f) (h:PO' ex (g τ) Kt) (k:∀ d v H',Frm K B F H' σ τ f->ak H H'->HRep K (nw (fun _=>True) H) H' v d->Kt d->Q v H'):RD K ex is g σ H Q:=
 bb (.refl _) (bc m.rps) h fun b v H2 e2 _ mv hb=>k b v H2 (m.grow e2) e2 mv hb
mutual
theorem nQ:∀ (t:Tg) {σ:St} {τ:Ev} {f:List Addr} {v:V} {d:D} {fv:List Addr} {Kt:Ev->Prop} {Q:St->Hp->Prop},Rps K F H σ τ f->MRep K F H v d fv->(fv++f).Nodup->PO' ex (bD t d τ) Kt->
  (∀ τ' σ' f',Rps K F H σ' τ' f'->f'.Nodup->(∀ a ∈ f',a ∈ fv++f)->Kt τ'->Q σ' H)->gT K t v σ H Q
 | .nm i,σ,τ,f,v,d,fv,Kt,Q,r,m,nd,h,k=>by
  obtain⟨g,h',r2,p2⟩:=r.put i m
  have nd2:(g++h').Nodup:=p2.nodup_iff.mpr nd
  exact k (τ.set i (some d)) (σ.set i (some v)) g r2 (List.nodup_append.mp nd2).1 (fun a ha=>p2.mem_iff.mp (List.mem_append_left _ ha)) h.ok
 | .tp ts,σ,τ,f,v,d,fv,Kt,Q,r,m,nd,h,k=>by
  cases m with
  | tup h1 h2=>
   obtain⟨gd,h⟩:=PO'.grd h
   have g':=of_decide_eq_true gd
   exact⟨_,_,rfl,.inl h1,by rw[h2.length];exact g',dy ts r h2 nd h k⟩
  | lstS h0 h1 h2=>
   obtain⟨gd,h⟩:=PO'.grd h
   have g':=of_decide_eq_true gd
   exact⟨_,_,rfl,.inr (.inl h1),by rw[h2.length];exact g',dy ts r h2 nd h k⟩
  | lstK h1 h2=>
   obtain⟨gd,h⟩:=PO'.grd h
   have g':=of_decide_eq_true gd
   exact⟨_,_,rfl,.inr h1.sq,by rw[h2.length];exact g',dy ts r h2 nd h k⟩
  | lstO h0 h1 h2=>
   obtain⟨gd,h⟩:=PO'.grd h
   have g':=of_decide_eq_true gd
   rw[List.cons_append,List.nodup_cons] at nd
   exact⟨_,_,rfl,.inr (.inl (.inl h1)),by rw[h2.length];exact g',dy ts r h2 nd.2 h fun τ' σ' f' a1 a2 a3 a4=>k τ' σ' f' a1 a2 (fun x hx=>by rw[List.cons_append];exact List.mem_cons_of_mem _ (a3 x hx)) a4⟩
  | _=>exact h.no.elim
theorem dy:∀ (ts:List Tg) {σ:St} {τ:Ev} {f:List Addr} {vs:List V} {ds:List D} {fv:List Addr} {Kt:Ev->Prop} {Q:St->Hp->Prop},Rps K F H σ τ f->MReps K F H vs ds fv->(fv++f).Nodup->PO' ex (dk ts ds τ) Kt->
  (∀ τ' σ' f',Rps K F H σ' τ' f'->f'.Nodup->(∀ a ∈ f',a ∈ fv++f)->Kt τ'->Q σ' H)->gTs K ts vs σ H Q
 | [],σ,τ,f,vs,ds,fv,Kt,Q,r,m,nd,h,k=>by
  cases m with
  | nil=>exact⟨rfl,k τ σ f r (by simpa using nd) (fun a ha=>by simpa using ha) h.ok⟩
  | cons _ _=>exact h.no.elim
 | t::ts,σ,τ,f,vs,ds,fv,Kt,Q,r,m,nd,h,k=>by
  cases m with
  | nil=>exact h.no.elim
  | cons m1 m2=>
   rename_i v d f1 vs ds f2
   have nd':(f2++(f1++f)).Nodup:=by
    refine(List.Perm.nodup_iff ?_).mp nd
    rw[<- List.append_assoc]
    exact List.Perm.append_right f List.perm_append_comm
   refine⟨_,_,rfl,nQ t r m1 (List.nodup_append.mp nd').2.1 (PO'.bnd h) fun τ' σ' f' r' nf' hm' h'=>?_⟩
   refine dy ts r' m2 (List.nodup_append.mpr ⟨(List.nodup_append.mp nd').1,nf',fun a h1 b h2 e=>(List.nodup_append.mp nd').2.2 a h1 b (hm' b h2) e⟩) h' fun τ'' σ'' f'' r'' nf'' hm'' h''=>k τ'' σ'' f'' r'' nf'' (fun a ha=>?_) h''
   rcases List.mem_append.mp (hm'' a ha) with z | z
   ·exact List.mem_append_left _ (List.mem_append_right _ z)
   ·rcases List.mem_append.mp (hm' a z) with z | z
    ·exact List.mem_append_left _ (List.mem_append_left _ z)
    ·exact List.mem_append_right _ z
end
theorem Frm.gT {t:Tg} {v:V} {d:D} {fv:List Addr} {Kt:Ev->Prop} {Q:St->Hp->Prop} (m:Frm K B F H σ τ f) (mv:MRep K F H v d fv) (nd:(fv++f).Nodup) (hb:∀ a ∈ fv,B.H a=none) (h:PO' ex (bD t d τ) Kt)
  (k:∀ τ' σ' f',Frm K B F H σ' τ' f'->Kt τ'->Q σ' H):L2.gT K t v σ H Q:=
 nQ t m.rps mv nd h fun τ' σ' f' r' nf' hm h'=>k τ' σ' f' ⟨m.fok,r',nf',m.same,fun a ha=>(List.mem_append.mp (hm a ha)).elim (hb a) (m.own a),m.inn,m.out,m.pin,m.pit⟩ h'
theorem Frm.write {i:Nat} {ds ds':List D} {w:V} {d:D} {fv:List Addr} {l:Addr} {xs ys:List V} (m:Frm K B F H σ τ f) (hs:ai τ i=some (.lst true ds)) (hσ:σ[i]? = some (some (.ref l))) (hl:H l=some (.lst xs)) (mw:MRep K F H w d fv) (nd:(fv++f).Nodup) (hb:∀ a ∈ fv,B.H a=none)
  (hy:∀ fi,MReps K F H xs ds fi->∃ fl h,MReps K F H ys ds' fl/\(fl++h).Perm (fv++fi)):∃ f',Frm K B F (upd H l (.lst ys)) σ (τ.set i (some (.lst true ds'))) f':=by
 obtain⟨v,fs,g,h1,h2,h3,h4⟩:=m.rps.at hs
 rw[hσ] at h1
 cases h1
 cases h2 with
 | @lstO a xs' ds0 fi hF hH hm=>
  rw[hl] at hH
  cases hH
  obtain⟨fl,h,hm',hp⟩:=hy fi hm
  have ndf:((l::fi)++g).Nodup:=h4.nodup_iff.mp m.nod
  have nda:(fv++((l::fi)++g)).Nodup:=(List.Perm.append_left fv h4).nodup_iff.mp nd
  have lg:l ∉ g:=by
   rw[List.cons_append,List.nodup_cons] at ndf
   exact fun z=>ndf.1 (List.mem_append_right _ z)
  have lfi:l ∉ fi:=by
   rw[List.cons_append,List.nodup_cons] at ndf
   exact fun z=>ndf.1 (List.mem_append_left _ z)
  have lfv:l ∉ fv:=fun z=>(List.nodup_append.mp nda).2.2 l z l (by simp) rfl
  have inFl:∀ a ∈ fl,a ∈ fv++fi:=fun a ha=>hp.mem_iff.mp (List.mem_append_left _ ha)
  have lfl:l ∉ fl:=fun z=>(List.mem_append.mp (inFl l z)).elim lfv lfi
  have sl:∀ a (u:LD),F a->Rd H a u.o->F a/\Rd (upd H l (.lst ys)) a u.o:=fun a xs h r=>by
   refine⟨h,?_⟩
   have:a≠l:=fun z=>hF (by rw[<- z];exact h)
   unfold Rd
   rw[aj this]
   exact r
  have st:∀ a xs,SqE K H a xs->SqE K (upd H l (.lst ys)) a xs:=fun a xs h=>h.upd hl
  have r1:Rps K F (upd H l (.lst ys)) σ (τ.set i none) g:=h3.step sl st fun a ha n _=>⟨n,aj fun z=>lg (by rw[<- z];exact ha)⟩
  have m1:MRep K F (upd H l (.lst ys)) (.ref l) (.lst true ds') (l::fl):=.lstO hF ar (hm'.step sl st fun a ha n _=>⟨n,aj fun z=>lfl (by rw[<- z];exact ha)⟩)
  obtain⟨g',h',r2,p2⟩:=r1.put i m1
  have hσ':σ.set i (some (.ref l))=σ:=by
   apply List.ext_getElem?
   intro j
   rw[List.getElem?_set]
   by_cases hj:i=j
   ·subst hj
    have hlt:i < σ.length:=(List.getElem?_eq_some_iff.mp hσ).1
    rw[if_pos rfl,if_pos hlt,hσ]
   ·rw[if_neg hj]
  rw[hσ',List.set_set] at r2
  have ndl:((l::fl)++g).Nodup:=by
   rw[List.cons_append,List.nodup_cons]
   refine⟨fun z=>(List.mem_append.mp z).elim lfl lg,List.nodup_append.mpr ⟨?_,(List.nodup_append.mp ndf).2.1,fun a h1 b h2 e=>?_⟩⟩
   ·have:(fl++h).Nodup:=hp.nodup_iff.mpr (List.nodup_append.mpr ⟨(List.nodup_append.mp nda).1,(List.nodup_cons.mp (List.nodup_append.mp ndf).1).2,fun a h1 b h2 e=>(List.nodup_append.mp nda).2.2 a h1 b (List.mem_append_left _ (List.mem_cons_of_mem _ h2)) e⟩)
    exact(List.nodup_append.mp this).1
   ·subst e
    rcases List.mem_append.mp (inFl a h1) with z | z
    ·exact(List.nodup_append.mp nda).2.2 a z a (List.mem_append_right _ h2) rfl
    ·exact(List.nodup_append.mp ndf).2.2 a (List.mem_cons_of_mem _ z) a h2 rfl
  have nd2:(g'++h').Nodup:=p2.nodup_iff.mpr ndl
  have lB:B.H l=none:=m.own l (h4.mem_iff.mpr (by simp))
  refine⟨g',fun a h=>?_,r2,(List.nodup_append.mp nd2).1,fun b o hbo=>?_,fun a ha=>?_,m.inn,m.out,fun a xs h=>⟨(m.pin a xs h).1,(sl a xs (m.pin a xs h).1 (m.pin a xs h).2).2⟩,fun a xs h=>st a xs (m.pit a xs h)⟩
  ·have:a≠l:=fun z=>hF (by rw[<- z];exact h)
   rw[aj this]
   exact m.fok a h
  ·have:b≠l:=fun z=>by rw[z,lB] at hbo;cases hbo
   rw[aj this]
   exact m.same _ _ hbo
  ·have:a ∈ (l::fl)++g:=p2.mem_iff.mp (List.mem_append_left _ ha)
   rcases List.mem_append.mp this with z | z
   ·rcases List.mem_cons.mp z with rfl | z
    ·exact lB
    ·rcases List.mem_append.mp (inFl a z) with z | z
     ·exact hb a z
     ·exact m.own a (h4.mem_iff.mpr (List.mem_append_left _ (List.mem_cons_of_mem _ z)))
   ·exact m.own a (h4.mem_iff.mpr (List.mem_append_right _ z))
theorem MReps.snoc {w:V} {d:D} {fv:List Addr} (mw:MRep K F H w d fv) {xs:List V} {ds:List D} {fi:List Addr} (m:MReps K F H xs ds fi):∃ fl h,MReps K F H (xs++[w]) (ds++[d]) fl/\(fl++h).Perm (fv++fi):=
 ⟨fi++(fv++[]),[],m.append (.cons mw .nil),by rw[List.append_nil,List.append_nil];exact List.perm_append_comm⟩
end
noncomputable def notTuple:Expr->Bool
 | .Tuple ..=>false
 | _=>true
noncomputable def gU:Expr->Bool
 | .ListComp ..=>false
 | .SetComp ..=>false
 | .DictComp ..=>false
 | _=>true
noncomputable def isName:Expr->Bool
 | .Name ..=>true
 | _=>false
noncomputable def isTup:Expr->Bool
 | .Tuple ..=>true
 | _=>false
mutual
noncomputable def nR (Z:Sg) (G:Gm):IS->Stmt->Bool
 | .asg tg e,.Assign [t] v _=>cB G tg t && chk Z G e v && (isName t || (isTup t && notTuple v))
 | .dset i k e,.Assign [.Subscript (.Name x _) s _] v _=>cI G i x && cb s && chk Z G k s && chk Z G e v
 | .ext i e,.Expr (.Call (.Attribute (.Name x _) name apos) [v] [] cpos) _=>cI G i x && name == "extend" && apos.endLine == cpos.line && notStar v && chk Z G e v
 | .ins i k e,.Expr (.Call (.Attribute (.Name x _) name apos) [s,v] [] cpos) _=>cI G i x && name == "insert" && apos.endLine == cpos.line && (notStar s && notStar v) && chk Z G k s && chk Z G e v
 | .app i e,.Expr (.Call (.Attribute (.Name x _) name apos) [v] [] cpos) _=>cI G i x && name == "append" && apos.endLine == cpos.line && notStar v && chk Z G e v
 | .pass,.Expr (.Constant (.str _) _ _) _=>true
 | .exp e,.Expr v _=>gU v && chk Z G e v
 | .ret e,.Return (some v) _=>chk Z G e v
 | .retN,.Return none _=>true
 | .if_ t a b,.If c x y _=>chk Z G t c && dz Z G a x && dz Z G b y
 | .for_ tg s body,.For t it b [] _=>((G.cm && G.rs) && cB G tg t) && (bS Z G s it && d9 s t) && dz Z G body b
 | .brk,.Break _=>true
 | .cnt,.Continue _=>true
 | .pass,.Pass _=>true
 | .never,_=>true
 | _,_=>false
noncomputable def dz (Z:Sg) (G:Gm):List IS->List Stmt->Bool
 | [],[]=>true
 | a::as,s::ss=>nR Z G a s && dz Z G as ss
 | _,_=>false
end
section
variable {Z:Sg} {CX:CXT} {cl:Nat->List D->Res D} {xp:XK->Hp->Str->Prop} {X:Cx} {ex:Str->Prop} {G:Gm}
theorem sX {tg:Tg} {ga:Ev->Res (D×Ev)} {Dn:Ends} {σ:St} {H:Hp} (h:RS X.K ex (fun τ=>bnd (ga τ) fun p=>bnd (bD tg p.1 p.2) fun τ'=>.ok (.nx τ')) Dn σ H):vt (RO X.K ex ga) (gT X.K tg) Dn σ H:=by
 obtain⟨B,F,τ,f,m,q⟩:=h
 refine m.ro (PO'.bnd q) fun p v H' F' fv f' o hp=>?_
 obtain⟨m',hb⟩:=m.ow o
 exact m'.gT o.rep o.nod hb (PO'.bnd hp) fun τ' σ' f'' m'' h'=>h'.ok _ _ _ _ m''
theorem st_asg (g:GOk Z CX cl xp X ex G) {tg:Tg} {e:IR} {t v:Expr} {pos:Pos} (ht:cB G tg t=true) (hv:chk Z G e v=true) (hc:(isName t || (isTup t && notTuple v))=true):PS X (.Assign [t] v pos) (RS X.K ex (evS cl (.asg tg e))):=by
 have pe:=snO e false X ex G v g hv
 have pg:=pgT g tg t ht
 cases t with
 | Name x px=>
  cases tg with
  | tp _=>cases ht
  | nm i=>
   have ht':(G.N[i]? == some x && (G.kd[i]? == some .local || (G.df && G.kd[i]? == some .cell)))=true:=ht
   rw[Bool.and_eq_true,Bool.or_eq_true,Bool.and_eq_true] at ht'
   have hx:G.N[i]? = some x:=eq_of_beq ht'.1
   have hk:=g.kd i x hx
   have hloc:Loc X.env.scope x:=ht'.2.elim (fun z=>.inl (hk.trans (eq_of_beq z))) fun z=>.inr (hk.trans (eq_of_beq z.2))
   have hfn:X.fn x=true∨X.env.scope.names.lookup x=some .local:=ht'.2.elim (fun z=>.inr (hk.trans (eq_of_beq z))) fun z=>.inl (g.df z.1 x)
   have plain:swapsWith v (some (.Name x px)) pos.line X.env=pure false->PS X (.Assign [.Name x px] v pos) (RS X.K ex (evS cl (.asg (.nm i) e))):=fun hs=>
    aO (vx (i:=i) (by rw[g.N];exact g.nod) (by rw[g.N];exact hx) hloc pe hs hfn) fun Dn σ H h=>sX h
   cases v with
   | ListComp el gens scope vpos=>
    have hsw:swapsWith (.ListComp el gens scope vpos) (some (.Name x px)) pos.line X.env=pure (X.env.blockKind == .function && X.env.kindOf x == some .local && px.line == vpos.line && !(scope.names.any fun (n,k)=>n == x && (k == .local || k == .cell))):=rfl
    cases hb:(X.env.blockKind == .function && X.env.kindOf x == some .local && px.line == vpos.line && !(scope.names.any fun (n,k)=>n == x && (k == .local || k == .cell))) with
    | false=>exact plain (by rw[hsw,hb])
    | true=>
     rw[hb] at hsw
     have hlx:X.env.kindOf x=some .local:=by
      simp only[Bool.and_eq_true] at hb
      exact eq_of_beq hb.1.1.2
     cases e with
     | comp G' fr T src ifs elt=>
      have hv:mf gens (fun t it fs=>bt Z G scope G' fr && cB G' T t && (tgs T).all (fun i=>decide (fr.length<=i)) && (bS Z G src it && d9 src t) && aW Z G' ifs fs && chk Z G' elt el)=true:=hv
      obtain⟨t,it,fs,rfl,hv⟩:=gO hv
      have h':(bt Z G scope G' fr && cB G' T t && (tgs T).all (fun i=>decide (fr.length<=i)) && (bS Z G src it && d9 src t) && aW Z G' ifs fs && chk Z G' elt el)=true:=hv
      simp only[Bool.and_eq_true] at h'
      have hs:=gR h'.1.1.1.1.1
      have hT:=h'.1.1.1.1.2
      have ha:∀ i ∈ tgs T,fr.length<=i:=fun i hi=>of_decide_eq_true (List.all_eq_true.mp h'.1.1.1.2 i hi)
      intro pins s' σ H Dn Iv h
      obtain⟨cl',S⟩:=dP g Iv.ok hs
      have p:=ra (py:=px) (spos:=pos) (i:=i) (pos:=vpos) (elt:=el) (ifs:=fs) (tg:=t) (g:=gT X.K T) (tt:=RT X.K nox (au ifs) (cX cl ifs)) (te:=RD X.K nox (vars elt) (evR cl elt)) (g.calm hs.cm) (by rw[g.N];exact g.nod) (by rw[g.N];exact hx) hlx S (rS src X ex G it t g h'.1.1.2.1 h'.1.1.2.2) (fun C s H fp=>pgT (bu g hs cl' C s H fp) T t hT)
       (fun C s H fp=>rR ifs _ nox G' fs (bu g hs cl' C s H fp) h'.1.2) (fun C s H fp=>(snd elt _ nox G' el (bu g hs cl' C s H fp) h'.2).1) hsw (fun x=>bN h'.1.1.2.1 X.env x)
      refine p pins s' σ H Dn Iv ?_
      obtain⟨B,F,τ,f,m,q⟩:=h
      -- as one that is kept
      have q0:PO' ex (bnd (bnd (evR cl (.comp G' fr T src ifs elt) τ) fun d=>.ok (aE (.comp G' fr T src ifs elt) d τ)) fun p=>bnd (bD (.nm i) p.1 p.2) fun τ'=>.ok (.nx τ')) (Fk X.K B Dn):=q
      have q1:=PO'.bnd (PO'.bnd q0)
      have fin:∀ (d:D) (v:V) (H':Hp) (F':Addr->Prop) (fv f':List Addr),Ow X.K F H f F' H' σ v (aE (.comp G' fr T src ifs elt) d τ).1 fv (aE (.comp G' fr T src ifs elt) d τ).2 f'->(∀ (p:D×Ev),p=aE (.comp G' fr T src ifs elt) d τ->PO' ex (bnd (bD (.nm i) p.1 p.2) fun τ'=>.ok (.nx τ')) (Fk X.K B Dn))->Dn.nx (σ.set i (some v)) H':=by
       intro d v H' F' fv f' o hp
       obtain⟨m',hb'⟩:=m.ow o
       have:=m'.gT (t:=.nm i) (Q:=Dn.nx) o.rep o.nod hb' (PO'.bnd (hp _ rfl)) fun τ' σ' f'' m'' h'=>h'.ok _ _ _ _ m''
       exact this
      cases z:evR cl (.comp G' fr T src ifs elt) τ with
      | error er=>
       rw[z] at q1
       cases er with
       | stuck=>exact q1.no.elim
       | exc c=>
        refine ck (S:=fun _=>True) (τ:=τ) (ex:=ex) (Kt:=fun _=>False) hs.fle ha (bc m.rps) ?_ fun A ys ds H' e hA hA' mm k=>k.elim
        show PO' ex (evR cl (.comp G' fr T src ifs elt) τ) _
        rw[z]
        exact q1
      | ok d=>
       rw[z] at q1
       have q2:=q1.ok.ok
       obtain⟨o',ds,rfl⟩:∃ o ds,d=.lst o ds:=by
        have zz:=z
        rw[fq] at zz
        obtain⟨its,_,zz⟩:=nv zz
        obtain⟨_,zz⟩:=v3 zz
        obtain⟨ds,_,zz⟩:=nv zz
        cases zz
        exact⟨true,ds,rfl⟩
       by_cases hi:ae ds=true
       ·have hkp:aE (.comp G' fr T src ifs elt) (.lst o' ds) τ=(.lst true ds,τ):=by
         unfold aE
         rw[if_neg (show ¬ ao (.lst o' ds)=true by intro z;cases z)]
         show (if ae ds=true then _ else _)=_
         rw[if_pos hi]
        refine ck (S:=fun _=>True) (τ:=τ) (ex:=ex) (Kt:=fun d'=>∃ o'',d'=.lst o'' ds) hs.fle ha (bc m.rps) ?_ fun A ys ds' H' e hA hA' mm k=>?_
        ·show PO' ex (evR cl (.comp G' fr T src ifs elt) τ) _
         rw[z]
         exact⟨o',rfl⟩
        ·obtain⟨o'',k⟩:=k
         cases k
         obtain⟨k1,k2,k3⟩:=dZ m.fok m.rps e
         refine fin (.lst o' ds) (.ref A) H' F [A] f ?_ (fun p hp=>by subst hp;exact q2)
         rw[hkp]
         refine⟨k3,k1,.lstO (fun zz=>m.fok A zz hA) hA' (mm.free hi),k2,?_,fun a ha=>?_⟩
         ·rw[List.singleton_append,List.nodup_cons]
          refine⟨fun zz=>?_,m.nod⟩
          obtain⟨_,xs,e⟩:=m.rps.own A zz
          rw[hA] at e;cases e
         ·rw[List.singleton_append] at ha
          rcases List.mem_cons.mp ha with rfl | ha
          ·exact .inr hA
          ·exact .inl ha
       ·have hkp:aE (.comp G' fr T src ifs elt) (.lst o' ds) τ=(.lst true (ers ds),frz (vars (.comp G' fr T src ifs elt)) τ):=by
         unfold aE
         rw[if_neg (show ¬ ao (.lst o' ds)=true by intro z;cases z)]
         show (if ae ds=true then _ else _)=_
         rw[if_neg hi]
        obtain⟨F1,gg,b1,b2,b3,b4,b5,b6⟩:=dw (vars (.comp G' fr T src ifs elt)) m.fok m.rps m.nod
        refine ck (S:=F1) (τ:=τ) (ex:=ex) (Kt:=fun d'=>∃ o'',d'=.lst o'' ds) hs.fle ha b6 ?_ fun A ys ds' H' e hA hA' mm k=>?_
        ·show PO' ex (evR cl (.comp G' fr T src ifs elt) τ) _
         rw[z]
         exact⟨o',rfl⟩
        ·obtain⟨o'',k⟩:=k
         cases k
         obtain⟨c1,c2,c3⟩:=grow (fun a=>a≠A) b1 b2 e
         have m2:HReps X.K (fun a=>F1 a∨(a≠A/\H a=none/\H' a≠none)) H' ys ds:=mm.step (fun a xs h r=>⟨h.1.elim (fun z=>.inl z) fun z=>.inr ⟨h.2,z,r.some⟩,r⟩) fun a xs h=>h
         refine fin (.lst o' ds) (.ref A) H' (fun a=>F1 a∨(a≠A/\H a=none/\H' a≠none)) [A] gg ?_ (fun p hp=>by subst hp;exact q2)
         rw[hkp]
         refine⟨b4.trans c3 (fun x hx=>.inl (b5 x hx)),c1,.lstO (fun zz=>?_) hA' m2.frozen,c2,?_,fun a ha=>?_⟩
         ·rcases zz with zz | zz
          ·exact b1 A zz hA
          ·exact zz.1 rfl
         ·rw[List.singleton_append,List.nodup_cons]
          refine⟨fun zz=>?_,b3⟩
          obtain⟨_,xs,e⟩:=b2.own A zz
          rw[hA] at e;cases e
         ·rw[List.singleton_append] at ha
          rcases List.mem_cons.mp ha with rfl | ha
          ·exact .inr hA
          ·exact .inl (b5 a ha)
     | _=>first | exact aa hv | cases hv
   | SetComp _ _ _ _=>cases e<;>first | exact aa hv | cases hv
   | DictComp _ _ _ _ _=>cases e<;>first | exact aa hv | cases hv
   | _=>exact plain rfl
 | Tuple ts k px=>
  have hc':notTuple v=true:=hc
  refine aO (vw pe pg ?_ ?_ rfl) fun Dn σ H h=>sX h
  ·cases v<;>rfl
  ·cases v<;>first | rfl | cases hc'
 | _=>cases hc
end
theorem SqE.updD {K:PySem.W.Frag} {H:Hp} {a l:Addr} {xs:List V ⊕ Str} {ys zs:List (Key×V)} (hl:H l=some (.dK ys)) (h:SqE K H a xs):SqE K (L2.upd H l (.dK zs)) a xs:=by
 cases xs with
 | inl xs=>
  rcases h with h | h
  ·have:a≠l:=by
    rintro rfl
    rcases h with h | ⟨o,h⟩<;>(rw[hl] at h;cases h)
   refine .inl ?_
   unfold Rd
   rw[aj this]
   exact h
  ·exact .inr h
 | inr c=>
  obtain⟨C,o,vs,h0,h1,h2,h3⟩:=h
  have:a≠l:=by
   rintro rfl
   rw[hl] at h2;cases h2
  exact⟨C,o,vs,h0,h1,by rw[aj this];exact h2,h3⟩
theorem MReps.noF {K:PySem.W.Frag} {F:Addr->Prop} {H:Hp} {vs:List V} {ds:List D} {f:List Addr} (h:MReps K F H vs ds f) (n:ae ds=true):f=[]:=by
 refine MReps.rec (motive_1:=fun _ d f _=>ao d=true->f=[]) (motive_2:=fun _ d f _=>ae d=true->f=[]) (fun _=>rfl) (fun _ _=>rfl) (fun _ _=>rfl) (fun _ _=>rfl) (fun _ _=>rfl) (fun _ _ i z=>i z) (fun _ _ _ _ _=>rfl) (fun _ _ _ _=>rfl) (fun _ _ _ _ z=>aa z) (fun _ _ _ _ _ _=>rfl) (fun _ _ _ _ _ z=>aa z) (fun _=>rfl) (fun {v d f vs ds g} _ _ i j z=>?_) h n
 have z':=Bool.and_eq_true_iff.mp (show (ao d && ae ds)=true from z)
 rw[i z'.1,j z'.2]
 rfl
theorem rV {K:PySem.W.Frag} {F:Addr->Prop} {H:Hp} {σ:St} {τ:Ev} {f:List Addr} {i:Nat} {ks:List Key} {ds:List D} (r:Rps K F H σ τ f) (hs:ai τ i=some (.dct true ks ds)) (n:ae ds=true) :
  ∃ l kvs g,σ[i]? = some (some (.ref l))/\¬ F l/\H l=some (.dK kvs)/\kvs.map (·.1)=ks/\MReps K F H (kvs.map (·.2)) ds []/\Rps K F H σ (τ.set i none) g/\f.Perm (l::g):=by
 obtain⟨v,fs,g,h1,h2,h3,h4⟩:=r.at hs
 cases h2 with
 | @dctO a kvs _ _ fi hF hH hk hm=>
  have e:=hm.noF n
  subst e
  exact⟨a,kvs,g,h1,hF,hH,hk,hm,h3,h4⟩
theorem Frm.writeD {K:PySem.W.Frag} {B:Bs} {F:Addr->Prop} {H:Hp} {σ:St} {τ:Ev} {f g:List Addr} {i:Nat} {l:Addr} {kvs kvs':List (Key×V)} {ks':List Key} {ds':List D} (m:Frm K B F H σ τ f) (hσ:σ[i]? = some (some (.ref l))) (hF:¬ F l) (hl:H l=some (.dK kvs)) (hr:Rps K F H σ (τ.set i none) g) (h4:f.Perm (l::g))
  (hk:kvs'.map (·.1)=ks') (hm:MReps K F H (kvs'.map (·.2)) ds' []):∃ f',Frm K B F (upd H l (.dK kvs')) σ (τ.set i (some (.dct true ks' ds'))) f':=by
 have nd0:(l::g).Nodup:=h4.nodup_iff.mp m.nod
 have lg:l ∉ g:=(List.nodup_cons.mp nd0).1
 have sl:∀ a (u:LD),F a->Rd H a u.o->F a/\Rd (upd H l (.dK kvs')) a u.o:=fun a xs h r=>by
  refine⟨h,?_⟩
  have:a≠l:=fun z=>hF (by rw[<- z];exact h)
  unfold Rd
  rw[aj this]
  exact r
 have st:∀ a xs,SqE K H a xs->SqE K (upd H l (.dK kvs')) a xs:=fun a xs h=>h.updD hl
 have r1:Rps K F (upd H l (.dK kvs')) σ (τ.set i none) g:=hr.step sl st fun a ha n _=>⟨n,aj fun z=>lg (by rw[<- z];exact ha)⟩
 have m1:MRep K F (upd H l (.dK kvs')) (.ref l) (.dct true ks' ds') [l]:=.dctO hF ar hk (hm.step sl st bj)
 obtain⟨g',h',r2,p2⟩:=r1.put i m1
 have hσ':σ.set i (some (.ref l))=σ:=by
  apply List.ext_getElem?
  intro j
  rw[List.getElem?_set]
  by_cases hj:i=j
  ·subst hj
   rw[if_pos rfl,if_pos (List.getElem?_eq_some_iff.mp hσ).1,hσ]
  ·rw[if_neg hj]
 rw[hσ',List.set_set] at r2
 have nd2:(g'++h').Nodup:=p2.nodup_iff.mpr nd0
 have lB:B.H l=none:=m.own l (h4.mem_iff.mpr (by simp))
 refine⟨g',fun a h=>?_,r2,(List.nodup_append.mp nd2).1,fun b o hbo=>?_,fun a ha=>m.own a (h4.mem_iff.mpr (p2.mem_iff.mp (List.mem_append_left _ ha))),m.inn,m.out,fun a xs h=>⟨(m.pin a xs h).1,(sl a xs (m.pin a xs h).1 (m.pin a xs h).2).2⟩,fun a xs h=>st a xs (m.pit a xs h)⟩
 ·have:a≠l:=fun z=>hF (by rw[<- z];exact h)
  rw[aj this]
  exact m.fok a h
 ·have:b≠l:=fun z=>by rw[z,lB] at hbo;cases hbo
  rw[aj this]
  exact m.same _ _ hbo
section
variable {K:PySem.W.Frag} {S:Addr->Prop} {H:Hp}
theorem has_any (kvs:List (Key×V)) (q:Key):(kvs.any fun kv=>decide (kv.1=q))=iN (kvs.map (·.1)) q:=by
 unfold iN
 rw[List.any_map]
 rfl
theorem put_k (kvs:List (Key×V)) (q:Key) (v:V):(putK kvs q v).map (·.1)=dj (kvs.map (·.1)) q:=by
 unfold putK dj
 rw[has_any]
 by_cases h:iN (kvs.map (·.1)) q=true
 ·rw[if_pos h,if_pos h,List.map_map]
  refine List.map_congr_left fun kv _=>?_
  show (if kv.1=q then (kv.1,v) else kv).1=kv.1
  split<;>rfl
 ·rw[if_neg h,if_neg h,List.map_append]
  rfl
theorem yS (q:Key) {v:V} {d:D} (mv:HRep K S H v d) {kvs:List (Key×V)} {ds:List D} (m:HReps K S H (kvs.map (·.2)) ds):HReps K S H ((putK kvs q v).map (·.2)) (cG (kvs.map (·.1)) ds q d):=by
 unfold putK cG
 rw[has_any]
 by_cases h:iN (kvs.map (·.1)) q=true
 ·rw[if_pos h,if_pos h,List.map_map]
  clear h
  induction kvs generalizing ds with
  | nil=>
   cases m
   exact .nil
  | cons p kvs ih=>
   rw[List.map_cons] at m
   cases ds with
   | nil=>exact absurd m.length (by simp)
   | cons e ds=>
    cases m with
    | cons m1 m2=>
     rw[List.map_cons,List.map_cons,List.zipWith_cons_cons]
     refine .cons ?_ (ih m2)
     show HRep K S H (if p.1=q then (p.1,v) else p).2 (if p.1=q then d else e)
     split
     ·exact mv
     ·exact m1
 ·rw[if_neg h,if_neg h,List.map_append]
  exact m.append (.cons mv .nil)
theorem wC {ks:List Key} {ds:List D} {q:Key} {d:D} (h1:ae ds=true) (h2:ao d=true):ae (cG ks ds q d)=true:=by
 unfold cG
 rw[bL] at h1
 rw[bL,List.all_eq_true]
 rw[List.all_eq_true] at h1
 intro x hx
 split at hx
 ·rw[List.mem_iff_getElem?] at hx
  obtain⟨i,hi⟩:=hx
  rw[List.getElem?_zipWith] at hi
  split at hi
  ·rename_i a b e1 e2
   cases hi
   split
   ·exact h2
   ·exact h1 _ (List.mem_of_getElem? e2)
  ·cases hi
 ·rcases List.mem_append.mp hx with hx | hx
  ·exact h1 x hx
  ·rw[List.mem_singleton.mp hx];exact h2
end
section
variable {Z:Sg} {CX:CXT} {cl:Nat->List D->Res D} {xp:XK->Hp->Str->Prop} {X:Cx} {ex:Str->Prop} {G:Gm}
theorem st_dset (g:GOk Z CX cl xp X ex G) {i:Nat} {k e:IR} {x:Str} {p sp pos:Pos} {s v:Expr} (h1:cI G i x=true) (h2:cb s=true) (h3:chk Z G k s=true) (h4:chk Z G e v=true) :
  PS X (.Assign [.Subscript (.Name x p) s sp] v pos) (RS X.K ex (evS cl (.dset i k e))):=by
 have hu:=g.un
 refine aO (rg (by omega) (iX g h1) (snd k X ex G s g h3).1 (snd e X ex G v g h4).1 (by cases v<;>rfl)) fun Dn σ H h=>?_
 obtain⟨B,F,τ,f,m,q⟩:=h
 have q0:PO' ex (bnd (evR cl e τ) fun d=>match ai τ i with | some (.dct true ks ds)=>bnd (evR cl k τ) fun y=>(match dJ y with | some q=>grd (ao d && ae ds && bO ks.length) (.ok (.nx (τ.set i (some (.dct true (dj ks q) (cG ks ds q d)))))) | none=>stk) | _=>stk) (Fk X.K B Dn):=q
 refine m.rd (PO'.bnd q0) fun d w H1 m1 e1 mw q1=>?_
 cases z0:ai τ i with
 | none=>rw[z0] at q1;exact q1.no.elim
 | some d0=>
  rw[z0] at q1
  cases d0 with
  | dct ow ks ds=>
   cases ow with
   | false=>exact q1.no.elim
   | true=>
    obtain⟨v0,hv0,_⟩:∃ v0,σ[i]? = some (some v0)/\True:=by
     obtain⟨v0,_,_,h,_⟩:=m1.rps.at z0
     exact⟨v0,h,trivial⟩
    refine⟨v0,hv0,m1.rd (PO'.bnd q1) fun y w2 H2 m2 e2 mw2 q2=>?_⟩
    cases hk:dJ y with
    | none=>simp only[hk] at q2;exact q2.no.elim
    | some qk=>
     simp only[hk] at q2
     obtain⟨gd,q2⟩:=PO'.grd q2
     rw[Bool.and_eq_true,Bool.and_eq_true] at gd
     obtain⟨l,kvs,g0,hσ,hF,hl,hks,hm,hr,hp⟩:=rV m2.rps z0 gd.1.2
     rw[hv0] at hσ
     cases hσ
     subst hks
     have hm1:HReps X.K (fun _=>True) H2 (kvs.map (·.2)) ds:=hm.read (fun _ _=>trivial) fun _ _=>trivial
     have mw1:HRep X.K (fun _=>True) H2 w d:=mw.mono (fun _ _=>trivial) e2
     have hm2:MReps X.K F H2 ((putK kvs qk w).map (·.2)) (cG (kvs.map (·.1)) ds qk d) []:=(yS qk mw1 hm1).free (wC gd.1.2 gd.1.1)
     obtain⟨f',m3⟩:=m2.writeD hv0 hF hl hr hp (put_k kvs qk w) hm2
     have hlen:kvs.length < sizeLine:=by
      have:=ek gd.2
      rwa [List.length_map] at this
     exact⟨l,_,rfl,.inl ⟨kvs,qk,hl,gQ mw2 hk,hlen,rfl⟩,q2.ok _ _ _ _ m3⟩
  | _=>exact q1.no.elim
end
section
variable {K:PySem.W.Frag} {F:Addr->Prop} {H:Hp}
theorem MRep.parts {v:V} {o:Bool} {es:List D} {fv:List Addr} (h:MRep K F H v (.lst o es) fv):∃ b zs fe h',v=.ref b/\SqL K H b zs/\MReps K F H zs es fe/\(fe++h').Perm fv:=by
 cases h with
 | lstS h0 h1 h2=>exact⟨_,_,[],[],rfl,.inl h1,h2,.refl _⟩
 | lstK h1 h2=>exact⟨_,_,[],[],rfl,h1.sq,h2,.refl _⟩
 | @lstO a xs ds f h0 h1 h2=>exact⟨a,_,f,[a],rfl,.inl (.inl h1),h2,List.perm_append_comm (l₁:=f) (l₂:=[a])⟩
theorem MReps.split (n:Nat) {vs:List V} {ds:List D} {f:List Addr} (h:MReps K F H vs ds f):∃ f1 f2,MReps K F H (vs.take n) (ds.take n) f1/\MReps K F H (vs.drop n) (ds.drop n) f2/\f1++f2=f:=by
 revert n
 refine MReps.ind (P:=fun vs ds f=>∀ n,∃ f1 f2,MReps K F H (vs.take n) (ds.take n) f1/\MReps K F H (vs.drop n) (ds.drop n) f2/\f1++f2=f) (fun n=>⟨[],[],by rw[List.take_nil,List.take_nil];exact .nil,by rw[List.drop_nil,List.drop_nil];exact .nil,rfl⟩) (fun v d f vs ds g a b j n=>?_) h
 cases n with
 | zero=>exact⟨[],f++g,.nil,.cons a b,rfl⟩
 | succ n=>
  obtain⟨f1,f2,h1,h2,h3⟩:=j n
  exact⟨f++f1,f2,.cons a h1,h2,by rw[List.append_assoc,h3]⟩
end
section
variable {Z:Sg} {CX:CXT} {cl:Nat->List D->Res D} {xp:XK->Hp->Str->Prop} {X:Cx} {ex:Str->Prop} {G:Gm}
theorem jP {K:PySem.W.Frag} {F:Addr->Prop} {H:Hp} {σ:St} {τ:Ev} {f:List Addr} {i:Nat} {ds:List D} (r:Rps K F H σ τ f) (hs:ai τ i=some (.lst true ds)):∃ l xs,σ[i]? = some (some (.ref l))/\H l=some (.lst xs)/\xs.length=ds.length:=by
 obtain⟨v,fs,g,h1,h2,h3,h4⟩:=r.at hs
 cases h2 with
 | lstO hF hH hm=>exact⟨_,_,h1,hH,hm.length⟩
theorem st_ext (g:GOk Z CX cl xp X ex G) {i:Nat} {e:IR} {x:Str} {p apos cpos pos:Pos} {v:Expr} (h1:cI G i x=true) (h2:(apos.endLine == cpos.line)=true) (h3:notStar v=true) (h4:chk Z G e v=true) :
  PS X (.Expr (.Call (.Attribute (.Name x p) "extend" apos) [v] [] cpos) pos) (RS X.K ex (evS cl (.ext i e))):=by
 have pa:PA X [v] (eI (RO X.K ex (evO cl false e)) mM):=aR (snO e false X ex G v g h4) bK (ag h3 _ _)
 have hfew:((backTo cpos (starEach [v] X.env)).all (fun x=>!x.1) && (backToKw cpos (keywordEach [] X.env)).all (fun x=>x.1.isSome) && decide ([v].length + ([]:List Keyword).length + (if ([]:List Keyword).isEmpty then 0 else 1) < 30))=true:=by
  rw[ag h3]
  rfl
 refine aO (eh (fT PySem.F.plainAttrs_list PySem.F.slot_list_extend PySem.F.type_list_extend rz (iX g h1) pa rfl hfew h2 (ag h3 _ _) rfl)) fun Dn σ H h=>?_
 obtain⟨B,F,τ,f,m,q⟩:=h
 have q0:PO' ex (match ai τ i with | some (.lst _ _)=>(bnd (evO cl false e τ) fun p=>(match p.1,ai p.2 i with | .lst _ es,some (.lst true ds)=>grd (aL (ds.length + es.length)) (.ok (.nx (p.2.set i (some (.lst true (ds++es)))))) | _,_=>stk)) | _=>stk) (Fk X.K B Dn):=q
 cases z0:ai τ i with
 | none=>rw[z0] at q0;exact q0.no.elim
 | some d0=>
  rw[z0] at q0
  cases d0 with
  | lst o0 ds0=>
   obtain⟨v0,fv0,g0,a1,a2,a3,a4⟩:=m.rps.at z0
   obtain⟨l,xs0,_,_,rfl,hq,_⟩:=a2.parts
   refine⟨.ref l,a1,.inl ⟨rfl,xs0,hq⟩,m.ro (PO'.bnd q0) fun p v H' F' fv f' o hp=>?_⟩
   obtain⟨m',hb⟩:=m.ow o
   obtain⟨pd,pτ⟩:=p
   cases pd with
   | lst oe es=>
    cases zs:ai pτ i with
    | none=>simp only[zs] at hp;exact hp.no.elim
    | some d=>
     simp only[zs] at hp
     cases d with
     | lst ow ds=>
      cases ow with
      | false=>exact hp.no.elim
      | true=>
       obtain⟨gd,hp⟩:=PO'.grd hp
       obtain⟨l',xs,hσ,hl,hlen⟩:=jP m'.rps zs
       rw[a1] at hσ
       cases hσ
       obtain⟨b,zz,fe,h',rfl,hsq,hme,hpe⟩:=(show MRep X.K F' H' v (.lst oe es) fv from o.rep).parts
       have hz:zz.length=es.length:=MReps.ind (P:=fun v d _=>v.length=d.length) rfl (fun _ _ _ _ _ _ _ _ j=>congrArg (· + 1) j) hme
       obtain⟨f'',m3⟩:=m'.write (ys:=xs++zz) (ds':=ds++es) zs a1 hl o.rep o.nod hb fun fi hm=>⟨fi++fe,h',hm.append hme,by
        rw[List.append_assoc]
        exact List.perm_append_comm.trans (List.Perm.append_right _ hpe)⟩
       exact⟨l,b,xs,zz,rfl,rfl,hl,hsq,by rw[hlen,hz];exact ba gd,hp.ok _ _ _ _ m3⟩
     | _=>exact hp.no.elim
   | _=>exact hp.no.elim
  | _=>exact q0.no.elim
theorem st_ins (g:GOk Z CX cl xp X ex G) {i:Nat} {k e:IR} {x:Str} {p apos cpos pos:Pos} {s v:Expr} (h1:cI G i x=true) (h2:(apos.endLine == cpos.line)=true) (h3:notStar s=true) (h3':notStar v=true) (h4:chk Z G k s=true) (h5:chk Z G e v=true) :
  PS X (.Expr (.Call (.Attribute (.Name x p) "insert" apos) [s,v] [] cpos) pos) (RS X.K ex (evS cl (.ins i k e))):=by
 have pa:PA X [s,v] (eI (RD X.K ex (vars k) (evR cl k)) (eI (RO X.K ex (evO cl false e)) mM)):=aR (snd k X ex G s g h4).1 (aR (snO e false X ex G v g h5) bK (ag h3' _ _)) (ag h3 _ _)
 have hfew:((backTo cpos (starEach [s,v] X.env)).all (fun x=>!x.1) && (backToKw cpos (keywordEach [] X.env)).all (fun x=>x.1.isSome) && decide ([s,v].length + ([]:List Keyword).length + (if ([]:List Keyword).isEmpty then 0 else 1) < 30))=true:=by
  rw[ag h3,ag h3']
  rfl
 refine aO (eh (fT PySem.F.plainAttrs_list PySem.F.slot_list_insert PySem.F.type_list_insert vZ (iX g h1) pa rfl hfew h2 (ag h3 _ _) (by rw[ag h3'];rfl))) fun Dn σ H h=>?_
 obtain⟨B,F,τ,f,m,q⟩:=h
 have q0:PO' ex (match ai τ i with | some (.lst _ _)=>(bnd (evR cl k τ) fun y=>bnd (evO cl false e τ) fun p=>(match y,ai p.2 i with | .int z,some (.lst true ds)=>grd (decide (0<=z/\z.toNat<=ds.length) && bO ds.length) (.ok (.nx (p.2.set i (some (.lst true (ds.take z.toNat++p.1::ds.drop z.toNat)))))) | _,_=>stk)) | _=>stk) (Fk X.K B Dn):=q
 cases z0:ai τ i with
 | none=>rw[z0] at q0;exact q0.no.elim
 | some d0=>
  rw[z0] at q0
  cases d0 with
  | lst o0 ds0=>
   obtain⟨v0,fv0,g0,a1,a2,a3,a4⟩:=m.rps.at z0
   obtain⟨l,xs0,_,_,rfl,hq,_⟩:=a2.parts
   refine⟨.ref l,a1,.inl ⟨rfl,xs0,hq⟩,m.rd (PO'.bnd q0) fun y w H1 m1 e1 mw q1=>?_⟩
   refine m1.ro (PO'.bnd q1) fun p v H' F' fv f' o hp=>?_
   obtain⟨m',hb⟩:=m1.ow o
   cases y with
   | int z=>
    cases mw.intR
    cases zs:ai p.2 i with
    | none=>simp only[zs] at hp;exact hp.no.elim
    | some d=>
     simp only[zs] at hp
     cases d with
     | lst ow ds=>
      cases ow with
      | false=>exact hp.no.elim
      | true=>
       obtain⟨gd,hp⟩:=PO'.grd hp
       rw[Bool.and_eq_true] at gd
       have gz:0<=z/\z.toNat<=ds.length:=of_decide_eq_true gd.1
       obtain⟨l',xs,hσ,hl,hlen⟩:=jP m'.rps zs
       rw[a1] at hσ
       cases hσ
       obtain⟨f'',m3⟩:=m'.write (ys:=xs.take z.toNat++v::xs.drop z.toNat) (ds':=ds.take z.toNat++p.1::ds.drop z.toNat) zs a1 hl o.rep o.nod hb fun fi hm=>by
        obtain⟨f1,f2,s1,s2,s3⟩:=hm.split z.toNat
        refine⟨f1++(fv++f2),[],s1.append (.cons o.rep s2),?_⟩
        rw[List.append_nil,<- s3,<- List.append_assoc,<- List.append_assoc]
        exact List.Perm.append_right _ List.perm_append_comm
       exact⟨l,xs,z,v,rfl,rfl,hl,gz.1,by rw[hlen];exact gz.2,by rw[hlen];exact ek gd.2,hp.ok _ _ _ _ m3⟩
     | _=>exact hp.no.elim
   | _=>exact hp.no.elim
  | _=>exact q0.no.elim
end
section
variable {Z:Sg} {CX:CXT} {cl:Nat->List D->Res D} {xp:XK->Hp->Str->Prop} {X:Cx} {ex:Str->Prop} {G:Gm}
end
section
variable {X:Cx} {pins:List (Addr×Obj)} {σ:St} {H:Hp} {s:Shared}
end
section
variable {X:Cx} {pins pins':List (Addr×Obj)} {σ:St} {H:Hp} {s:Shared} {E:Value->Shared->Prop} {a:Addr}
end
section
variable {Z:Sg} {CX:CXT} {cl:Nat->List D->Res D} {xp:XK->Hp->Str->Prop} {X:Cx} {ex:Str->Prop} {G:Gm} {pins:List (Addr×Obj)} {a:Addr}
end
section
variable {Z:Sg} {CX:CXT} {cl:Nat->List D->Res D} {xp:XK->Hp->Str->Prop} {X:Cx} {ex:Str->Prop} {G:Gm} {pins:List (Addr×Obj)}
end
section
variable {Z:Sg} {CX:CXT} {cl:Nat->List D->Res D} {xp:XK->Hp->Str->Prop} {X:Cx} {ex:Str->Prop} {G:Gm}
theorem st_app (g:GOk Z CX cl xp X ex G) {i:Nat} {e:IR} {x:Str} {p apos cpos pos:Pos} {v:Expr} (h1:cI G i x=true) (h2:(apos.endLine == cpos.line)=true) (h3:notStar v=true) (h4:chk Z G e v=true) :
  PS X (.Expr (.Call (.Attribute (.Name x p) "append" apos) [v] [] cpos) pos) (RS X.K ex (evS cl (.app i e))):=by
 have pa:PA X [v] (eI (RO X.K ex (evO cl false e)) mM):=aR (snO e false X ex G v g h4) bK (ag h3 _ _)
 have hfew:((backTo cpos (starEach [v] X.env)).all (fun x=>!x.1) && (backToKw cpos (keywordEach [] X.env)).all (fun x=>x.1.isSome) && decide ([v].length + ([]:List Keyword).length + (if ([]:List Keyword).isEmpty then 0 else 1) < 30))=true:=by
  rw[ag h3]
  rfl
 refine aO (eh (fT PySem.F.plainAttrs_list PySem.F.slot_list_append PySem.F.type_list_append fU (iX g h1) pa rfl hfew h2 (ag h3 _ _) rfl)) fun Dn σ H h=>?_
 obtain⟨B,F,τ,f,m,q⟩:=h
 have q0:PO' ex (match ai τ i with | some (.lst _ _)=>(bnd (evO cl false e τ) fun p=>(match ai p.2 i with | some (.lst true ds)=>grd (bO ds.length) (.ok (.nx (p.2.set i (some (.lst true (ds++[p.1])))))) | _=>stk)) | _=>stk) (Fk X.K B Dn):=q
 cases z0:ai τ i with
 | none=>rw[z0] at q0;exact q0.no.elim
 | some d0=>
  rw[z0] at q0
  cases d0 with
  | lst o0 ds0=>
   obtain⟨v0,fv0,g0,a1,a2,a3,a4⟩:=m.rps.at z0
   have hq:∃ l xs,v0=.ref l/\SqL X.K H l xs:=by
    cases a2 with
    | lstS _ b1 _=>exact⟨_,_,rfl,.inl b1⟩
    | lstK b1 _=>exact⟨_,_,rfl,b1.sq⟩
    | lstO _ b1 _=>exact⟨_,_,rfl,.inl (.inl b1)⟩
   obtain⟨l,xs0,rfl,hq⟩:=hq
   refine⟨.ref l,a1,.inl ⟨rfl,xs0,hq⟩,m.ro (PO'.bnd q0) fun p v H' F' fv f' o hp=>?_⟩
   obtain⟨m',hb⟩:=m.ow o
   cases zs:ai p.2 i with
   | none=>rw[zs] at hp;exact hp.no.elim
   | some d=>
    rw[zs] at hp
    cases d with
    | lst ow ds=>
     cases ow with
     | false=>exact hp.no.elim
     | true=>
      obtain⟨gd,hp⟩:=PO'.grd hp
      obtain⟨l',xs,hσ,hl,hlen⟩:=jP m'.rps zs
      rw[a1] at hσ
      cases hσ
      obtain⟨f'',m3⟩:=m'.write (ys:=xs++[v]) (ds':=ds++[p.1]) zs a1 hl o.rep o.nod hb fun fi hm=>hm.snoc o.rep
      exact⟨l,xs,v,rfl,rfl,hl,by rw[hlen];exact ek gd,hp.ok _ _ _ _ m3⟩
    | _=>exact hp.no.elim
  | _=>exact q0.no.elim
theorem Fk.rt_of {K:PySem.W.Frag} {B:Bs} {F F':Addr->Prop} {H H':Hp} {σ:St} {τ τ':Ev} {f f':List Addr} {v:V} {d:D} {fv:List Addr} (m:Frm K B F H σ τ f) (o:Ow K F H f F' H' σ v d fv τ' f'):Out K B.F B.H F' H' v d fv:=by
 obtain⟨m',hb⟩:=m.ow o
 exact⟨m'.fok,m'.same,o.rep,(List.nodup_append.mp o.nod).1,hb,m'.inn,m'.out⟩
theorem st_ret (g:GOk Z CX cl xp X ex G) {e:IR} {v:Expr} {pos:Pos} (h:chk Z G e v=true):PS X (.Return (some v) pos) (RS X.K ex (evS cl (.ret e))):=by
 refine aO (vp (snO e true X ex G v g h)) fun Dn σ H ⟨B,F,τ,f,m,q⟩=>?_
 exact m.ro (PO'.bnd q) fun p v H' F' fv f' o hp=>hp.ok _ _ _ _ (Fk.rt_of m o)
theorem rW {pos:Pos}:PS X (.Return none pos) (RS X.K ex (evS cl .retN)):=
 aO qK fun Dn σ H ⟨B,F,τ,f,m,q⟩=>q.ok .non H F [] ⟨m.fok,m.same,.non,List.nodup_nil,fun a ha=>absurd ha (by simp),m.inn,m.out⟩
theorem wD (g:GOk Z CX cl xp X ex G) {e:IR} {v:Expr} {pos:Pos} (hc:gU v=true) (h:chk Z G e v=true):PS X (.Expr v pos) (RS X.K ex (evS cl (.exp e))):=by
 refine aO (eh (snd e X ex G v g h).1 (by cases v<;>first | rfl | cases hc)) fun Dn σ H ⟨B,F,τ,f,m,q⟩=>?_
 exact m.rd (PO'.bnd q) fun d v H' m' _ _ hd=>hd.ok _ _ _ _ m'
theorem st_if {c:Expr} {x y:List Stmt} {pos:Pos} {t:IR} {a b:List IS} (hc:PT X c (RT X.K ex (vars t) fun τ=>bnd (evR cl t τ) aI)) (ha:PSs X x (RS X.K ex (bh cl a))) (hb:PSs X y (RS X.K ex (bh cl b))):PS X (.If c x y pos) (RS X.K ex (evS cl (.if_ t a b))):=by
 refine aO (xN hc ha hb) fun Dn σ H ⟨B,F,τ,f,m,q⟩=>?_
 refine m.rt (PO'.bnd q) fun r H' m' _ hr=>?_
 cases r with
 | true=>rw[if_pos rfl] at hr ⊢;exact⟨B,F,τ,f,m',hr⟩
 | false=>rw[if_neg Bool.false_ne_true] at hr ⊢;exact⟨B,F,τ,f,m',hr⟩
theorem Frm.less {K:PySem.W.Frag} {B:Bs} {L:Addr->LD->Prop} {T:Addr->List V ⊕ Str->Prop} {F:Addr->Prop} {H:Hp} {σ:St} {τ:Ev} {f:List Addr} (m:Frm K ⟨B.F,B.H,fun a xs=>B.L a xs∨L a xs,fun a xs=>B.T a xs∨T a xs⟩ F H σ τ f):Frm K B F H σ τ f:=
 ⟨m.fok,m.rps,m.nod,m.same,m.own,m.inn,m.out,fun a xs h=>m.pin a xs (.inl h),fun a xs h=>m.pit a xs (.inl h)⟩
theorem iY:∀ (ds:List D) (i:Nat),(ers ds).drop i=ers (ds.drop i):=by
 intro ds i
 rw[az,az,List.map_drop]
theorem iZ {J:It} {K:PySem.W.Frag} {B:Bs} {F:Addr->Prop} {H:Hp} {σ:St} {τ:Ev} {f:List Addr} {T:Tg} {body:List IS} {its:List D} {Dn:Ends} (m:Frm K B F H σ τ f) (w:Wlk K F H J its)
  (q:PO' ex (forM (fun x τ=>bnd (bD T x τ) fun τ'=>bh cl body τ') (ers its) τ) (Fk K B Dn)) :
  ∃ W:Nat->Nat->St->Hp->Prop,(∃ m,W 0 m σ H)/\∀ i m σ H,W i m σ H->(J.stop i H/\Dn.nx σ H)∨(J.go i H/\∃ N:St->Hp->Prop,(∀ σ' H',N σ' H'->∃ m',m' < m/\W (i + 1) m' σ' H')/\
   ∀ x H',J.yld i H x H'->gT K T x σ H' fun σ2 H2=>RS K ex (bh cl body) {Dn with nx:=N,ct:=N,bk:=Dn.nx} σ2 H2):=by
 let B':Bs:=⟨B.F,B.H,fun a xs=>B.L a xs∨(F a/\Rd H a xs.o),fun a xs=>B.T a xs∨SqE K H a xs⟩
 have m0:Frm K B' F H σ τ f:=⟨m.fok,m.rps,m.nod,m.same,m.own,m.inn,m.out,fun a xs h=>h.elim (m.pin a xs) id,fun a xs h=>h.elim (m.pit a xs) id⟩
 let bd:D->Ev->Res Fl:=fun x τ=>bnd (bD T x τ) fun τ'=>bh cl body τ'
 refine⟨fun i n σ H=>n=its.length - i/\i<=its.length/\∃ F τ f,Frm K B' F H σ τ f/\PO' ex (forM bd ((ers its).drop i) τ) (Fk K B Dn),⟨its.length,by simp,Nat.zero_le _,F,τ,f,m0,by rw[List.drop_zero];exact q⟩,?_⟩
 rintro i n σ1 H1 ⟨rfl,hi,F1,τ1,f1,m1,q1⟩
 have w1:Wlk K F1 H1 J its:=w.step (fun a xs h r=>m1.pin a xs (.inr ⟨h,r⟩)) fun a xs h=>m1.pit a xs (.inr h)
 by_cases hlt:i < its.length
 ·refine .inr ⟨w1.go hlt,fun σ H=>∃ F τ f,Frm K B' F H σ τ f/\PO' ex (forM bd ((ers its).drop (i + 1)) τ) (Fk K B Dn),fun σ' H' h=>⟨its.length - (i + 1),by omega,rfl,hlt,h⟩,fun x H' y=>?_⟩
  obtain⟨eH,mx⟩:=w1.yld y (d:=its[i]) (by simp[hlt])
  have m1:=m1.grow eH
  have hd:(ers its).drop i=er its[i]::(ers its).drop (i + 1):=by
   rw[iY,List.drop_eq_getElem_cons hlt,ers,iY]
  rw[hd] at q1
  have q2:=PO'.bnd q1
  refine m1.gT mx.frozen (by simpa using m1.nod) (fun a ha=>absurd ha (by simp)) (PO'.bnd q2) fun τ' σ' f' m' h'=>?_
  refine⟨B',F1,τ',f',m',h'.mono fun r hr=>?_⟩
  cases r with
  | nx τ'=>exact fun σ' H' F' f' m''=>⟨F',τ',f',m'',hr⟩
  | ct τ'=>exact fun σ' H' F' f' m''=>⟨F',τ',f',m'',hr⟩
  | bk τ'=>exact fun σ' H' F' f' m''=>hr.ok _ _ _ _ m''.less
  | rt d=>exact fun v H' F' fv o=>hr.ok _ _ _ _ o
 ·have e:i=its.length:=by omega
  subst e
  refine .inl ⟨w1.stop (Nat.le_refl _),?_⟩
  have:(ers its).drop its.length=[]:=by rw[<- bM its,List.drop_length]
  rw[this] at q1
  exact q1.ok _ _ _ _ m1.less
theorem rX (a b:Int):ers (bp a b)=bp a b:=by
 unfold bp
 rw[az,List.map_map]
 rfl
noncomputable def sY (cl:Nat->List D->Res D):Sr->Ev->Res (Int×Int)
 | .rng1 n,τ=>bnd (evR cl n τ) fun | .int i=>grd (bF i) (.ok (0,i)) | _=>stk
 | .rng2 a b,τ=>bnd (evR cl a τ) fun x=>bnd (evR cl b τ) fun y=>match x,y with | .int i,.int j=>grd (bF i && bF j) (.ok (i,j)) | _,_=>stk
 | _,_=>stk
noncomputable def RIr (K:PySem.W.Frag) (ex:Str->Prop) (is:List Nat) (f:Ev->Res (Int×Int)):TI:=fun σ H R=>∃ S τ,Slots K S H σ τ is/\PO' ex (f τ) fun p=>∀ H',ak H H'->R (Itr p.1 (p.2 - p.1).toNat) H'
noncomputable def nS:Sr->Bool
 | .rng1 _=>true
 | .rng2 _ _=>true
 | _=>false
theorem nT {s:Sr} (h:nS s=true) {τ:Ev} {k:List D->Prop} (q:PO' ex (cR cl s τ) k):PO' ex (sY cl s τ) fun p=>k (bp p.1 p.2):=by
 cases s with
 | rng1 n=>
  refine PO'.mk ((PO'.bnd (show PO' ex (bnd (evR cl n τ) fun | .int i=>grd (bF i) (.ok (bp 0 i)) | _=>stk) k from q)).mono fun d hd=>?_)
  cases d with
  | int i=>
   obtain⟨gd,hd⟩:=PO'.grd hd
   show PO' ex (grd (bF i) (.ok (0,i))) _
   unfold grd
   rw[if_pos gd]
   exact hd.ok
  | _=>exact hd.no.elim
 | rng2 a b=>
  refine PO'.mk ((PO'.bnd (show PO' ex (bnd (evR cl a τ) fun x=>bnd (evR cl b τ) fun y=>match x,y with | .int i,.int j=>grd (bF i && bF j) (.ok (bp i j)) | _,_=>stk) k from q)).mono fun d hd=>PO'.mk ((PO'.bnd hd).mono fun e he=>?_))
  cases d with
  | int i=>
   cases e with
   | int j=>
    obtain⟨gd,he⟩:=PO'.grd he
    show PO' ex (grd (bF i && bF j) (.ok (i,j))) _
    unfold grd
    rw[if_pos gd]
    exact he.ok
   | _=>exact he.no.elim
  | _=>cases e<;>exact he.no.elim
 | _=>first | exact aa h | cases h
theorem Bu:∀ (s:Sr) (X:Cx) (ex:Str->Prop) (G:Gm) (e tg:Expr),GOk Z CX cl xp X ex G->bS Z G s e=true->nS s=true->PI X tg e (RIr X.K ex (dn s) (sY cl s)):=by
 intro s X ex G e tg g h hr
 cases s with
 | rng1 n=>
  cases e with
  | Call fn args kws pos=>
   cases fn with
   | Name x p=>
    match args,kws,h with
    | [a],[],h=>
     have h':(x == "range" && G.gl.contains 15 && notStar a && chk Z G n a)=true:=h
     simp only[Bool.and_eq_true] at h'
     have e1:x = "range":=eq_of_beq h'.1.1.1
     subst e1
     obtain⟨k1,k2,_,_⟩:=dX g (show bg[15]? = some ("range" : Str) from rfl) h'.1.1.2
     refine jw (fN k1 k2 (aR (snd n X ex G a g h'.2).1 bK (ag h'.1.2 _ _)) (ag h'.1.2 _ _)) fun σ H Q ⟨S,τ,hs,q⟩=>?_
     refine bb (.refl _) hs (PO'.bnd q) fun x v H1 e1 _ m1 q1=>?_
     cases x with
     | int i=>
      cases m1.intR
      obtain⟨gd,q1⟩:=PO'.grd q1
      have gd' : -(2 ^ 62)<=i/\i < 2 ^ 62:=of_decide_eq_true gd
      refine⟨i,rfl,gd'.1,gd'.2,?_⟩
      have:=q1.ok _ e1
      rw[show (0,i).2 - (0,i).1=i from Int.sub_zero i] at this
      exact this
     | _=>exact q1.no.elim
    | [],_,h=>first | exact aa h | cases h
    | [_],_::_,h=>first | exact aa h | cases h
    | _::_::_,_,h=>first | exact aa h | cases h
   | _=>first | exact aa h | cases h
  | _=>first | exact aa h | cases h
 | rng2 a b=>cases e<;>exact aa h
 | _=>cases hr
theorem st_for (g:GOk Z CX cl xp X ex G) {t it:Expr} {x:List Stmt} {pos:Pos} {T:Tg} {s:Sr} {a:List IS} (hT':(G.cm=true/\G.rs=true)/\cB G T t=true) (hs':bS Z G s it=true/\d9 s t=true) (ha:PSs X x (RS X.K ex (bh cl a))):PS X (.For t it x [] pos) (RS X.K ex (evS cl (.for_ T s a))):=by
 have hT:=hT'.2
 have hs:=hs'.1
 by_cases hr:nS s=true
 ·refine aO (mL (g.own hT'.1.2) (g.calm hT'.1.1) (Bu s X ex G it t g hs hr) (pgT g T t hT) ha (fun x=>bN hs X.env x)) fun Dn σ H ⟨B,F,τ,f,m,q⟩=>?_
  have q0:PO' ex (bnd (jE cl s τ) fun p=>forM (fun x τ=>bnd (bD T x τ) fun τ'=>bh cl a τ') p.1 p.2) (Fk X.K B Dn):=q
  have base:PO' ex (cR cl s τ) fun its=>PO' ex (forM (fun x τ=>bnd (bD T x τ) fun τ'=>bh cl a τ') its τ) (Fk X.K B Dn):=by
   cases s with
   | rng1 u=>exact(PO'.bnd (show PO' ex (bnd (cR cl (.rng1 u) τ) fun its=>.ok (its,τ)) _ from PO'.bnd q0)).mono fun its h=>h.ok
   | rng2 u v=>exact(PO'.bnd (show PO' ex (bnd (cR cl (.rng2 u v) τ) fun its=>.ok (its,τ)) _ from PO'.bnd q0)).mono fun its h=>h.ok
   | _=>cases hr
  exact⟨fun _=>True,τ,bc m.rps,(nT hr base).mono fun p hp H1 e1=>iZ (m.grow e1) (.rng p.1 p.2) (by rw[rX];exact hp)⟩
 ·refine aO (mL (g.own hT'.1.2) (g.calm hT'.1.1) (rS s X ex G it t g hs hs'.2) (pgT g T t hT) ha (fun x=>bN hs X.env x)) fun Dn σ H ⟨B,F,τ,f,m,q⟩=>?_
  have q0:PO' ex (bnd (jE cl s τ) fun p=>forM (fun x τ=>bnd (bD T x τ) fun τ'=>bh cl a τ') p.1 p.2) (Fk X.K B Dn):=q
  have q1:=PO'.bnd q0
  have hsrc:jE cl s τ=(bnd (cR cl s τ) fun its=>.ok (ers its,frz (dn s) τ)):=by
   cases s with
   | val u=>rfl
   | zip u v=>rfl
   | _=>exact absurd rfl hr
  rw[hsrc] at q1
  obtain⟨F1,gg,b1,b2,b3,b4,b5,b6⟩:=dw (dn s) m.fok m.rps m.nod
  refine yJ (.refl _) b6 (PO'.bnd q1) fun its J H1 e1 _ w1 hk=>?_
  obtain⟨c1,c2,c3⟩:=grow (fun _=>True) b1 b2 e1
  have m2:Frm X.K B (fun a=>F1 a∨(True/\H a=none/\H1 a≠none)) H1 σ (frz (dn s) τ) gg:=m.stp (b4.trans c3 (fun x hx=>.inl (b5 x hx))) c1 c2 b3 fun a ha=>.inl (b5 a ha)
  exact iZ m2 (w1.step (fun a xs h r=>⟨h.elim (fun z=>.inl z) fun z=>.inr ⟨trivial,z,r.some⟩,r⟩) fun a xs h=>h) hk.ok
mutual
theorem snS:∀ (a:IS) (X:Cx) (ex:Str->Prop) (G:Gm) (s:Stmt),GOk Z CX cl xp X ex G->nR Z G a s=true->PS X s (RS X.K ex (evS cl a))
 | .asg tg e,X,ex,G,s,g,h=>by
  cases s with
  | Assign ts v pos=>
   match ts,h with
   | [t],h=>
    have h':(cB G tg t && chk Z G e v && (isName t || (isTup t && notTuple v)))=true:=h
    simp only[Bool.and_eq_true] at h'
    exact st_asg g h'.1.1 h'.1.2 h'.2
   | [],h=>first | exact aa h | cases h
   | _::_::_,h=>first | exact aa h | cases h
  | _=>first | exact aa h | cases h
 | .par i j a b,X,ex,G,s,g,h=>by cases s<;>first | exact aa h | cases h
 | .setix i k e,X,ex,G,s,g,h=>by cases s<;>first | exact aa h | cases h
 | .dset i k e,X,ex,G,s,g,h=>by
  cases s with
  | Assign ts v pos=>
   cases ts with
   | nil=>first | exact aa h | cases h
   | cons t ts=>
    cases ts with
    | cons _ _=>cases t<;>first | exact aa h | cases h | (rename_i o _ _;cases o<;>cases h)
    | nil=>
     cases t with
     | Subscript o s sp=>
      cases o with
      | Name x p=>
       have h':(cI G i x && cb s && chk Z G k s && chk Z G e v)=true:=h
       simp only[Bool.and_eq_true] at h'
       exact st_dset g h'.1.1.1 h'.1.1.2 h'.1.2 h'.2
      | _=>first | exact aa h | cases h
     | _=>first | exact aa h | cases h
  | _=>first | exact aa h | cases h
 | .ext i e,X,ex,G,s,g,h=>by
  cases s with
  | Expr v pos=>
   cases v with
   | Call fn args kws cpos=>
    cases fn with
    | Attribute o name apos=>
     cases o with
     | Name x p=>
      match args,kws,h with
      | [v],[],h=>
       have h':(cI G i x && name == "extend" && apos.endLine == cpos.line && notStar v && chk Z G e v)=true:=h
       simp only[Bool.and_eq_true] at h'
       have e1:name = "extend":=eq_of_beq h'.1.1.1.2
       subst e1
       exact st_ext g h'.1.1.1.1 h'.1.1.2 h'.1.2 h'.2
      | [],_,h=>first | exact aa h | cases h
      | [_],_::_,h=>first | exact aa h | cases h
      | _::_::_,_,h=>first | exact aa h | cases h
     | _=>first | exact aa h | cases h
    | _=>first | exact aa h | cases h
   | _=>first | exact aa h | cases h
  | _=>first | exact aa h | cases h
 | .ins i k e,X,ex,G,s,g,h=>by
  cases s with
  | Expr v pos=>
   cases v with
   | Call fn args kws cpos=>
    cases fn with
    | Attribute o name apos=>
     cases o with
     | Name x p=>
      match args,kws,h with
      | [s,v],[],h=>
       have h':(cI G i x && name == "insert" && apos.endLine == cpos.line && (notStar s && notStar v) && chk Z G k s && chk Z G e v)=true:=h
       simp only[Bool.and_eq_true] at h'
       have e1:name = "insert":=eq_of_beq h'.1.1.1.1.2
       subst e1
       exact st_ins g h'.1.1.1.1.1 h'.1.1.1.2 h'.1.1.2.1 h'.1.1.2.2 h'.1.2 h'.2
      | [],_,h=>first | exact aa h | cases h
      | [_],_,h=>first | exact aa h | cases h
      | [_,_],_::_,h=>first | exact aa h | cases h
      | _::_::_::_,_,h=>first | exact aa h | cases h
     | _=>first | exact aa h | cases h
    | _=>first | exact aa h | cases h
   | _=>first | exact aa h | cases h
  | _=>first | exact aa h | cases h
 | .app i e,X,ex,G,s,g,h=>by
  cases s with
  | Expr v pos=>
   cases v with
   | Call fn args kws cpos=>
    cases fn with
    | Attribute o name apos=>
     cases o with
     | Name x p=>
      match args,kws,h with
      | [v],[],h=>
       have h':(cI G i x && name == "append" && apos.endLine == cpos.line && notStar v && chk Z G e v)=true:=h
       simp only[Bool.and_eq_true] at h'
       have e1:name = "append":=eq_of_beq h'.1.1.1.2
       subst e1
       exact st_app g h'.1.1.1.1 h'.1.1.2 h'.1.2 h'.2
      | [],_,h=>first | exact aa h | cases h
      | [_],_::_,h=>first | exact aa h | cases h
      | _::_::_,_,h=>first | exact aa h | cases h
     | _=>first | exact aa h | cases h
    | _=>first | exact aa h | cases h
   | _=>first | exact aa h | cases h
  | _=>first | exact aa h | cases h
 | .rvs i,X,ex,G,s,g,h=>by cases s<;>first | exact aa h | cases h
 | .clr i,X,ex,G,s,g,h=>by cases s<;>first | exact aa h | cases h
 | .appx _ _ _,X,ex,G,s,g,h=>by cases s<;>first | exact aa h | cases h
 | .exp e,X,ex,G,s,g,h=>by
  cases s with
  | Expr v pos=>
   have h':(gU v && chk Z G e v)=true:=by cases v<;>first | exact h | (rename_i c _ _;cases c<;>exact h)
   simp only[Bool.and_eq_true] at h'
   exact wD g h'.1 h'.2
  | _=>first | exact aa h | cases h
 | .ret e,X,ex,G,s,g,h=>by
  cases s with
  | Return v pos=>
   cases v with
   | none=>first | exact aa h | cases h
   | some v=>exact st_ret g h
  | _=>first | exact aa h | cases h
 | .retN,X,ex,G,s,g,h=>by
  cases s with
  | Return v pos=>
   cases v with
   | none=>exact rW
   | some v=>first | exact aa h | cases h
  | _=>first | exact aa h | cases h
 | .if_ t a b,X,ex,G,s,g,h=>by
  cases s with
  | If c x y pos=>
   have h':(chk Z G t c && dz Z G a x && dz Z G b y)=true:=h
   simp only[Bool.and_eq_true] at h'
   exact st_if (snd t X ex G c g h'.1.1).2 (rY a X ex G x g h'.1.2) (rY b X ex G y g h'.2)
  | _=>first | exact aa h | cases h
 | .for_ tg s body,X,ex,G,st,g,h=>by
  cases st with
  | For t it b els pos=>
   cases els with
   | cons _ _=>first | exact aa h | cases h
   | nil=>
    have h':(((G.cm && G.rs) && cB G tg t) && (bS Z G s it && d9 s t) && dz Z G body b)=true:=h
    simp only[Bool.and_eq_true] at h'
    exact st_for g h'.1.1 h'.1.2 (rY body X ex G b g h'.2)
  | _=>first | exact aa h | cases h
 | .while_ t body,X,ex,G,s,g,h=>by cases s<;>first | exact aa h | cases h
 | .brk,X,ex,G,s,g,h=>by
  cases s with
  | Break pos=>exact aO mG fun Dn σ H ⟨B,F,τ,f,m,q⟩=>q.ok _ _ _ _ m
  | _=>first | exact aa h | cases h
 | .cnt,X,ex,G,s,g,h=>by
  cases s with
  | Continue pos=>exact aO iz fun Dn σ H ⟨B,F,τ,f,m,q⟩=>q.ok _ _ _ _ m
  | _=>first | exact aa h | cases h
 | .pass,X,ex,G,s,g,h=>by
  cases s with
  | Pass pos=>exact aO qJ fun Dn σ H ⟨B,F,τ,f,m,q⟩=>q.ok _ _ _ _ m
  | Expr v pos=>
   cases v with
   | Constant c j p=>
    cases c with
    | str z=>exact aO vn fun Dn σ H ⟨B,F,τ,f,m,q⟩=>q.ok _ _ _ _ m
    | _=>first | exact aa h | cases h
   | _=>first | exact aa h | cases h
  | _=>first | exact aa h | cases h
 | .raise_ n c w,X,ex,G,s,g,h=>by cases s<;>first | exact aa h | cases h
 | .tryx body n cs i hd,X,ex,G,s,g,h=>by cases s<;>exact aa h
 | .raisee n c e,X,ex,G,s,g,h=>by cases s<;>first | exact aa h | cases h
 | .tryc i f es n cs k hd,X,ex,G,s,g,h=>by cases s<;>first | exact aa h | cases h
 | .never,X,ex,G,s,g,h=>aO mH fun Dn σ H ⟨B,F,τ,f,m,q⟩=>q.no.elim
theorem rY:∀ (as:List IS) (X:Cx) (ex:Str->Prop) (G:Gm) (ss:List Stmt),GOk Z CX cl xp X ex G->dz Z G as ss=true->PSs X ss (RS X.K ex (bh cl as))
 | [],X,ex,G,ss,g,h=>by
  cases ss with
  | nil=>exact ej ka fun Dn σ H ⟨B,F,τ,f,m,q⟩=>q.ok _ _ _ _ m
  | cons _ _=>first | exact aa h | cases h
 | a::as,X,ex,G,ss,g,h=>by
  cases ss with
  | nil=>first | exact aa h | cases h
  | cons s ss=>
   have h':(nR Z G a s && dz Z G as ss)=true:=h
   simp only[Bool.and_eq_true] at h'
   refine ej (iy (snS a X ex G s g h'.1) (rY as X ex G ss g h'.2)) fun Dn σ H ⟨B,F,τ,f,m,q⟩=>?_
   refine⟨B,F,τ,f,m,(PO'.bnd q).mono fun r hr=>?_⟩
   cases r with
   | nx τ'=>exact fun σ' H' F' f' m'=>⟨B,F',τ',f',m',hr⟩
   | ct τ'=>exact hr.ok
   | bk τ'=>exact hr.ok
   | rt d=>exact hr.ok
end
end
section
variable {P:Program} {w:World}
theorem kA {outer:List Env} {H:Hp} {s:Shared} {E:XK} {e:Value} {s':Shared} (x:HOk P w H s.heap) (fr:∀ b ∈ frs outer,H b=none) (h:CX1 P w outer (aC s.heap H) s E e s'):CX1 P w outer H s E e s':=by
 obtain⟨a,cls,a0,H',B,h1,h2,h3,h4,h5,_,h6,h7,h8⟩:=h
 exact⟨a,cls,a0,dq H H',B,h1,h2,h3,jI x h4,jH x h5 (du h4) h6 fr,iR,fun b o e n f=>h6 b o e (bB n) f,h7,h8⟩
theorem nU {outer:List Env} {H:Hp} {s:Shared} {e:Value} {s':Shared}:¬ CX1 P w outer H s (fun _ _ _=>False) e s':=fun ⟨_,_,_,_,_,_,_,_,_,_,_,_,_,z⟩=>z
variable {K:PySem.W.Frag} {mg:Str->Option Value} {base:Heap} {N:List Str} {qual:Str} {scope:Scope} {f:Addr} {cd:Value} {A:Around} {outer:List Env} {s:Shared} {H:Hp} {E:XK}
theorem sZ {H':Hp} {B:Heap} {s2:Shared} {a:Addr} {cls a0:Value} (lt:LTH H) (os:s2.os=s.os) (bare:AllBare s2.gens) (fl:Heap.FlyingW B outer a cls a0 s2.heap) (hB:HOk P w H' B)
  (kB:∀ b o,s.heap.get? b=some o->H b=none->b ∉ frs outer->B.get? b=some o) (hs:∀ b o,s.heap.get? b=some o->H b=none->b ∈ frs outer->∃ sl,s2.heap.get? b=some {o with slots:=sl})
  (fr:∀ b o,s.heap.get? b=some o->H b=none->H' b=none) (pz:∀ b o u,H b=some (.frz o u)->H' b=some (.frz o u)) (pt:∀ b xs,H b=some (.tup xs)->H' b=some (.tup xs)) (hE:E cls none H0):CX1 P w outer H s E (.ref a) s2:=by
 refine⟨a,cls,a0,H',B,rfl,os,bare,⟨fun b o e n nf _=>fl.1 _ _ (kB b o e n nf),fun b o e n hf _=>hs b o e n hf,fun b o e n _=>fr b o e n,fun b o e _=>?_,pt,pz,fun b ps e=>?_⟩,hB,fun b o e=>(lt b o e).elim (fun ⟨ob,u,z⟩=>by subst z;exact pz _ _ _ e) fun ⟨xs,z⟩=>by subst z;exact pt _ _ e,kB,fl,hE⟩
 ·cases q:H b with
  | none=>
   by_cases hf:b ∈ frs outer
   ·obtain⟨sl,h⟩:=hs b o e q hf
    exact⟨_,h⟩
   ·exact⟨_,fl.1 _ _ (kB b o e q hf)⟩
  | some u=>
   have:∃ u',H' b=some u':=by
    rcases lt b u q with ⟨ob,v,rfl⟩ | ⟨xs,rfl⟩
    ·exact⟨_,pz _ _ _ q⟩
    ·exact⟨_,pt _ _ q⟩
   obtain⟨u',hu⟩:=this
   obtain⟨ob,ho⟩:=(hB b u' hu).at
   exact⟨_,fl.1 _ _ ho⟩
 ·rcases lt b _ e with ⟨ob,v,z⟩ | ⟨xs,z⟩<;>cases z
theorem tf {b:Addr} {o:Obj} (e:s.heap.get? b=some o) (n:b ∉ frs outer):b ∉ frs (envOfC qual scope s.heap.objs.size f cd::outer):=fun z=>by
 unfold frs at z n
 rcases List.mem_filterMap.mp z with ⟨env,hm,hf⟩
 rcases List.mem_cons.mp hm with rfl | hm
 ·have h1:s.heap.objs.size=b:=Option.some.inj hf
  have h2:=Heap.lt_size e
  rw[h1] at h2
  exact Nat.lt_irrefl _ h2
 ·exact n (List.mem_filterMap.mpr ⟨env,hm,hf⟩)
theorem rZ (lt:LTH H) {ex:Str->Prop} (hE:∀ c C,ex c->PySem.W.nsIn K mainGlobals c=some (some (.ref C))->E (.ref C) none H0) :
  Passes (CX1 P w) (cy (CX1 P w) P w K mg base N qual scope f cd A outer s H E) (fun cls _ _=>∃ c C,ex c/\PySem.W.nsIn K mainGlobals c=some (some (.ref C))/\cls=.ref C):=by
 intro pins σ H1 s1 e s' I ⟨a,cls,a0,H',B,he,os,bare,un,hB,_,kB,fl,c,C,hc,hn,hcls⟩
 subst he hcls
 have I':=I.call' os un (hB.kept fl.1) bare (fun b z=>absurd z (by simp))
 show wpAny _ _ (leaving _ (.ref a)) _ _ s'
 refine wpAny_leaves_onW (show (A.deeper (envOfC qual scope s.heap.objs.size f cd)).frames=some (envOfC qual scope s.heap.objs.size f cd::outer) from I.ok.frames) rfl fl fun h' fl' up=>?_
 refine sZ lt I'.os I'.bare fl' hB (fun b o e n nf=>?_) (fun b o e n hf=>?_) (fun b o e n=>I'.base.free b o e n (by simp[cy])) I'.base.frzs I'.base.tups (hE c C hc hn)
 ·exact kB b o (I.base.keep b o e n nf (by simp[cy])) (I.base.free b o e n (by simp[cy])) (tf e nf)
 ·obtain⟨sl,h1⟩:=I'.base.slot b o e n hf (by simp[cy])
  obtain⟨_,o',ho',nf⟩:=I.ok.funs.mem hf
  have ho':s.heap.get? b=some o':=ho'
  rw[e] at ho'
  cases ho'
  obtain⟨sl',h2⟩:=up b _ h1 nf
  exact⟨sl',h2⟩
theorem nV (lt:LTH H) {pins:List (Addr×Obj)} {σ:St} {H1:Hp} {s1:Shared} {C e:Addr} {h':Heap} {vs:List Value} (hE:E (.ref C) none H0)
  (I:Inv (cy (CX1 P w) P w K mg base N qual scope f cd A outer s H E) pins σ H1 s1) (hx:Heap.MadeExcOf s1.heap h' e (.ref C) vs) :
  (cy (CX1 P w) P w K mg base N qual scope f cd A outer s H E).xe (.ref e) {s1 with heap:=h'}:=by
 have hin:∀ env ∈ (cy (CX1 P w) P w K mg base N qual scope f cd A outer s H E).stack,∀ b,env.frame=some b->b ∈ frs (cy (CX1 P w) P w K mg base N qual scope f cd A outer s H E).stack:=fun env he b hb=>List.mem_filterMap.mpr ⟨env,he,hb⟩
 show wpAny _ _ (leaving _ (.ref e)) _ _ _
 refine wpAny_leaves_madeW (base:=PySem.W.hideAll s1.heap (frs (cy (CX1 P w) P w K mg base N qual scope f cd A outer s H E).stack)) (h:=s1.heap) (show (A.deeper (envOfC qual scope s.heap.objs.size f cd)).frames=some (envOfC qual scope s.heap.objs.size f cd::outer) from I.ok.frames) rfl (fun b o q=>PySem.W.of_hideAll _ q) (PySem.W.funFrames_hide I.stack hin) hx fun h2 t fl _ _ up=>?_
 have trk:∀ b u o,H1 b=some u->s1.heap.get? b=some o->(PySem.W.hideAll s1.heap (frs (cy (CX1 P w) P w K mg base N qual scope f cd A outer s H E).stack)).get? b=some o:=fun b u o hu ho=>PySem.W.hideAll_get _ ho fun z=>by
  rw[I.stkFree b z] at hu;cases hu
 refine sZ (H':=H1) lt I.os I.bare fl (fun b o hb=>?_) (fun b o he n nf=>?_) (fun b o he n hf=>?_) (fun b o e n=>I.base.free b o e n (by simp[cy])) I.base.frzs I.base.tups hE
 ·refine(I.hok b o hb).stay (fun c u hc hu=>?_) (fun _ z=>z) fun _ _ z=>z
  rcases hc with rfl | hc
  ·exact trk _ _ _ hb hu
  ·exact trk _ _ _ hc hu
 ·exact PySem.W.hideAll_get _ (I.base.keep b o he n nf (by simp[cy])) (tf he nf)
 ·obtain⟨sl,h1⟩:=I.base.slot b o he n hf (by simp[cy])
  obtain⟨_,o',ho',nf⟩:=I.ok.funs.mem hf
  have ho':s.heap.get? b=some o':=ho'
  rw[he] at ho'
  cases ho'
  obtain⟨sl',h3⟩:=up b _ (hx.keeps b _ h1) nf
  exact⟨sl',h3⟩
end
noncomputable def RSB (K:PySem.W.Frag) (B:Bs) (ex:Str->Prop) (g:Ev->Res Fl):TS:=fun Dn σ H=>∃ F τ f,Frm K B F H σ τ f/\PO' ex (g τ) (Fk K B Dn)
section
variable {X:Cx} {pins pins':List (Addr×Obj)} {σ:St} {H:Hp} {s:Shared} {E:Value->Shared->Prop} {a:Addr}
end
section
variable {Z:Sg} {CX:CXT} {cl:Nat->List D->Res D} {xp:XK->Hp->Str->Prop} {X:Cx} {ex:Str->Prop} {G:Gm} {pins:List (Addr×Obj)} {a:Addr}
end
noncomputable def nW (Z:Sg) (G:Gm):List IS->List Stmt->Bool
 | [],[]=>true
 | a::as,s::ss=>nR Z G a s && nW Z G as ss
 | _,_=>false
section
variable {Z:Sg} {cl:Nat->List D->Res D} {X:Cx} {ex:Str->Prop} {G:Gm}
theorem snB (g:GOk Z (CX1 X.prog X.w) cl (xp1 X.K) X ex G) (hst:X.stack=X.env::X.outer) (hfr:X.env.frame=some X.env.locals) (lt:LTH X.H₀) (hpl:∀ a:Addr,∀ f ∈ Z.fns,f ∈ Z.pl->∀ x,Z.name f=some x->FnC X.prog X.w X.K X.mg X.base (CX1 X.prog X.w) (X.A.mark (some (.ref a))) cl (xp1 X.K) f x)
  {B0:Bs} (hB0:B0.H=X.H₀) (hBF:FOk B0.F B0.H) (hBL:∀ a xs,¬ B0.L a xs) (hBT:∀ a xs,¬ B0.T a xs):∀ (as:List IS) (ss:List Stmt),nW Z G as ss=true->PSs X ss (RSB X.K B0 ex (bh cl as))
 | [],ss,h=>by
  cases ss with
  | nil=>exact ej ka fun Dn σ H ⟨F,τ,f,m,q⟩=>q.ok _ _ _ _ m
  | cons _ _=>cases h
 | a::as,ss,h=>by
  cases ss with
  | nil=>cases h
  | cons s ss=>
   have h':(nR Z G a s && nW Z G as ss)=true:=h
   rw[Bool.and_eq_true] at h'
   have p1:PS X s (RSB X.K B0 ex (evS cl a)):=by
    exact aO (snS a X ex G s g h'.1) fun Dn σ H ⟨F,τ,f,m,q⟩=>⟨B0,F,τ,f,m,q⟩
   refine ej (iy p1 (snB g hst hfr lt hpl hB0 hBF hBL hBT as ss h'.2)) fun Dn σ H ⟨F,τ,f,m,q⟩=>?_
   refine⟨F,τ,f,m,(PO'.bnd q).mono fun r hr=>?_⟩
   cases r with
   | nx τ'=>exact fun σ' H' F' f' m'=>⟨F',τ',f',m',hr⟩
   | ct τ'=>exact hr.ok
   | bk τ'=>exact hr.ok
   | rt d=>exact hr.ok
end
noncomputable def aw (Z:Sg) (fn:Fn) (ps:List Str) (st:Stmt):Bool:=
 (aq st).kind == .function && !(aq st).isCoroutine && !(aq st).isGenerator && decide (fn.G.N.Nodup) && fn.G.N.take ps.length == ps
 && ps.all (fun x=>(aq st).names.lookup x == some .local || (aq st).names.lookup x == some .cell) && (aq st).names.all (fun y=>y.2 != .free)
 && (List.range fn.G.N.length).all (fun i=>(fn.G.N[i]?).bind ((aq st).names.lookup ·) == fn.G.kd[i]?)
 && fn.G.N.all (fun x=>!(x == "__debug__") && !(x == "__classdict__"))
 && fn.G.gl.all (fun n=>match Z.name n with | some x=>(aq st).names.lookup x == some .globalImplicit | none=>false)
 && decide (ps.length=fn.np) && nW Z fn.G fn.body (bq st)
structure DefSc (Z:Sg) (fn:Fn) (ps:List Str) (st:Stmt):Prop where
 sc:FnScope fn.G.N ps (aq st)
 kd:∀ (i:Nat) (x:Str),fn.G.N[i]? = some x->(aq st).names.lookup x=fn.G.kd[i]?
 noD:∀ x ∈ fn.G.N,(x == ("__debug__" : Str))=false/\(x == ("__classdict__" : Str))=false
 gl:∀ n ∈ fn.G.gl,∀ x,Z.name n=some x->(aq st).names.lookup x=some .globalImplicit
 np:ps.length=fn.np
 body:nW Z fn.G fn.body (bq st)=true
theorem i0 {Z:Sg} {fn:Fn} {ps:List Str} {st:Stmt} (h:aw Z fn ps st=true):DefSc Z fn ps st:=by
 unfold aw at h
 simp only[Bool.and_eq_true] at h
 obtain⟨⟨⟨⟨⟨⟨⟨⟨⟨⟨⟨h1,h2⟩,h3⟩,h4⟩,h5⟩,h6⟩,h7⟩,h8⟩,h9⟩,h10⟩,h11⟩,h12⟩:=h
 rw[List.all_eq_true] at h6 h7 h8 h9 h10
 refine⟨⟨eq_of_beq h1,by simpa using h2,by simpa using h3,of_decide_eq_true h4,eq_of_beq h5,fun x hx=>?_,fun y hy=>by simpa using h7 y hy⟩,fun i x hx=>?_,fun x hx=>by simpa using h9 x hx,fun n hn x hx=>?_,of_decide_eq_true h11,h12⟩
 ·have:=h6 x hx
  rw[Bool.or_eq_true] at this
  exact this.elim (fun z=>.inl (eq_of_beq z)) fun z=>.inr (eq_of_beq z)
 ·have hlt:i < fn.G.N.length:=(List.getElem?_eq_some_iff.mp hx).1
  have:=eq_of_beq (h8 i (List.mem_range.mpr hlt))
  rw[hx] at this
  exact this
 ·have:=h10 n hn
  rw[hx] at this
  exact eq_of_beq this
structure DefOk (K:PySem.W.Frag) (mg:Str->Option Value) (Z:Sg) (T:Tb) (f:Nat) (x:Str):Prop where
 ex:∃ (fn:Fn) (st:Stmt) (fa:Addr) (fd:FuncData) (ps:List Str),T f=some fn/\Fun K x x st fa fd/\mg x=some (.ref fa)/\Binds K fd ps []/\DefSc Z fn ps st
section
variable {P:Program} {w:World} {K:PySem.W.Frag} {mg:Str->Option Value} {base:Heap} {Z:Sg} {T:Tb}
noncomputable def CVk (mg:Str->Option Value) (x:Str) (v:V):Prop:=(∃ C,v=.ref C/\mg x=some (.ref C))∨(∃ T,v=.ty T/\mg x=none/\bootBuiltins x=some (.type T))
structure TopOk (K:PySem.W.Frag) (mg:Str->Option Value) (Z:Sg) (T:Tb):Prop where
 nam:∀ n x,Z.name n=some x->x≠"__name__"/\(x == ("__debug__" : Str))=false
 blt:∀ (n:Nat) (x:Str),bg[n]? = some x->mg x=none
 cst:∀ n d x,(n,d) ∈ Z.kst->Z.name n=some x->∃ u v,mg x=some u/\RelV v u/\∀ S H,HRep K S H v d
 fns:∀ f ∈ Z.fns,∀ x,Z.name f=some x->DefOk K mg Z T f x
 plc:∀ f ∈ Z.pl,∀ fn,T f=some fn->fn.G.cm=false
 xcv:∀ n ∈ Z.cls,∀ x,Z.name n=some x->∃ v,CVk mg x v
 xcl:∀ c n b x,(c,n,b) ∈ Z.xt->Z.name n=some x->∃ C,PySem.W.nsIn K mainGlobals c=some (some (.ref C))/\ExcAt K C/\∀ v,CVk mg x v->PySem.W.kitOne K (.ref C) (vv v)=some b
 xmt:∀ c n x,(c,n) ∈ Z.xm->Z.name n=some x->∃ C C',PySem.W.nsIn K mainGlobals c=some (some (.ref C))/\PySem.W.nsIn K mainGlobals x=some (some (.ref C'))/\nameIn K C=some c/\mg x=some (.ref C')/\PySem.W.exmOne K (.ref C) (.ref C')=some true
 xrs:∀ n c,(n,c) ∈ Z.rc->Z.name n=some c/\∃ C,mg c=some (.ref C)/\PySem.W.nsIn K mainGlobals c=some (some (.ref C))/\PySem.W.excIn K C bmV "ValueError.__new__" = true
theorem gc {F:Addr->Prop} {H:Hp}:∀ {vs:List V} {ds:List D} (n:Nat),HReps K F H vs ds->Rps K F H (vs.map some++List.replicate n none) ((ers ds).map some++List.replicate n none) []
 | [],[],n,.nil=>by
  induction n with
  | zero=>exact .nil
  | succ n ih=>exact .none ih
 | v::vs,d::ds,n,.cons h1 h2=>.some (f:=[]) h1.frozen (gc n h2)
structure Rm (n:Nat) (A:Around):Prop where
 dp:A.depth + 3 * n + 5 < recursionLimit
 un:A.units + 16 * n + 200 < cLine
theorem Rm.room {n:Nat} {A:Around} (r:Rm n A) (hn:n < 900) (h:A.handled=none):Room n A:=⟨fun _=>h,by have:=r.dp;rw[Nat.mod_eq_of_lt (by omega)];exact this,by have:=r.un;rw[Nat.mod_eq_of_lt (by omega)];exact this⟩
theorem Rm.roomp {n:Nat} {A:Around} (r:Rm n A) (hn:n < 900):Room (1000 + n) A:=⟨fun z=>by omega,by have:=r.dp;rw[show (1000 + n) % 1000=n by omega];exact this,by have:=r.un;rw[show (1000 + n) % 1000=n by omega];exact this⟩
theorem Rm.of {n k:Nat} {A:Around} (r:Room k A) (h:k % 1000=n):Rm n A:=⟨by have:=r.dp;rw[h] at this;exact this,by have:=r.un;rw[h] at this;exact this⟩
theorem gW (t:TopOk K mg Z T) {n k:Nat} {f:Nat} {fn:Fn} {x:Str} {st:Stmt} {fa:Addr} {fd:FuncData} {ps:List Str} (hk:k % 1000=n) (hn:n < 900) (h1:T f=some fn) (h2:Fun K x x st fa fd) (h5:DefSc Z fn ps st) (hp:k < 1000∨fn.G.cm=false)
  (ih:∀ (A:Around),Rm n A->∀ f ∈ Z.fns,(A.handled=none∨f ∈ Z.pl)->∀ x,Z.name f=some x->FnC P w K mg base (CX1 P w) A (af T n) (xp1 K) f x) :
  FnOk P w K mg base (CX1 P w) (k + 1) fa fd ps (spF K (af T (n + 1)) (xp1 K) f ps):=by
 have hcall:∀ ds,af T (n + 1) f ds=gK (af T n) fn ds:=fun ds=>by
  show (match T f with | some fn=>gK (af T n) fn ds | none=>stk)=_
  rw[h1]
 obtain⟨oc,od,kV,doc,pm,an,cdv,ct,osl,rfl,lk,hcd⟩:=h2.ex
 refine xT lk hcd h5.sc (by omega) (fun vs H Q E h=>h.1) fun A outer s H vs Q E hr hsp=>?_
 obtain⟨hl,lt,F,ds,fok,m,q⟩:=hsp
 have hcm:fn.G.cm=true->A.handled=none:=fun z=>hp.elim (fun h=>hr.hd h) fun h=>by rw[h] at z;cases z
 refine⟨_,snB (Z:=Z) (cl:=af T n) (ex:=xp1 K E H) (G:=fn.G) (B0:=⟨F,H,fun _ _=>False,fun _ _=>False⟩) ?_ rfl rfl lt (fun a f' hf' hpl' x' hx'=>ih ((A.deeper (envOfC x (aq st) s.heap.objs.size fa cdv)).mark (some (.ref a))) ⟨(Rm.of hr hk).dp,(Rm.of hr hk).un⟩ f' hf' (.inr hpl') x' hx') rfl fok (fun _ _ z=>z) (fun _ _ z=>z) fn.body (bq st) h5.body,?_⟩
 ·refine⟨rfl,h5.sc.nd,fun z=>by show A.handled.isNone=true;rw[hcm z];rfl,h5.sc.kind,?_,fun _=>PassesOwn.leaving,fun i y hy=>h5.kd i y hy,fun i y hy=>h5.noD y (List.mem_of_getElem? hy),fun m hm y hy=>h5.gl m hm y hy,t.nam,fun _ _=>rfl,t.blt,t.cst,?_,t.xcv,t.xcl,t.xmt,t.xrs,?_,?_,?_,?_,?_⟩
  ·have:=hr.un
   show (A.deeper _).units + 42 < cLine
   omega
  ·exact fun f' hf' hc x' hx'=>ih _ (Rm.of hr hk) f' hf' (hc.elim (fun z=>.inl (hcm z)) .inr) x' hx'
  ·exact fun _ pins σ H1 s1 c C h' e vs I hex hn hx=>nV lt (hex C hn) I hx
  ·exact fun _=>⟨rfl,rfl,lt,fun a f' hf' hpl' x' hx'=>ih ((A.deeper (envOfC x (aq st) s.heap.objs.size fa cdv)).mark (some (.ref a))) ⟨(Rm.of hr hk).dp,(Rm.of hr hk).un⟩ f' hf' (.inr hpl') x' hx',fun _ _ _ _ _ _ z=>z,fun c C H' hC C'' hC'=>by rw[hC] at hC';cases hC';rfl⟩
  ·exact⟨_,rZ (ex:=xp1 K E H) lt fun c C hc hn=>hc C hn,fun c H' hc C hn=>⟨c,C,hc,hn,rfl⟩⟩
  ·exact fun outer H s E e s' x fr h=>kA x fr h
  ·exact fun H outer s e s'=>nU
 ·rw[hcall] at q
  obtain⟨gd,q⟩:=PO'.grd q
  have gd':(ers ds).length=fn.np:=of_decide_eq_true gd
  have hn':fn.G.N.length - vs.length=fn.G.N.length - fn.np:=by rw[m.length,<- bM ds,gd']
  refine⟨F,(ers ds).map some++List.replicate (fn.G.N.length - fn.np) none,[],⟨fok,?_,List.nodup_nil,.refl _,fun a ha=>absurd ha (by simp),fun a h=>h,fun a h=>.inl h,fun a xs h=>h.elim,fun a xs h=>h.elim⟩,(PO'.bnd q).mono fun r hr=>?_⟩
  ·show Rps K F H (start fn.G.N vs) _ []
   unfold start
   rw[hn']
   exact gc _ m
  ·cases r with
   | nx τ'=>exact fun σ' H' F' f' m'=>hr.ok .non H' F' [] ⟨m'.fok,m'.same,.non,List.nodup_nil,fun a ha=>absurd ha (by simp),m'.inn,m'.out⟩
   | rt d=>exact fun v H' F' fv o=>hr.ok v H' F' fv o
   | bk τ'=>exact hr.no.elim
   | ct τ'=>exact hr.no.elim
theorem kC (t:TopOk K mg Z T):∀ (n:Nat),n < 900->∀ (A:Around),Rm n A->∀ f ∈ Z.fns,(A.handled=none∨f ∈ Z.pl)->∀ x,Z.name f=some x->FnC P w K mg base (CX1 P w) A (af T n) (xp1 K) f x
 | 0,h9,A,hr,f,hf,hc,x,hx=>by
  obtain⟨fn,st,fa,fd,ps,h1,h2,h3,h4,h5⟩:=(t.fns f hf x hx).ex
  have no:∀ vs H Q E,¬ spF K (af T 0) (xp1 K) f ps vs H Q E:=fun vs H Q E ⟨_,_,F,ds,_,_,h⟩=>h
  exact⟨1000 + 0,fa,fd,ps,h3,h2.kp,h4,⟨fun vs H Q E h=>h.1,fun A outer s H args us vs Q E _ _ _ _ h=>(no _ _ _ _ h).elim⟩,hr.roomp h9,fun ex ds k h=>h.elim⟩
 | n + 1,h9,A,hr,f,hf,hc,x,hx=>by
  obtain⟨fn,st,fa,fd,ps,h1,h2,h3,h4,h5⟩:=(t.fns f hf x hx).ex
  have ih:=kC t n (by omega)
  have hlen:∀ (ex:Str->Prop) ds (k:D->Prop),PO' ex (af T (n + 1) f ds) k->ds.length=ps.length:=fun ex ds k h=>by
   have hcall:af T (n + 1) f ds=gK (af T n) fn ds:=by
    show (match T f with | some fn=>gK (af T n) fn ds | none=>stk)=_
    rw[h1]
   rw[hcall] at h
   obtain⟨gd,_⟩:=PO'.grd h
   rw[of_decide_eq_true gd,h5.np]
  by_cases hpl:f ∈ Z.pl
  ·exact⟨1000 + n + 1,fa,fd,ps,h3,h2.kp,h4,gW t (k:=1000 + n) (n:=n) (by omega) (by omega) h1 h2 h5 (.inr (t.plc f hpl fn h1)) ih,hr.roomp h9,hlen⟩
  ·exact⟨n + 1,fa,fd,ps,h3,h2.kp,h4,gW t (k:=n) (n:=n) (by omega) (by omega) h1 h2 h5 (.inl (by omega)) ih,hr.room h9 (hc.elim id fun z=>absurd z hpl),hlen⟩
end
section
variable {P:Program} {w:World} {K:PySem.W.Frag} {mg:Str->Option Value} {base:Heap} {Z:Sg} {T:Tb}
noncomputable def spL (K:PySem.W.Frag) (cl:Nat->List D->Res D) (f:Nat) (ps:List Str):Sp:=fun vs H Q E=>vs.length=ps.length/\∃ F ds,FOk F H/\HReps K F H vs ds/\
 PO' nox (cl f (ers ds)) fun d=>∀ v H' F' fv,Out K F H F' H' v d fv->Q v H'
theorem nX {cl:Nat->List D->Res D} {k f:Nat} {fa:Addr} {fd:FuncData} {ps:List Str} (F:FnOk P w K mg base (CX1 P w) k fa fd ps (spF K cl (xp1 K) f ps)):FnOk P w K mg base (CX1 P w) k fa fd ps (spL K cl f ps):=by
 refine⟨fun vs H Q E h=>h.1,fun A outer s H args us vs Q E hr e0 bd r hsp=>?_⟩
 obtain⟨hl,Fc,ds,fok,m,q⟩:=hsp
 have e1:Env0 P w K mg base A outer s (aC s.heap H):=⟨e0.frames,e0.mod,fun b o e=>⟨(e0.bs b o e).1,bB (e0.bs b o e).2⟩,e0.bsz,e0.funs,fun b hb=>bB (e0.frf b hb),nH e0.hok,e0.bare⟩
 have hq:PO' (xp1 K E (aC s.heap H)) (cl f (ers ds)) fun d=>∀ v H' F' fv,Out K Fc H F' H' v d fv->Q v H':=by
  cases z:cl f (ers ds) with
  | ok d=>rw[z] at q;exact q
  | error er=>
   rw[z] at q
   cases er with
   | stuck=>exact q.no.elim
   | exc c=>exact False.elim q
 have hs:spF K cl (xp1 K) f ps vs (aC s.heap H) (fun v H'=>Pers s.heap (aC s.heap H) H'->Q v (dq H H')) E:=
  ⟨hl,nG _ _,_,ds,fun a h=>h.2,kq e0.hok m,hq.mono fun d hd v H' F' fv o p=>hd v _ _ fv (kr e0.hok fok p o)⟩
 refine codeAny_mono (F.run A outer s (aC s.heap H) args us vs _ E hr e1 bd r hs) fun r' s' hq=>?_
 cases r' with
 | error e=>exact kA e0.hok e0.frf hq
 | ok fl=>
  cases fl with
  | ret u=>
   obtain⟨v,H',a1,a2,a3,a4,a5,a6⟩:=hq
   exact⟨v,dq H H',a1,a2,jI e0.hok a3,jH e0.hok a4 (du a3) (fs:=frs outer) (fun b o e n f=>a3.keep b o e n f (by simp)) e0.frf,a5,a6 (du a3)⟩
  | next=>exact hq
  | brk=>exact hq
  | cont=>exact hq
theorem wF (t:TopOk K mg Z T) (n:Nat) (hn:n < 900) {f:Nat} {fn:Fn} {x:Str} {st:Stmt} {fa:Addr} {fd:FuncData} {ps:List Str} (h1:T f=some fn) (h2:Fun K x x st fa fd) (h5:DefSc Z fn ps st):FnOk P w K mg base (CX1 P w) (n + 1) fa fd ps (spL K (af T (n + 1)) f ps):=
 nX (gW t (k:=n) (n:=n) (by omega) hn h1 h2 h5 (.inl (by omega)) (kC t n hn))
theorem wG {f n:Nat} {x:Str} {a:Addr} {H:Hp} {ns:List Int} (hS:Ls K H a (ns.map V.int)) (hl:af T n f [.lst false (ns.map .int)]=.ok (.bl true)) :
  spL K (af T n) f [x] [.ref a] H (fun v _=>v=.bl true) fun _ _ _=>False:=by
 have m:HReps K (fun a=>H a≠none) H [.ref a] [.lst false (ns.map .int)]:=by
  refine .cons ?_ .nil
  rcases hS with hS | hS
  ·exact .lst hS.some hS (HReps.ofInts ns)
  ·exact .lstK hS (HReps.ofInts ns)
 refine⟨rfl,fun a=>H a≠none,[.lst false (ns.map .int)],fun a h=>h,m,?_⟩
 have he:ers [.lst false (ns.map .int)]=[D.lst false (ns.map .int)]:=by
  rw[ers,ers,er,az,List.map_map]
  rfl
 rw[he,hl]
 intro v H' F' fv o
 cases o.rep
 rfl
theorem nY {l:PySem.W.OpenLaw} {q:Program} {loose:List Str} {XP:(Str->Option Value)->Heap->Prop} {YP:World->Heap->Prop} {d:DefRec} {K:Params->PySem.W.Frag} {T:Tb} {n f:Nat} {x:Str} (hn:l.most=some 63) (hdf:d.params.defaults=[]) (hr:Room (n + 1) callerA)
  (hY:∀ (w:World) (h:Heap),YP w h->(K w.params).In h)
  (F:∀ (w:World) (mg:Str->Option Value) (fa:Addr) (h:Heap),(K w.params).In h->h.Ns mainGlobals mg->mg d.name=some (.ref fa)->
   ∃ fd:FuncData,(∀ (s:Shared) (u:Value),BindsTo s fd ⟨[u],[]⟩ [(x,u)])/\∀ base:Heap,(K w.params).In base->base.Ns mainGlobals mg->FnOk l.prog w (K w.params) mg base (CX1 l.prog w) (n + 1) fa fd [x] (spL (K w.params) (af T (n + 1)) f [x]))
  (hl:∀ ns:List Int,ns.length<=63->af T (n + 1) f [.lst false (ns.map .int)]=.ok (.bl true)) :
  PySem.W.WalkO q loose XP YP l.row.toRowW d [] (fun f vs=>PySem.call f vs):=
 L2.qY (n:=63) (k:=n + 1) (x:=x) (CX:=fun w=>CX1 l.prog w) (sp:=fun w=>spL (K w.params) (af T (n + 1)) f [x]) hn (by decide) hdf hr hY F (fun w H a ns h1 _ hS=>wG hS (hl ns h1)) fun _ _ _ _ _ z=>nU z
end
namespace Ev
section
variable {α β:Type} {cl:Nat->List D->Res D} {τ:Ev} {mv:Bool}
theorem aY {a:α} {f:α->Res β}:bnd (.ok a) f=f a:=rfl
theorem ti {x:Res α}:grd true x=x:=rfl
theorem r_c {d:D}:evR cl (.c d) τ=.ok d:=rfl
theorem r_v {i:Nat}:evR cl (.v i) τ=(match ai τ i with | some d=>.ok d | none=>stk):=rfl
noncomputable def yT (cl:Nat->List D->Res D) (op:BOp) (b:IR) (τ:Ev) (x:D):Res D:=bnd (evR cl b τ) (opB op x)
theorem nZ {op:BOp} {b:IR} {x:D}:yT cl op b τ x=bnd (evR cl b τ) (opB op x):=rfl
theorem tj {op:BOp} {a b:IR}:evR cl (.bin op a b) τ=bnd (evR cl a τ) (yT cl op b τ):=rfl
noncomputable def yU:D->Res D
 | .int i=>.ok (.int (-i))
 | _=>stk
theorem tm {a:IR}:evR cl (.neg a) τ=bnd (evR cl a τ) yU:=rfl
theorem n0 {i:Int}:yU (.int i)=.ok (.int (-i)):=rfl
noncomputable def blK (r:Bool):Res D:=.ok (.bl r)
theorem tq {r:Bool}:blK r=.ok (.bl r):=rfl
noncomputable def n6 (op:COp) (x y:D):Res D:=bnd (opC op x y) blK
theorem kD {op:COp} {x y:D}:n6 op x y=bnd (opC op x y) blK:=rfl
noncomputable def yV (cl:Nat->List D->Res D) (op:COp) (b:IR) (τ:Ev) (x:D):Res D:=bnd (evR cl b τ) (n6 op x)
theorem n8 {op:COp} {b:IR} {x:D}:yV cl op b τ x=bnd (evR cl b τ) (n6 op x):=rfl
theorem tu {op:COp} {a b:IR}:evR cl (.cmp op a b) τ=bnd (evR cl a τ) (yV cl op b τ):=rfl
noncomputable def n9 (cl:Nat->List D->Res D) (b:IR) (τ:Ev) (x:D) (r:Bool):Res D:=if r=true then evR cl b τ else .ok x
theorem kE {b:IR} {x:D} {r:Bool}:n9 cl b τ x r=if r=true then evR cl b τ else .ok x:=rfl
noncomputable def yW (cl:Nat->List D->Res D) (b:IR) (τ:Ev) (x:D):Res D:=bnd (aI x) (n9 cl b τ x)
theorem og {b:IR} {x:D}:yW cl b τ x=bnd (aI x) (n9 cl b τ x):=rfl
theorem tw {a b:IR}:evR cl (.and_ a b) τ=bnd (evR cl a τ) (yW cl b τ):=rfl
noncomputable def wH (cl:Nat->List D->Res D) (b:IR) (τ:Ev) (x:D) (r:Bool):Res D:=if r=true then .ok x else evR cl b τ
theorem oh {b:IR} {x:D} {r:Bool}:wH cl b τ x r=if r=true then .ok x else evR cl b τ:=rfl
noncomputable def orK (cl:Nat->List D->Res D) (b:IR) (τ:Ev) (x:D):Res D:=bnd (aI x) (wH cl b τ x)
theorem tD {b:IR} {x:D}:orK cl b τ x=bnd (aI x) (wH cl b τ x):=rfl
theorem yX {a b:IR}:evR cl (.or_ a b) τ=bnd (evR cl a τ) (orK cl b τ):=rfl
noncomputable def oj (r:Bool):Res D:=.ok (.bl !r)
theorem kF {r:Bool}:oj r=.ok (.bl !r):=rfl
noncomputable def yY (x:D):Res D:=bnd (aI x) oj
theorem om {x:D}:yY x=bnd (aI x) oj:=rfl
theorem tE {a:IR}:evR cl (.not_ a) τ=bnd (evR cl a τ) yY:=rfl
noncomputable def tupK (ds:List D):Res D:=grd (aL ds.length) (.ok (.tup ds))
theorem oo {ds:List D}:tupK ds=grd (aL ds.length) (.ok (.tup ds)):=rfl
theorem tF {es:List IR}:evR cl (.tup es) τ=bnd (aV cl es τ) tupK:=rfl
noncomputable def lstK (ds:List D):Res D:=grd (aL ds.length) (.ok (.lst true ds))
theorem oq {ds:List D}:lstK ds=grd (aL ds.length) (.ok (.lst true ds)):=rfl
theorem tG {es:List IR}:evR cl (.lst es) τ=bnd (aV cl es τ) lstK:=rfl
noncomputable def yZ (cl:Nat->List D->Res D) (i:IR) (τ:Ev) (x:D):Res D:=bnd (evR cl i τ) (bo x)
theorem ot {i:IR} {x:D}:yZ cl i τ x=bnd (evR cl i τ) (bo x):=rfl
theorem tH {a i:IR}:evR cl (.idx a i) τ=bnd (evR cl a τ) (yZ cl i τ):=rfl
noncomputable def wI (cl:Nat->List D->Res D) (hi:Option IR) (τ:Ev) (x:D) (l:Option Int):Res D:=bnd (gJ cl hi τ) (iM x l)
theorem ou {hi:Option IR} {x:D} {l:Option Int}:wI cl hi τ x l=bnd (gJ cl hi τ) (iM x l):=rfl
noncomputable def slK (cl:Nat->List D->Res D) (lo hi:Option IR) (τ:Ev) (x:D):Res D:=bnd (gJ cl lo τ) (wI cl hi τ x)
theorem tI {lo hi:Option IR} {x:D}:slK cl lo hi τ x=bnd (gJ cl lo τ) (wI cl hi τ x):=rfl
theorem y0 {a:IR} {lo hi:Option IR}:evR cl (.sl a lo hi) τ=bnd (evR cl a τ) (slK cl lo hi τ):=rfl
noncomputable def tJ (cl:Nat->List D->Res D) (f:Nat) (ds:List D):Res D:=cl f (ers ds)
theorem kG {f:Nat} {ds:List D}:tJ cl f ds=cl f (ers ds):=rfl
theorem ox {f:Nat} {es:List IR}:evR cl (.call f es) τ=bnd (aV cl es τ) (tJ cl f):=rfl
theorem y3 {f:Bi} {es:List IR}:evR cl (.bi f es) τ=bnd (aV cl es τ) (cO f):=rfl
noncomputable def y4 (k:Kd) (x:D):Res D:=grd (dI x) (.ok (.bl (bf k x)))
theorem oy {k:Kd} {x:D}:y4 k x=grd (dI x) (.ok (.bl (bf k x))):=rfl
theorem za:dI .non=true:=rfl
theorem zb {b:Bool}:dI (.bl b)=true:=rfl
theorem zd {i:Int}:dI (.int i)=true:=rfl
theorem ze {x:Str}:dI (.str x)=true:=rfl
theorem zf {ds:List D}:dI (.tup ds)=true:=rfl
theorem zg {o:Bool} {ds:List D}:dI (.lst o ds)=true:=rfl
noncomputable def wJ (n:Bool) (y x:D):Res D:=iO n x y
theorem oz {n o:Bool} {x:Str} {ks:List Key} {ds:List D}:wJ n (.str x) (.dct o ks ds)=.ok (.bl (n != (look ks ds (.inr x)).isSome)):=rfl
noncomputable def zh (cl:Nat->List D->Res D) (n:Bool) (a:IR) (τ:Ev) (y:D):Res D:=bnd (evR cl a τ) (wJ n y)
theorem oA {n:Bool} {a:IR} {y:D}:zh cl n a τ y=bnd (evR cl a τ) (wJ n y):=rfl
theorem tK {n:Bool} {k a:IR}:evR cl (.din n k a) τ=bnd (evR cl k τ) (zh cl n a τ):=rfl
theorem oB {a:IR}:evR cl (.sset a) τ=bnd (evR cl a τ) iP:=rfl
theorem tL {a:IR} {k:Kd}:evR cl (.isi a k) τ=bnd (evR cl a τ) (y4 k):=rfl
noncomputable def zi (cl:Nat->List D->Res D) (m:Mt) (es:List IR) (τ:Ev) (x:D):Res D:=grd (cW x) (bnd (aV cl es τ) (fI m x))
theorem oC {m:Mt} {es:List IR} {x:D}:zi cl m es τ x=grd (cW x) (bnd (aV cl es τ) (fI m x)):=rfl
theorem tO {m:Mt} {o:IR} {es:List IR}:evR cl (.mth m o es) τ=bnd (evR cl o τ) (zi cl m es τ):=rfl
noncomputable def wK (ds:List D):Res D:=.ok (.lst true ds)
theorem oD {ds:List D}:wK ds=.ok (.lst true ds):=rfl
noncomputable def tP (cl:Nat->List D->Res D) (G:Gm) (fr:List Nat) (T:Tg) (I:List IR) (E:IR) (τ:Ev) (its:List D):Res D:=grd (bO its.length) (bnd (noX (aA (aG cl T I E (blk G fr τ)) its)) wK)
theorem kH {G:Gm} {fr:List Nat} {T:Tg} {I:List IR} {E:IR} {its:List D}:tP cl G fr T I E τ its=grd (bO its.length) (bnd (noX (aA (aG cl T I E (blk G fr τ)) its)) wK):=rfl
theorem oE {G:Gm} {fr:List Nat} {T:Tg} {s:Sr} {I:List IR} {E:IR}:evR cl (.comp G fr T s I E) τ=bnd (cR cl s τ) (tP cl G fr T I E τ):=rfl
theorem zj:aV cl [] τ=.ok []:=rfl
noncomputable def oF (d:D) (ds:List D):Res (List D):=.ok (d::ds)
theorem kI {d:D} {ds:List D}:oF d ds=.ok (d::ds):=rfl
noncomputable def rsK (cl:Nat->List D->Res D) (es:List IR) (τ:Ev) (d:D):Res (List D):=bnd (aV cl es τ) (oF d)
theorem tR {es:List IR} {d:D}:rsK cl es τ d=bnd (aV cl es τ) (oF d):=rfl
theorem zk {e:IR} {es:List IR}:aV cl (e::es) τ=bnd (evR cl e τ) (rsK cl es τ):=rfl
noncomputable def zm:D->Res (Option Int)
 | .int i=>.ok (some i)
 | _=>stk
theorem oG {i:Int}:zm (.int i)=.ok (some i):=rfl
theorem zo:gJ cl none τ=.ok none:=rfl
theorem zp {e:IR}:gJ cl (some e) τ=bnd (evR cl e τ) zm:=rfl
theorem zq:cX cl [] τ=.ok true:=rfl
noncomputable def tsK (cl:Nat->List D->Res D) (es:List IR) (τ:Ev) (r:Bool):Res Bool:=if r=true then cX cl es τ else .ok false
theorem tS {es:List IR} {r:Bool}:tsK cl es τ r=if r=true then cX cl es τ else .ok false:=rfl
theorem zr {e:IR} {es:List IR}:cX cl (e::es) τ=bnd (bnd (evR cl e τ) aI) (tsK cl es τ):=rfl
noncomputable def tU:D->Res (List D)
 | .int i=>grd (bF i) (.ok (bp 0 i))
 | _=>stk
theorem kJ {i:Int}:tU (.int i)=grd (bF i) (.ok (bp 0 i)):=rfl
theorem zt {n:IR}:cR cl (.rng1 n) τ=bnd (evR cl n τ) tU:=rfl
noncomputable def zu (cl:Nat->List D->Res D) (τ:Ev) (b:IR) (x:D):Res (List D):=bnd (evR cl b τ) fun y=>rC x y
noncomputable def oH (x y:D):Res (List D):=rC x y
theorem oI {b:IR} {x:D}:zu cl τ b x=bnd (evR cl b τ) (oH x):=rfl
theorem i3 {o o':Bool} {ds es:List D}:oH (.lst o ds) (.lst o' es)=.ok (cQ ds es):=rfl
theorem i4 {ds es:List D}:oH (.tup ds) (.tup es)=.ok (cQ ds es):=rfl
theorem tV {a b:IR}:cR cl (.zip a b) τ=bnd (evR cl a τ) (zu cl τ b):=rfl
theorem tW {e:IR}:cR cl (.val e) τ=bnd (evR cl e τ) dM:=rfl
theorem zv {o:Bool} {ds:List D}:dM (.lst o ds)=.ok ds:=rfl
theorem zw {ds:List D}:dM (.tup ds)=.ok ds:=rfl
theorem zx {x:Str}:dM (.str x)=grd (aL x.length) (.ok (cA x)):=rfl
theorem t_t {t:IR}:evT cl t τ=bnd (evR cl t τ) aI:=rfl
theorem o_v {i:Nat}:evO cl mv (.v i) τ=(match ai τ i with | some d=>if mv=true then .ok (d,τ.set i none) else .ok (er d,τ.set i (some (er d))) | none=>stk):=rfl
noncomputable def tX (p:List D×Ev):Res (D×Ev):=grd (aL p.1.length) (.ok (.tup p.1,p.2))
theorem kK {p:List D×Ev}:tX p=grd (aL p.1.length) (.ok (.tup p.1,p.2)):=rfl
theorem o_tup {es:List IR}:evO cl mv (.tup es) τ=bnd (eS cl mv es τ) tX:=rfl
noncomputable def tY (p:List D×Ev):Res (D×Ev):=grd (aL p.1.length) (.ok (.lst true p.1,p.2))
theorem kL {p:List D×Ev}:tY p=grd (aL p.1.length) (.ok (.lst true p.1,p.2)):=rfl
theorem o_lst {es:List IR}:evO cl mv (.lst es) τ=bnd (eS cl mv es τ) tY:=rfl
noncomputable def gX (es:List IR) (τ:Ev) (d:D):Res (D×Ev):=if ao d=true then .ok (d,τ) else .ok (d,frz (au es) τ)
theorem gf {es:List IR} {d:D}:gX es τ d=if ao d=true then .ok (d,τ) else .ok (d,frz (au es) τ):=rfl
noncomputable def oJ (cl:Nat->List D->Res D) (f:Nat) (es:List IR) (τ:Ev) (ds:List D):Res (D×Ev):=bnd (cl f (ers ds)) (gX es τ)
theorem i5 {f:Nat} {es:List IR} {ds:List D}:oJ cl f es τ ds=bnd (cl f (ers ds)) (gX es τ):=rfl
theorem o_call {f:Nat} {es:List IR}:evO cl mv (.call f es) τ=bnd (aV cl es τ) (oJ cl f es τ):=rfl
noncomputable def cJ (e:IR) (τ:Ev) (d:D):Res (D×Ev):=.ok (aE e d τ)
theorem kM {e:IR} {d:D}:cJ e τ d=.ok (aE e d τ):=rfl
theorem o_c {d:D}:evO cl mv (.c d) τ=bnd (evR cl (.c d) τ) (cJ (.c d) τ):=rfl
theorem tZ {op:BOp} {a b:IR}:evO cl mv (.bin op a b) τ=bnd (evR cl (.bin op a b) τ) (cJ (.bin op a b) τ):=rfl
theorem t5 {op:COp} {a b:IR}:evO cl mv (.cmp op a b) τ=bnd (evR cl (.cmp op a b) τ) (cJ (.cmp op a b) τ):=rfl
theorem t6 {a b:IR}:evO cl mv (.and_ a b) τ=bnd (evR cl (.and_ a b) τ) (cJ (.and_ a b) τ):=rfl
theorem t7 {a i:IR}:evO cl mv (.idx a i) τ=bnd (evR cl (.idx a i) τ) (cJ (.idx a i) τ):=rfl
theorem zA {a:IR} {lo hi:Option IR}:evO cl mv (.sl a lo hi) τ=bnd (evR cl (.sl a lo hi) τ) (cJ (.sl a lo hi) τ):=rfl
theorem zB {f:Bi} {es:List IR}:evO cl mv (.bi f es) τ=bnd (evR cl (.bi f es) τ) (cJ (.bi f es) τ):=rfl
theorem o_dnew:evO cl mv .dnew τ=.ok (.dct true [] [],τ):=rfl
theorem oK {a:IR}:evO cl mv (.sset a) τ=bnd (evR cl (.sset a) τ) (cJ (.sset a) τ):=rfl
theorem t9 {m:Mt} {o:IR} {es:List IR}:evO cl mv (.mth m o es) τ=bnd (evR cl (.mth m o es) τ) (cJ (.mth m o es) τ):=rfl
theorem oM {G:Gm} {fr:List Nat} {T:Tg} {s:Sr} {I:List IR} {E:IR}:evO cl mv (.comp G fr T s I E) τ=bnd (evR cl (.comp G fr T s I E) τ) (cJ (.comp G fr T s I E) τ):=rfl
theorem zC:eS cl mv [] τ=.ok ([],τ):=rfl
noncomputable def wL (d:D) (q:List D×Ev):Res (List D×Ev):=.ok (d::q.1,q.2)
theorem oN {d:D} {q:List D×Ev}:wL d q=.ok (d::q.1,q.2):=rfl
noncomputable def osK (cl:Nat->List D->Res D) (mv:Bool) (es:List IR) (p:D×Ev):Res (List D×Ev):=bnd (eS cl mv es p.2) (wL p.1)
theorem ua {es:List IR} {p:D×Ev}:osK cl mv es p=bnd (eS cl mv es p.2) (wL p.1):=rfl
theorem zD {e:IR} {es:List IR}:eS cl mv (e::es) τ=bnd (evO cl mv e τ) (osK cl mv es):=rfl
noncomputable def smK (d:D):Res (Option D):=.ok (some d)
theorem ub {d:D}:smK d=.ok (some d):=rfl
noncomputable def wM (cl:Nat->List D->Res D) (E:IR) (τ:Ev) (r:Bool):Res (Option D):=if r=true then bnd (evR cl E τ) smK else .ok none
theorem oO {E:IR} {r:Bool}:wM cl E τ r=if r=true then bnd (evR cl E τ) smK else .ok none:=rfl
noncomputable def bdK (cl:Nat->List D->Res D) (I:List IR) (E:IR) (τ:Ev):Res (Option D):=bnd (cX cl I τ) (wM cl E τ)
theorem uc {I:List IR} {E:IR}:bdK cl I E τ=bnd (cX cl I τ) (wM cl E τ):=rfl
theorem kN {T:Tg} {I:List IR} {E:IR} {x:D}:aG cl T I E τ x=bnd (bD T x τ) (bdK cl I E):=rfl
theorem oP {G:Gm} {fr:List Nat}:blk G fr τ=fr.map (ai τ)++List.replicate (G.N.length - fr.length) none:=rfl
theorem k_i {e:IR} {i:Int}:aE e (.int i) τ=(.int i,τ):=rfl
theorem k_s {e:IR} {x:Str}:aE e (.str x) τ=(.str x,τ):=rfl
theorem k_b {e:IR} {b:Bool}:aE e (.bl b) τ=(.bl b,τ):=rfl
noncomputable def nxK (τ':Ev):Res Fl:=.ok (.nx τ')
theorem ud:nxK τ=.ok (.nx τ):=rfl
noncomputable def zE (tg:Tg) (p:D×Ev):Res Fl:=bnd (bD tg p.1 p.2) nxK
theorem oQ {tg:Tg} {p:D×Ev}:zE tg p=bnd (bD tg p.1 p.2) nxK:=rfl
theorem st_asg {tg:Tg} {e:IR}:evS cl (.asg tg e) τ=bnd (evO cl false e τ) (zE tg):=rfl
noncomputable def wN (i:Nat) (p:D×Ev):Option D->Res Fl
 | some (.lst true ds)=>grd (bO ds.length) (.ok (.nx (p.2.set i (some (.lst true (ds++[p.1]))))))
 | _=>stk
noncomputable def wO (i:Nat) (p:D×Ev):Res Fl:=wN i p (ai p.2 i)
theorem oR {i:Nat} {p:D×Ev}:wO i p=wN i p (ai p.2 i):=rfl
noncomputable def zF (cl:Nat->List D->Res D) (i:Nat) (e:IR) (τ:Ev):Option D->Res Fl
 | some (.lst _ _)=>bnd (evO cl false e τ) (wO i)
 | _=>stk
theorem oT {i:Nat} {e:IR} {o:Bool} {ds:List D}:zF cl i e τ (some (.lst o ds))=bnd (evO cl false e τ) (wO i):=rfl
theorem oU {i:Nat} {p:D×Ev} {ds:List D}:wN i p (some (.lst true ds))=grd (bO ds.length) (.ok (.nx (p.2.set i (some (.lst true (ds++[p.1])))))):=rfl
noncomputable def r6 (i:Nat) (τ':Ev) (es:List D):Option D->Res Fl
 | some (.lst true ds)=>grd (aL (ds.length + es.length)) (.ok (.nx (τ'.set i (some (.lst true (ds++es))))))
 | _=>stk
theorem oV {i:Nat} {τ':Ev} {es ds:List D}:r6 i τ' es (some (.lst true ds))=grd (aL (ds.length + es.length)) (.ok (.nx (τ'.set i (some (.lst true (ds++es)))))):=rfl
noncomputable def wQ (i:Nat) (τ':Ev):D->Res Fl
 | .lst _ es=>r6 i τ' es (ai τ' i)
 | _=>stk
theorem oW {i:Nat} {τ':Ev} {o:Bool} {es:List D}:wQ i τ' (.lst o es)=r6 i τ' es (ai τ' i):=rfl
noncomputable def wR (i:Nat) (p:D×Ev):Res Fl:=wQ i p.2 p.1
theorem oX {i:Nat} {d:D}:wR i (d,τ)=wQ i τ d:=rfl
noncomputable def zG (cl:Nat->List D->Res D) (i:Nat) (e:IR) (τ:Ev):Option D->Res Fl
 | some (.lst _ _)=>bnd (evO cl false e τ) (wR i)
 | _=>stk
theorem oY {i:Nat} {e:IR} {o:Bool} {ds:List D}:zG cl i e τ (some (.lst o ds))=bnd (evO cl false e τ) (wR i):=rfl
theorem st_ext {i:Nat} {e:IR}:evS cl (.ext i e) τ=zG cl i e τ (ai τ i):=by
 show (match ai τ i with | some (.lst _ _)=>(bnd (evO cl false e τ) fun p=>(match p.1,ai p.2 i with | .lst _ es,some (.lst true ds)=>grd (aL (ds.length + es.length)) (.ok (Fl.nx (p.2.set i (some (.lst true (ds++es)))))) | _,_=>stk)) | _=>stk)=_
 cases ai τ i with
 | none=>rfl
 | some d=>
  cases d with
  | lst o ds=>
   refine congrArg (bnd (evO cl false e τ)) (funext fun p=>?_)
   obtain⟨d,τ'⟩:=p
   cases d with
   | lst o es=>
    show (match D.lst o es,ai τ' i with | .lst _ es,some (.lst true ds)=>grd (aL (ds.length + es.length)) (.ok (.nx (τ'.set i (some (.lst true (ds++es)))))) | _,_=>stk)=r6 i τ' es (ai τ' i)
    cases ai τ' i with
    | none=>rfl
    | some d2=>cases d2<;>first | rfl | (rename_i b _;cases b<;>rfl)
   | _=>rfl
  | _=>rfl
noncomputable def r9 (i:Nat) (p:D×Ev) (z:Int):Option D->Res Fl
 | some (.lst true ds)=>grd (decide (0<=z/\z.toNat<=ds.length) && bO ds.length) (.ok (.nx (p.2.set i (some (.lst true (ds.take z.toNat++p.1::ds.drop z.toNat))))))
 | _=>stk
theorem oZ {i:Nat} {p:D×Ev} {z:Int} {ds:List D}:r9 i p z (some (.lst true ds))=grd (decide (0<=z/\z.toNat<=ds.length) && bO ds.length) (.ok (.nx (p.2.set i (some (.lst true (ds.take z.toNat++p.1::ds.drop z.toNat)))))):=rfl
noncomputable def wU (i:Nat):D->D×Ev->Res Fl
 | .int z,p=>r9 i p z (ai p.2 i)
 | _,_=>stk
theorem o4 {i:Nat} {z:Int} {p:D×Ev}:wU i (.int z) p=r9 i p z (ai p.2 i):=rfl
noncomputable def wV (cl:Nat->List D->Res D) (i:Nat) (e:IR) (τ:Ev) (y:D):Res Fl:=bnd (evO cl false e τ) (wU i y)
theorem o5 {i:Nat} {e:IR} {y:D}:wV cl i e τ y=bnd (evO cl false e τ) (wU i y):=rfl
noncomputable def zH (cl:Nat->List D->Res D) (i:Nat) (k e:IR) (τ:Ev):Option D->Res Fl
 | some (.lst _ _)=>bnd (evR cl k τ) (wV cl i e τ)
 | _=>stk
theorem o6 {i:Nat} {k e:IR} {o:Bool} {ds:List D}:zH cl i k e τ (some (.lst o ds))=bnd (evR cl k τ) (wV cl i e τ):=rfl
theorem st_ins {i:Nat} {k e:IR}:evS cl (.ins i k e) τ=zH cl i k e τ (ai τ i):=by
 show (match ai τ i with | some (.lst _ _)=>(bnd (evR cl k τ) fun y=>bnd (evO cl false e τ) fun p=>(match y,ai p.2 i with | .int z,some (.lst true ds)=>grd (decide (0<=z/\z.toNat<=ds.length) && bO ds.length) (.ok (Fl.nx (p.2.set i (some (.lst true (ds.take z.toNat++p.1::ds.drop z.toNat)))))) | _,_=>stk)) | _=>stk)=_
 cases ai τ i with
 | none=>rfl
 | some d=>
  cases d with
  | lst o ds=>
   refine congrArg (bnd (evR cl k τ)) (funext fun y=>congrArg (bnd (evO cl false e τ)) (funext fun p=>?_))
   cases y with
   | int z=>
    show (match D.int z,ai p.2 i with | .int z,some (.lst true ds)=>grd (decide (0<=z/\z.toNat<=ds.length) && bO ds.length) (.ok (.nx (p.2.set i (some (.lst true (ds.take z.toNat++p.1::ds.drop z.toNat)))))) | _,_=>stk)=r9 i p z (ai p.2 i)
    cases ai p.2 i with
    | none=>rfl
    | some d2=>cases d2<;>first | rfl | (rename_i b _;cases b<;>rfl)
   | _=>rfl
  | _=>rfl
noncomputable def kO (cl:Nat->List D->Res D) (i:Nat) (k:IR) (τ:Ev) (d:D):Option D->Res Fl
 | some (.dct true ks ds)=>bnd (evR cl k τ) fun y=>(match dJ y with | some q=>grd (ao d && ae ds && bO ks.length) (.ok (.nx (τ.set i (some (.dct true (dj ks q) (cG ks ds q d)))))) | none=>stk)
 | _=>stk
theorem gY {i:Nat} {k:IR} {d:D} {ks:List Key} {ds:List D} {x:Str} (h:evR cl k τ=.ok (.str x)) (hl:(ao d && ae ds && bO ks.length)=true):kO cl i k τ d (some (.dct true ks ds))=.ok (.nx (τ.set i (some (.dct true (dj ks (.inr x)) (cG ks ds (.inr x) d))))):=by
 show (bnd (evR cl k τ) fun y=>(match dJ y with | some q=>grd (ao d && ae ds && bO ks.length) (.ok (Fl.nx (τ.set i (some (.dct true (dj ks q) (cG ks ds q d)))))) | none=>stk))=_
 rw[h]
 show grd _ _=_
 rw[hl]
 rfl
noncomputable def ue (cl:Nat->List D->Res D) (i:Nat) (k:IR) (τ:Ev) (d:D):Res Fl:=kO cl i k τ d (ai τ i)
theorem kP {i:Nat} {k:IR} {d:D}:ue cl i k τ d=kO cl i k τ d (ai τ i):=rfl
theorem st_dset {i:Nat} {k e:IR}:evS cl (.dset i k e) τ=bnd (evR cl e τ) (ue cl i k τ):=rfl
theorem st_app {i:Nat} {e:IR}:evS cl (.app i e) τ=zF cl i e τ (ai τ i):=rfl
noncomputable def rtK (p:D×Ev):Res Fl:=.ok (.rt p.1)
theorem uf {p:D×Ev}:rtK p=.ok (.rt p.1):=rfl
theorem st_ret {e:IR}:evS cl (.ret e) τ=bnd (evO cl true e τ) rtK:=rfl
noncomputable def ifK (cl:Nat->List D->Res D) (a b:List IS) (τ:Ev) (r:Bool):Res Fl:=if r=true then bh cl a τ else bh cl b τ
theorem ug {a b:List IS} {r:Bool}:ifK cl a b τ r=if r=true then bh cl a τ else bh cl b τ:=rfl
theorem st_if {t:IR} {a b:List IS}:evS cl (.if_ t a b) τ=bnd (evT cl t τ) (ifK cl a b τ):=rfl
noncomputable def turn (cl:Nat->List D->Res D) (tg:Tg) (body:List IS) (x:D) (τ:Ev):Res Fl:=bnd (bD tg x τ) (bh cl body)
theorem ah {tg:Tg} {body:List IS} {x:D}:turn cl tg body x τ=bnd (bD tg x τ) (bh cl body):=rfl
noncomputable def zI (cl:Nat->List D->Res D) (tg:Tg) (body:List IS) (p:List D×Ev):Res Fl:=forM (turn cl tg body) p.1 p.2
theorem o7 {tg:Tg} {body:List IS} {p:List D×Ev}:zI cl tg body p=forM (turn cl tg body) p.1 p.2:=rfl
theorem st_for {tg:Tg} {s:Sr} {body:List IS}:evS cl (.for_ tg s body) τ=bnd (jE cl s τ) (zI cl tg body):=rfl
noncomputable def wW (f:Ev->Res Fl):Fl->Res Fl
 | .nx τ'=>f τ'
 | .ct τ'=>.ok (.ct τ')
 | .bk τ'=>.ok (.bk τ')
 | .rt d=>.ok (.rt d)
theorem zJ:bh cl [] τ=.ok (.nx τ):=rfl
theorem zK {s:IS} {r:List IS}:bh cl (s::r) τ=bnd (evS cl s τ) (wW (bh cl r)):=rfl
theorem uh {f:Ev->Res Fl}:wW f (.nx τ)=f τ:=rfl
theorem ui {f:Ev->Res Fl} {d:D}:wW f (.rt d)=.ok (.rt d):=rfl
noncomputable def zL (τ:Ev) (its:List D):Res (List D×Ev):=.ok (its,τ)
theorem o8 {its:List D}:zL τ its=.ok (its,τ):=rfl
noncomputable def uj (e:IR) (τ:Ev) (its:List D):Res (List D×Ev):=.ok (ers its,frz (vars e) τ)
theorem kQ {e:IR} {its:List D}:uj e τ its=.ok (ers its,frz (vars e) τ):=rfl
theorem uk {n:IR}:jE cl (.rng1 n) τ=bnd (cR cl (.rng1 n) τ) (zL τ):=rfl
theorem um {e:IR}:jE cl (.val e) τ=bnd (cR cl (.val e) τ) (uj e τ):=rfl
noncomputable def zM (body:D->Ev->Res Fl) (xs:List D):Fl->Res Fl
 | .nx τ'=>forM body xs τ'
 | .ct τ'=>forM body xs τ'
 | .bk τ'=>.ok (.nx τ')
 | .rt d=>.ok (.rt d)
theorem aU {body:D->Ev->Res Fl} {x:D} {xs:List D}:forM body (x::xs) τ=bnd (body x τ) (zM body xs):=rfl
theorem aZ {body:D->Ev->Res Fl} {xs:List D}:zM body xs (.nx τ)=forM body xs τ:=rfl
theorem zN {i:Nat} {d:D}:bD (.nm i) d τ=.ok (τ.set i (some d)):=rfl
theorem zO {ts:List Tg} {ds:List D}:bD (.tp ts) (.tup ds) τ=grd (decide (ds.length=ts.length)) (dk ts ds τ):=rfl
theorem uo:dk [] [] τ=.ok τ:=rfl
theorem uq {t:Tg} {ts:List Tg} {d:D} {ds:List D}:dk (t::ts) (d::ds) τ=bnd (bD t d τ) (dk ts ds):=rfl
theorem zP {o:Option D}:ai (o::τ) 0=o:=by unfold ai;simp
theorem zQ {o:Option D} {i:Nat}:ai (o::τ) (i + 1)=ai τ i:=bx
theorem ur {o p:Option D}:(o::τ).set 0 p=p::τ:=rfl
theorem uu {o p:Option D} {i:Nat}:(o::τ).set (i + 1) p=o::τ.set i p:=rfl
theorem uv {a b:Int}:opB .add (.int a) (.int b)=.ok (.int (a + b)):=rfl
theorem o9 {a b:Str}:opB .add (.str a) (.str b)=grd (aL (a.length + b.length)) (.ok (.str (a++b))):=rfl
theorem pf {o o':Bool} {a b:List D}:opB .add (.lst o a) (.lst o' b)=grd (aL (a.length + b.length)) (.ok (.lst true (a++b))):=rfl
theorem uw {a b:Int}:opB .sub (.int a) (.int b)=.ok (.int (a - b)):=rfl
theorem zR {a b:Int}:opB .mul (.int a) (.int b)=grd (decide (-(2 ^ 64) < a/\a < 2 ^ 64) || decide (-(2 ^ 64) < b/\b < 2 ^ 64)) (.ok (.int (a * b))):=rfl
theorem wX {a b:Int}:opB .fdiv (.int a) (.int b)=grd (decide (0 < b/\b < 1073741824)) (.ok (.int (a / b))):=rfl
theorem zS {a b:Int}:opB .mod (.int a) (.int b)=grd (decide (0 < b)) (.ok (.int (a % b))):=rfl
theorem x_l {o:Bool} {ds:List D} {i:Int}:bo (.lst o ds) (.int i)=(match atI ds i with | some d=>.ok d | none=>stk):=rfl
theorem x_t {ds:List D} {i:Int}:bo (.tup ds) (.int i)=(match atI ds i with | some d=>.ok d | none=>stk):=rfl
theorem x_s {z:Str} {i:Int}:bo (.str z) (.int i)=grd (aL z.length) (match atI z.cps.toList i with | some c=>.ok (.str ⟨#[c]⟩) | none=>stk):=rfl
theorem zT {o:Bool} {ds:List D} {lo hi:Option Int}:iM (.lst o ds) lo hi=.ok (.lst true (dh ds lo hi)):=rfl
theorem zU {z:Str} {lo hi:Option Int}:iM (.str z) lo hi=grd (aL z.length) (.ok (.str (Txt.slice z lo hi))):=rfl
theorem zV {b:Bool}:aI (.bl b)=.ok b:=rfl
theorem zW {a b:D}:opC .eq a b=eqN 40 a b:=by cases a<;>cases b<;>rfl
noncomputable def zX (r:Bool):Res Bool:=.ok !r
theorem ph {r:Bool}:zX r=.ok !r:=rfl
theorem zY {a b:D}:opC .ne a b=bnd (eqN 40 a b) zX:=by cases a<;>cases b<;>rfl
theorem zZ {n:Nat} {a b:Int}:eqN (n + 1) (.int a) (.int b)=.ok (a == b):=rfl
theorem Aa {n:Nat} {a b:Str}:eqN (n + 1) (.str a) (.str b)=.ok (a == b):=rfl
theorem Ab {n:Nat} {a b:Bool}:eqN (n + 1) (.bl a) (.bl b)=.ok (a == b):=rfl
theorem Ac {a b:Int}:opC .lt (.int a) (.int b)=.ok (decide (a < b)):=rfl
theorem Ad {a b:Int}:opC .gt (.int a) (.int b)=.ok (decide (b < a)):=rfl
theorem ux {a:D} {o:Bool} {ds:List D}:opC .in_ a (.lst o ds)=anyN a ds:=by cases a<;>rfl
theorem Ae {a:D}:opC .is_ a .non=.ok (cU a):=by cases a<;>rfl
theorem n_n:cU .non=true:=rfl
theorem n_i {i:Int}:cU (.int i)=false:=rfl
theorem n_s {i:Str}:cU (.str i)=false:=rfl
theorem n_b {b:Bool}:cU (.bl b)=false:=rfl
theorem n_t {ds:List D}:cU (.tup ds)=false:=rfl
theorem n_l {o:Bool} {ds:List D}:cU (.lst o ds)=false:=rfl
theorem uy {a:D} {ds:List D}:opC .in_ a (.tup ds)=anyN a ds:=by cases a<;>rfl
theorem Af {d:D}:anyN d []=.ok false:=rfl
noncomputable def wY (x y:Bool):Res Bool:=.ok (x || y)
theorem pj {x y:Bool}:wY x y=.ok (x || y):=rfl
noncomputable def anK (d:D) (r:List D) (x:Bool):Res Bool:=bnd (anyN d r) (wY x)
theorem uz {d:D} {r:List D} {x:Bool}:anK d r x=bnd (anyN d r) (wY x):=rfl
theorem Ag {d e:D} {r:List D}:anyN d (e::r)=bnd (eqN 40 e d) (anK d r):=rfl
theorem uA {x:Str}:cO .len [.str x]=grd (aL x.length) (.ok (.int x.length)):=rfl
theorem uB {ds:List D}:cO .len [.tup ds]=.ok (.int ds.length):=rfl
theorem uC {o:Bool} {ds:List D}:cO .len [.lst o ds]=.ok (.int ds.length):=rfl
theorem pq {a b:Int}:cO .min2 [.int a,.int b]=.ok (.int (if b < a then b else a)):=rfl
theorem pw {a b:Int}:cO .max2 [.int a,.int b]=.ok (.int (if b > a then b else a)):=rfl
theorem kR {o:Bool} {ds:List D}:cO .tuple [.lst o ds]=.ok (.tup ds):=rfl
theorem pA (ns:List Str):aP (ns.map .str)=some ns:=by
 induction ns with
 | nil=>rfl
 | cons n ns ih=>
  show (aP (ns.map .str)).map (n::·)=_
  rw[ih]
  rfl
theorem sd {x:Str} {o:Bool} {ys:List Str} (h:(ys.map (·.length)).sum + ys.length * x.length<=16777216):fI .join (.str x) [.lst o (ys.map .str)]=.ok (.str (Txt.join x ys)):=by
 show (match aP (ys.map .str) with | some ys=>grd (decide ((ys.map (fun y:Str=>y.length)).sum + ys.length * x.length<=16777216)) (.ok (.str (Txt.join x ys))) | none=>stk)=(_:Res D)
 rw[pA]
 show grd (decide _) _=_
 rw[decide_eq_true h]
 rfl
theorem uD {x:Str}:cW (.str x)=true:=rfl
theorem pB {x:Str}:bf .str (.str x)=true:=rfl
theorem pC {x:Int}:bf .int (.int x)=true:=rfl
theorem pE {x:Int}:bf .bool (.int x)=false:=rfl
theorem pF {x:List D}:bf .tuple (.tup x)=true:=rfl
theorem i6 {i:Int}:bf .str (.int i)=false:=rfl
theorem i7 {ds:List D}:bf .str (.tup ds)=false:=rfl
theorem i8 {o:Bool} {ds:List D}:bf .str (.lst o ds)=false:=rfl
theorem i9 {x:Str}:bf .int (.str x)=false:=rfl
theorem ja {ds:List D}:bf .int (.tup ds)=false:=rfl
theorem jb {o:Bool} {ds:List D}:bf .int (.lst o ds)=false:=rfl
theorem gh {b:Bool}:bf .bool (.bl b)=true:=rfl
theorem gj {x:Str}:bf .bool (.str x)=false:=rfl
theorem gk {ds:List D}:bf .bool (.tup ds)=false:=rfl
theorem gm {o:Bool} {ds:List D}:bf .bool (.lst o ds)=false:=rfl
theorem gn:bf .list (.non)=false:=rfl
theorem gp {b:Bool}:bf .list (.bl b)=false:=rfl
theorem gq {i:Int}:bf .list (.int i)=false:=rfl
theorem gr {x:Str}:bf .list (.str x)=false:=rfl
theorem gu {ds:List D}:bf .list (.tup ds)=false:=rfl
theorem gw {o:Bool} {ds:List D}:bf .list (.lst o ds)=true:=rfl
theorem ft:bf .tuple (.non)=false:=rfl
theorem fw {b:Bool}:bf .tuple (.bl b)=false:=rfl
theorem fx {i:Int}:bf .tuple (.int i)=false:=rfl
theorem fy {x:Str}:bf .tuple (.str x)=false:=rfl
theorem fA {o:Bool} {ds:List D}:bf .tuple (.lst o ds)=false:=rfl
theorem pH (ns:List Int):ae (ns.map .int)=true:=by
 rw[bL,List.all_map,List.all_eq_true]
 intro x _
 rfl
theorem wZ (ns:List Str):ae (ns.map .str)=true:=by
 rw[bL,List.all_map,List.all_eq_true]
 intro x _
 rfl
theorem Ah {i:Int}:er (.int i)=.int i:=by rw[er]
theorem Ai {i:Str}:er (.str i)=.str i:=by rw[er]
theorem Aj {i:Bool}:er (.bl i)=.bl i:=by rw[er]
theorem Ak:er .non=.non:=by rw[er]
theorem Al {ds:List D}:er (.tup ds)=.tup (ers ds):=by rw[er]
theorem Am {o:Bool} {ds:List D}:er (.lst o ds)=.lst false (ers ds):=by rw[er]
theorem uE:ers []=[]:=by rw[ers]
theorem uF {d:D} {ds:List D}:ers (d::ds)=er d::ers ds:=by rw[ers]
theorem jQ (ns:List Int):ers (ns.map .int)=ns.map .int:=aK (pH ns)
theorem pI (ns:List Str):ers (ns.map .str)=ns.map .str:=aK (wZ ns)
theorem uG {i:Int}:ao (.int i)=true:=rfl
theorem uH {i:Str}:ao (.str i)=true:=rfl
theorem uI {i:Bool}:ao (.bl i)=true:=rfl
theorem uJ {ds:List D}:ao (.tup ds)=ae ds:=rfl
theorem uK {o:Bool} {ds:List D}:ao (.lst o ds)=false:=rfl
theorem pJ:ae []=true:=rfl
theorem pK {d:D} {ds:List D}:ae (d::ds)=(ao d && ae ds):=rfl
noncomputable def w4:Fl->Res D
 | .nx _=>.ok .non
 | .rt d=>.ok d
 | _=>stk
theorem run {fn:Fn} {ds:List D} (h:ds.length=fn.np):gK cl fn ds=bnd (bh cl fn.body (ds.map some++List.replicate (fn.G.N.length - fn.np) none)) w4:=by
 unfold gK
 rw[decide_eq_true h]
 rfl
theorem pL {d:D}:w4 (.rt d)=.ok d:=rfl
theorem call {T:Tb} {n f:Nat} {fn:Fn} {ds:List D} (h:T f=some fn):af T (n + 1) f ds=gK (af T n) fn ds:=by
 show (match T f with | some fn=>gK (af T n) fn ds | none=>stk)=_
 rw[h]
theorem go {T:Tb} {n f:Nat} {fn:Fn} {ds:List D} {m k:Nat} {body:List IS} (h:T f=some fn) (h1:fn.np=m) (h2:fn.G.N.length=k) (h3:fn.body=body) (hl:ds.length=m) :
  af T (n + 1) f ds=bnd (bh (af T n) body (ds.map some++List.replicate (k - m) none)) w4:=by
 rw[call h,run (by rw[hl,h1]),h1,h2,h3]
end
end Ev
namespace Ev
section
variable {cl:Nat->List D->Res D} {τ:Ev}
theorem line:sizeLine=16777216:=sizeLine_eq
theorem pM {a b:Int} (h1 : -18446744073709551616 < a) (h2:a < 18446744073709551616):opB .mul (.int a) (.int b)=.ok (.int (a * b)):=by
 rw[zR,decide_eq_true (show -(2 ^ 64) < a/\a < 2 ^ 64 from ⟨by omega,by omega⟩)]
 rfl
theorem pN {a b:Int} (h1:0 < b) (h2:b < 1073741824):opB .fdiv (.int a) (.int b)=.ok (.int (a / b)):=by
 rw[wX,decide_eq_true ⟨h1,h2⟩]
 rfl
theorem uL {a b:Int} (h1:0 < b):opB .mod (.int a) (.int b)=.ok (.int (a % b)):=by
 rw[zS,decide_eq_true h1]
 rfl
theorem jR {n:Nat} (h:n<=16777216):aL n=true:=decide_eq_true (by rw[line];exact h)
theorem jS {n:Nat} (h:n < 16777216):bO n=true:=decide_eq_true (by rw[line];exact h)
theorem kS {i:Int} (h1 : -4611686018427387904<=i) (h2:i < 4611686018427387904):bF i=true:=decide_eq_true ⟨by omega,by omega⟩
theorem kT {α β:Type} (f:α->β) (xs:List α) (i:Int):atI (xs.map f) i=(atI xs i).map f:=by
 unfold atI
 rw[List.length_map]
 cases ixN xs.length i with
 | none=>rfl
 | some j=>exact List.getElem?_map ..
theorem gZ {α:Type} {xs:List α} {i:Int} (d:α) (h0:0<=i) (h1:i < xs.length):atI xs i=some (xs.getD i.toNat d):=by
 unfold atI ixN
 rw[if_pos h0,if_pos h1]
 show xs[i.toNat]? = _
 have:i.toNat < xs.length:=by omega
 rw[List.getD_eq_getElem?_getD,List.getElem?_eq_getElem this]
 rfl
theorem x_i {o:Bool} {xs:List Int} {i:Int} (h0:0<=i) (h1:i < xs.length):bo (.lst o (xs.map .int)) (.int i)=.ok (.int (xs.getD i.toNat 0)):=by
 rw[x_l,kT,gZ 0 h0 h1]
 rfl
theorem sf {o:Bool} {xs:List Str} {i:Int} (h0:0<=i) (h1:i < xs.length):bo (.lst o (xs.map .str)) (.int i)=.ok (.str (xs.getD i.toNat ⟨#[]⟩)):=by
 rw[x_l,kT,gZ ⟨#[]⟩ h0 h1]
 rfl
theorem x_c {z:Str} {i:Int} (h0:0<=i) (h1:i < z.length) (hz:z.length<=16777216):bo (.str z) (.int i)=.ok (.str ⟨#[z.cps.toList.getD i.toNat 0]⟩):=by
 rw[x_s,jR hz]
 have hl:z.cps.toList.length=z.length:=by simp[Str.length]
 rw[gZ 0 h0 (by rw[hl];exact h1)]
 rfl
theorem w8 {α:Type} (xs:List α) {m:Int} (h:0<=m):dh xs none (some m)=xs.take m.toNat:=by
 unfold dh HT.sIx
 simp only[List.drop_zero,Nat.sub_zero]
 rw[if_neg (by omega)]
 by_cases hm:m.toNat<=xs.length
 ·rw[show min m.toNat xs.length=m.toNat from Nat.min_eq_left hm]
 ·rw[show min m.toNat xs.length=xs.length from Nat.min_eq_right (by omega),List.take_length,List.take_of_length_le (by omega)]
noncomputable def fz:Bool->Option D->Option D
 | true,some d=>some (er d)
 | true,none=>none
 | false,o=>o
theorem An {d:D}:fz true (some d)=some (er d):=rfl
theorem Ao {o:Option D}:fz false o=o:=rfl
theorem uM {is:List Nat} {k:Nat}:fJ is k []=[]:=rfl
theorem uN {is:List Nat} {k:Nat} {o:Option D} {τ:Ev}:fJ is k (o::τ)=fz (is.contains k) o::fJ is (k + 1) τ:=by
 show (if is.contains k then o.map er else o)::fJ is (k + 1) τ=_
 cases is.contains k<;>cases o<;>rfl
theorem Ap {d:D}:vars (.c d)=[]:=rfl
theorem Aq {i:Nat}:vars (.v i)=[i]:=rfl
theorem pO {o:BOp} {a b:IR}:vars (.bin o a b)=vars a++vars b:=rfl
theorem pP {es:List IR}:vars (.tup es)=au es:=rfl
theorem pQ {es:List IR}:vars (.lst es)=au es:=rfl
theorem kU {f:Nat} {es:List IR}:vars (.call f es)=au es:=rfl
theorem uO {f:Bi} {es:List IR}:vars (.bi f es)=au es:=rfl
theorem pR {a i:IR}:vars (.idx a i)=vars a++vars i:=rfl
theorem uP:au []=[]:=rfl
theorem uQ {e:IR} {es:List IR}:au (e::es)=vars e++au es:=rfl
theorem kW {G:Gm} {fr:List Nat} {t:Tg} {s:Sr} {i:List IR} {e:IR}:av (.comp G fr t s i e)=true:=rfl
theorem pT {a b:IR}:av (.bin .add a b)=true:=rfl
theorem uR {a:IR} {b c:Option IR}:av (.sl a b c)=true:=rfl
theorem pU {a i:IR}:av (.idx a i)=false:=rfl
theorem Ar {e:IR} {o:Bool} {ds:List D} {τ:Ev}:aE e (.lst o ds) τ=cond (av e) (cond (ae ds) (.lst true ds,τ) (.lst true (ers ds),frz (vars e) τ)) (.lst false (ers ds),frz (vars e) τ):=by
 unfold aE
 rw[if_neg (show ¬ ao (.lst o ds)=true by intro z;cases z)]
 cases av e
 ·exact Prod.ext (by show er (.lst o ds)=_;rw[er];rfl) rfl
 ·show (if ae ds=true then _ else _)=_
  cases ae ds<;>rfl
theorem As {e:IR} {ds:List D} {τ:Ev}:aE e (.tup ds) τ=cond (ae ds) (.tup ds,τ) (.tup (ers ds),frz (vars e) τ):=by
 unfold aE
 cases h:ae ds with
 | true=>rw[if_pos (show ao (.tup ds)=true from h)];rfl
 | false=>
  rw[if_neg (show ¬ ao (.tup ds)=true by intro z;rw[show ao (.tup ds)=ae ds from rfl,h] at z;cases z)]
  cases av e<;>exact Prod.ext (by show er (.tup ds)=_;rw[er];rfl) rfl
theorem kX {body:D->Ev->Res Fl} (P:Nat->Ev->Prop):∀ (its:List D) (k:Nat) (τ:Ev),P k τ->(∀ (i:Nat) (x:D) (τ:Ev),its[i]? = some x->P (k + i) τ->∃ τ',body x τ=.ok (.nx τ')/\P (k + i + 1) τ')->∃ τ',forM body its τ=.ok (.nx τ')/\P (k + its.length) τ'
 | [],k,τ,h,_=>⟨τ,rfl,h⟩
 | x::xs,k,τ,h,hb=>by
  obtain⟨τ1,e1,h1⟩:=hb 0 x τ rfl h
  obtain⟨τ2,e2,h2⟩:=kX P xs (k + 1) τ1 h1 fun i y σ hy hp=>by
   obtain⟨τ',e',h'⟩:=hb (i + 1) y σ (by simpa using hy) (by rw[show k + (i + 1)=k + 1 + i by omega];exact hp)
   exact⟨τ',e',by rw[show k + 1 + i + 1=k + (i + 1) + 1 by omega];exact h'⟩
  refine⟨τ2,?_,by rw[List.length_cons,show k + (xs.length + 1)=k + 1 + xs.length by omega];exact h2⟩
  rw[aU,e1,aY,aZ,e2]
theorem g7 {body:D->Ev->Res Fl} (P:Nat->Ev->Prop) {its:List D} {τ:Ev} (h:P 0 τ) (hb:∀ (i:Nat) (x:D) (τ:Ev),its[i]? = some x->P i τ->∃ τ',body x τ=.ok (.nx τ')/\P (i + 1) τ'):∃ τ',forM body its τ=.ok (.nx τ')/\P its.length τ':=by
 obtain⟨τ',h1,h2⟩:=kX P its 0 τ h fun i x τ hx hp=>by
  rw[Nat.zero_add] at hp ⊢
  exact hb i x τ hx hp
 exact⟨τ',h1,by rw[Nat.zero_add] at h2;exact h2⟩
theorem cn {α β:Type} {g:D->Res (Option D)} (emb:α->D) (out:α->β) (emb':β->D):∀ (xs:List α),(∀ x ∈ xs,g (emb x)=.ok (some (emb' (out x))))->aA g (xs.map emb)=.ok ((xs.map out).map emb')
 | [],_=>rfl
 | x::xs,h=>by
  show bnd (g (emb x)) _=_
  rw[h x (by simp)]
  show bnd (aA g (xs.map emb)) _=_
  rw[cn emb out emb' xs fun y hy=>h y (List.mem_cons_of_mem _ hy)]
  rfl
theorem uS {α:Type} {a:α}:noX (.ok a:Res α)=.ok a:=rfl
end
end Ev
theorem ev0:type_of% (And.intro (And.intro (And.intro (And.intro (And.intro (And.intro (And.intro (And.intro @Ev.aY @Ev.ti) (And.intro @Ev.r_c @Ev.r_v)) (And.intro (And.intro @Ev.nZ @Ev.tj) (And.intro @Ev.tm @Ev.n0))) (And.intro (And.intro (And.intro @Ev.tq @Ev.kD) (And.intro @Ev.n8 @Ev.tu)) (And.intro (And.intro @Ev.kE @Ev.og) (And.intro @Ev.tw (And.intro @Ev.oh @Ev.tD))))) (And.intro (And.intro (And.intro (And.intro @Ev.yX @Ev.kF) (And.intro @Ev.om @Ev.tE)) (And.intro (And.intro @Ev.oo @Ev.tF) (And.intro @Ev.oq (And.intro @Ev.tG @Ev.ot)))) (And.intro (And.intro (And.intro @Ev.tH @Ev.ou) (And.intro @Ev.tI @Ev.y0)) (And.intro (And.intro @Ev.kG @Ev.ox) (And.intro @Ev.y3 (And.intro @Ev.oy @Ev.za)))))) (And.intro (And.intro (And.intro (And.intro (And.intro @Ev.zb @Ev.zd) (And.intro @Ev.ze @Ev.zf)) (And.intro (And.intro @Ev.zg @Ev.oz) (And.intro @Ev.oA (And.intro @Ev.tK @Ev.oB)))) (And.intro (And.intro (And.intro @Ev.tL @Ev.oC) (And.intro @Ev.tO @Ev.oD)) (And.intro (And.intro @Ev.kH @Ev.oE) (And.intro @Ev.zj (And.intro @Ev.kI @Ev.tR))))) (And.intro (And.intro (And.intro (And.intro @Ev.zk @Ev.oG) (And.intro @Ev.zo @Ev.zp)) (And.intro (And.intro @Ev.zq @Ev.tS) (And.intro @Ev.zr (And.intro @Ev.kJ @Ev.zt)))) (And.intro (And.intro (And.intro @Ev.oI @Ev.i3) (And.intro @Ev.i4 @Ev.tV)) (And.intro (And.intro @Ev.tW @Ev.zv) (And.intro @Ev.zw (And.intro @Ev.zx @Ev.t_t))))))) (And.intro (And.intro (And.intro (And.intro (And.intro (And.intro @Ev.o_v @Ev.kK) (And.intro @Ev.o_tup @Ev.kL)) (And.intro (And.intro @Ev.o_lst @Ev.gf) (And.intro @Ev.i5 (And.intro @Ev.o_call @Ev.kM)))) (And.intro (And.intro (And.intro @Ev.o_c @Ev.tZ) (And.intro @Ev.t5 @Ev.t6)) (And.intro (And.intro @Ev.t7 @Ev.zA) (And.intro @Ev.zB (And.intro @Ev.o_dnew @Ev.oK))))) (And.intro (And.intro (And.intro (And.intro @Ev.t9 @Ev.oM) (And.intro @Ev.zC @Ev.oN)) (And.intro (And.intro @Ev.ua @Ev.zD) (And.intro @Ev.ub (And.intro @Ev.oO @Ev.uc)))) (And.intro (And.intro (And.intro @Ev.kN @Ev.oP) (And.intro @Ev.k_i @Ev.k_s)) (And.intro (And.intro @Ev.k_b @Ev.ud) (And.intro @Ev.oQ (And.intro @Ev.st_asg @Ev.oR)))))) (And.intro (And.intro (And.intro (And.intro (And.intro @Ev.oT @Ev.oU) (And.intro @Ev.oV @Ev.oW)) (And.intro (And.intro @Ev.oX @Ev.oY) (And.intro @Ev.st_ext (And.intro @Ev.oZ @Ev.o4)))) (And.intro (And.intro (And.intro @Ev.o5 @Ev.o6) (And.intro @Ev.st_ins @Ev.gY)) (And.intro (And.intro @Ev.kP @Ev.st_dset) (And.intro @Ev.st_app (And.intro @Ev.uf @Ev.st_ret))))) (And.intro (And.intro (And.intro (And.intro @Ev.ug @Ev.st_if) (And.intro @Ev.o7 @Ev.st_for)) (And.intro (And.intro @Ev.zJ @Ev.zK) (And.intro @Ev.uh (And.intro @Ev.ui @Ev.o8)))) (And.intro (And.intro (And.intro @Ev.kQ @Ev.uk) (And.intro @Ev.um @Ev.aU)) (And.intro (And.intro @Ev.aZ @Ev.zN) (And.intro @Ev.zO (And.intro @Ev.uo @Ev.uq)))))))) (And.intro (And.intro (And.intro (And.intro (And.intro (And.intro (And.intro @Ev.zP @Ev.zQ) (And.intro @Ev.ur @Ev.uu)) (And.intro (And.intro @Ev.uv @Ev.o9) (And.intro @Ev.pf (And.intro @Ev.uw @Ev.x_t)))) (And.intro (And.intro (And.intro @Ev.zT @Ev.zU) (And.intro @Ev.zV @Ev.zW)) (And.intro (And.intro @Ev.ph @Ev.zY) (And.intro @Ev.zZ (And.intro @Ev.Aa @Ev.Ab))))) (And.intro (And.intro (And.intro (And.intro @Ev.Ac @Ev.Ad) (And.intro @Ev.ux @Ev.Ae)) (And.intro (And.intro @Ev.n_n @Ev.n_i) (And.intro @Ev.n_s (And.intro @Ev.n_b @Ev.n_t)))) (And.intro (And.intro (And.intro @Ev.n_l @Ev.uy) (And.intro @Ev.Af @Ev.pj)) (And.intro (And.intro @Ev.uz @Ev.Ag) (And.intro @Ev.uA (And.intro @Ev.uB @Ev.uC)))))) (And.intro (And.intro (And.intro (And.intro (And.intro @Ev.pq @Ev.pw) (And.intro @Ev.kR @Ev.uD)) (And.intro (And.intro @Ev.pB @Ev.pC) (And.intro @Ev.pE (And.intro @Ev.pF @Ev.i6)))) (And.intro (And.intro (And.intro @Ev.i7 @Ev.i8) (And.intro @Ev.i9 @Ev.ja)) (And.intro (And.intro @Ev.jb @Ev.gh) (And.intro @Ev.gj (And.intro @Ev.gk @Ev.gm))))) (And.intro (And.intro (And.intro (And.intro @Ev.gn @Ev.gp) (And.intro @Ev.gq @Ev.gr)) (And.intro (And.intro @Ev.gu @Ev.gw) (And.intro @Ev.ft (And.intro @Ev.fw @Ev.fx)))) (And.intro (And.intro (And.intro @Ev.fy @Ev.fA) (And.intro @Ev.Ah @Ev.Ai)) (And.intro (And.intro @Ev.Aj @Ev.Ak) (And.intro @Ev.Al (And.intro @Ev.Am @Ev.uE))))))) (And.intro (And.intro (And.intro (And.intro (And.intro (And.intro @Ev.uF @Ev.jQ) (And.intro @Ev.pI @Ev.uG)) (And.intro (And.intro @Ev.uH @Ev.uI) (And.intro @Ev.uJ (And.intro @Ev.uK @Ev.pJ)))) (And.intro (And.intro (And.intro @Ev.pK @Ev.pL) (And.intro @Ev.pM @Ev.pN)) (And.intro (And.intro @Ev.uL @Ev.jR) (And.intro @Ev.jS (And.intro @Ev.kS @Ev.x_i))))) (And.intro (And.intro (And.intro (And.intro @Ev.sf @Ev.x_c) (And.intro @Ev.uS @Ev.An)) (And.intro (And.intro @Ev.Ao @Ev.uM) (And.intro @Ev.uN (And.intro @Ev.Ap @Ev.Aq)))) (And.intro (And.intro (And.intro @Ev.pO @Ev.pP) (And.intro @Ev.pQ @Ev.kU)) (And.intro (And.intro @Ev.uO @Ev.pR) (And.intro @Ev.uP (And.intro @Ev.uQ @Ev.kW)))))) (And.intro (And.intro (And.intro (And.intro (And.intro @Ev.pT @Ev.uR) (And.intro @Ev.pU @Ev.Ar)) (And.intro (And.intro @Ev.As @cond_true.{1}) (And.intro @cond_false.{1} (And.intro @Ev.pH @Ev.wZ)))) (And.intro (And.intro (And.intro @List.contains_cons.{0} @List.contains_nil.{0}) (And.intro @Bool.or_false @Bool.or_true)) (And.intro (And.intro @Bool.true_or @Bool.false_or) (And.intro @List.map_cons.{0,0} (And.intro @List.map_nil.{0,0} @List.cons_append.{0}))))) (And.intro (And.intro (And.intro (And.intro @List.nil_append.{0} @List.replicate_succ.{0}) (And.intro @List.replicate_zero.{0} @List.length_cons.{0})) (And.intro (And.intro @List.length_nil.{0} @Nat.zero_add) (And.intro @decide_true (And.intro @Bool.and_self @Bool.not_true)))) (And.intro (And.intro (And.intro @Bool.not_false @Bool.and_true) (And.intro @Bool.true_and @Bool.and_false)) (And.intro (And.intro @Bool.false_and @beq_self_eq_true.{0}) (And.intro @if_true.{1} (And.intro @if_false.{1} @Bool.false_eq_true))))))))):=⟨⟨⟨⟨⟨⟨⟨⟨@Ev.aY,@Ev.ti⟩,⟨@Ev.r_c,@Ev.r_v⟩⟩,⟨⟨@Ev.nZ,@Ev.tj⟩,⟨@Ev.tm,@Ev.n0⟩⟩⟩,⟨⟨⟨@Ev.tq,@Ev.kD⟩,⟨@Ev.n8,@Ev.tu⟩⟩,⟨⟨@Ev.kE,@Ev.og⟩,⟨@Ev.tw,⟨@Ev.oh,@Ev.tD⟩⟩⟩⟩⟩,⟨⟨⟨⟨@Ev.yX,@Ev.kF⟩,⟨@Ev.om,@Ev.tE⟩⟩,⟨⟨@Ev.oo,@Ev.tF⟩,⟨@Ev.oq,⟨@Ev.tG,@Ev.ot⟩⟩⟩⟩,⟨⟨⟨@Ev.tH,@Ev.ou⟩,⟨@Ev.tI,@Ev.y0⟩⟩,⟨⟨@Ev.kG,@Ev.ox⟩,⟨@Ev.y3,⟨@Ev.oy,@Ev.za⟩⟩⟩⟩⟩⟩,⟨⟨⟨⟨⟨@Ev.zb,@Ev.zd⟩,⟨@Ev.ze,@Ev.zf⟩⟩,⟨⟨@Ev.zg,@Ev.oz⟩,⟨@Ev.oA,⟨@Ev.tK,@Ev.oB⟩⟩⟩⟩,⟨⟨⟨@Ev.tL,@Ev.oC⟩,⟨@Ev.tO,@Ev.oD⟩⟩,⟨⟨@Ev.kH,@Ev.oE⟩,⟨@Ev.zj,⟨@Ev.kI,@Ev.tR⟩⟩⟩⟩⟩,⟨⟨⟨⟨@Ev.zk,@Ev.oG⟩,⟨@Ev.zo,@Ev.zp⟩⟩,⟨⟨@Ev.zq,@Ev.tS⟩,⟨@Ev.zr,⟨@Ev.kJ,@Ev.zt⟩⟩⟩⟩,⟨⟨⟨@Ev.oI,@Ev.i3⟩,⟨@Ev.i4,@Ev.tV⟩⟩,⟨⟨@Ev.tW,@Ev.zv⟩,⟨@Ev.zw,⟨@Ev.zx,@Ev.t_t⟩⟩⟩⟩⟩⟩⟩,⟨⟨⟨⟨⟨⟨@Ev.o_v,@Ev.kK⟩,⟨@Ev.o_tup,@Ev.kL⟩⟩,⟨⟨@Ev.o_lst,@Ev.gf⟩,⟨@Ev.i5,⟨@Ev.o_call,@Ev.kM⟩⟩⟩⟩,⟨⟨⟨@Ev.o_c,@Ev.tZ⟩,⟨@Ev.t5,@Ev.t6⟩⟩,⟨⟨@Ev.t7,@Ev.zA⟩,⟨@Ev.zB,⟨@Ev.o_dnew,@Ev.oK⟩⟩⟩⟩⟩,⟨⟨⟨⟨@Ev.t9,@Ev.oM⟩,⟨@Ev.zC,@Ev.oN⟩⟩,⟨⟨@Ev.ua,@Ev.zD⟩,⟨@Ev.ub,⟨@Ev.oO,@Ev.uc⟩⟩⟩⟩,⟨⟨⟨@Ev.kN,@Ev.oP⟩,⟨@Ev.k_i,@Ev.k_s⟩⟩,⟨⟨@Ev.k_b,@Ev.ud⟩,⟨@Ev.oQ,⟨@Ev.st_asg,@Ev.oR⟩⟩⟩⟩⟩⟩,⟨⟨⟨⟨⟨@Ev.oT,@Ev.oU⟩,⟨@Ev.oV,@Ev.oW⟩⟩,⟨⟨@Ev.oX,@Ev.oY⟩,⟨@Ev.st_ext,⟨@Ev.oZ,@Ev.o4⟩⟩⟩⟩,⟨⟨⟨@Ev.o5,@Ev.o6⟩,⟨@Ev.st_ins,@Ev.gY⟩⟩,⟨⟨@Ev.kP,@Ev.st_dset⟩,⟨@Ev.st_app,⟨@Ev.uf,@Ev.st_ret⟩⟩⟩⟩⟩,⟨⟨⟨⟨@Ev.ug,@Ev.st_if⟩,⟨@Ev.o7,@Ev.st_for⟩⟩,⟨⟨@Ev.zJ,@Ev.zK⟩,⟨@Ev.uh,⟨@Ev.ui,@Ev.o8⟩⟩⟩⟩,⟨⟨⟨@Ev.kQ,@Ev.uk⟩,⟨@Ev.um,@Ev.aU⟩⟩,⟨⟨@Ev.aZ,@Ev.zN⟩,⟨@Ev.zO,⟨@Ev.uo,@Ev.uq⟩⟩⟩⟩⟩⟩⟩⟩,⟨⟨⟨⟨⟨⟨⟨@Ev.zP,@Ev.zQ⟩,⟨@Ev.ur,@Ev.uu⟩⟩,⟨⟨@Ev.uv,@Ev.o9⟩,⟨@Ev.pf,⟨@Ev.uw,@Ev.x_t⟩⟩⟩⟩,⟨⟨⟨@Ev.zT,@Ev.zU⟩,⟨@Ev.zV,@Ev.zW⟩⟩,⟨⟨@Ev.ph,@Ev.zY⟩,⟨@Ev.zZ,⟨@Ev.Aa,@Ev.Ab⟩⟩⟩⟩⟩,⟨⟨⟨⟨@Ev.Ac,@Ev.Ad⟩,⟨@Ev.ux,@Ev.Ae⟩⟩,⟨⟨@Ev.n_n,@Ev.n_i⟩,⟨@Ev.n_s,⟨@Ev.n_b,@Ev.n_t⟩⟩⟩⟩,⟨⟨⟨@Ev.n_l,@Ev.uy⟩,⟨@Ev.Af,@Ev.pj⟩⟩,⟨⟨@Ev.uz,@Ev.Ag⟩,⟨@Ev.uA,⟨@Ev.uB,@Ev.uC⟩⟩⟩⟩⟩⟩,⟨⟨⟨⟨⟨@Ev.pq,@Ev.pw⟩,⟨@Ev.kR,@Ev.uD⟩⟩,⟨⟨@Ev.pB,@Ev.pC⟩,⟨@Ev.pE,⟨@Ev.pF,@Ev.i6⟩⟩⟩⟩,⟨⟨⟨@Ev.i7,@Ev.i8⟩,⟨@Ev.i9,@Ev.ja⟩⟩,⟨⟨@Ev.jb,@Ev.gh⟩,⟨@Ev.gj,⟨@Ev.gk,@Ev.gm⟩⟩⟩⟩⟩,⟨⟨⟨⟨@Ev.gn,@Ev.gp⟩,⟨@Ev.gq,@Ev.gr⟩⟩,⟨⟨@Ev.gu,@Ev.gw⟩,⟨@Ev.ft,⟨@Ev.fw,@Ev.fx⟩⟩⟩⟩,⟨⟨⟨@Ev.fy,@Ev.fA⟩,⟨@Ev.Ah,@Ev.Ai⟩⟩,⟨⟨@Ev.Aj,@Ev.Ak⟩,⟨@Ev.Al,⟨@Ev.Am,@Ev.uE⟩⟩⟩⟩⟩⟩⟩,⟨⟨⟨⟨⟨⟨@Ev.uF,@Ev.jQ⟩,⟨@Ev.pI,@Ev.uG⟩⟩,⟨⟨@Ev.uH,@Ev.uI⟩,⟨@Ev.uJ,⟨@Ev.uK,@Ev.pJ⟩⟩⟩⟩,⟨⟨⟨@Ev.pK,@Ev.pL⟩,⟨@Ev.pM,@Ev.pN⟩⟩,⟨⟨@Ev.uL,@Ev.jR⟩,⟨@Ev.jS,⟨@Ev.kS,@Ev.x_i⟩⟩⟩⟩⟩,⟨⟨⟨⟨@Ev.sf,@Ev.x_c⟩,⟨@Ev.uS,@Ev.An⟩⟩,⟨⟨@Ev.Ao,@Ev.uM⟩,⟨@Ev.uN,⟨@Ev.Ap,@Ev.Aq⟩⟩⟩⟩,⟨⟨⟨@Ev.pO,@Ev.pP⟩,⟨@Ev.pQ,@Ev.kU⟩⟩,⟨⟨@Ev.uO,@Ev.pR⟩,⟨@Ev.uP,⟨@Ev.uQ,@Ev.kW⟩⟩⟩⟩⟩⟩,⟨⟨⟨⟨⟨@Ev.pT,@Ev.uR⟩,⟨@Ev.pU,@Ev.Ar⟩⟩,⟨⟨@Ev.As,@cond_true.{1}⟩,⟨@cond_false.{1},⟨@Ev.pH,@Ev.wZ⟩⟩⟩⟩,⟨⟨⟨@List.contains_cons.{0},@List.contains_nil.{0}⟩,⟨@Bool.or_false,@Bool.or_true⟩⟩,⟨⟨@Bool.true_or,@Bool.false_or⟩,⟨@List.map_cons.{0,0},⟨@List.map_nil.{0,0},@List.cons_append.{0}⟩⟩⟩⟩⟩,⟨⟨⟨⟨@List.nil_append.{0},@List.replicate_succ.{0}⟩,⟨@List.replicate_zero.{0},@List.length_cons.{0}⟩⟩,⟨⟨@List.length_nil.{0},@Nat.zero_add⟩,⟨@decide_true,⟨@Bool.and_self,@Bool.not_true⟩⟩⟩⟩,⟨⟨⟨@Bool.not_false,@Bool.and_true⟩,⟨@Bool.true_and,@Bool.and_false⟩⟩,⟨⟨@Bool.false_and,@beq_self_eq_true.{0}⟩,⟨@if_true.{1},⟨@if_false.{1},@Bool.false_eq_true⟩⟩⟩⟩⟩⟩⟩⟩⟩
namespace Fr
end Fr
end L2
namespace Law
open PySem L2
noncomputable def top (i:Nat):Stmt:=PySem.Challenge.pw_flagroll_k43_marks_and_cells.main.body.getD i (.Pass ⟨0,0,0,0⟩)
noncomputable def Z:Sg:={nm:=(["is_whole","group_conds","looked_conds","switch_marks","things_told","texts_told","beginnings_told","number_cuts","mark_cells","_law_draw","_law_names","_law_stem","_law_text","_law_center","_law_number","_law_thing","_law_many_things","_law_many_conds","_law_looking","_law_looked","_law_cells","_law_same","_law_copy","law"]:List Str),kst:=[],fns:=[18,19,20,21,22,23,24,25,26,27,28,29,30,31,32,33,34,35,36,37,38,39,40,41],cls:=[],xt:=[],pl:=[],rc:=[],xm:=[]}
noncomputable def b18:List IS:=
 [(.ret (.and_ (.isi (.v 0) .int) (.not_ (.isi (.v 0) .bool))))]
noncomputable def d18:Fn:={np:=1,G:={N:=["thing"],kd:=[.local],gl:=[14,8,16],df:=true},body:=b18}
noncomputable def b19:List IS:=
 [(.asg (.nm 2) (.lst [])),(.for_ (.tp [(.nm 3),(.nm 4)]) (.val (.v 0)) [(.if_ (.din false (.v 3) (.v 1)) [(.for_ (.nm 5) (.val (.v 4)) [(.ext 2 (.v 5))])] [])]),(.ret (.v 2))]
noncomputable def d19:Fn:={np:=2,G:={N:=["groups","names","conds","name","rows","row"],kd:=[.local,.local,.local,.local,.local,.local],gl:=[],df:=true},body:=b19}
noncomputable def b20:List IS:=
 [(.asg (.nm 2) (.lst [])),(.asg (.nm 3) .dnew),(.for_ (.nm 4) (.val (.idx (.v 1) (.c (.int 2)))) [(.for_ (.nm 5) (.val (.idx (.v 4) (.c (.int 0)))) [(.if_ (.cmp .in_ (.idx (.v 5) (.c (.int 1))) (.tup [(.c (.str "in")),(.c (.str "out"))])) [(.dset 3 (.idx (.v 5) (.c (.int 0))) (.c (.bl true)))] [(.app 2 (.v 5))])])]),(.ret (.bin .add (.v 2) (.call 19 [(.v 0),(.v 3)])))]
noncomputable def d20:Fn:={np:=2,G:={N:=["groups","switch","conds","group_names","rule","cond"],kd:=[.local,.local,.local,.local,.local,.local],gl:=[19],df:=true},body:=b20}
noncomputable def b21:List IS:=
 [(.ret (.sset (.comp {N:=["cond"],kd:=[.local],gl:=[],df:=false} [] (.nm 0) (.val (.call 20 [(.v 0),(.v 1)])) [] (.idx (.v 0) (.c (.int 0))))))]
noncomputable def d21:Fn:={np:=2,G:={N:=["groups","switch"],kd:=[.local,.local],gl:=[4,12,20],df:=true},body:=b21}
noncomputable def b22:List IS:=
 [(.asg (.nm 4) (.lst [])),(.for_ (.nm 5) (.val (.call 20 [(.v 0),(.v 1)])) [(.if_ (.and_ (.cmp .eq (.idx (.v 5) (.c (.int 0))) (.v 2)) (.cmp .in_ (.idx (.v 5) (.c (.int 1))) (.v 3))) [(.ext 4 (.idx (.v 5) (.c (.int 2))))] [])]),(.ret (.v 4))]
noncomputable def d22:Fn:={np:=4,G:={N:=["groups","switch","mark","words","things","cond"],kd:=[.local,.local,.local,.local,.local,.local],gl:=[20],df:=true},body:=b22}
noncomputable def b23:List IS:=
 [(.asg (.nm 3) (.call 22 [(.v 0),(.v 1),(.v 2),(.tup [(.c (.str "is")),(.c (.str "not"))])])),(.ret (.sset (.comp {N:=["thing"],kd:=[.local],gl:=[14,11],df:=false} [] (.nm 0) (.val (.v 3)) [(.isi (.v 0) .str)] (.v 0))))]
noncomputable def d23:Fn:={np:=3,G:={N:=["groups","switch","mark","things"],kd:=[.local,.local,.local,.local],gl:=[22,4,12],df:=true},body:=b23}
noncomputable def b24:List IS:=
 [(.ret (.sset (.bin .add (.lst [(.c (.str ""))]) (.call 22 [(.v 0),(.v 1),(.v 2),(.tup [(.c (.str "begins"))])]))))]
noncomputable def d24:Fn:={np:=3,G:={N:=["groups","switch","mark"],kd:=[.local,.local,.local],gl:=[4,12,22],df:=true},body:=b24}
noncomputable def b25:List IS:=
 [(.asg (.nm 3) (.call 22 [(.v 0),(.v 1),(.v 2),(.tup [(.c (.str "is")),(.c (.str "not"))])])),(.asg (.nm 4) (.comp {N:=["thing"],kd:=[.local],gl:=[18],df:=false} [] (.nm 0) (.val (.v 3)) [(.call 18 [(.v 0)])] (.v 0))),(.asg (.nm 5) (.call 22 [(.v 0),(.v 1),(.v 2),(.tup [(.c (.str "least"))])])),(.asg (.nm 6) (.call 22 [(.v 0),(.v 1),(.v 2),(.tup [(.c (.str "most"))])])),(.ret (.sset (.bin .add (.bin .add (.v 4) (.v 5)) (.comp {N:=["number"],kd:=[.local],gl:=[],df:=false} [] (.nm 0) (.val (.bin .add (.v 4) (.v 6))) [] (.bin .add (.v 0) (.c (.int 1)))))))]
noncomputable def d25:Fn:={np:=3,G:={N:=["groups","switch","mark","things","alone","least","most"],kd:=[.local,.local,.local,.local,.local,.local,.local],gl:=[22,4,12],df:=true},body:=b25}
noncomputable def b26:List IS:=
 [(.asg (.nm 3) (.comp {N:=["text"],kd:=[.local],gl:=[],df:=false} [] (.nm 0) (.val (.call 23 [(.v 0),(.v 1),(.v 2)])) [] (.tup [(.c (.str "text")),(.v 0)]))),(.asg (.nm 4) (.comp {N:=["text"],kd:=[.local],gl:=[],df:=false} [] (.nm 0) (.val (.call 24 [(.v 0),(.v 1),(.v 2)])) [] (.tup [(.c (.str "begins")),(.v 0)]))),(.asg (.nm 5) (.call 25 [(.v 0),(.v 1),(.v 2)])),(.asg (.nm 6) (.bin .add (.lst [(.c .non)]) (.v 5))),(.asg (.nm 7) (.bin .add (.comp {N:=["cut"],kd:=[.local],gl:=[],df:=false} [] (.nm 0) (.val (.v 5)) [] (.bin .sub (.v 0) (.c (.int 1)))) (.lst [(.c .non)]))),(.ret (.bin .add (.bin .add (.bin .add (.lst [(.tup [(.c (.str "none"))])]) (.v 3)) (.v 4)) (.comp {N:=["low","high"],kd:=[.local,.local],gl:=[],df:=false} [] (.tp [(.nm 0),(.nm 1)]) (.zip (.v 6) (.v 7)) [] (.tup [(.c (.str "numbers")),(.v 0),(.v 1)]))))]
noncomputable def d26:Fn:={np:=3,G:={N:=["groups","switch","mark","texts","beginnings","cuts","lows","highs"],kd:=[.local,.local,.local,.local,.local,.local,.local,.local],gl:=[23,24,25,17],df:=true},body:=b26}
noncomputable def b27:List IS:=
 [(.asg (.nm 3) (.c (.int 0))),(.if_ (.cmp .gt (.bi .len [(.v 0)]) (.c (.int 0))) [(.asg (.nm 3) (.bin .mod (.idx (.v 0) (.bin .mod (.v 1) (.bi .len [(.v 0)]))) (.c (.int 2147483647))))] []),(.asg (.nm 4) (.bin .add (.bin .mul (.v 3) (.bin .add (.c (.int 742938285)) (.bin .mul (.bin .mul (.c (.int 9973)) (.v 1)) (.v 1)))) (.bin .mul (.v 1) (.c (.int 630360016))))),(.ret (.bin .mod (.bin .fdiv (.bin .mod (.v 4) (.c (.int 2147483647))) (.c (.int 97))) (.v 2)))]
noncomputable def d27:Fn:={np:=3,G:={N:=["_law_script","_law_k","_law_many","_law_cell","_law_mixed"],kd:=[.local,.local,.local,.local,.local],gl:=[0],df:=true},body:=b27}
noncomputable def b28:List IS:=
 [(.asg (.nm 3) (.c (.str "abcdefghijklmnopqrstuvwxyz"))),(.asg (.nm 4) (.call 27 [(.v 0),(.v 1),(.c (.int 26))])),(.if_ (.cmp .eq (.call 27 [(.v 0),(.bin .add (.v 1) (.c (.int 1))),(.c (.int 5))]) (.c (.int 0))) [(.ret (.comp {N:=["_law_letters","_law_start","_law_j"],kd:=[.cell,.cell,.local],gl:=[],df:=false} [3,4] (.nm 2) (.rng1 (.v 2)) [] (.bin .mul (.idx (.v 0) (.v 1)) (.bin .add (.c (.int 1)) (.v 2)))))] []),(.asg (.nm 5) (.c (.str ""))),(.for_ (.nm 6) (.rng1 (.call 27 [(.v 0),(.bin .add (.v 1) (.c (.int 2))),(.c (.int 8))])) [(.asg (.nm 5) (.bin .add (.v 5) (.idx (.v 3) (.call 27 [(.v 0),(.bin .add (.bin .add (.v 1) (.c (.int 40))) (.v 6)),(.c (.int 26))]))))]),(.asg (.nm 7) (.call 27 [(.v 0),(.bin .add (.v 1) (.c (.int 3))),(.bin .add (.bi .len [(.v 5)]) (.c (.int 1)))])),(.asg (.nm 8) (.idx (.lst [(.c (.int 1)),(.c (.int 7)),(.c (.int 25)),(.c (.int 11))]) (.call 27 [(.v 0),(.bin .add (.v 1) (.c (.int 1))),(.c (.int 4))]))),(.ret (.comp {N:=["_law_body","_law_at","_law_letters","_law_start","_law_step","_law_j"],kd:=[.cell,.cell,.cell,.cell,.cell,.local],gl:=[],df:=false} [5,7,3,4,8] (.nm 5) (.rng1 (.v 2)) [] (.bin .add (.bin .add (.sl (.v 0) none (some (.v 1))) (.idx (.v 2) (.bin .mod (.bin .add (.v 3) (.bin .mul (.v 4) (.v 5))) (.c (.int 26))))) (.sl (.v 0) (some (.v 1)) none))))]
noncomputable def d28:Fn:={np:=3,G:={N:=["_law_script","_law_k","_law_many","_law_letters","_law_start","_law_body","_law_j","_law_at","_law_step"],kd:=[.local,.local,.local,.cell,.cell,.cell,.local,.cell,.cell],gl:=[27,15,0],df:=true},body:=b28}
noncomputable def b29:List IS:=
 [(.asg (.nm 2) (.c (.str "abcdefghijklmnopqrstuvwxyz0123456789"))),(.asg (.nm 3) (.v 2)),(.if_ (.cmp .eq (.call 27 [(.v 0),(.v 1),(.c (.int 2))]) (.c (.int 0))) [(.asg (.nm 3) (.sl (.sl (.v 2) (some (.call 27 [(.v 0),(.bin .add (.v 1) (.c (.int 1))),(.c (.int 34))])) none) none (some (.c (.int 2)))))] []),(.ret (.mth .join (.c (.str "")) [(.comp {N:=["_law_some","_law_script","_law_k","_law_j"],kd:=[.cell,.cell,.cell,.local],gl:=[27,0],df:=false} [3,0,1] (.nm 3) (.rng1 (.c (.int 12))) [] (.idx (.v 0) (.call 27 [(.v 1),(.bin .add (.bin .add (.v 2) (.c (.int 2))) (.v 3)),(.bi .len [(.v 0)])])))]))]
noncomputable def d29:Fn:={np:=2,G:={N:=["_law_script","_law_k","_law_signs","_law_some"],kd:=[.cell,.cell,.local,.cell],gl:=[27,15],df:=true},body:=b29}
noncomputable def b30:List IS:=
 [(.asg (.nm 3) (.sl (.v 2) none (some (.call 27 [(.v 0),(.v 1),(.c (.int 9))])))),(.if_ (.and_ (.cmp .ne (.v 3) (.c (.str ""))) (.cmp .eq (.call 27 [(.v 0),(.bin .add (.v 1) (.c (.int 1))),(.c (.int 3))]) (.c (.int 0)))) [(.asg (.nm 3) (.bin .add (.sl (.v 3) none (some (.neg (.c (.int 1))))) (.idx (.c (.str "abcdefghijklmnopqrstuvwxyz0123456789")) (.call 27 [(.v 0),(.bin .add (.v 1) (.c (.int 2))),(.c (.int 36))]))))] []),(.ret (.v 3))]
noncomputable def d30:Fn:={np:=3,G:={N:=["_law_script","_law_k","_law_stem_here","_law_text_here"],kd:=[.local,.local,.local,.local],gl:=[27],df:=true},body:=b30}
noncomputable def b31:List IS:=
 [(.asg (.nm 2) (.bin .sub (.bin .add (.bin .mul (.call 27 [(.v 0),(.v 1),(.c (.int 20000))]) (.c (.int 100000))) (.call 27 [(.v 0),(.bin .add (.v 1) (.c (.int 1))),(.c (.int 100000))])) (.bin .pow (.c (.int 10)) (.c (.int 9))))),(.ret (.bi .min2 [(.bi .max2 [(.v 2),(.bin .sub (.c (.int 0)) (.c (.int 999999990)))]),(.c (.int 999999990))]))]
noncomputable def d31:Fn:={np:=2,G:={N:=["_law_script","_law_k","_law_number_here"],kd:=[.local,.local,.local],gl:=[27,2,3],df:=true},body:=b31}
noncomputable def b32:List IS:=
 [(.asg (.nm 3) (.call 27 [(.v 0),(.v 1),(.c (.int 8))])),(.if_ (.cmp .lt (.v 3) (.c (.int 5))) [(.ret (.bin .sub (.bin .add (.v 2) (.v 3)) (.c (.int 2))))] []),(.ret (.idx (.lst [(.c (.int 999999999)),(.bin .sub (.c (.int 0)) (.c (.int 999999999))),(.c (.int 0))]) (.bin .sub (.v 3) (.c (.int 5)))))]
noncomputable def d32:Fn:={np:=3,G:={N:=["_law_script","_law_k","_law_center_here","_law_way"],kd:=[.local,.local,.local,.local],gl:=[27],df:=true},body:=b32}
noncomputable def b33:List IS:=
 [(.if_ (.cmp .eq (.call 27 [(.v 0),(.v 1),(.c (.int 2))]) (.c (.int 0))) [(.ret (.call 32 [(.v 0),(.bin .add (.v 1) (.c (.int 1))),(.v 3)]))] []),(.ret (.call 30 [(.v 0),(.bin .add (.v 1) (.c (.int 2))),(.v 2)]))]
noncomputable def d33:Fn:={np:=4,G:={N:=["_law_script","_law_k","_law_stem_here","_law_center_here"],kd:=[.local,.local,.local,.local],gl:=[27,32,30],df:=true},body:=b33}
noncomputable def b34:List IS:=
 [(.if_ (.or_ (.cmp .eq (.v 4) (.c (.str "least"))) (.cmp .eq (.v 4) (.c (.str "most")))) [(.ret (.lst [(.call 32 [(.v 0),(.bin .add (.v 1) (.c (.int 1))),(.v 3)])]))] []),(.if_ (.or_ (.cmp .eq (.v 4) (.c (.str "has"))) (.cmp .eq (.v 4) (.c (.str "lacks")))) [(.ret (.lst []))] []),(.asg (.nm 6) (.lst [])),(.for_ (.nm 7) (.rng1 (.bin .add (.c (.int 1)) (.call 27 [(.v 0),(.v 1),(.v 5)]))) [(.asg (.nm 8) (.call 33 [(.v 0),(.bin .add (.bin .add (.v 1) (.c (.int 2))) (.bin .mul (.c (.int 5)) (.v 7))),(.v 2),(.v 3)])),(.if_ (.cmp .eq (.v 4) (.c (.str "begins"))) [(.asg (.nm 8) (.call 30 [(.v 0),(.bin .add (.bin .add (.v 1) (.c (.int 2))) (.bin .mul (.c (.int 5)) (.v 7))),(.v 2)])),(.if_ (.cmp .eq (.v 8) (.c (.str ""))) [(.asg (.nm 8) (.sl (.v 2) none (some (.c (.int 1)))))] [])] []),(.app 6 (.v 8))]),(.ret (.v 6))]
noncomputable def d34:Fn:={np:=6,G:={N:=["_law_script","_law_k","_law_stem_here","_law_center_here","_law_word","_law_room","_law_found","_law_j","_law_thing_here"],kd:=[.local,.local,.local,.local,.local,.local,.local,.local,.local],gl:=[32,15,27,33,30],df:=true},body:=b34}
noncomputable def b35:List IS:=
 [(.asg (.nm 7) (.lst [(.c (.str "is")),(.c (.str "not")),(.c (.str "begins")),(.c (.str "least")),(.c (.str "most")),(.c (.str "has")),(.c (.str "lacks")),(.c (.str "is")),(.c (.str "begins"))])),(.asg (.nm 8) (.lst [])),(.for_ (.nm 9) (.rng1 (.v 5)) [(.asg (.nm 10) (.idx (.v 7) (.call 27 [(.v 0),(.bin .add (.v 1) (.bin .mul (.c (.int 60)) (.v 9))),(.c (.int 9))]))),(.asg (.nm 11) (.idx (.v 2) (.call 27 [(.v 0),(.bin .add (.bin .add (.v 1) (.c (.int 1))) (.bin .mul (.c (.int 60)) (.v 9))),(.bi .len [(.v 2)])]))),(.app 8 (.tup [(.v 11),(.v 10),(.call 34 [(.v 0),(.bin .add (.bin .add (.v 1) (.c (.int 2))) (.bin .mul (.c (.int 60)) (.v 9))),(.v 3),(.v 4),(.v 10),(.v 6)])]))]),(.ret (.v 8))]
noncomputable def d35:Fn:={np:=7,G:={N:=["_law_script","_law_k","_law_marks","_law_stem_here","_law_center_here","_law_count","_law_room","_law_words","_law_found","_law_j","_law_word","_law_mark"],kd:=[.local,.local,.local,.local,.local,.local,.local,.local,.local,.local,.local,.local],gl:=[15,27,0,34],df:=true},body:=b35}
noncomputable def b36:List IS:=
 [(.asg (.nm 4) (.call 35 [(.v 0),(.c (.int 500)),(.v 1),(.v 2),(.v 3),(.c (.int 2)),(.c (.int 2))])),(.asg (.nm 5) (.idx (.lst [(.c (.str "mates")),(.idx (.v 1) (.c (.int 0))),(.idx (.v 1) (.c (.int 1))),(.c (.str "mates"))]) (.call 27 [(.v 0),(.c (.int 487)),(.c (.int 4))]))),(.asg (.nm 6) (.lst [(.tup [(.v 5),(.idx (.lst [(.lst []),(.lst [(.sl (.v 4) none (some (.c (.int 1))))]),(.lst [(.sl (.v 4) none (some (.c (.int 1)))),(.sl (.v 4) (some (.c (.int 1))) none)]),(.lst [(.v 4)])]) (.call 27 [(.v 0),(.c (.int 480)),(.c (.int 4))]))])])),(.app 6 (.tup [(.idx (.comp {N:=["_law_mates","_law_own"],kd:=[.cell,.local],gl:=[],df:=false} [5] (.nm 1) (.val (.lst [(.c (.str "mates")),(.c (.str "others"))])) [(.cmp .ne (.v 1) (.v 0))] (.v 1)) (.c (.int 0))),(.lst [])])),(.asg (.nm 7) (.call 27 [(.v 0),(.c (.int 481)),(.c (.int 5))])),(.asg (.nm 8) (.call 35 [(.v 0),(.c (.int 200)),(.v 1),(.v 2),(.v 3),(.v 7),(.idx (.lst [(.c (.int 2)),(.c (.int 4))]) (.call 27 [(.v 0),(.c (.int 482)),(.c (.int 2))]))])),(.if_ (.cmp .eq (.call 27 [(.v 0),(.c (.int 483)),(.c (.int 2))]) (.c (.int 0))) [(.asg (.nm 9) (.tup [(.v 5),(.idx (.lst [(.c (.str "in")),(.c (.str "out"))]) (.call 27 [(.v 0),(.c (.int 484)),(.c (.int 2))])),(.lst [])])),(.ins 8 (.call 27 [(.v 0),(.c (.int 485)),(.bin .add (.v 7) (.c (.int 1)))]) (.v 9))] []),(.asg (.nm 10) (.call 27 [(.v 0),(.c (.int 486)),(.bin .add (.bi .len [(.v 8)]) (.c (.int 1)))])),(.asg (.nm 11) (.lst [(.tup [(.sl (.v 8) none (some (.v 10))),(.tup [(.c (.str "face")),(.c (.str "on"))])]),(.tup [(.sl (.v 8) (some (.v 10)) none),(.tup [(.c (.str "lot"))])])])),(.ret (.tup [(.v 6),(.tup [(.c (.str "salt")),(.c (.str "off")),(.v 11),(.tup [(.lst [(.tup [(.c (.str "on")),(.lst [])])]),(.lst [(.tup [(.c (.int 0)),(.c (.int 10007))])])])])]))]
noncomputable def d36:Fn:={np:=4,G:={N:=["_law_script","_law_marks","_law_stem_here","_law_center_here","_law_inner","_law_mates","_law_groups","_law_count","_law_conds","_law_named","_law_at","_law_rules"],kd:=[.local,.local,.local,.local,.local,.cell,.local,.local,.local,.local,.local,.local],gl:=[35,27,0],df:=true},body:=b36}
noncomputable def b37:List IS:=
 [(.asg (.nm 2) (.lst [])),(.for_ (.tp [(.nm 3),(.nm 4)]) (.val (.idx (.v 1) (.c (.int 2)))) [(.for_ (.nm 5) (.val (.v 3)) [(.if_ (.and_ (.cmp .ne (.idx (.v 5) (.c (.int 1))) (.c (.str "in"))) (.cmp .ne (.idx (.v 5) (.c (.int 1))) (.c (.str "out")))) [(.app 2 (.v 5))] []),(.for_ (.tp [(.nm 6),(.nm 7)]) (.val (.v 0)) [(.if_ (.and_ (.cmp .in_ (.idx (.v 5) (.c (.int 1))) (.lst [(.c (.str "in")),(.c (.str "out"))])) (.cmp .eq (.v 6) (.idx (.v 5) (.c (.int 0))))) [(.for_ (.nm 8) (.val (.v 7)) [(.ext 2 (.v 8))])] [])])])]),(.ret (.v 2))]
noncomputable def d37:Fn:={np:=2,G:={N:=["_law_groups","_law_switch","_law_found","_law_conds","_law_outcome","_law_cond","_law_name","_law_rows","_law_row"],kd:=[.local,.local,.local,.local,.local,.local,.local,.local,.local],gl:=[],df:=true},body:=b37}
noncomputable def b38:List IS:=
 [(.asg (.nm 2) (.lst [])),(.asg (.nm 3) (.lst [(.c (.str ""))])),(.asg (.nm 4) (.lst [])),(.for_ (.tp [(.nm 5),(.nm 6),(.nm 7)]) (.val (.v 0)) [(.for_ (.nm 8) (.val (.v 7)) [(.if_ (.and_ (.cmp .eq (.v 5) (.v 1)) (.cmp .eq (.v 6) (.c (.str "begins")))) [(.app 3 (.v 8))] [(.if_ (.and_ (.cmp .eq (.v 5) (.v 1)) (.isi (.v 8) .str)) [(.app 2 (.v 8))] [(.if_ (.and_ (.cmp .eq (.v 5) (.v 1)) (.cmp .ne (.v 6) (.c (.str "most")))) [(.app 4 (.v 8))] [])])]),(.if_ (.and_ (.cmp .eq (.v 5) (.v 1)) (.and_ (.not_ (.isi (.v 8) .str)) (.cmp .ne (.v 6) (.c (.str "least"))))) [(.app 4 (.bin .add (.v 8) (.c (.int 1))))] [])])]),(.asg (.nm 4) (.sset (.v 4))),(.asg (.nm 9) (.bin .add (.lst [(.tup [(.c (.str "none"))])]) (.comp {N:=["_law_text_here"],kd:=[.local],gl:=[],df:=false} [] (.nm 0) (.val (.sset (.v 2))) [] (.tup [(.c (.str "text")),(.v 0)])))),(.asg (.nm 9) (.bin .add (.v 9) (.comp {N:=["_law_text_here"],kd:=[.local],gl:=[],df:=false} [] (.nm 0) (.val (.sset (.v 3))) [] (.tup [(.c (.str "begins")),(.v 0)])))),(.asg (.nm 10) (.bin .add (.lst [(.c .non)]) (.v 4))),(.asg (.nm 11) (.bin .add (.comp {N:=["_law_start"],kd:=[.local],gl:=[],df:=false} [] (.nm 0) (.val (.v 4)) [] (.bin .sub (.v 0) (.c (.int 1)))) (.lst [(.c .non)]))),(.ret (.bin .add (.v 9) (.comp {N:=["_law_low","_law_high"],kd:=[.local,.local],gl:=[],df:=false} [] (.tp [(.nm 0),(.nm 1)]) (.zip (.v 10) (.v 11)) [] (.tup [(.c (.str "numbers")),(.v 0),(.v 1)]))))]
noncomputable def d38:Fn:={np:=2,G:={N:=["_law_looked_here","_law_mark","_law_texts","_law_begins","_law_starts","_law_name","_law_word","_law_things","_law_thing_here","_law_cells_here","_law_lows","_law_highs"],kd:=[.local,.local,.local,.local,.local,.local,.local,.local,.local,.local,.local,.local],gl:=[14,11,4,12,17],df:=true},body:=b38}
noncomputable def b39:List IS:=
 [(.if_ (.cmp .is_ (.v 1) (.c .non)) [(.ret (.cmp .is_ (.v 0) (.c .non)))] []),(.if_ (.or_ (.isi (.v 1) .bool) (.isi (.v 0) .bool)) [(.ret (.and_ (.isi (.v 1) .bool) (.and_ (.isi (.v 0) .bool) (.cmp .eq (.v 0) (.v 1)))))] []),(.if_ (.isi (.v 1) .str) [(.ret (.and_ (.isi (.v 0) .str) (.cmp .eq (.v 0) (.v 1))))] []),(.if_ (.isi (.v 1) .int) [(.ret (.and_ (.isi (.v 0) .int) (.cmp .eq (.v 0) (.v 1))))] []),(.if_ (.isi (.v 1) .tuple) [(.if_ (.not_ (.isi (.v 0) .tuple)) [(.ret (.c (.bl false)))] [])] [(.if_ (.not_ (.isi (.v 0) .list)) [(.ret (.c (.bl false)))] [])]),(.if_ (.cmp .ne (.bi .len [(.v 0)]) (.bi .len [(.v 1)])) [(.ret (.c (.bl false)))] []),(.ret (.bi .all [(.comp {N:=["_law_own","_law_part"],kd:=[.local,.local],gl:=[39],df:=false} [] (.tp [(.nm 0),(.nm 1)]) (.zip (.v 0) (.v 1)) [] (.call 39 [(.v 0),(.v 1)]))]))]
noncomputable def d39:Fn:={np:=2,G:={N:=["_law_found","_law_due"],kd:=[.local,.local],gl:=[14,16,11,8,6,5,0,9,17],df:=true},body:=b39}
noncomputable def b40:List IS:=
 [(.if_ (.isi (.v 0) .list) [(.ret (.comp {N:=["_law_part"],kd:=[.local],gl:=[40],df:=false} [] (.nm 0) (.val (.v 0)) [] (.call 40 [(.v 0)])))] []),(.if_ (.isi (.v 0) .tuple) [(.ret (.bi .tuple [(.comp {N:=["_law_part"],kd:=[.local],gl:=[40],df:=false} [] (.nm 0) (.val (.v 0)) [] (.call 40 [(.v 0)]))]))] []),(.ret (.v 0))]
noncomputable def d40:Fn:={np:=1,G:={N:=["_law_thing_here"],kd:=[.local],gl:=[14,5,6],df:=true},body:=b40}
noncomputable def b41:List IS:=
 [(.asg (.nm 1) (.call 28 [(.v 0),(.c (.int 0)),(.c (.int 3))])),(.asg (.nm 2) (.call 29 [(.v 0),(.c (.int 130))])),(.asg (.nm 3) (.call 31 [(.v 0),(.c (.int 145))])),(.asg (.tp [(.nm 4),(.nm 5)]) (.call 36 [(.v 0),(.sl (.v 1) none (some (.c (.int 2)))),(.v 2),(.v 3)])),(.asg (.nm 6) (.call 37 [(.v 4),(.v 5)])),(.asg (.nm 7) (.call 40 [(.tup [(.v 4),(.v 5)])])),(.asg (.nm 8) (.sset (.comp {N:=["_law_cond"],kd:=[.local],gl:=[],df:=false} [] (.nm 0) (.val (.v 6)) [] (.idx (.v 0) (.c (.int 0)))))),(.if_ (.not_ (.call 39 [(.call 21 [(.idx (.v 7) (.c (.int 0))),(.idx (.v 7) (.c (.int 1)))]),(.v 8)])) [(.ret (.c (.bl false)))] []),(.for_ (.nm 9) (.val (.v 1)) [(.asg (.nm 10) (.call 26 [(.idx (.v 7) (.c (.int 0))),(.idx (.v 7) (.c (.int 1))),(.v 9)])),(.if_ (.not_ (.call 39 [(.v 10),(.call 38 [(.v 6),(.v 9)])])) [(.ret (.c (.bl false)))] []),(.ins 10 (.c (.int 0)) (.tup [(.c (.str "none"))]))]),(.if_ (.not_ (.call 39 [(.call 26 [(.idx (.v 7) (.c (.int 0))),(.idx (.v 7) (.c (.int 1))),(.idx (.v 1) (.c (.int 0)))]),(.call 38 [(.v 6),(.idx (.v 1) (.c (.int 0)))])])) [(.ret (.c (.bl false)))] []),(.ret (.call 39 [(.v 7),(.tup [(.v 4),(.v 5)])]))]
noncomputable def d41:Fn:={np:=1,G:={N:=["_law_script","_law_marks","_law_stem_here","_law_center_here","_law_groups","_law_switch","_law_looked_here","_law_handed","_law_due","_law_mark","_law_found"],kd:=[.local,.local,.local,.local,.local,.local,.local,.local,.local,.local,.local],gl:=[28,29,31,36,37,40,4,12,39,21,26,38],df:=true},body:=b41}
noncomputable def T:Tb:=fun n=>match n with
 | 18=>some d18
 | 19=>some d19
 | 20=>some d20
 | 21=>some d21
 | 22=>some d22
 | 23=>some d23
 | 24=>some d24
 | 25=>some d25
 | 26=>some d26
 | 27=>some d27
 | 28=>some d28
 | 29=>some d29
 | 30=>some d30
 | 31=>some d31
 | 32=>some d32
 | 33=>some d33
 | 34=>some d34
 | 35=>some d35
 | 36=>some d36
 | 37=>some d37
 | 38=>some d38
 | 39=>some d39
 | 40=>some d40
 | 41=>some d41
 | _=>none
theorem c18:aw Z d18 ["thing"] (top 1)=true:=by decide +kernel
theorem c19:aw Z d19 ["groups","names"] (top 3)=true:=by decide +kernel
theorem c20:aw Z d20 ["groups","switch"] (top 4)=true:=by decide +kernel
theorem c21:aw Z d21 ["groups","switch"] (top 5)=true:=by decide +kernel
theorem c22:aw Z d22 ["groups","switch","mark","words"] (top 6)=true:=by decide +kernel
theorem c23:aw Z d23 ["groups","switch","mark"] (top 7)=true:=by decide +kernel
theorem c24:aw Z d24 ["groups","switch","mark"] (top 8)=true:=by decide +kernel
theorem c25:aw Z d25 ["groups","switch","mark"] (top 9)=true:=by decide +kernel
theorem c26:aw Z d26 ["groups","switch","mark"] (top 10)=true:=by decide +kernel
theorem c27:aw Z d27 ["_law_script","_law_k","_law_many"] (top 12)=true:=by decide +kernel
theorem c28:aw Z d28 ["_law_script","_law_k","_law_many"] (top 13)=true:=by decide +kernel
theorem c29:aw Z d29 ["_law_script","_law_k"] (top 14)=true:=by decide +kernel
theorem c30:aw Z d30 ["_law_script","_law_k","_law_stem_here"] (top 15)=true:=by decide +kernel
theorem c31:aw Z d31 ["_law_script","_law_k"] (top 16)=true:=by decide +kernel
theorem c32:aw Z d32 ["_law_script","_law_k","_law_center_here"] (top 17)=true:=by decide +kernel
theorem c33:aw Z d33 ["_law_script","_law_k","_law_stem_here","_law_center_here"] (top 18)=true:=by decide +kernel
theorem c34:aw Z d34 ["_law_script","_law_k","_law_stem_here","_law_center_here","_law_word","_law_room"] (top 19)=true:=by decide +kernel
theorem c35:aw Z d35 ["_law_script","_law_k","_law_marks","_law_stem_here","_law_center_here","_law_count","_law_room"] (top 20)=true:=by decide +kernel
theorem c36:aw Z d36 ["_law_script","_law_marks","_law_stem_here","_law_center_here"] (top 21)=true:=by decide +kernel
theorem c37:aw Z d37 ["_law_groups","_law_switch"] (top 22)=true:=by decide +kernel
theorem c38:aw Z d38 ["_law_looked_here","_law_mark"] (top 23)=true:=by decide +kernel
theorem c39:aw Z d39 ["_law_found","_law_due"] (top 24)=true:=by decide +kernel
theorem c40:aw Z d40 ["_law_thing_here"] (top 25)=true:=by decide +kernel
theorem c41:aw Z d41 ["_law_script"] (top 26)=true:=by decide +kernel
theorem xa:∀ n x,Z.name n=some x->x≠"__name__"/\(x == ("__debug__" : Str))=false:=by
 have h:(bg++Z.nm).all (fun x=>!(x == "__name__") && !(x == "__debug__"))=true:=by decide +kernel
 intro n x hx
 have:=List.all_eq_true.mp h x (List.mem_of_getElem? hx)
 simpa using this
theorem ln1 {fd:FuncData} {ps:List Str} (h:∀ x0:Value,bindArgs fd ⟨[x0],[]⟩=pure (ps.zip [x0])) (us:List Value) (e:us.length=1):bindArgs fd ⟨us,[]⟩=pure (ps.zip us):=by
 match us,e with
 | [x0],_=>exact h x0
theorem ln2 {fd:FuncData} {ps:List Str} (h:∀ x0 x1:Value,bindArgs fd ⟨[x0,x1],[]⟩=pure (ps.zip [x0,x1])) (us:List Value) (e:us.length=2):bindArgs fd ⟨us,[]⟩=pure (ps.zip us):=by
 match us,e with
 | [x0,x1],_=>exact h x0 x1
theorem ln3 {fd:FuncData} {ps:List Str} (h:∀ x0 x1 x2:Value,bindArgs fd ⟨[x0,x1,x2],[]⟩=pure (ps.zip [x0,x1,x2])) (us:List Value) (e:us.length=3):bindArgs fd ⟨us,[]⟩=pure (ps.zip us):=by
 match us,e with
 | [x0,x1,x2],_=>exact h x0 x1 x2
theorem ln4 {fd:FuncData} {ps:List Str} (h:∀ x0 x1 x2 x3:Value,bindArgs fd ⟨[x0,x1,x2,x3],[]⟩=pure (ps.zip [x0,x1,x2,x3])) (us:List Value) (e:us.length=4):bindArgs fd ⟨us,[]⟩=pure (ps.zip us):=by
 match us,e with
 | [x0,x1,x2,x3],_=>exact h x0 x1 x2 x3
theorem ln6 {fd:FuncData} {ps:List Str} (h:∀ x0 x1 x2 x3 x4 x5:Value,bindArgs fd ⟨[x0,x1,x2,x3,x4,x5],[]⟩=pure (ps.zip [x0,x1,x2,x3,x4,x5])) (us:List Value) (e:us.length=6):bindArgs fd ⟨us,[]⟩=pure (ps.zip us):=by
 match us,e with
 | [x0,x1,x2,x3,x4,x5],_=>exact h x0 x1 x2 x3 x4 x5
theorem ln7 {fd:FuncData} {ps:List Str} (h:∀ x0 x1 x2 x3 x4 x5 x6:Value,bindArgs fd ⟨[x0,x1,x2,x3,x4,x5,x6],[]⟩=pure (ps.zip [x0,x1,x2,x3,x4,x5,x6])) (us:List Value) (e:us.length=7):bindArgs fd ⟨us,[]⟩=pure (ps.zip us):=by
 match us,e with
 | [x0,x1,x2,x3,x4,x5,x6],_=>exact h x0 x1 x2 x3 x4 x5 x6
theorem dfo {f:Nat} {x:Str} {fn:Fn} {st:Stmt} {fa:Addr} {ps:List Str} {K:W.Frag} {h:Heap} {mg:Str->Option Value} {oc:Value} {od an:Option Addr} {sl:Array (Option Value)} {kV dc pm cd ct:Value} (c:aw Z fn ps st=true) (hT:T f=some fn) (b:∀ (kV dc pm:Value) (an:Option Addr) (cd ct:Value) (us:List Value),us.length=ps.length->bindArgs (W.fnOf x x (bP st) (bq st) (aq st) .none kV dc pm an cd ct) ⟨us,[]⟩=pure (ps.zip us)) (X:K.In h) (G:h.Ns mainGlobals mg)
  (a:W.nsIn K mainGlobals x=some (some (.ref fa))) (l:K.lookup fa=some ⟨oc,od,.func (W.fnOf x x (bP st) (bq st) (aq st) .none kV dc pm an cd ct),sl⟩) (e:W.codeIn K cd x=true) (k:W.keepIn K (.ref fa)=true):DefOk K mg Z T f x:=⟨fn,st,fa,_,ps,hT,jv l e k,W.mg_of X G a,(jv l e k).binds b,i0 c⟩
noncomputable def sh:Nat:=41
noncomputable def si:Str:="_law_script"
theorem all_mk {l:PySem.W.OpenLaw} {w:World} {fa:Addr} {K:W.Frag} {h:Heap} {mg:Str->Option Value} {f41:Addr} {od41 an41:Option Addr} {sl41:Array (Option Value)} {oc41 kV41 dc41 pm41 cd41 ct41:Value} (X:K.In h) (G:h.Ns mainGlobals mg) (hfa:mg "law" = some (.ref fa))
  (t18:DefOk K mg Z T 18 "is_whole")
  (t19:DefOk K mg Z T 19 "group_conds")
  (t20:DefOk K mg Z T 20 "looked_conds")
  (t21:DefOk K mg Z T 21 "switch_marks")
  (t22:DefOk K mg Z T 22 "things_told")
  (t23:DefOk K mg Z T 23 "texts_told")
  (t24:DefOk K mg Z T 24 "beginnings_told")
  (t25:DefOk K mg Z T 25 "number_cuts")
  (t26:DefOk K mg Z T 26 "mark_cells")
  (t27:DefOk K mg Z T 27 "_law_draw")
  (t28:DefOk K mg Z T 28 "_law_names")
  (t29:DefOk K mg Z T 29 "_law_stem")
  (t30:DefOk K mg Z T 30 "_law_text")
  (t31:DefOk K mg Z T 31 "_law_center")
  (t32:DefOk K mg Z T 32 "_law_number")
  (t33:DefOk K mg Z T 33 "_law_thing")
  (t34:DefOk K mg Z T 34 "_law_many_things")
  (t35:DefOk K mg Z T 35 "_law_many_conds")
  (t36:DefOk K mg Z T 36 "_law_looking")
  (t37:DefOk K mg Z T 37 "_law_looked")
  (t38:DefOk K mg Z T 38 "_law_cells")
  (t39:DefOk K mg Z T 39 "_law_same")
  (t40:DefOk K mg Z T 40 "_law_copy")
  (a41:W.nsIn K mainGlobals "law" = some (some (.ref f41))) (l41:K.lookup f41=some ⟨oc41,od41,.func (W.fnOf "law" "law" (bP (top 26)) (bq (top 26)) (aq (top 26)) .none kV41 dc41 pm41 an41 cd41 ct41),sl41⟩) (e41:W.codeIn K cd41 "law" = true) (k41:W.keepIn K (.ref f41)=true)
  (z0:W.nsIn K mainGlobals "len" = some none)
  (z1:W.nsIn K mainGlobals "sum" = some none)
  (z2:W.nsIn K mainGlobals "min" = some none)
  (z3:W.nsIn K mainGlobals "max" = some none)
  (z4:W.nsIn K mainGlobals "sorted" = some none)
  (z5:W.nsIn K mainGlobals "list" = some none)
  (z6:W.nsIn K mainGlobals "tuple" = some none)
  (z7:W.nsIn K mainGlobals "ord" = some none)
  (z8:W.nsIn K mainGlobals "int" = some none)
  (z9:W.nsIn K mainGlobals "all" = some none)
  (z10:W.nsIn K mainGlobals "any" = some none)
  (z11:W.nsIn K mainGlobals "str" = some none)
  (z12:W.nsIn K mainGlobals "set" = some none)
  (z13:W.nsIn K mainGlobals "abs" = some none)
  (z14:W.nsIn K mainGlobals "isinstance" = some none)
  (z15:W.nsIn K mainGlobals "range" = some none)
  (z16:W.nsIn K mainGlobals "bool" = some none)
  (z17:W.nsIn K mainGlobals "zip" = some none) :
  ∃ fd:FuncData,(∀ (s:Shared) (v:Value),BindsTo s fd ⟨[v],[]⟩ [(si,v)])/\∀ base:Heap,K.In base->base.Ns mainGlobals mg->FnOk l.prog w K mg base (CX1 l.prog w) (14 + 1) fa fd [si] (spL K (af T (14 + 1)) sh [si]):=by
 have e:=hfa.symm.trans (PySem.W.mg_of X G a41)
 cases e
 have t:TopOk K mg Z T:=by
  constructor
  case nam=>
   exact xa
  case blt=>
   exact fun n x hx=>by
    have key:∀ y ∈ bg,mg y=none:=by
     intro y hy
     simp only[bg,List.mem_cons,List.not_mem_nil,or_false] at hy
     rcases hy with rfl | rfl | rfl | rfl | rfl | rfl | rfl | rfl | rfl | rfl | rfl | rfl | rfl | rfl | rfl | rfl | rfl | rfl
     ·exact W.mg_none_of X G z0
     ·exact W.mg_none_of X G z1
     ·exact W.mg_none_of X G z2
     ·exact W.mg_none_of X G z3
     ·exact W.mg_none_of X G z4
     ·exact W.mg_none_of X G z5
     ·exact W.mg_none_of X G z6
     ·exact W.mg_none_of X G z7
     ·exact W.mg_none_of X G z8
     ·exact W.mg_none_of X G z9
     ·exact W.mg_none_of X G z10
     ·exact W.mg_none_of X G z11
     ·exact W.mg_none_of X G z12
     ·exact W.mg_none_of X G z13
     ·exact W.mg_none_of X G z14
     ·exact W.mg_none_of X G z15
     ·exact W.mg_none_of X G z16
     ·exact W.mg_none_of X G z17
    exact key x (List.mem_of_getElem? hx)
  case cst=>
   exact fun n d x hm hx=>by
    have hm':(n,d) ∈ ([]:List (Nat×D)):=hm
    simp at hm'
  case fns=>
   exact fun f hf x hx=>by
    have hf':f ∈ ([18,19,20,21,22,23,24,25,26,27,28,29,30,31,32,33,34,35,36,37,38,39,40,41]:List Nat):=hf
    simp only[List.mem_cons,List.not_mem_nil,or_false] at hf'
    rcases hf' with rfl | rfl | rfl | rfl | rfl | rfl | rfl | rfl | rfl | rfl | rfl | rfl | rfl | rfl | rfl | rfl | rfl | rfl | rfl | rfl | rfl | rfl | rfl | rfl
    ·cases hx;exact t18
    ·cases hx;exact t19
    ·cases hx;exact t20
    ·cases hx;exact t21
    ·cases hx;exact t22
    ·cases hx;exact t23
    ·cases hx;exact t24
    ·cases hx;exact t25
    ·cases hx;exact t26
    ·cases hx;exact t27
    ·cases hx;exact t28
    ·cases hx;exact t29
    ·cases hx;exact t30
    ·cases hx;exact t31
    ·cases hx;exact t32
    ·cases hx;exact t33
    ·cases hx;exact t34
    ·cases hx;exact t35
    ·cases hx;exact t36
    ·cases hx;exact t37
    ·cases hx;exact t38
    ·cases hx;exact t39
    ·cases hx;exact t40
    ·cases hx;exact dfo c41 rfl (fun _ _ _ _ _ _=>ln1 fun _=>rfl) X G a41 l41 e41 k41
  case plc=>
   exact fun f hf=>absurd (show f ∈ ([]:List Nat) from hf) (by simp)
  case xcv=>
   exact fun n hn=>absurd (show n ∈ ([]:List Nat) from hn) (by simp)
  case xcl=>
   exact fun c n b x hm=>absurd (show (c,n,b) ∈ ([]:List (Str×Nat×Bool)) from hm) (by simp)
  case xmt=>
   exact fun c n x hm=>absurd (show (c,n) ∈ ([]:List (Str×Nat)) from hm) (by simp)
  case xrs=>
   exact fun n c hm=>absurd (show (n,c) ∈ ([]:List (Nat×Str)) from hm) (by simp)
 exact⟨PySem.W.fnOf "law" "law" (bP (top 26)) (bq (top 26)) (aq (top 26)) .none kV41 dc41 pm41 an41 cd41 ct41,fun s v=>.of_eq rfl,fun base _ _=>wF t 14 (by decide) (f:=41) (fn:=d41) rfl (jv (st:=top 26) l41 e41 k41) (i0 c41)⟩
end Law
namespace L2
open PySem PySem.Spec PyProof.Rows PySem.SeqAt
namespace Fr
variable {T:Tb}
mutual
noncomputable def pl:Nat->D->Bool
 | n + 1,.tup ds=>pls n ds && decide (ds.length < 1000)
 | n + 1,.lst o ds=>!o && (pls n ds && decide (ds.length < 1000))
 | _ + 1,.dct _ _ _=>false
 | _ + 1,.exc _=>false
 | 0,_=>false
 | _ + 1,_=>true
noncomputable def pls:Nat->List D->Bool
 | _,[]=>true
 | n,d::ds=>pl n d && pls n ds
end
theorem g8 {n:Nat}:∀ {ds:List D},pls n ds=true->∀ d ∈ ds,pl n d=true
 | [],_,d,hd=>by simp at hd
 | e::ds,h,d,hd=>by
  have h':=Bool.and_eq_true_iff.mp (show (pl n e && pls n ds)=true from h)
  rcases List.mem_cons.mp hd with rfl | hd
  ·exact h'.1
  ·exact g8 h'.2 d hd
theorem fB:∀ (n:Nat) (d:D),pl n d=true->er d=d:=by
 intro n
 induction n with
 | zero=>intro d h;cases d<;>cases h
 | succ n ih=>
  have all:∀ ds:List D,pls n ds=true->ers ds=ds:=by
   intro ds
   induction ds with
   | nil=>intro _;rfl
   | cons e ds ih2=>
    intro h
    have h':=Bool.and_eq_true_iff.mp (show (pl n e && pls n ds)=true from h)
    show er e::ers ds=_
    rw[ih e h'.1,ih2 h'.2]
  intro d h
  cases d with
  | tup ds=>
   have h':=Bool.and_eq_true_iff.mp (show (pls n ds && decide (ds.length < 1000))=true from h)
   rw[er,all ds h'.1]
  | lst o ds=>
   have h':=Bool.and_eq_true_iff.mp (show (!o && (pls n ds && decide (ds.length < 1000)))=true from h)
   have h2:=Bool.and_eq_true_iff.mp h'.2
   have ho:o=false:=by simpa using h'.1
   subst ho
   rw[er,all ds h2.1]
  | dct _ _ _=>cases h
  | exc _=>cases h
  | _=>rfl
theorem pV {n:Nat}:∀ {ds:List D},pls n ds=true->ers ds=ds
 | [],_=>rfl
 | e::ds,h=>by
  have h':=Bool.and_eq_true_iff.mp (show (pl n e && pls n ds)=true from h)
  show er e::ers ds=_
  rw[fB n e h'.1,pV h'.2]
noncomputable def pW (f:Nat):Gm:={N:=["_law_own","_law_part"],kd:=[.local,.local],gl:=[f],df:=false}
noncomputable def uT (f:Nat):List IS:=
 [(.if_ (.cmp .is_ (.v 1) (.c .non)) [(.ret (.cmp .is_ (.v 0) (.c .non)))] []),(.if_ (.or_ (.isi (.v 1) .bool) (.isi (.v 0) .bool)) [(.ret (.and_ (.isi (.v 1) .bool) (.and_ (.isi (.v 0) .bool) (.cmp .eq (.v 0) (.v 1)))))] []),(.if_ (.isi (.v 1) .str) [(.ret (.and_ (.isi (.v 0) .str) (.cmp .eq (.v 0) (.v 1))))] []),(.if_ (.isi (.v 1) .int) [(.ret (.and_ (.isi (.v 0) .int) (.cmp .eq (.v 0) (.v 1))))] []),(.if_ (.isi (.v 1) .tuple) [(.if_ (.not_ (.isi (.v 0) .tuple)) [(.ret (.c (.bl false)))] [])] [(.if_ (.not_ (.isi (.v 0) .list)) [(.ret (.c (.bl false)))] [])]),(.if_ (.cmp .ne (.bi .len [(.v 0)]) (.bi .len [(.v 1)])) [(.ret (.c (.bl false)))] []),(.ret (.bi .all [(.comp (pW f) [] (.tp [(.nm 0),(.nm 1)]) (.zip (.v 0) (.v 1)) [] (.call f [(.v 0),(.v 1)]))]))]
theorem fC (ds:List D):cQ ds ds=ds.map fun a=>.tup [a,a]:=by
 unfold cQ
 induction ds with
 | nil=>rfl
 | cons d ds ih=>rw[List.zipWith_cons_cons,ih];rfl
theorem jc:∀ n:Nat,cV (List.replicate n (D.bl true))=some (List.replicate n true)
 | 0=>rfl
 | n + 1=>by
  rw[List.replicate_succ,List.replicate_succ]
  show (cV _).map _=_
  rw[jc n]
  rfl
theorem all_true (o:Bool) (n:Nat):cO .all [.lst o (List.replicate n (D.bl true))]=.ok (.bl true):=by
 show (match cV (List.replicate n (D.bl true)) with | some bs=>.ok (.bl (bs.all id)) | none=>stk:Res D)=_
 rw[jc]
 simp
theorem sj {f:Nat} {fn:Fn} (hT:T f=some fn) (h1:fn.np=2) (h2:fn.G.N.length=2) (h3:fn.body=uT f):∀ (n k:Nat) (d:D),pl n d=true->af T (n + k) f [d,d]=.ok (.bl true):=by
 intro n
 induction n with
 | zero=>intro k d h;cases d<;>cases h
 | succ n ih=>
  intro k d h
  have fm:∀ ds:List D,pls n ds=true->aA (aG (af T (n + k)) (.tp [(.nm 0),(.nm 1)]) [] (.call f [(.v 0),(.v 1)]) [none,none]) (cQ ds ds)=.ok (List.replicate ds.length (D.bl true)):=by
   intro ds hp
   rw[fC]
   refine(Ev.cn (fun a:D=>D.tup [a,a]) (fun _=>D.bl true) id ds fun x hx=>?_).trans (by rw[List.map_id,List.map_const'])
   have hx':=g8 hp x hx
   have hc:=ih k x hx'
   have he:=fB n x hx'
   have e2:ers [x,x]=[x,x]:=by show [er x,er x]=_;rw[he]
   simp -implicitDefEqProofs (disch:=omega) only[ev0,Nat.reduceBEq,Nat.reduceSub,Nat.reduceAdd,reduceIte,Ev.ah,hc,e2,he,id]
  rw[show n + 1 + k=(n + k) + 1 by omega,Ev.go hT h1 h2 h3 rfl]
  unfold uT
  cases d with
  | non=>simp -implicitDefEqProofs (disch:=omega) only[ev0,Nat.reduceBEq,Nat.reduceSub,Nat.reduceAdd,reduceIte]
  | bl b=>simp -implicitDefEqProofs (disch:=omega) only[ev0,Nat.reduceBEq,Nat.reduceSub,Nat.reduceAdd,reduceIte]
  | int i=>simp -implicitDefEqProofs (disch:=omega) only[ev0,Nat.reduceBEq,Nat.reduceSub,Nat.reduceAdd,reduceIte]
  | str x=>simp -implicitDefEqProofs (disch:=omega) only[ev0,Nat.reduceBEq,Nat.reduceSub,Nat.reduceAdd,reduceIte]
  | tup ds=>
   have h':=Bool.and_eq_true_iff.mp (show (pls n ds && decide (ds.length < 1000))=true from h)
   have hl:ds.length < 1000:=of_decide_eq_true h'.2
   have hz:(cQ ds ds).length=ds.length:=by rw[fC,List.length_map]
   have e:=fm ds h'.1
   have ea:=all_true true ds.length
   unfold pW
   simp -implicitDefEqProofs (disch:=omega) only[ev0,Nat.reduceBEq,Nat.reduceSub,Nat.reduceAdd,reduceIte,e,ea,hz]
  | lst o ds=>
   have h0:=Bool.and_eq_true_iff.mp (show (!o && (pls n ds && decide (ds.length < 1000)))=true from h)
   have h':=Bool.and_eq_true_iff.mp h0.2
   have hl:ds.length < 1000:=of_decide_eq_true h'.2
   have hz:(cQ ds ds).length=ds.length:=by rw[fC,List.length_map]
   have e:=fm ds h'.1
   have ea:=all_true true ds.length
   unfold pW
   simp -implicitDefEqProofs (disch:=omega) only[ev0,Nat.reduceBEq,Nat.reduceSub,Nat.reduceAdd,reduceIte,e,ea,hz]
  | dct _ _ _=>cases h
  | exc _=>cases h
end Fr
namespace Fr
variable {T:Tb}
noncomputable def kY (f:Nat) (x:Str):Gm:={N:=[x],kd:=[.local],gl:=[f],df:=false}
noncomputable def uU (f:Nat) (x:Str):List IS:=
 [(.if_ (.isi (.v 0) .list) [(.ret (.comp (kY f x) [] (.nm 0) (.val (.v 0)) [] (.call f [(.v 0)])))] []),(.if_ (.isi (.v 0) .tuple) [(.ret (.bi .tuple [(.comp (kY f x) [] (.nm 0) (.val (.v 0)) [] (.call f [(.v 0)]))]))] []),(.ret (.v 0))]
theorem ers_ers:∀ ds:List D,ers (ers ds)=ers ds:=by
 intro ds
 rw[az,az,List.map_map]
 exact List.map_congr_left fun d _=>nr d
theorem kZ {g:D->Res (Option D)}:∀ (xs:List D),(∀ x ∈ xs,∃ y,g x=.ok (some y)/\er y=er x)->∃ ys,aA g xs=.ok ys/\ers ys=ers xs/\ys.length=xs.length
 | [],_=>⟨[],rfl,rfl,rfl⟩
 | x::xs,h=>by
  obtain⟨y,h1,h2⟩:=h x (by simp)
  obtain⟨ys,h3,h4,h5⟩:=kZ xs fun z hz=>h z (List.mem_cons_of_mem _ hz)
  refine⟨y::ys,?_,by show er y::ers ys=er x::ers xs;rw[h2,h4],by rw[List.length_cons,List.length_cons,h5]⟩
  show bnd (g x) _=_
  rw[h1]
  show bnd (aA g xs) _=_
  rw[h3]
  rfl
theorem sk {f:Nat} {fn:Fn} {x:Str} (hT:T f=some fn) (h1:fn.np=1) (h2:fn.G.N.length=1) (h3:fn.body=uU f x):∀ (n k:Nat) (d:D),pl n d=true->∃ d',af T (n + k) f [d]=.ok d'/\er d'=d:=by
 intro n
 induction n with
 | zero=>intro k d h;cases d<;>cases h
 | succ n ih=>
  intro k d h
  have fm:∀ ds:List D,pls n ds=true->∃ ys,aA (aG (af T (n + k)) (.nm 0) [] (.call f [(.v 0)]) [none]) ds=.ok ys/\ers ys=ds/\ys.length=ds.length:=by
   intro ds hp
   obtain⟨ys,h1,h2,h3⟩:=kZ (g:=aG (af T (n + k)) (.nm 0) [] (.call f [(.v 0)]) [none]) ds fun x hx=>by
    have hx':=g8 hp x hx
    obtain⟨y,hc,hy⟩:=ih k x hx'
    have he:=fB n x hx'
    have e2:ers [x]=[x]:=by show [er x]=_;rw[he]
    refine⟨y,?_,hy.trans he.symm⟩
    simp -implicitDefEqProofs (disch:=omega) only[ev0,Nat.reduceBEq,Nat.reduceSub,Nat.reduceAdd,reduceIte,Ev.ah,hc,e2,he]
   exact⟨ys,h1,h2.trans (pV hp),h3⟩
  rw[show n + 1 + k=(n + k) + 1 by omega,Ev.go hT h1 h2 h3 rfl]
  unfold uU
  cases d with
  | non=>exact⟨.non,by simp -implicitDefEqProofs (disch:=omega) only[ev0,Nat.reduceBEq,Nat.reduceSub,Nat.reduceAdd,reduceIte],rfl⟩
  | bl b=>exact⟨.bl b,by simp -implicitDefEqProofs (disch:=omega) only[ev0,Nat.reduceBEq,Nat.reduceSub,Nat.reduceAdd,reduceIte],rfl⟩
  | int i=>exact⟨.int i,by simp -implicitDefEqProofs (disch:=omega) only[ev0,Nat.reduceBEq,Nat.reduceSub,Nat.reduceAdd,reduceIte],rfl⟩
  | str z=>exact⟨.str z,by simp -implicitDefEqProofs (disch:=omega) only[ev0,Nat.reduceBEq,Nat.reduceSub,Nat.reduceAdd,reduceIte],rfl⟩
  | tup ds=>
   have h':=Bool.and_eq_true_iff.mp (show (pls n ds && decide (ds.length < 1000))=true from h)
   have hl:ds.length < 1000:=of_decide_eq_true h'.2
   obtain⟨ys,e,hy,hyl⟩:=fm ds h'.1
   unfold kY
   cases lf:ae ys with
   | true=>
    refine⟨.tup ys,?_,by rw[er,hy]⟩
    simp -implicitDefEqProofs (disch:=omega) only[ev0,Nat.reduceBEq,Nat.reduceSub,Nat.reduceAdd,reduceIte,e,lf]
   | false=>
    refine⟨.tup (ers ys),?_,by rw[er,ers_ers,hy]⟩
    simp -implicitDefEqProofs (disch:=omega) only[ev0,Nat.reduceBEq,Nat.reduceSub,Nat.reduceAdd,reduceIte,e,lf]
  | lst o ds=>
   have h0:=Bool.and_eq_true_iff.mp (show (!o && (pls n ds && decide (ds.length < 1000)))=true from h)
   have h':=Bool.and_eq_true_iff.mp h0.2
   have ho:o=false:=by simpa using h0.1
   subst ho
   have hl:ds.length < 1000:=of_decide_eq_true h'.2
   obtain⟨ys,e,hy,hyl⟩:=fm ds h'.1
   unfold kY
   cases lf:ae ys with
   | true=>
    refine⟨.lst true ys,?_,by rw[er,hy]⟩
    simp -implicitDefEqProofs (disch:=omega) only[ev0,Nat.reduceBEq,Nat.reduceSub,Nat.reduceAdd,reduceIte,e,lf]
   | false=>
    refine⟨.lst true (ers ys),?_,by rw[er,ers_ers,hy]⟩
    simp -implicitDefEqProofs (disch:=omega) only[ev0,Nat.reduceBEq,Nat.reduceSub,Nat.reduceAdd,reduceIte,e,lf]
  | dct _ _ _=>cases h
  | exc _=>cases h
end Fr
end L2
namespace Law
open PySem PySem.Spec L2 L2.Fr
theorem same (n k:Nat) {d:D} (h:pl n d=true):af T (n + k) 39 [d,d]=.ok (.bl true):=sj (fn:=d39) rfl rfl rfl rfl n k d h
theorem copy (n k:Nat) {d:D} (h:pl n d=true):∃ d',af T (n + k) 40 [d]=.ok d'/\er d'=d:=sk (fn:=d40) (x:="_law_part") rfl rfl rfl rfl n k d h
inductive Tn where
 | i (n:Int) | s (x:Str)
noncomputable def Tn.d:Tn->D
 | .i n=>.int n
 | .s x=>.str x
structure Cn where
 m:Str
 w:Str
 ts:List Tn
noncomputable def Cn.d (c:Cn):D:=.tup [.str c.m,.str c.w,.lst false (c.ts.map Tn.d)]
noncomputable def ax (r:List Cn):D:=.lst false (r.map Cn.d)
structure Gp where
 n:Str
 rows:List (List Cn)
noncomputable def Gp.d (g:Gp):D:=.tup [.str g.n,.lst false (g.rows.map ax)]
structure Ru where
 cs:List Cn
 o:D
noncomputable def Ru.d (r:Ru):D:=.tup [ax r.cs,r.o]
theorem uV:∀ ts:List Tn,ae (ts.map Tn.d)=true
 | []=>rfl
 | t::ts=>by
  show (ao t.d && ae (ts.map Tn.d))=true
  rw[uV ts]
  cases t<;>rfl
theorem jd (ts:List Tn):ers (ts.map Tn.d)=ts.map Tn.d:=aK (uV ts)
theorem jf (c:Cn):er c.d=c.d:=by
 unfold Cn.d
 show D.tup [er (.str c.m),er (.str c.w),er (.lst false (c.ts.map Tn.d))]=_
 show D.tup [.str c.m,.str c.w,.lst false (ers (c.ts.map Tn.d))]=_
 rw[jd]
theorem jT {α:Type} {e:α->D} (h:∀ a,er (e a)=e a) (xs:List α):ers (xs.map e)=xs.map e:=by
 rw[az,List.map_map]
 exact List.map_congr_left fun a _=>h a
theorem cq (r:List Cn):ers (r.map Cn.d)=r.map Cn.d:=jT jf r
theorem jU (r:List Cn):er (ax r)=ax r:=by
 unfold ax
 show D.lst false (ers (r.map Cn.d))=_
 rw[cq]
theorem g9 (r:List (List Cn)):ers (r.map ax)=r.map ax:=jT jU r
theorem Au (g:Gp):er g.d=g.d:=by
 unfold Gp.d
 show D.tup [.str g.n,.lst false (ers (g.rows.map ax))]=_
 rw[g9]
theorem cD (gs:List Gp):ers (gs.map Gp.d)=gs.map Gp.d:=jT Au gs
noncomputable def nD (o:Bool) (ks:List Str):D:=.dct o (ks.map Sum.inr) (ks.map fun _=>.bl true)
theorem pX (x:Str):∀ ks:List Str,(look (ks.map Sum.inr) (ks.map fun _=>D.bl true) (.inr x)).isSome=ks.contains x
 | []=>rfl
 | k::ks=>by
  show (if (Sum.inr k:Key)=.inr x then some (D.bl true) else look (ks.map Sum.inr) (ks.map fun _=>D.bl true) (.inr x)).isSome=_
  rw[List.contains_cons]
  by_cases h:k=x
  ·subst h;simp
  ·rw[if_neg (fun z=>h (Sum.inr.inj z)),pX x ks]
   have:(x == k)=false:=by simpa using fun z:x=k=>h z.symm
   rw[this,Bool.false_or]
theorem Av:(false != true)=true:=rfl
theorem Aw:(false != false)=false:=rfl
noncomputable def tG2:List IS:=[(.ext 2 (.v 5))]
noncomputable def tG1:List IS:=[(.if_ (.din false (.v 3) (.v 1)) [(.for_ (.nm 5) (.val (.v 4)) tG2)] [])]
theorem Ax (cl:Nat->List D->Res D) (a0 a1 a3 a4:Option D):∀ (rows:List (List Cn)) (acc:List Cn) (a5:Option D),acc.length + rows.flatten.length<=1000->
  ∃ a5',forM (Ev.turn cl (.nm 5) tG2) (rows.map ax) [a0,a1,some (.lst true (acc.map Cn.d)),a3,a4,a5]=.ok (.nx [a0,a1,some (.lst true ((acc++rows.flatten).map Cn.d)),a3,a4,a5'])
 | [],acc,a5,_=>⟨a5,by rw[List.flatten_nil,List.append_nil];rfl⟩
 | r::rows,acc,a5,h=>by
  rw[List.flatten_cons,List.length_append] at h
  have e0:=jU r
  have lr:(r.map Cn.d).length=r.length:=List.length_map ..
  have la:(acc.map Cn.d).length=acc.length:=List.length_map ..
  have e1:Ev.turn cl (.nm 5) tG2 (ax r) [a0,a1,some (.lst true (acc.map Cn.d)),a3,a4,a5]=.ok (.nx [a0,a1,some (.lst true ((acc++r).map Cn.d)),a3,a4,some (ax r)]):=by
   rw[List.map_append]
   unfold tG2 ax
   have e2:=cq r
   simp -implicitDefEqProofs (disch:=omega) only[ev0,Nat.reduceBEq,Nat.reduceSub,Nat.reduceAdd,reduceIte,Ev.ah,e2,lr,la]
  obtain⟨a5',e2⟩:=Ax cl a0 a1 a3 a4 rows (acc++r) (some (ax r)) (by rw[List.length_append];omega)
  refine⟨a5',?_⟩
  rw[List.map_cons,Ev.aU,e1,Ev.aY,Ev.aZ,e2,List.flatten_cons,List.append_assoc]
noncomputable def gcs (p:Str->Bool):List Gp->List Cn
 | []=>[]
 | g::gs=>(if p g.n=true then g.rows.flatten else [])++gcs p gs
theorem pY (cl:Nat->List D->Res D) (a0:Option D) (ks:List Str):∀ (gs:List Gp) (acc:List Cn) (a3 a4 a5:Option D),acc.length + (gcs ks.contains gs).length<=1000->
  ∃ a3' a4' a5',forM (Ev.turn cl (.tp [(.nm 3),(.nm 4)]) tG1) (gs.map Gp.d) [a0,some (nD false ks),some (.lst true (acc.map Cn.d)),a3,a4,a5]=.ok (.nx [a0,some (nD false ks),some (.lst true ((acc++gcs ks.contains gs).map Cn.d)),a3',a4',a5'])
 | [],acc,a3,a4,a5,_=>⟨a3,a4,a5,by show _=_;rw[show gcs ks.contains []=[] from rfl,List.append_nil];rfl⟩
 | g::gs,acc,a3,a4,a5,h=>by
  have hg:gcs ks.contains (g::gs)=(if ks.contains g.n=true then g.rows.flatten else [])++gcs ks.contains gs:=rfl
  rw[hg,List.length_append] at h
  have hl:=pX g.n ks
  have er1:=g9 g.rows
  cases hk:ks.contains g.n with
  | true=>
   rw[hk,if_pos rfl] at h
   rw[hk] at hl
   obtain⟨a5',e5⟩:=Ax cl a0 (some (nD false ks)) (some (.str g.n)) (some (.lst false (g.rows.map ax))) g.rows acc a5 (by omega)
   have e1:Ev.turn cl (.tp [(.nm 3),(.nm 4)]) tG1 g.d [a0,some (nD false ks),some (.lst true (acc.map Cn.d)),a3,a4,a5]=.ok (.nx [a0,some (nD false ks),some (.lst true ((acc++g.rows.flatten).map Cn.d)),some (.str g.n),some (.lst false (g.rows.map ax)),a5']):=by
    unfold nD at e5 ⊢
    unfold tG1 Gp.d
    simp -implicitDefEqProofs (disch:=omega) only[ev0,Nat.reduceBEq,Nat.reduceSub,Nat.reduceAdd,reduceIte,Ev.ah,hl,er1,e5,Av]
   obtain⟨b3,b4,b5,e2⟩:=pY cl a0 ks gs (acc++g.rows.flatten) (some (.str g.n)) (some (.lst false (g.rows.map ax))) a5' (by rw[List.length_append];omega)
   refine⟨b3,b4,b5,?_⟩
   rw[List.map_cons,Ev.aU,e1,Ev.aY,Ev.aZ,e2,hg,hk,if_pos rfl,List.append_assoc]
  | false=>
   rw[hk,if_neg Bool.false_ne_true] at h
   rw[hk] at hl
   have e1:Ev.turn cl (.tp [(.nm 3),(.nm 4)]) tG1 g.d [a0,some (nD false ks),some (.lst true (acc.map Cn.d)),a3,a4,a5]=.ok (.nx [a0,some (nD false ks),some (.lst true (acc.map Cn.d)),some (.str g.n),some (.lst false (g.rows.map ax)),a5]):=by
    unfold nD
    unfold tG1 Gp.d
    simp -implicitDefEqProofs (disch:=omega) only[ev0,Nat.reduceBEq,Nat.reduceSub,Nat.reduceAdd,reduceIte,Ev.ah,hl,er1,Aw]
   obtain⟨b3,b4,b5,e2⟩:=pY cl a0 ks gs acc (some (.str g.n)) (some (.lst false (g.rows.map ax))) a5 (by rw[List.length_nil] at h;omega)
   refine⟨b3,b4,b5,?_⟩
   rw[List.map_cons,Ev.aU,e1,Ev.aY,Ev.aZ,e2,hg,hk,if_neg Bool.false_ne_true,List.nil_append]
theorem jg (n:Nat) (gs:List Gp) (ks:List Str) (h:(gcs ks.contains gs).length<=1000):af T (n + 1) 19 [.lst false (gs.map Gp.d),nD false ks]=.ok (.lst true ((gcs ks.contains gs).map Cn.d)):=by
 obtain⟨a3,a4,a5,e⟩:=pY (af T n) (some (.lst false (gs.map Gp.d))) ks gs [] none none none (by simpa using h)
 rw[List.map_nil,List.nil_append] at e
 have er1:=cD gs
 rw[Ev.go (show T 19=some d19 from rfl) (show d19.np=2 from rfl) (show d19.G.N.length=6 from rfl) (show d19.body=b19 from rfl) rfl];unfold b19
 unfold tG1 tG2 at e
 simp -implicitDefEqProofs (disch:=omega) only[ev0,Nat.reduceBEq,Nat.reduceSub,Nat.reduceAdd,reduceIte,e,er1]
noncomputable def io (c:Cn):Bool:=(Str.ofString "in" == c.w) || (Str.ofString "out" == c.w)
noncomputable def dA (ks:List Str) (x:Str):List Str:=if ks.contains x=true then ks else ks++[x]
theorem pZ (x:Str):∀ ks:List Str,iN (ks.map Sum.inr) (.inr x)=ks.contains x
 | []=>rfl
 | k::ks=>by
  show (decide ((Sum.inr k:Key)=.inr x) || iN (ks.map Sum.inr) (.inr x))=_
  rw[List.contains_cons,pZ x ks]
  by_cases h:k=x
  ·subst h;simp
  ·have h1:decide ((Sum.inr k:Key)=.inr x)=false:=decide_eq_false fun z=>h (Sum.inr.inj z)
   have h2:(x == k)=false:=by simpa using fun z:x=k=>h z.symm
   rw[h1,h2]
theorem put_k (ks:List Str) (x:Str):dj (ks.map Sum.inr) (.inr x)=(dA ks x).map Sum.inr:=by
 unfold dj dA
 rw[pZ]
 cases ks.contains x
 ·simp
 ·rfl
theorem k0 (q:Key):∀ ks:List Str,List.zipWith (fun (k:Key) (e:D)=>if k=q then D.bl true else e) (ks.map Sum.inr) (ks.map fun _=>D.bl true)=ks.map fun _=>D.bl true
 | []=>rfl
 | k::ks=>by
  rw[List.map_cons,List.map_cons,List.zipWith_cons_cons,k0 q ks]
  split<;>rfl
theorem Ay (ks:List Str) (x:Str):cG (ks.map Sum.inr) (ks.map fun _=>D.bl true) (.inr x) (.bl true)=(dA ks x).map fun _=>D.bl true:=by
 unfold cG dA
 rw[pZ]
 cases ks.contains x
 ·simp
 ·rw[if_pos rfl,if_pos rfl,k0]
theorem Az (ks:List Str):ae (ks.map fun _=>D.bl true)=true:=by
 induction ks with
 | nil=>rfl
 | cons k ks ih=>show (true && ae (ks.map fun _=>D.bl true))=true;rw[ih];rfl
theorem Bv (ks:List Str):er (nD true ks)=nD false ks:=by
 unfold nD
 show D.dct false _ (ers _)=_
 rw[aK (Az ks)]
theorem jh (ks:List Str) (x:Str):(dA ks x).length<=ks.length + 1:=by
 unfold dA
 split
 ·omega
 ·rw[List.length_append];exact Nat.le_refl _
theorem cx0 (c:Cn):bo c.d (.int 0)=.ok (.str c.m):=rfl
theorem cx1 (c:Cn):bo c.d (.int 1)=.ok (.str c.w):=rfl
theorem cx2 (c:Cn):bo c.d (.int 2)=.ok (.lst false (c.ts.map Tn.d)):=rfl
noncomputable def tL2:List IS:=[(.if_ (.cmp .in_ (.idx (.v 5) (.c (.int 1))) (.tup [(.c (.str "in")),(.c (.str "out"))])) [(.dset 3 (.idx (.v 5) (.c (.int 0))) (.c (.bl true)))] [(.app 2 (.v 5))])]
noncomputable def tL1:List IS:=[(.for_ (.nm 5) (.val (.idx (.v 4) (.c (.int 0)))) tL2)]
noncomputable def nms (ks:List Str) (cs:List Cn):List Str:=(cs.filter io).foldl (fun k c=>dA k c.m) ks
theorem k6 (ks:List Str) (c:Cn) (cs:List Cn):nms ks (c::cs)=nms (if io c=true then dA ks c.m else ks) cs:=by
 unfold nms
 rw[List.filter_cons]
 split<;>rfl
theorem xb (cl:Nat->List D->Res D) (a0 a1 a4:Option D):∀ (cs acc:List Cn) (ks:List Str) (a5:Option D),acc.length + cs.length<=1000->ks.length + cs.length<=1000->
  ∃ a5',forM (Ev.turn cl (.nm 5) tL2) (cs.map Cn.d) [a0,a1,some (.lst true (acc.map Cn.d)),some (nD true ks),a4,a5]=.ok (.nx [a0,a1,some (.lst true ((acc++cs.filter (fun c=>!io c)).map Cn.d)),some (nD true (nms ks cs)),a4,a5'])
 | [],acc,ks,a5,_,_=>⟨a5,by rw[List.filter_nil,List.append_nil];rfl⟩
 | c::cs,acc,ks,a5,h,h'=>by
  rw[List.length_cons] at h h'
  have la:(acc.map Cn.d).length=acc.length:=List.length_map ..
  have x0:=cx0 c
  have x1:=cx1 c
  have ce:=jf c
  cases hc:io c with
  | true=>
   have hd:Ev.kO cl 3 (.idx (.v 5) (.c (.int 0))) [a0,a1,some (.lst true (acc.map Cn.d)),some (nD true ks),a4,some c.d] (.bl true) (some (nD true ks))=.ok (.nx [a0,a1,some (.lst true (acc.map Cn.d)),some (nD true (dA ks c.m)),a4,some c.d]):=by
    unfold nD
    rw[Ev.gY (x:=c.m) (by simp -implicitDefEqProofs (disch:=omega) only[ev0,Nat.reduceBEq,Nat.reduceSub,Nat.reduceAdd,reduceIte,x0]) (by rw[Az,List.length_map,Ev.jS (by omega)];rfl),put_k,Ay]
    rfl
   have e1:Ev.turn cl (.nm 5) tL2 c.d [a0,a1,some (.lst true (acc.map Cn.d)),some (nD true ks),a4,a5]=.ok (.nx [a0,a1,some (.lst true (acc.map Cn.d)),some (nD true (dA ks c.m)),a4,some c.d]):=by
    unfold io at hc
    unfold tL2
    cases w1:(Str.ofString "in" == c.w) with
    | true=>
     cases w2:(Str.ofString "out" == c.w) with
     | true=>simp -implicitDefEqProofs (disch:=omega) only[ev0,Nat.reduceBEq,Nat.reduceSub,Nat.reduceAdd,reduceIte,Ev.ah,w1,w2,hd,x1]
     | false=>simp -implicitDefEqProofs (disch:=omega) only[ev0,Nat.reduceBEq,Nat.reduceSub,Nat.reduceAdd,reduceIte,Ev.ah,w1,w2,hd,x1]
    | false=>
     rw[w1,Bool.false_or] at hc
     simp -implicitDefEqProofs (disch:=omega) only[ev0,Nat.reduceBEq,Nat.reduceSub,Nat.reduceAdd,reduceIte,Ev.ah,w1,hc,hd,x1]
   obtain⟨a5',e2⟩:=xb cl a0 a1 a4 cs acc (dA ks c.m) (some c.d) (by omega) (by have:=jh ks c.m;omega)
   refine⟨a5',?_⟩
   rw[List.map_cons,Ev.aU,e1,Ev.aY,Ev.aZ,e2,List.filter_cons,k6,hc]
   rfl
  | false=>
   have e1:Ev.turn cl (.nm 5) tL2 c.d [a0,a1,some (.lst true (acc.map Cn.d)),some (nD true ks),a4,a5]=.ok (.nx [a0,a1,some (.lst true ((acc++[c]).map Cn.d)),some (nD true ks),a4,some c.d]):=by
    unfold io at hc
    have hc':=Bool.or_eq_false_iff.mp hc
    have w1:=hc'.1
    have w2:=hc'.2
    rw[List.map_append,List.map_cons,List.map_nil]
    unfold tL2
    simp -implicitDefEqProofs (disch:=omega) only[ev0,Nat.reduceBEq,Nat.reduceSub,Nat.reduceAdd,reduceIte,Ev.ah,w1,w2,x1,ce,la]
   obtain⟨a5',e2⟩:=xb cl a0 a1 a4 cs (acc++[c]) ks (some c.d) (by rw[List.length_append,List.length_singleton];omega) (by omega)
   refine⟨a5',?_⟩
   rw[List.map_cons,Ev.aU,e1,Ev.aY,Ev.aZ,e2,List.filter_cons,k6,hc]
   simp
noncomputable def aM (rs:List Ru):List Cn:=rs.flatMap Ru.cs
theorem so (ks:List Str) (a b:List Cn):nms (nms ks a) b=nms ks (a++b):=by
 unfold nms
 rw[List.filter_append,List.foldl_append]
theorem k7:∀ (cs:List Cn) (ks:List Str),(nms ks cs).length<=ks.length + cs.length
 | [],ks=>Nat.le_refl _
 | c::cs,ks=>by
  rw[k6,List.length_cons]
  have h:=k7 cs (if io c=true then dA ks c.m else ks)
  have h2:=jh ks c.m
  split at h<;>(rename_i q;simp only[q,if_true,if_false] at h ⊢;simp_all;omega)
theorem rx0 (r:Ru):bo r.d (.int 0)=.ok (.lst false (r.cs.map Cn.d)):=rfl
theorem uW {r:Ru} (h:er r.o=r.o):er r.d=r.d:=by
 unfold Ru.d
 show D.tup [er (ax r.cs),er r.o]=_
 rw[jU,h]
theorem uX (cl:Nat->List D->Res D) (a0 a1:Option D):∀ (rs:List Ru) (acc:List Cn) (ks:List Str) (a4 a5:Option D),(∀ r ∈ rs,er r.o=r.o)->acc.length + (aM rs).length<=1000->ks.length + (aM rs).length<=1000->
  ∃ a4' a5',forM (Ev.turn cl (.nm 4) tL1) (rs.map Ru.d) [a0,a1,some (.lst true (acc.map Cn.d)),some (nD true ks),a4,a5]=.ok (.nx [a0,a1,some (.lst true ((acc++(aM rs).filter (fun c=>!io c)).map Cn.d)),some (nD true (nms ks (aM rs))),a4',a5'])
 | [],acc,ks,a4,a5,_,_,_=>⟨a4,a5,by show _=_;rw[show aM []=[] from rfl,List.filter_nil,List.append_nil];rfl⟩
 | r::rs,acc,ks,a4,a5,ho,h,h'=>by
  have hr:aM (r::rs)=r.cs++aM rs:=rfl
  rw[hr,List.length_append] at h h'
  obtain⟨b5,e5⟩:=xb cl a0 a1 (some r.d) r.cs acc ks a5 (by omega) (by omega)
  have x0:=rx0 r
  have re:=uW (ho r (by simp))
  have ce:=cq r.cs
  have e1:Ev.turn cl (.nm 4) tL1 r.d [a0,a1,some (.lst true (acc.map Cn.d)),some (nD true ks),a4,a5]=.ok (.nx [a0,a1,some (.lst true ((acc++r.cs.filter (fun c=>!io c)).map Cn.d)),some (nD true (nms ks r.cs)),some r.d,b5]):=by
   unfold tL1
   simp -implicitDefEqProofs (disch:=omega) only[ev0,Nat.reduceBEq,Nat.reduceSub,Nat.reduceAdd,reduceIte,Ev.ah,x0,re,ce,e5]
  have hf:=List.length_filter_le (fun c=>!io c) r.cs
  obtain⟨b4,c5,e2⟩:=uX cl a0 a1 rs (acc++r.cs.filter (fun c=>!io c)) (nms ks r.cs) (some r.d) b5 (fun z hz=>ho z (List.mem_cons_of_mem _ hz)) (by rw[List.length_append];omega) (by have:=k7 r.cs ks;omega)
  refine⟨b4,c5,?_⟩
  rw[List.map_cons,Ev.aU,e1,Ev.aY,Ev.aZ,e2,hr,List.filter_append,so,List.append_assoc]
noncomputable def lk (gs:List Gp) (rs:List Ru):List Cn:=(aM rs).filter (fun c=>!io c)++gcs (nms [] (aM rs)).contains gs
structure Hd (gs:List Gp) (rs:List Ru) (sw:D):Prop where
 ix:bo sw (.int 2)=.ok (.lst false (rs.map Ru.d))
 er:L2.er sw=sw
 ro:∀ r ∈ rs,L2.er r.o=r.o
 l1:(aM rs).length<=100
 l2:(gcs (nms [] (aM rs)).contains gs).length<=100
theorem jV {rs:List Ru} (h:∀ r ∈ rs,er r.o=r.o):ers (rs.map Ru.d)=rs.map Ru.d:=by
 rw[az,List.map_map]
 exact List.map_congr_left fun r hr=>uW (h r hr)
theorem looked (n:Nat) {gs:List Gp} {rs:List Ru} {sw:D} (H:Hd gs rs sw):af T (n + 2) 20 [.lst false (gs.map Gp.d),sw]=.ok (.lst true ((lk gs rs).map Cn.d)):=by
 have h1:=H.l1
 have h2:=H.l2
 obtain⟨a4,a5,e⟩:=uX (af T (n + 1)) (some (.lst false (gs.map Gp.d))) (some sw) rs [] [] none none H.ro (by simpa using(by omega:(aM rs).length<=1000)) (by simpa using(by omega:(aM rs).length<=1000))
 rw[List.map_nil,List.nil_append] at e
 have eg:=jg n gs (nms [] (aM rs)) (by omega)
 have ne:=Bv (nms [] (aM rs))
 have ge:=cD gs
 have re:=jV H.ro
 have se:=H.er
 have sx:=H.ix
 have hf:=List.length_filter_le (fun c=>!io c) (aM rs)
 have hl:(((aM rs).filter (fun c=>!io c)).map Cn.d).length=((aM rs).filter (fun c=>!io c)).length:=List.length_map ..
 have hl2:((gcs (nms [] (aM rs)).contains gs).map Cn.d).length=(gcs (nms [] (aM rs)).contains gs).length:=List.length_map ..
 unfold lk
 rw[List.map_append]
 have ce:ers (((aM rs).filter (fun c=>!io c)).map Cn.d++(gcs (nms [] (aM rs)).contains gs).map Cn.d)=((aM rs).filter (fun c=>!io c)).map Cn.d++(gcs (nms [] (aM rs)).contains gs).map Cn.d:=by
  rw[<- List.map_append];exact cq _
 have nd:D.dct true [] []=nD true []:=rfl
 cases lf:ae (((aM rs).filter (fun c=>!io c)).map Cn.d++(gcs (nms [] (aM rs)).contains gs).map Cn.d) with
 | true=>
  rw[Ev.go (show T 20=some d20 from rfl) (show d20.np=2 from rfl) (show d20.G.N.length=6 from rfl) (show d20.body=b20 from rfl) rfl];unfold b20
  unfold tL1 tL2 at e
  simp -implicitDefEqProofs (disch:=omega) only[ev0,Nat.reduceBEq,Nat.reduceSub,Nat.reduceAdd,reduceIte,nd,sx,se,re,e,eg,ne,ge,hl,hl2,lf]
 | false=>
  rw[Ev.go (show T 20=some d20 from rfl) (show d20.np=2 from rfl) (show d20.G.N.length=6 from rfl) (show d20.body=b20 from rfl) rfl];unfold b20
  unfold tL1 tL2 at e
  simp -implicitDefEqProofs (disch:=omega) only[ev0,Nat.reduceBEq,Nat.reduceSub,Nat.reduceAdd,reduceIte,nd,sx,se,re,e,eg,ne,ge,hl,hl2,lf,ce]
theorem uY (w:Str):∀ ws:List Str,anyN (.str w) (ws.map .str)=.ok (ws.any (· == w))
 | []=>rfl
 | x::ws=>by
  show bnd (.ok (x == w)) (fun a=>bnd (anyN (.str w) (ws.map .str)) fun b=>.ok (a || b))=_
  rw[uY w ws]
  rfl
theorem Bw (w:Str) (ws:List Str):opC .in_ (.str w) (.tup (ws.map .str))=.ok (ws.any (· == w)):=uY w ws
noncomputable def tT:List IS:=[(.if_ (.and_ (.cmp .eq (.idx (.v 5) (.c (.int 0))) (.v 2)) (.cmp .in_ (.idx (.v 5) (.c (.int 1))) (.v 3))) [(.ext 4 (.idx (.v 5) (.c (.int 2))))] [])]
noncomputable def hit (mk:Str) (ws:List Str) (c:Cn):Bool:=(c.m == mk) && ws.any (· == c.w)
noncomputable def tt (mk:Str) (ws:List Str) (cs:List Cn):List Tn:=(cs.filter (hit mk ws)).flatMap Cn.ts
theorem xc (cl:Nat->List D->Res D) (a0 a1:Option D) (mk:Str) (ws:List Str):∀ (cs:List Cn) (acc:List Tn) (a5:Option D),acc.length + (cs.flatMap Cn.ts).length<=1000->
  ∃ a5',forM (Ev.turn cl (.nm 5) tT) (cs.map Cn.d) [a0,a1,some (.str mk),some (.tup (ws.map .str)),some (.lst true (acc.map Tn.d)),a5]=.ok (.nx [a0,a1,some (.str mk),some (.tup (ws.map .str)),some (.lst true ((acc++tt mk ws cs).map Tn.d)),a5'])
 | [],acc,a5,_=>⟨a5,by show _=_;rw[show tt mk ws []=[] from rfl,List.append_nil];rfl⟩
 | c::cs,acc,a5,h=>by
  rw[List.flatMap_cons,List.length_append] at h
  have x0:=cx0 c
  have x1:=cx1 c
  have x2:=cx2 c
  have ce:=jf c
  have te:=jd c.ts
  have iw:=Bw c.w ws
  have la:(acc.map Tn.d).length=acc.length:=List.length_map ..
  have lt:(c.ts.map Tn.d).length=c.ts.length:=List.length_map ..
  cases hh:hit mk ws c with
  | true=>
   have hh':=Bool.and_eq_true_iff.mp hh
   have q1:=hh'.1
   have q2:=hh'.2
   have e1:Ev.turn cl (.nm 5) tT c.d [a0,a1,some (.str mk),some (.tup (ws.map .str)),some (.lst true (acc.map Tn.d)),a5]=.ok (.nx [a0,a1,some (.str mk),some (.tup (ws.map .str)),some (.lst true ((acc++c.ts).map Tn.d)),some c.d]):=by
    rw[List.map_append]
    unfold tT
    simp -implicitDefEqProofs (disch:=omega) only[ev0,Nat.reduceBEq,Nat.reduceSub,Nat.reduceAdd,reduceIte,Ev.ah,x0,x1,x2,ce,te,iw,q1,q2,la,lt]
   obtain⟨b5,e2⟩:=xc cl a0 a1 mk ws cs (acc++c.ts) (some c.d) (by rw[List.length_append];omega)
   refine⟨b5,?_⟩
   have ht:tt mk ws (c::cs)=c.ts++tt mk ws cs:=by unfold tt;rw[List.filter_cons,hh,if_pos rfl,List.flatMap_cons]
   rw[List.map_cons,Ev.aU,e1,Ev.aY,Ev.aZ,e2,ht,List.append_assoc]
  | false=>
   have ht:tt mk ws (c::cs)=tt mk ws cs:=by unfold tt;rw[List.filter_cons,hh];rfl
   have e1:Ev.turn cl (.nm 5) tT c.d [a0,a1,some (.str mk),some (.tup (ws.map .str)),some (.lst true (acc.map Tn.d)),a5]=.ok (.nx [a0,a1,some (.str mk),some (.tup (ws.map .str)),some (.lst true (acc.map Tn.d)),some c.d]):=by
    unfold tT
    unfold hit at hh
    cases q1:(c.m == mk) with
    | true=>
     rw[q1,Bool.true_and] at hh
     simp -implicitDefEqProofs (disch:=omega) only[ev0,Nat.reduceBEq,Nat.reduceSub,Nat.reduceAdd,reduceIte,Ev.ah,x0,x1,ce,iw,q1,hh]
    | false=>simp -implicitDefEqProofs (disch:=omega) only[ev0,Nat.reduceBEq,Nat.reduceSub,Nat.reduceAdd,reduceIte,Ev.ah,x0,ce,q1]
   obtain⟨b5,e2⟩:=xc cl a0 a1 mk ws cs acc (some c.d) (by omega)
   refine⟨b5,?_⟩
   rw[List.map_cons,Ev.aU,e1,Ev.aY,Ev.aZ,e2,ht]
theorem told (n:Nat) {gs:List Gp} {rs:List Ru} {sw:D} (H:Hd gs rs sw) (hn:((lk gs rs).flatMap Cn.ts).length<=1000) (mk:Str) (ws:List Str) :
  af T (n + 3) 22 [.lst false (gs.map Gp.d),sw,.str mk,.tup (ws.map .str)]=.ok (.lst true ((tt mk ws (lk gs rs)).map Tn.d)):=by
 have el:=looked n H
 obtain⟨a5,e⟩:=xc (af T (n + 2)) (some (.lst false (gs.map Gp.d))) (some sw) mk ws (lk gs rs) [] none (by simpa using hn)
 rw[List.map_nil,List.nil_append] at e
 have ge:=cD gs
 have se:=H.er
 have ce:=cq (lk gs rs)
 rw[Ev.go (show T 22=some d22 from rfl) (show d22.np=4 from rfl) (show d22.G.N.length=6 from rfl) (show d22.body=b22 from rfl) rfl];unfold b22
 unfold tT at e
 simp -implicitDefEqProofs (disch:=omega) only[ev0,Nat.reduceBEq,Nat.reduceSub,Nat.reduceAdd,reduceIte,el,ge,se,ce,e]
theorem uZ:∀ xs:List Int,bC (xs.map .int)=some xs
 | []=>rfl
 | x::xs=>by show (bC (xs.map .int)).map (x::·)=_;rw[uZ xs];rfl
theorem u0:∀ xs:List Str,aP (xs.map .str)=some xs
 | []=>rfl
 | x::xs=>by show (aP (xs.map .str)).map (x::·)=_;rw[u0 xs];rfl
theorem p0 {o:Bool} {xs:List Int} (h:xs.length < 64):iP (.lst o (xs.map .int))=.ok (.lst true ((PySem.W.sortI (dd xs)).map .int)):=by
 show (match bC (xs.map .int) with | some ns=>grd (decide (ns.length < 64)) (.ok (.lst true ((PySem.W.sortI (dd ns)).map .int))) | none=>match aP (xs.map .int) with | some ns=>grd (decide (ns.length < 64)) (.ok (.lst true ((br (ddT ns)).map .str))) | none=>stk:Res D)=_
 rw[uZ]
 show grd (decide (xs.length < 64)) _=_
 rw[decide_eq_true h]
 rfl
theorem dQ {o:Bool} {xs:List Str} (h:xs.length < 64):iP (.lst o (xs.map .str))=.ok (.lst true ((br (ddT xs)).map .str)):=by
 show (match bC (xs.map .str) with | some ns=>grd (decide (ns.length < 64)) (.ok (.lst true ((PySem.W.sortI (dd ns)).map .int))) | none=>match aP (xs.map .str) with | some ns=>grd (decide (ns.length < 64)) (.ok (.lst true ((br (ddT ns)).map .str))) | none=>stk:Res D)=_
 cases xs with
 | nil=>rfl
 | cons x xs=>
  rw[show bC ((x::xs).map D.str)=none from rfl]
  show (match aP ((x::xs).map .str) with | some ns=>grd (decide (ns.length < 64)) (.ok (.lst true ((br (ddT ns)).map .str))) | none=>stk:Res D)=_
  rw[u0]
  show grd (decide ((x::xs).length < 64)) _=_
  rw[decide_eq_true h]
  rfl
noncomputable def sS (xs:List Str):List Str:=br (ddT xs)
noncomputable def sI (xs:List Int):List Int:=PySem.W.sortI (dd xs)
noncomputable def txs:List Tn->List Str
 | []=>[]
 | .s x::r=>x::txs r
 | .i _::r=>txs r
noncomputable def ins:List Tn->List Int
 | []=>[]
 | .i x::r=>x::ins r
 | .s _::r=>ins r
theorem bz:∀ ts:List Tn,(txs ts).length<=ts.length
 | []=>Nat.le_refl _
 | .s x::r=>Nat.succ_le_succ (bz r)
 | .i _::r=>Nat.le_succ_of_le (bz r)
theorem bA:∀ ts:List Tn,(ins ts).length<=ts.length
 | []=>Nat.le_refl _
 | .i x::r=>Nat.succ_le_succ (bA r)
 | .s _::r=>Nat.le_succ_of_le (bA r)
theorem cE {g:D->Res (Option D)} {x y:D} {xs ys:List D} (h:g x=.ok (some y)) (k:aA g xs=.ok ys):aA g (x::xs)=.ok (y::ys):=by
 show bnd (g x) _=_
 rw[h]
 show bnd (aA g xs) _=_
 rw[k]
 rfl
theorem hJ {g:D->Res (Option D)} {x:D} {xs ys:List D} (h:g x=.ok none) (k:aA g xs=.ok ys):aA g (x::xs)=.ok ys:=by
 show bnd (g x) _=_
 rw[h]
 exact k
theorem p4 (cl:Nat->List D->Res D):∀ ts:List Tn,aA (aG cl (.nm 0) [(.isi (.v 0) .str)] (.v 0) [none]) (ts.map Tn.d)=.ok ((txs ts).map .str)
 | []=>rfl
 | .s x::r=>cE (show aG cl (.nm 0) [(.isi (.v 0) .str)] (.v 0) [none] (.str x)=.ok (some (.str x)) from rfl) (p4 cl r)
 | .i x::r=>hJ (show aG cl (.nm 0) [(.isi (.v 0) .str)] (.v 0) [none] (.int x)=.ok none from rfl) (p4 cl r)
theorem sr (n:Nat) (x:Int):af T (n + 1) 18 [.int x]=.ok (.bl true):=by
 rw[Ev.go (show T 18=some d18 from rfl) (show d18.np=1 from rfl) (show d18.G.N.length=1 from rfl) (show d18.body=b18 from rfl) rfl];unfold b18
 simp -implicitDefEqProofs (disch:=omega) only[ev0,Nat.reduceBEq,Nat.reduceSub,Nat.reduceAdd,reduceIte]
theorem su (n:Nat) (x:Str):af T (n + 1) 18 [.str x]=.ok (.bl false):=by
 rw[Ev.go (show T 18=some d18 from rfl) (show d18.np=1 from rfl) (show d18.G.N.length=1 from rfl) (show d18.body=b18 from rfl) rfl];unfold b18
 simp -implicitDefEqProofs (disch:=omega) only[ev0,Nat.reduceBEq,Nat.reduceSub,Nat.reduceAdd,reduceIte]
theorem p5 (n:Nat):∀ ts:List Tn,aA (aG (af T (n + 1)) (.nm 0) [(.call 18 [(.v 0)])] (.v 0) [none]) (ts.map Tn.d)=.ok ((ins ts).map .int)
 | []=>rfl
 | .i x::r=>cE (show aG (af T (n + 1)) (.nm 0) [(.call 18 [(.v 0)])] (.v 0) [none] (.int x)=.ok (some (.int x)) by
   have w:=sr n x
   simp -implicitDefEqProofs (disch:=omega) only[ev0,Nat.reduceBEq,Nat.reduceSub,Nat.reduceAdd,reduceIte,Ev.ah,w]) (p5 n r)
 | .s x::r=>hJ (show aG (af T (n + 1)) (.nm 0) [(.call 18 [(.v 0)])] (.v 0) [none] (.str x)=.ok none by
   have w:=su n x
   simp -implicitDefEqProofs (disch:=omega) only[ev0,Nat.reduceBEq,Nat.reduceSub,Nat.reduceAdd,reduceIte,Ev.ah,w]) (p5 n r)
theorem p6 (cl:Nat->List D->Res D) (cs:List Cn):aA (aG cl (.nm 0) [] (.idx (.v 0) (.c (.int 0))) [none]) (cs.map Cn.d)=.ok ((cs.map Cn.m).map .str):=
 Ev.cn Cn.d Cn.m D.str cs fun c _=>by
  have x0:=cx0 c
  simp -implicitDefEqProofs (disch:=omega) only[ev0,Nat.reduceBEq,Nat.reduceSub,Nat.reduceAdd,reduceIte,Ev.ah,x0]
theorem p7 (n:Nat) {gs:List Gp} {rs:List Ru} {sw:D} (H:Hd gs rs sw) (h64:(lk gs rs).length < 64):af T (n + 3) 21 [.lst false (gs.map Gp.d),sw]=.ok (.lst false ((sS ((lk gs rs).map Cn.m)).map .str)):=by
 have el:=looked n H
 have ge:=cD gs
 have se:=H.er
 have ss:=dQ (o:=true) (xs:=(lk gs rs).map Cn.m) (by rw[List.length_map];exact h64)
 have f:=p6 (af T (n + 2)) (lk gs rs)
 have ll:((lk gs rs).map Cn.d).length=(lk gs rs).length:=List.length_map ..
 have nl:av (.sset (.comp {N:=["cond"],kd:=[.local],gl:=[],df:=false} [] (.nm 0) (.val (.call 20 [(.v 0),(.v 1)])) [] (.idx (.v 0) (.c (.int 0)))))=false:=rfl
 unfold sS
 rw[Ev.go (show T 21=some d21 from rfl) (show d21.np=2 from rfl) (show d21.G.N.length=2 from rfl) (show d21.body=b21 from rfl) rfl];unfold b21
 simp -implicitDefEqProofs (disch:=omega) only[ev0,Nat.reduceBEq,Nat.reduceSub,Nat.reduceAdd,reduceIte,el,ge,se,ss,f,ll,nl]
noncomputable def wIs:List Str:=[Str.ofString "is",Str.ofString "not"]
noncomputable def wBe:List Str:=[Str.ofString "begins"]
noncomputable def wLe:List Str:=[Str.ofString "least"]
noncomputable def wMo:List Str:=[Str.ofString "most"]
structure Ok (cs:List Cn):Prop where
 be:∀ c ∈ cs,c.w=Str.ofString "begins"->∀ t ∈ c.ts,∃ x,t=.s x
 le:∀ c ∈ cs,c.w=Str.ofString "least"->∀ t ∈ c.ts,∃ x,t=.i x
 mo:∀ c ∈ cs,c.w=Str.ofString "most"->∀ t ∈ c.ts,∃ x,t=.i x
 few:(cs.flatMap Cn.ts).length<=20
 fc:cs.length < 64
theorem cK (mk:Str) (ws:List Str):∀ cs:List Cn,(tt mk ws cs).length<=(cs.flatMap Cn.ts).length
 | []=>Nat.le_refl _
 | c::cs=>by
  have ih:=cK mk ws cs
  unfold tt at ih ⊢
  rw[List.filter_cons,List.flatMap_cons,List.length_append]
  split
  ·rw[List.flatMap_cons,List.length_append];omega
  ·omega
theorem bW {mk:Str} {ws:List Str} {cs:List Cn} {t:Tn}:t ∈ tt mk ws cs↔∃ c ∈ cs,hit mk ws c=true/\t ∈ c.ts:=by
 unfold tt
 rw[List.mem_flatMap]
 constructor
 ·rintro ⟨c,h1,h2⟩
  rw[List.mem_filter] at h1
  exact⟨c,h1.1,h1.2,h2⟩
 ·rintro ⟨c,h1,h2,h3⟩
  exact⟨c,List.mem_filter.mpr ⟨h1,h2⟩,h3⟩
theorem u3:∀ {ts:List Tn},(∀ t ∈ ts,∃ x,t=.s x)->ts.map Tn.d=(txs ts).map .str
 | [],_=>rfl
 | t::r,h=>by
  obtain⟨x,rfl⟩:=h t (by simp)
  show D.str x::r.map Tn.d=D.str x::(txs r).map .str
  rw[u3 fun t ht=>h t (List.mem_cons_of_mem _ ht)]
theorem p8:∀ {ts:List Tn},(∀ t ∈ ts,∃ x,t=.i x)->ts.map Tn.d=(ins ts).map .int
 | [],_=>rfl
 | t::r,h=>by
  obtain⟨x,rfl⟩:=h t (by simp)
  show D.int x::r.map Tn.d=D.int x::(ins r).map .int
  rw[p8 fun t ht=>h t (List.mem_cons_of_mem _ ht)]
theorem ji {w x:Str} (h:[x].any (· == w)=true):w=x:=by
 simp at h
 exact h.symm
theorem AA {mk:Str} {cs:List Cn} (o:Ok cs):(tt mk wBe cs).map Tn.d=(txs (tt mk wBe cs)).map .str:=u3 fun t ht=>by
 obtain⟨c,h1,h2,h3⟩:=bW.mp ht
 exact o.be c h1 (ji (Bool.and_eq_true_iff.mp h2).2) t h3
theorem AB {mk:Str} {cs:List Cn} (o:Ok cs):(tt mk wLe cs).map Tn.d=(ins (tt mk wLe cs)).map .int:=p8 fun t ht=>by
 obtain⟨c,h1,h2,h3⟩:=bW.mp ht
 exact o.le c h1 (ji (Bool.and_eq_true_iff.mp h2).2) t h3
theorem AD {mk:Str} {cs:List Cn} (o:Ok cs):(tt mk wMo cs).map Tn.d=(ins (tt mk wMo cs)).map .int:=p8 fun t ht=>by
 obtain⟨c,h1,h2,h3⟩:=bW.mp ht
 exact o.mo c h1 (ji (Bool.and_eq_true_iff.mp h2).2) t h3
variable {gs:List Gp} {rs:List Ru} {sw:D}
noncomputable def tsP (mk:Str) (cs:List Cn):List Str:=sS (txs (tt mk wIs cs))
noncomputable def bsP (mk:Str) (cs:List Cn):List Str:=sS (Str.ofString ""::txs (tt mk wBe cs))
noncomputable def cuP (mk:Str) (cs:List Cn):List Int:=sI (ins (tt mk wIs cs)++ins (tt mk wLe cs)++(ins (tt mk wIs cs)++ins (tt mk wMo cs)).map (· + 1))
theorem p9 (n:Nat) (H:Hd gs rs sw) (o:Ok (lk gs rs)) (mk:Str):af T (n + 4) 23 [.lst false (gs.map Gp.d),sw,.str mk]=.ok (.lst false ((tsP mk (lk gs rs)).map .str)):=by
 have few:=o.few
 have tl:=cK mk wIs (lk gs rs)
 have xl:=bz (tt mk wIs (lk gs rs))
 have et:=told n H (by omega) mk wIs
 unfold wIs at et
 have ge:=cD gs
 have se:=H.er
 have ss:=dQ (o:=true) (xs:=txs (tt mk wIs (lk gs rs))) (by omega)
 have f:=p4 (af T (n + 3)) (tt mk wIs (lk gs rs))
 have ll:((tt mk wIs (lk gs rs)).map Tn.d).length=(tt mk wIs (lk gs rs)).length:=List.length_map ..
 have nl:av (.sset (.comp {N:=["thing"],kd:=[.local],gl:=[14,11],df:=false} [] (.nm 0) (.val (.v 3)) [(.isi (.v 0) .str)] (.v 0)))=false:=rfl
 unfold tsP sS
 unfold wIs at *
 rw[List.map_cons,List.map_cons,List.map_nil] at et
 rw[Ev.go (show T 23=some d23 from rfl) (show d23.np=3 from rfl) (show d23.G.N.length=4 from rfl) (show d23.body=b23 from rfl) rfl];unfold b23
 simp -implicitDefEqProofs (disch:=omega) only[ev0,Nat.reduceBEq,Nat.reduceSub,Nat.reduceAdd,reduceIte,et,ge,se,ss,f,ll,nl]
theorem qa (n:Nat) (H:Hd gs rs sw) (o:Ok (lk gs rs)) (mk:Str):af T (n + 4) 24 [.lst false (gs.map Gp.d),sw,.str mk]=.ok (.lst false ((bsP mk (lk gs rs)).map .str)):=by
 have few:=o.few
 have tl:=cK mk wBe (lk gs rs)
 have xl:=bz (tt mk wBe (lk gs rs))
 have et:=told n H (by omega) mk wBe
 rw[AA o] at et
 have ge:=cD gs
 have se:=H.er
 have ss:=dQ (o:=true) (xs:=Str.ofString ""::txs (tt mk wBe (lk gs rs))) (by rw[List.length_cons];omega)
 rw[List.map_cons] at ss
 have ll:((txs (tt mk wBe (lk gs rs))).map D.str).length=(txs (tt mk wBe (lk gs rs))).length:=List.length_map ..
 have nl:av (.sset (.bin .add (.lst [(.c (.str ""))]) (.call 22 [(.v 0),(.v 1),(.v 2),(.tup [(.c (.str "begins"))])])))=false:=rfl
 unfold bsP sS
 unfold wBe at *
 rw[List.map_cons,List.map_nil] at et
 rw[Ev.go (show T 24=some d24 from rfl) (show d24.np=3 from rfl) (show d24.G.N.length=3 from rfl) (show d24.body=b24 from rfl) rfl];unfold b24
 simp -implicitDefEqProofs (disch:=omega) only[ev0,Nat.reduceBEq,Nat.reduceSub,Nat.reduceAdd,reduceIte,et,ge,se,ss,ll,nl]
end Law
namespace Law
open PySem PySem.Spec L2 L2.Fr
variable {gs:List Gp} {rs:List Ru} {sw:D}
theorem AE {mk:Str} {c:Cn} (h:hit mk wLe c=true):hit mk wIs c=false/\hit mk wMo c=false:=by
 have hw:=ji (Bool.and_eq_true_iff.mp h).2
 unfold hit
 rw[hw]
 have h1:wIs.any (· == Str.ofString "least")=false:=by decide +kernel
 have h2:wMo.any (· == Str.ofString "least")=false:=by decide +kernel
 rw[h1,h2,Bool.and_false]
 exact⟨rfl,rfl⟩
theorem AF {mk:Str} {c:Cn} (h:hit mk wMo c=true):hit mk wIs c=false/\hit mk wLe c=false:=by
 have hw:=ji (Bool.and_eq_true_iff.mp h).2
 unfold hit
 rw[hw]
 have h1:wIs.any (· == Str.ofString "most")=false:=by decide +kernel
 have h2:wLe.any (· == Str.ofString "most")=false:=by decide +kernel
 rw[h1,h2,Bool.and_false]
 exact⟨rfl,rfl⟩
theorem xf (mk:Str) (ws:List Str) (c:Cn) (cs:List Cn):(tt mk ws (c::cs)).length=(if hit mk ws c=true then c.ts.length else 0) + (tt mk ws cs).length:=by
 unfold tt
 rw[List.filter_cons]
 split
 ·rw[List.flatMap_cons,List.length_append]
 ·omega
theorem tt3 (mk:Str):∀ cs:List Cn,(tt mk wIs cs).length + (tt mk wLe cs).length + (tt mk wMo cs).length<=(cs.flatMap Cn.ts).length
 | []=>Nat.le_refl _
 | c::cs=>by
  have ih:=tt3 mk cs
  rw[xf,xf,xf,List.flatMap_cons,List.length_append]
  cases h1:hit mk wLe c with
  | true=>
   obtain⟨a,b⟩:=AE h1
   rw[a,b]
   simp only[Bool.false_eq_true,if_false,if_true]
   omega
  | false=>
   cases h2:hit mk wMo c with
   | true=>
    obtain⟨a,b⟩:=AF h2
    rw[a]
    simp only[Bool.false_eq_true,if_false,if_true]
    omega
   | false=>
    simp only[Bool.false_eq_true,if_false]
    split<;>omega
theorem Bx (cl:Nat->List D->Res D) (xs:List Int):aA (aG cl (.nm 0) [] (.bin .add (.v 0) (.c (.int 1))) [none]) (xs.map .int)=.ok ((xs.map (· + 1)).map .int):=
 Ev.cn D.int (· + 1) D.int xs fun x _=>rfl
theorem AG (cl:Nat->List D->Res D) (xs:List Int):aA (aG cl (.nm 0) [] (.bin .sub (.v 0) (.c (.int 1))) [none]) (xs.map .int)=.ok ((xs.map (· - 1)).map .int):=
 Ev.cn D.int (· - 1) D.int xs fun x _=>rfl
noncomputable def aN (k:Str) (x:Str):D:=.tup [.str k,.str x]
theorem hU (cl:Nat->List D->Res D) (k:Str) (xs:List Str):aA (aG cl (.nm 0) [] (.tup [(.c (.str k)),(.v 0)]) [none]) (xs.map .str)=.ok (xs.map (aN k)):=by
 rw[<- List.map_id (xs.map (aN k))]
 exact Ev.cn D.str (aN k) id xs fun x _=>by
  unfold aN
  simp -implicitDefEqProofs (disch:=omega) only[ev0,Nat.reduceBEq,Nat.reduceSub,Nat.reduceAdd,reduceIte,Ev.ah,id]
theorem sv (n:Nat) (H:Hd gs rs sw) (o:Ok (lk gs rs)) (mk:Str):af T (n + 4) 25 [.lst false (gs.map Gp.d),sw,.str mk]=.ok (.lst false ((cuP mk (lk gs rs)).map .int)):=by
 have few:=o.few
 have t1:=cK mk wIs (lk gs rs)
 have t2:=cK mk wLe (lk gs rs)
 have t3:=cK mk wMo (lk gs rs)
 have t4:=tt3 mk (lk gs rs)
 have x1:=bA (tt mk wIs (lk gs rs))
 have x2:=bA (tt mk wLe (lk gs rs))
 have x3:=bA (tt mk wMo (lk gs rs))
 have e1:=told n H (by omega) mk wIs
 have e2:=told n H (by omega) mk wLe
 have e3:=told n H (by omega) mk wMo
 rw[AB o] at e2
 rw[AD o] at e3
 have ge:=cD gs
 have se:=H.er
 have f:=p5 (n + 2) (tt mk wIs (lk gs rs))
 have te:=jd (tt mk wIs (lk gs rs))
 have ss:=p0 (o:=true) (xs:=ins (tt mk wIs (lk gs rs))++ins (tt mk wLe (lk gs rs))++(ins (tt mk wIs (lk gs rs))++ins (tt mk wMo (lk gs rs))).map (· + 1)) (by rw[List.length_append,List.length_append,List.length_map,List.length_append];omega)
 have l0:((tt mk wIs (lk gs rs)).map Tn.d).length=(tt mk wIs (lk gs rs)).length:=List.length_map ..
 have fu:=Bx (af T (n + 3)) (ins (tt mk wIs (lk gs rs))++ins (tt mk wMo (lk gs rs)))
 unfold cuP sI
 have h1:(wIs).map D.str=[D.str "is",D.str "not"]:=rfl
 have h2:(wLe).map D.str=[D.str "least"]:=rfl
 have h3:(wMo).map D.str=[D.str "most"]:=rfl
 rw[h1] at e1
 rw[h2] at e2
 rw[h3] at e3
 generalize tt mk wIs (lk gs rs)=A at *
 generalize ins (tt mk wLe (lk gs rs))=B at *
 generalize ins (tt mk wMo (lk gs rs))=C at *
 generalize ins A=I at *
 have m1:I.map D.int++B.map D.int=(I++B).map D.int:=(List.map_append ..).symm
 have m2:I.map D.int++C.map D.int=(I++C).map D.int:=(List.map_append ..).symm
 have m3:(I++B).map D.int++((I++C).map (· + 1)).map D.int=(I++B++(I++C).map (· + 1)).map D.int:=(List.map_append ..).symm
 have g1:(I.map D.int).length=I.length:=List.length_map ..
 have g2:(B.map D.int).length=B.length:=List.length_map ..
 have g3:(C.map D.int).length=C.length:=List.length_map ..
 have g4:((I++B).map D.int).length=I.length + B.length:=by rw[List.length_map,List.length_append]
 have g5:((I++C).map D.int).length=I.length + C.length:=by rw[List.length_map,List.length_append]
 have g6:(((I++C).map (· + 1)).map D.int).length=I.length + C.length:=by rw[List.length_map,List.length_map,List.length_append]
 have nl:∀ a,av (.sset a)=false:=fun _=>rfl
 rw[Ev.go (show T 25=some d25 from rfl) (show d25.np=3 from rfl) (show d25.G.N.length=7 from rfl) (show d25.body=b25 from rfl) rfl];unfold b25
 simp -implicitDefEqProofs (disch:=omega) only[ev0,Nat.reduceBEq,Nat.reduceSub,Nat.reduceAdd,reduceIte,e1,e2,e3,ge,se,te,f,fu,ss,l0,m1,m2,m3,g1,g2,g3,g4,g5,g6,nl]
end Law
namespace Law
open PySem PySem.Spec L2 L2.Fr
variable {gs:List Gp} {rs:List Ru} {sw:D}
noncomputable def fK (a b:D):D:=.tup [.str "numbers",a,b]
noncomputable def nums (cu:List Int):List D:=List.zipWith fK (.non::cu.map .int) ((cu.map (· - 1)).map .int++[.non])
noncomputable def bX (ts bs:List Str) (cu:List Int):List D:=[.tup [.str "none"]]++ts.map (aN "text")++bs.map (aN "begins")++nums cu
theorem qb (cl:Nat->List D->Res D):∀ (A B:List D),aA (aG cl (.tp [(.nm 0),(.nm 1)]) [] (.tup [(.c (.str "numbers")),(.v 0),(.v 1)]) [none,none]) (cQ A B)=.ok (List.zipWith fK A B)
 | [],_=>rfl
 | _::_,[]=>rfl
 | a::A,b::B=>cE (show aG cl (.tp [(.nm 0),(.nm 1)]) [] (.tup [(.c (.str "numbers")),(.v 0),(.v 1)]) [none,none] (.tup [a,b])=.ok (some (fK a b)) by
   unfold fK
   simp -implicitDefEqProofs (disch:=omega) only[ev0,Nat.reduceBEq,Nat.reduceSub,Nat.reduceAdd,reduceIte,Ev.ah]) (qb cl A B)
theorem cF (k:Str):∀ xs:List Str,ae (xs.map (aN k))=true
 | []=>rfl
 | x::xs=>by show (true && ae (xs.map (aN k)))=true;rw[cF k xs];rfl
theorem qc:∀ (A B:List D),ae A=true->ae B=true->ae (List.zipWith fK A B)=true
 | [],_,_,_=>rfl
 | _::_,[],_,_=>rfl
 | a::A,b::B,h1,h2=>by
  have h1':=Bool.and_eq_true_iff.mp (show (ao a && ae A)=true from h1)
  have h2':=Bool.and_eq_true_iff.mp (show (ao b && ae B)=true from h2)
  show ((true && (ao a && (ao b && true))) && ae (List.zipWith fK A B))=true
  rw[h1'.1,h2'.1,qc A B h1'.2 h2'.2]
  rfl
theorem dR:∀ (A B:List D),ae (A++B)=(ae A && ae B)
 | [],_=>rfl
 | a::A,B=>by
  show (ao a && ae (A++B))=((ao a && ae A) && ae B)
  rw[dR A B,Bool.and_assoc]
theorem qd (cu:List Int):ae (D.non::cu.map .int)=true:=by
 show (true && ae (cu.map D.int))=true
 rw[Ev.pH];rfl
theorem qe (cu:List Int):ae ((cu.map (· - 1)).map D.int++[.non])=true:=by
 rw[dR,Ev.pH];rfl
theorem sy (cu:List Int):ae (nums cu)=true:=qc _ _ (qd cu) (qe cu)
theorem fD (ts bs:List Str) (cu:List Int):ae (bX ts bs cu)=true:=by
 unfold bX
 rw[dR,dR,dR,cF,cF,sy]
 rfl
theorem dB (cu:List Int):(nums cu).length=cu.length + 1:=by
 unfold nums
 rw[List.length_zipWith,List.length_cons,List.length_map,List.length_append,List.length_map,List.length_map]
 simp
theorem zl (cu:List Int):(cQ (.non::cu.map .int) ((cu.map (· - 1)).map .int++[.non])).length=cu.length + 1:=by
 unfold cQ
 rw[List.length_zipWith,List.length_cons,List.length_map,List.length_append,List.length_map,List.length_map]
 simp
theorem fE (xs:List Str):(sS xs).length<=xs.length:=by
 unfold sS
 rw[(bw _).length_eq]
 exact ki xs
theorem qf (xs:List Int):(sI xs).length<=xs.length:=by
 unfold sI
 rw[(PySem.W.sortI_perm _).length_eq]
 exact nj xs
noncomputable def cP (mk:Str) (cs:List Cn):List D:=bX (tsP mk cs) (bsP mk cs) (cuP mk cs)
theorem hW {mk:Str} {cs:List Cn} (o:Ok cs):(tsP mk cs).length<=20:=by
 have:=fE (txs (tt mk wIs cs))
 have h1:=bz (tt mk wIs cs)
 have h2:=cK mk wIs cs
 have h3:=o.few
 unfold tsP
 omega
theorem ia {mk:Str} {cs:List Cn} (o:Ok cs):(bsP mk cs).length<=21:=by
 have:=fE (Str.ofString ""::txs (tt mk wBe cs))
 have h1:=bz (tt mk wBe cs)
 have h2:=cK mk wBe cs
 have h3:=o.few
 rw[List.length_cons] at this
 unfold bsP
 omega
theorem ib {mk:Str} {cs:List Cn} (o:Ok cs):(cuP mk cs).length<=63:=by
 have h0:=qf (ins (tt mk wIs cs)++ins (tt mk wLe cs)++(ins (tt mk wIs cs)++ins (tt mk wMo cs)).map (· + 1))
 rw[List.length_append,List.length_append,List.length_map,List.length_append] at h0
 have h1:=bA (tt mk wIs cs)
 have h2:=bA (tt mk wLe cs)
 have h4:=bA (tt mk wMo cs)
 have h5:=tt3 mk cs
 have h3:=o.few
 unfold cuP
 omega
theorem qg (n:Nat) (H:Hd gs rs sw) (o:Ok (lk gs rs)) (mk:Str):af T (n + 5) 26 [.lst false (gs.map Gp.d),sw,.str mk]=.ok (.lst true (cP mk (lk gs rs))):=by
 have e1:=p9 n H o mk
 have e2:=qa n H o mk
 have e3:=sv n H o mk
 have l1:=hW (mk:=mk) o
 have l2:=ia (mk:=mk) o
 have l3:=ib (mk:=mk) o
 have ge:=cD gs
 have se:=H.er
 unfold cP
 generalize tsP mk (lk gs rs)=A at *
 generalize bsP mk (lk gs rs)=B at *
 generalize cuP mk (lk gs rs)=C at *
 have f1:=hU (af T (n + 4)) "text" A
 have f2:=hU (af T (n + 4)) "begins" B
 have f3:=AG (af T (n + 4)) C
 have f4:=qb (af T (n + 4)) (.non::C.map .int) ((C.map (· - 1)).map .int++[.non])
 have lA:(A.map D.str).length=A.length:=List.length_map ..
 have lB:(B.map D.str).length=B.length:=List.length_map ..
 have lC:(C.map D.int).length=C.length:=List.length_map ..
 have lD:((C.map (· - 1)).map D.int).length=C.length:=by rw[List.length_map,List.length_map]
 have lE:(A.map (aN "text")).length=A.length:=List.length_map ..
 have lF:(B.map (aN "begins")).length=B.length:=List.length_map ..
 have z1:=cF "text" A
 have z2:=cF "begins" B
 have z3:=qd C
 have z4:=qe C
 have z5:=fD A B C
 have z6:=zl C
 have z7:=dB C
 unfold bX nums at *
 have lG:(A.map (aN "text")++B.map (aN "begins")).length=A.length + B.length:=by rw[List.length_append,lE,lF]
 generalize List.zipWith fK (.non::C.map .int) ((C.map (· - 1)).map .int++[.non])=Z at *
 generalize hP:A.map (aN "text")=P at *
 generalize hR:B.map (aN "begins")=R at *
 rw[List.cons_append,List.nil_append,List.cons_append,List.cons_append] at z5 ⊢
 rw[Ev.go (show T 26=some d26 from rfl) (show d26.np=3 from rfl) (show d26.G.N.length=8 from rfl) (show d26.body=b26 from rfl) rfl];unfold b26
 simp -implicitDefEqProofs (disch:=omega) only[ev0,Nat.reduceBEq,Nat.reduceSub,Nat.reduceAdd,reduceIte,e1,e2,e3,ge,se,f1,f2,f3,f4,lA,lB,lC,lD,lE,lF,lG,z1,z2,z3,z4,z5,z6,z7,List.length_append]
end Law
namespace Law
open PySem PySem.Spec L2 L2.Fr
variable {gs:List Gp} {rs:List Ru} {sw:D}
theorem jj (a b:Str):(a == b)=(b == a):=by
 by_cases h:a=b
 ·subst h;rfl
 ·have h1:(a == b)=false:=by simpa using h
  have h2:(b == a)=false:=by simpa using fun z:b=a=>h z.symm
  rw[h1,h2]
noncomputable def tK3:List IS:=[(.ext 2 (.v 8))]
noncomputable def tK2:List IS:=[(.if_ (.and_ (.cmp .in_ (.idx (.v 5) (.c (.int 1))) (.lst [(.c (.str "in")),(.c (.str "out"))])) (.cmp .eq (.v 6) (.idx (.v 5) (.c (.int 0))))) [(.for_ (.nm 8) (.val (.v 7)) tK3)] [])]
noncomputable def tK1:List IS:=[(.if_ (.and_ (.cmp .ne (.idx (.v 5) (.c (.int 1))) (.c (.str "in"))) (.cmp .ne (.idx (.v 5) (.c (.int 1))) (.c (.str "out")))) [(.app 2 (.v 5))] []),(.for_ (.tp [(.nm 6),(.nm 7)]) (.val (.v 0)) tK2)]
noncomputable def tK0:List IS:=[(.for_ (.nm 5) (.val (.v 3)) tK1)]
theorem AH (cl:Nat->List D->Res D) (a0 a1 a3 a4 a5 a6 a7:Option D):∀ (rows:List (List Cn)) (acc:List Cn) (a8:Option D),acc.length + rows.flatten.length<=1000->
  ∃ a8',forM (Ev.turn cl (.nm 8) tK3) (rows.map ax) [a0,a1,some (.lst true (acc.map Cn.d)),a3,a4,a5,a6,a7,a8]=.ok (.nx [a0,a1,some (.lst true ((acc++rows.flatten).map Cn.d)),a3,a4,a5,a6,a7,a8'])
 | [],acc,a8,_=>⟨a8,by rw[List.flatten_nil,List.append_nil];rfl⟩
 | r::rows,acc,a8,h=>by
  rw[List.flatten_cons,List.length_append] at h
  have lr:(r.map Cn.d).length=r.length:=List.length_map ..
  have la:(acc.map Cn.d).length=acc.length:=List.length_map ..
  have e1:Ev.turn cl (.nm 8) tK3 (ax r) [a0,a1,some (.lst true (acc.map Cn.d)),a3,a4,a5,a6,a7,a8]=.ok (.nx [a0,a1,some (.lst true ((acc++r).map Cn.d)),a3,a4,a5,a6,a7,some (ax r)]):=by
   rw[List.map_append]
   unfold tK3 ax
   have e2:=cq r
   simp -implicitDefEqProofs (disch:=omega) only[ev0,Nat.reduceBEq,Nat.reduceSub,Nat.reduceAdd,reduceIte,Ev.ah,e2,lr,la]
  obtain⟨a8',e2⟩:=AH cl a0 a1 a3 a4 a5 a6 a7 rows (acc++r) (some (ax r)) (by rw[List.length_append];omega)
  refine⟨a8',?_⟩
  rw[List.map_cons,Ev.aU,e1,Ev.aY,Ev.aZ,e2,List.flatten_cons,List.append_assoc]
noncomputable def pk (c:Cn) (n:Str):Bool:=io c && (n == c.m)
theorem sA (cl:Nat->List D->Res D) (a0 a1 a3 a4:Option D) (c:Cn):∀ (gs:List Gp) (acc:List Cn) (a6 a7 a8:Option D),acc.length + (gcs (pk c) gs).length<=1000->
  ∃ a6' a7' a8',forM (Ev.turn cl (.tp [(.nm 6),(.nm 7)]) tK2) (gs.map Gp.d) [a0,a1,some (.lst true (acc.map Cn.d)),a3,a4,some c.d,a6,a7,a8]=.ok (.nx [a0,a1,some (.lst true ((acc++gcs (pk c) gs).map Cn.d)),a3,a4,some c.d,a6',a7',a8'])
 | [],acc,a6,a7,a8,_=>⟨a6,a7,a8,by show _=_;rw[show gcs (pk c) []=[] from rfl,List.append_nil];rfl⟩
 | g::gs,acc,a6,a7,a8,h=>by
  have hg:gcs (pk c) (g::gs)=(if pk c g.n=true then g.rows.flatten else [])++gcs (pk c) gs:=rfl
  rw[hg,List.length_append] at h
  have er1:=g9 g.rows
  have x0:=cx0 c
  have x1:=cx1 c
  cases hk:pk c g.n with
  | true=>
   rw[hk,if_pos rfl] at h
   obtain⟨a8',e5⟩:=AH cl a0 a1 a3 a4 (some c.d) (some (.str g.n)) (some (.lst false (g.rows.map ax))) g.rows acc a8 (by omega)
   have hk':=Bool.and_eq_true_iff.mp hk
   have q2:=hk'.2
   have q1:((Str.ofString "in" == c.w) || (Str.ofString "out" == c.w))=true:=hk'.1
   have e1:Ev.turn cl (.tp [(.nm 6),(.nm 7)]) tK2 g.d [a0,a1,some (.lst true (acc.map Cn.d)),a3,a4,some c.d,a6,a7,a8]=.ok (.nx [a0,a1,some (.lst true ((acc++g.rows.flatten).map Cn.d)),a3,a4,some c.d,some (.str g.n),some (.lst false (g.rows.map ax)),a8']):=by
    unfold tK2 Gp.d
    cases w1:(Str.ofString "in" == c.w) with
    | true=>
     cases w2:(Str.ofString "out" == c.w) with
     | true=>simp -implicitDefEqProofs (disch:=omega) only[ev0,Nat.reduceBEq,Nat.reduceSub,Nat.reduceAdd,reduceIte,Ev.ah,x0,x1,w1,w2,q2,er1,e5]
     | false=>simp -implicitDefEqProofs (disch:=omega) only[ev0,Nat.reduceBEq,Nat.reduceSub,Nat.reduceAdd,reduceIte,Ev.ah,x0,x1,w1,w2,q2,er1,e5]
    | false=>
     rw[w1,Bool.false_or] at q1
     simp -implicitDefEqProofs (disch:=omega) only[ev0,Nat.reduceBEq,Nat.reduceSub,Nat.reduceAdd,reduceIte,Ev.ah,x0,x1,w1,q1,q2,er1,e5]
   obtain⟨b6,b7,b8,e2⟩:=sA cl a0 a1 a3 a4 c gs (acc++g.rows.flatten) (some (.str g.n)) (some (.lst false (g.rows.map ax))) a8' (by rw[List.length_append];omega)
   refine⟨b6,b7,b8,?_⟩
   rw[List.map_cons,Ev.aU,e1,Ev.aY,Ev.aZ,e2,hg,hk,if_pos rfl,List.append_assoc]
  | false=>
   rw[hk,if_neg Bool.false_ne_true] at h
   have e1:Ev.turn cl (.tp [(.nm 6),(.nm 7)]) tK2 g.d [a0,a1,some (.lst true (acc.map Cn.d)),a3,a4,some c.d,a6,a7,a8]=.ok (.nx [a0,a1,some (.lst true (acc.map Cn.d)),a3,a4,some c.d,some (.str g.n),some (.lst false (g.rows.map ax)),a8]):=by
    unfold tK2 Gp.d
    unfold pk io at hk
    cases w1:(Str.ofString "in" == c.w) with
    | true=>
     rw[w1,Bool.true_or,Bool.true_and] at hk
     cases w2:(Str.ofString "out" == c.w) with
     | true=>simp -implicitDefEqProofs (disch:=omega) only[ev0,Nat.reduceBEq,Nat.reduceSub,Nat.reduceAdd,reduceIte,Ev.ah,x0,x1,w1,w2,hk,er1]
     | false=>simp -implicitDefEqProofs (disch:=omega) only[ev0,Nat.reduceBEq,Nat.reduceSub,Nat.reduceAdd,reduceIte,Ev.ah,x0,x1,w1,w2,hk,er1]
    | false=>
     rw[w1,Bool.false_or] at hk
     cases w2:(Str.ofString "out" == c.w) with
     | true=>
      rw[w2,Bool.true_and] at hk
      simp -implicitDefEqProofs (disch:=omega) only[ev0,Nat.reduceBEq,Nat.reduceSub,Nat.reduceAdd,reduceIte,Ev.ah,x0,x1,w1,w2,hk,er1]
     | false=>simp -implicitDefEqProofs (disch:=omega) only[ev0,Nat.reduceBEq,Nat.reduceSub,Nat.reduceAdd,reduceIte,Ev.ah,x0,x1,w1,w2,er1]
   obtain⟨b6,b7,b8,e2⟩:=sA cl a0 a1 a3 a4 c gs acc (some (.str g.n)) (some (.lst false (g.rows.map ax))) a8 (by rw[List.length_nil] at h;omega)
   refine⟨b6,b7,b8,?_⟩
   rw[List.map_cons,Ev.aU,e1,Ev.aY,Ev.aZ,e2,hg,hk,if_neg Bool.false_ne_true,List.nil_append]
end Law
namespace Law
open PySem PySem.Spec L2 L2.Fr
variable {gs:List Gp} {rs:List Ru} {sw:D}
noncomputable def lkc (gs:List Gp) (c:Cn):List Cn:=(if io c=true then [] else [c])++gcs (pk c) gs
noncomputable def lkL (gs:List Gp) (cs:List Cn):List Cn:=cs.flatMap (lkc gs)
theorem xg (cl:Nat->List D->Res D) (gs:List Gp) (a1 a3 a4:Option D):∀ (cs acc:List Cn) (a5 a6 a7 a8:Option D),acc.length + (lkL gs cs).length<=1000->
  ∃ a5' a6' a7' a8',forM (Ev.turn cl (.nm 5) tK1) (cs.map Cn.d) [some (.lst false (gs.map Gp.d)),a1,some (.lst true (acc.map Cn.d)),a3,a4,a5,a6,a7,a8]=.ok (.nx [some (.lst false (gs.map Gp.d)),a1,some (.lst true ((acc++lkL gs cs).map Cn.d)),a3,a4,a5',a6',a7',a8'])
 | [],acc,a5,a6,a7,a8,_=>⟨a5,a6,a7,a8,by show _=_;rw[show lkL gs []=[] from rfl,List.append_nil];rfl⟩
 | c::cs,acc,a5,a6,a7,a8,h=>by
  have hl:lkL gs (c::cs)=lkc gs c++lkL gs cs:=rfl
  rw[hl,List.length_append] at h
  have hc0:lkc gs c=(if io c=true then [] else [c])++gcs (pk c) gs:=rfl
  rw[hc0,List.length_append] at h
  have x1:=cx1 c
  have ce:=jf c
  have ge:=cD gs
  have la:(acc.map Cn.d).length=acc.length:=List.length_map ..
  have s1:=jj c.w (Str.ofString "in")
  have s2:=jj c.w (Str.ofString "out")
  cases hc:io c with
  | true=>
   rw[hc,if_pos rfl,List.length_nil] at h
   obtain⟨b6,b7,b8,e5⟩:=sA cl (some (.lst false (gs.map Gp.d))) a1 a3 a4 c gs acc a6 a7 a8 (by omega)
   have q1:((Str.ofString "in" == c.w) || (Str.ofString "out" == c.w))=true:=hc
   have e1:Ev.turn cl (.nm 5) tK1 c.d [some (.lst false (gs.map Gp.d)),a1,some (.lst true (acc.map Cn.d)),a3,a4,a5,a6,a7,a8]=.ok (.nx [some (.lst false (gs.map Gp.d)),a1,some (.lst true ((acc++gcs (pk c) gs).map Cn.d)),a3,a4,some c.d,b6,b7,b8]):=by
    unfold tK1
    cases w1:(Str.ofString "in" == c.w) with
    | true=>
     rw[w1] at s1
     simp -implicitDefEqProofs (disch:=omega) only[ev0,Nat.reduceBEq,Nat.reduceSub,Nat.reduceAdd,reduceIte,Ev.ah,x1,s1,ge,e5]
    | false=>
     rw[w1,Bool.false_or] at q1
     rw[w1] at s1
     rw[q1] at s2
     simp -implicitDefEqProofs (disch:=omega) only[ev0,Nat.reduceBEq,Nat.reduceSub,Nat.reduceAdd,reduceIte,Ev.ah,x1,s1,s2,ge,e5]
   obtain⟨c5,c6,c7,c8,e2⟩:=xg cl gs a1 a3 a4 cs (acc++gcs (pk c) gs) (some c.d) b6 b7 b8 (by rw[List.length_append];omega)
   refine⟨c5,c6,c7,c8,?_⟩
   rw[List.map_cons,Ev.aU,e1,Ev.aY,Ev.aZ,e2,hl,hc0,hc,if_pos rfl,List.nil_append,List.append_assoc]
  | false=>
   rw[hc,if_neg Bool.false_ne_true,List.length_singleton] at h
   obtain⟨b6,b7,b8,e5⟩:=sA cl (some (.lst false (gs.map Gp.d))) a1 a3 a4 c gs (acc++[c]) a6 a7 a8 (by rw[List.length_append,List.length_singleton];omega)
   have q1:=Bool.or_eq_false_iff.mp (show ((Str.ofString "in" == c.w) || (Str.ofString "out" == c.w))=false from hc)
   rw[q1.1] at s1
   rw[q1.2] at s2
   have e1:Ev.turn cl (.nm 5) tK1 c.d [some (.lst false (gs.map Gp.d)),a1,some (.lst true (acc.map Cn.d)),a3,a4,a5,a6,a7,a8]=.ok (.nx [some (.lst false (gs.map Gp.d)),a1,some (.lst true ((acc++[c]++gcs (pk c) gs).map Cn.d)),a3,a4,some c.d,b6,b7,b8]):=by
    rw[List.map_append,List.map_cons,List.map_nil] at e5
    unfold tK1
    simp -implicitDefEqProofs (disch:=omega) only[ev0,Nat.reduceBEq,Nat.reduceSub,Nat.reduceAdd,reduceIte,Ev.ah,x1,ce,s1,s2,ge,la,e5]
   obtain⟨c5,c6,c7,c8,e2⟩:=xg cl gs a1 a3 a4 cs (acc++[c]++gcs (pk c) gs) (some c.d) b6 b7 b8 (by rw[List.length_append,List.length_append,List.length_singleton];omega)
   refine⟨c5,c6,c7,c8,?_⟩
   rw[List.map_cons,Ev.aU,e1,Ev.aY,Ev.aZ,e2,hl,hc0,hc,if_neg Bool.false_ne_true,List.append_assoc,List.append_assoc,List.append_assoc]
theorem AI (cl:Nat->List D->Res D) (gs:List Gp) (a1:Option D):∀ (rs:List Ru) (acc:List Cn) (a3 a4 a5 a6 a7 a8:Option D),(∀ r ∈ rs,er r.o=r.o)->acc.length + (lkL gs (aM rs)).length<=1000->
  ∃ a3' a4' a5' a6' a7' a8',forM (Ev.turn cl (.tp [(.nm 3),(.nm 4)]) tK0) (rs.map Ru.d) [some (.lst false (gs.map Gp.d)),a1,some (.lst true (acc.map Cn.d)),a3,a4,a5,a6,a7,a8]=.ok (.nx [some (.lst false (gs.map Gp.d)),a1,some (.lst true ((acc++lkL gs (aM rs)).map Cn.d)),a3',a4',a5',a6',a7',a8'])
 | [],acc,a3,a4,a5,a6,a7,a8,_,_=>⟨a3,a4,a5,a6,a7,a8,by show _=_;rw[show lkL gs (aM [])=[] from rfl,List.append_nil];rfl⟩
 | r::rs,acc,a3,a4,a5,a6,a7,a8,ho,h=>by
  have hl:lkL gs (aM (r::rs))=lkL gs r.cs++lkL gs (aM rs):=by
   show List.flatMap (lkc gs) (r.cs++aM rs)=_
   rw[List.flatMap_append]
   rfl
  rw[hl,List.length_append] at h
  obtain⟨b5,b6,b7,b8,e5⟩:=xg cl gs a1 (some (ax r.cs)) (some r.o) r.cs acc a5 a6 a7 a8 (by omega)
  have ce:=cq r.cs
  have oe:=ho r (by simp)
  have e1:Ev.turn cl (.tp [(.nm 3),(.nm 4)]) tK0 r.d [some (.lst false (gs.map Gp.d)),a1,some (.lst true (acc.map Cn.d)),a3,a4,a5,a6,a7,a8]=.ok (.nx [some (.lst false (gs.map Gp.d)),a1,some (.lst true ((acc++lkL gs r.cs).map Cn.d)),some (ax r.cs),some r.o,b5,b6,b7,b8]):=by
   unfold ax at e5 ⊢
   unfold tK0 Ru.d ax
   simp -implicitDefEqProofs (disch:=omega) only[ev0,Nat.reduceBEq,Nat.reduceSub,Nat.reduceAdd,reduceIte,Ev.ah,ce,oe,e5]
  obtain⟨c3,c4,c5,c6,c7,c8,e2⟩:=AI cl gs a1 rs (acc++lkL gs r.cs) (some (ax r.cs)) (some r.o) b5 b6 b7 b8 (fun z hz=>ho z (List.mem_cons_of_mem _ hz)) (by rw[List.length_append];omega)
  refine⟨c3,c4,c5,c6,c7,c8,?_⟩
  rw[List.map_cons,Ev.aU,e1,Ev.aY,Ev.aZ,e2,hl,List.append_assoc]
theorem jW (n:Nat) (H:Hd gs rs sw) (hl:(lkL gs (aM rs)).length<=1000):af T (n + 1) 37 [.lst false (gs.map Gp.d),sw]=.ok (.lst true ((lkL gs (aM rs)).map Cn.d)):=by
 obtain⟨c3,c4,c5,c6,c7,c8,e⟩:=AI (af T n) gs (some sw) rs [] none none none none none none H.ro (by simpa using hl)
 rw[List.map_nil,List.nil_append] at e
 have re:=jV H.ro
 have se:=H.er
 have sx:=H.ix
 rw[Ev.go (show T 37=some d37 from rfl) (show d37.np=2 from rfl) (show d37.G.N.length=9 from rfl) (show d37.body=b37 from rfl) rfl];unfold b37
 unfold tK0 tK1 tK2 tK3 at e
 simp -implicitDefEqProofs (disch:=omega) only[ev0,Nat.reduceBEq,Nat.reduceSub,Nat.reduceAdd,reduceIte,sx,se,re,e]
end Law
namespace Law
open PySem PySem.Spec L2 L2.Fr
noncomputable def tC2:List IS:=[(.if_ (.and_ (.cmp .eq (.v 5) (.v 1)) (.cmp .eq (.v 6) (.c (.str "begins")))) [(.app 3 (.v 8))] [(.if_ (.and_ (.cmp .eq (.v 5) (.v 1)) (.isi (.v 8) .str)) [(.app 2 (.v 8))] [(.if_ (.and_ (.cmp .eq (.v 5) (.v 1)) (.cmp .ne (.v 6) (.c (.str "most")))) [(.app 4 (.v 8))] [])])]),(.if_ (.and_ (.cmp .eq (.v 5) (.v 1)) (.and_ (.not_ (.isi (.v 8) .str)) (.cmp .ne (.v 6) (.c (.str "least"))))) [(.app 4 (.bin .add (.v 8) (.c (.int 1))))] [])]
noncomputable def tC1:List IS:=[(.for_ (.nm 8) (.val (.v 7)) tC2)]
noncomputable def cS (l:Option D) (mk:Str) (A B:List Str) (C:List Int) (x5 x6 x7 x8:Option D):Ev:=[l,some (.str mk),some (.lst true (A.map .str)),some (.lst true (B.map .str)),some (.lst true (C.map .int)),x5,x6,x7,x8,none,none,none]
noncomputable def flt (q2 q3:Bool) (x:Int):List Int:=(if q2=true then [] else [x])++(if q3=true then [] else [x + 1])
section
variable (cl:Nat->List D->Res D) (l x7:Option D) (mk m w:Str)
theorem AJ (q0:(m == mk)=false) (A B:List Str) (C:List Int):∀ (ts:List Tn) (x8:Option D),∃ y8,forM (Ev.turn cl (.nm 8) tC2) (ts.map Tn.d) (cS l mk A B C (some (.str m)) (some (.str w)) x7 x8)=.ok (.nx (cS l mk A B C (some (.str m)) (some (.str w)) x7 y8))
 | [],x8=>⟨x8,rfl⟩
 | t::ts,x8=>by
  have e1:Ev.turn cl (.nm 8) tC2 t.d (cS l mk A B C (some (.str m)) (some (.str w)) x7 x8)=.ok (.nx (cS l mk A B C (some (.str m)) (some (.str w)) x7 (some t.d))):=by
   unfold cS tC2
   simp -implicitDefEqProofs (disch:=omega) only[ev0,Nat.reduceBEq,Nat.reduceSub,Nat.reduceAdd,reduceIte,Ev.ah,q0]
  obtain⟨y8,e2⟩:=AJ q0 A B C ts (some t.d)
  exact⟨y8,by rw[List.map_cons,Ev.aU,e1,Ev.aY,Ev.aZ,e2]⟩
theorem AK (q0:(m == mk)=true) (q1:(w == Str.ofString "begins")=true) (A:List Str) (C:List Int):∀ (ts:List Tn) (B:List Str) (x8:Option D),(∀ t ∈ ts,∃ x,t=.s x)->B.length + ts.length<=1000->∃ y8,forM (Ev.turn cl (.nm 8) tC2) (ts.map Tn.d) (cS l mk A B C (some (.str m)) (some (.str w)) x7 x8)=.ok (.nx (cS l mk A (B++txs ts) C (some (.str m)) (some (.str w)) x7 y8))
 | [],B,x8,_,_=>⟨x8,by rw[show txs []=[] from rfl,List.append_nil];rfl⟩
 | t::ts,B,x8,h,hb=>by
  obtain⟨x,rfl⟩:=h t (by simp)
  rw[List.length_cons] at hb
  have lB:(B.map D.str).length=B.length:=List.length_map ..
  have e1:Ev.turn cl (.nm 8) tC2 (.str x) (cS l mk A B C (some (.str m)) (some (.str w)) x7 x8)=.ok (.nx (cS l mk A (B++[x]) C (some (.str m)) (some (.str w)) x7 (some (.str x)))):=by
   unfold cS tC2
   rw[List.map_append,List.map_cons,List.map_nil]
   simp -implicitDefEqProofs (disch:=omega) only[ev0,Nat.reduceBEq,Nat.reduceSub,Nat.reduceAdd,reduceIte,Ev.ah,q0,q1,lB]
  obtain⟨y8,e2⟩:=AK q0 q1 A C ts (B++[x]) (some (.str x)) (fun t ht=>h t (List.mem_cons_of_mem _ ht)) (by rw[List.length_append,List.length_singleton];omega)
  refine⟨y8,?_⟩
  show forM (Ev.turn cl (.nm 8) tC2) (D.str x::ts.map Tn.d) _=_
  rw[Ev.aU,e1,Ev.aY,Ev.aZ,e2,List.append_assoc]
  rfl
theorem xh (q0:(m == mk)=true) (q1:(w == Str.ofString "begins")=false) {b2 b3:Bool} (q2:(w == Str.ofString "most")=b2) (q3:(w == Str.ofString "least")=b3) (B:List Str):∀ (ts:List Tn) (A:List Str) (C:List Int) (x8:Option D),A.length + ts.length<=1000->C.length + 2 * ts.length<=1000->
  ∃ y8,forM (Ev.turn cl (.nm 8) tC2) (ts.map Tn.d) (cS l mk A B C (some (.str m)) (some (.str w)) x7 x8)=.ok (.nx (cS l mk (A++txs ts) B (C++(ins ts).flatMap (flt b2 b3)) (some (.str m)) (some (.str w)) x7 y8))
 | [],A,C,x8,_,_=>⟨x8,by rw[show txs []=[] from rfl,List.append_nil,show (ins []).flatMap (flt b2 b3)=[] from rfl,List.append_nil];rfl⟩
 | .s x::ts,A,C,x8,h1,h2=>by
  rw[List.length_cons] at h1 h2
  have lA:(A.map D.str).length=A.length:=List.length_map ..
  have e1:Ev.turn cl (.nm 8) tC2 (.str x) (cS l mk A B C (some (.str m)) (some (.str w)) x7 x8)=.ok (.nx (cS l mk (A++[x]) B C (some (.str m)) (some (.str w)) x7 (some (.str x)))):=by
   unfold cS tC2
   rw[List.map_append,List.map_cons,List.map_nil]
   simp -implicitDefEqProofs (disch:=omega) only[ev0,Nat.reduceBEq,Nat.reduceSub,Nat.reduceAdd,reduceIte,Ev.ah,q0,q1,lA]
  obtain⟨y8,e2⟩:=xh q0 q1 q2 q3 B ts (A++[x]) C (some (.str x)) (by rw[List.length_append,List.length_singleton];omega) (by omega)
  refine⟨y8,?_⟩
  show forM (Ev.turn cl (.nm 8) tC2) (D.str x::ts.map Tn.d) _=_
  rw[Ev.aU,e1,Ev.aY,Ev.aZ,e2,List.append_assoc]
  rfl
 | .i x::ts,A,C,x8,h1,h2=>by
  rw[List.length_cons] at h1 h2
  have lC:(C.map D.int).length=C.length:=List.length_map ..
  have e1:Ev.turn cl (.nm 8) tC2 (.int x) (cS l mk A B C (some (.str m)) (some (.str w)) x7 x8)=.ok (.nx (cS l mk A B (C++flt b2 b3 x) (some (.str m)) (some (.str w)) x7 (some (.int x)))):=by
   unfold cS tC2 flt
   cases b2 with
   | true=>
    cases b3 with
    | true=>
     rw[if_pos rfl,if_pos rfl,List.nil_append,List.append_nil]
     simp -implicitDefEqProofs (disch:=omega) only[ev0,Nat.reduceBEq,Nat.reduceSub,Nat.reduceAdd,reduceIte,Ev.ah,q0,q1,q2,q3,lC]
    | false=>
     rw[if_pos rfl,if_neg Bool.false_ne_true,List.nil_append,List.map_append,List.map_cons,List.map_nil]
     simp -implicitDefEqProofs (disch:=omega) only[ev0,Nat.reduceBEq,Nat.reduceSub,Nat.reduceAdd,reduceIte,Ev.ah,q0,q1,q2,q3,lC]
   | false=>
    cases b3 with
    | true=>
     rw[if_pos rfl,if_neg Bool.false_ne_true,List.append_nil,List.map_append,List.map_cons,List.map_nil]
     simp -implicitDefEqProofs (disch:=omega) only[ev0,Nat.reduceBEq,Nat.reduceSub,Nat.reduceAdd,reduceIte,Ev.ah,q0,q1,q2,q3,lC]
    | false=>
     rw[if_neg Bool.false_ne_true,if_neg Bool.false_ne_true,List.map_append,List.map_append,List.map_cons,List.map_nil,List.map_cons,List.map_nil]
     simp -implicitDefEqProofs (disch:=omega) only[ev0,Nat.reduceBEq,Nat.reduceSub,Nat.reduceAdd,reduceIte,Ev.ah,q0,q1,q2,q3,lC,List.length_append,List.append_assoc]
  have hf:(flt b2 b3 x).length<=2:=by unfold flt;cases b2<;>cases b3<;>simp
  obtain⟨y8,e2⟩:=xh q0 q1 q2 q3 B ts A (C++flt b2 b3 x) (some (.int x)) (by omega) (by rw[List.length_append];omega)
  refine⟨y8,?_⟩
  show forM (Ev.turn cl (.nm 8) tC2) (D.int x::ts.map Tn.d) _=_
  rw[Ev.aU,e1,Ev.aY,Ev.aZ,e2,List.append_assoc]
  rfl
end
noncomputable def aT (mk:Str) (c:Cn):List Str:=if ((c.m == mk) && !(c.w == Str.ofString "begins"))=true then txs c.ts else []
noncomputable def bT (mk:Str) (c:Cn):List Str:=if ((c.m == mk) && (c.w == Str.ofString "begins"))=true then txs c.ts else []
noncomputable def cT (mk:Str) (c:Cn):List Int:=if ((c.m == mk) && !(c.w == Str.ofString "begins"))=true then (ins c.ts).flatMap (flt (c.w == Str.ofString "most") (c.w == Str.ofString "least")) else []
theorem u4 (cl:Nat->List D->Res D) (l:Option D) (mk:Str):∀ (cs:List Cn) (A B:List Str) (C:List Int) (x5 x6 x7 x8:Option D),(∀ c ∈ cs,c.w=Str.ofString "begins"->∀ t ∈ c.ts,∃ x,t=.s x)->
  A.length + (cs.flatMap Cn.ts).length<=400->B.length + (cs.flatMap Cn.ts).length<=400->C.length + 2 * (cs.flatMap Cn.ts).length<=400->
  ∃ y5 y6 y7 y8,forM (Ev.turn cl (.tp [(.nm 5),(.nm 6),(.nm 7)]) tC1) (cs.map Cn.d) (cS l mk A B C x5 x6 x7 x8)=.ok (.nx (cS l mk (A++cs.flatMap (aT mk)) (B++cs.flatMap (bT mk)) (C++cs.flatMap (cT mk)) y5 y6 y7 y8))
 | [],A,B,C,x5,x6,x7,x8,_,_,_,_=>⟨x5,x6,x7,x8,by rw[List.flatMap_nil,List.flatMap_nil,List.flatMap_nil,List.append_nil,List.append_nil,List.append_nil];rfl⟩
 | c::cs,A,B,C,x5,x6,x7,x8,hb,h1,h2,h3=>by
  rw[List.flatMap_cons,List.length_append] at h1 h2 h3
  have te:=jd c.ts
  have key:∃ y8,Ev.turn cl (.tp [(.nm 5),(.nm 6),(.nm 7)]) tC1 c.d (cS l mk A B C x5 x6 x7 x8)=.ok (.nx (cS l mk (A++aT mk c) (B++bT mk c) (C++cT mk c) (some (.str c.m)) (some (.str c.w)) (some (.lst false (c.ts.map Tn.d))) y8)):=by
   have go:∀ (A' B':List Str) (C':List Int) (y8:Option D),forM (Ev.turn cl (.nm 8) tC2) (c.ts.map Tn.d) (cS l mk A B C (some (.str c.m)) (some (.str c.w)) (some (.lst false (c.ts.map Tn.d))) x8)=.ok (.nx (cS l mk A' B' C' (some (.str c.m)) (some (.str c.w)) (some (.lst false (c.ts.map Tn.d))) y8))->
     Ev.turn cl (.tp [(.nm 5),(.nm 6),(.nm 7)]) tC1 c.d (cS l mk A B C x5 x6 x7 x8)=.ok (.nx (cS l mk A' B' C' (some (.str c.m)) (some (.str c.w)) (some (.lst false (c.ts.map Tn.d))) y8)):=by
    intro A' B' C' y8 e
    unfold cS at e ⊢
    unfold tC1 Cn.d
    simp -implicitDefEqProofs (disch:=omega) only[ev0,Nat.reduceBEq,Nat.reduceSub,Nat.reduceAdd,reduceIte,Ev.ah,te,e]
   unfold aT bT cT
   cases q0:(c.m == mk) with
   | false=>
    obtain⟨y8,e⟩:=AJ cl l (some (.lst false (c.ts.map Tn.d))) mk c.m c.w q0 A B C c.ts x8
    refine⟨y8,?_⟩
    simp only[Bool.false_and,Bool.false_eq_true,if_false,List.append_nil]
    exact go _ _ _ _ e
   | true=>
    cases q1:(c.w == Str.ofString "begins") with
    | true=>
     obtain⟨y8,e⟩:=AK cl l (some (.lst false (c.ts.map Tn.d))) mk c.m c.w q0 q1 A C c.ts B x8 (hb c (by simp) (eq_of_beq q1)) (by omega)
     refine⟨y8,?_⟩
     simp only[Bool.true_and,Bool.not_true,Bool.false_eq_true,if_true,if_false,List.append_nil]
     exact go _ _ _ _ e
    | false=>
     obtain⟨y8,e⟩:=xh cl l (some (.lst false (c.ts.map Tn.d))) mk c.m c.w q0 q1 (b2:=c.w == Str.ofString "most") (b3:=c.w == Str.ofString "least") rfl rfl B c.ts A C x8 (by omega) (by omega)
     refine⟨y8,?_⟩
     simp only[Bool.true_and,Bool.not_false,Bool.false_eq_true,if_true,if_false,List.append_nil]
     exact go _ _ _ _ e
  obtain⟨z8,e1⟩:=key
  have la:(aT mk c).length<=c.ts.length:=by have:=bz c.ts;unfold aT;split<;>simp<;>omega
  have lb:(bT mk c).length<=c.ts.length:=by have:=bz c.ts;unfold bT;split<;>simp<;>omega
  have lf:∀ (b2 b3:Bool) (xs:List Int),(xs.flatMap (flt b2 b3)).length<=2 * xs.length:=fun b2 b3 xs=>by
   induction xs with
   | nil=>exact Nat.le_refl _
   | cons x xs ih=>
    have:(flt b2 b3 x).length<=2:=by unfold flt;cases b2<;>cases b3<;>simp
    rw[List.flatMap_cons,List.length_append,List.length_cons]
    omega
  have lc:(cT mk c).length<=2 * c.ts.length:=by
   have h1:=bA c.ts
   have h2:=lf (c.w == Str.ofString "most") (c.w == Str.ofString "least") (ins c.ts)
   unfold cT
   split
   ·omega
   ·simp
  obtain⟨y5,y6,y7,y8,e2⟩:=u4 cl l mk cs (A++aT mk c) (B++bT mk c) (C++cT mk c) (some (.str c.m)) (some (.str c.w)) (some (.lst false (c.ts.map Tn.d))) z8 (fun z hz=>hb z (List.mem_cons_of_mem _ hz)) (by rw[List.length_append];omega) (by rw[List.length_append];omega) (by rw[List.length_append];omega)
  refine⟨y5,y6,y7,y8,?_⟩
  rw[List.map_cons,Ev.aU,e1,Ev.aY,Ev.aZ,e2,List.flatMap_cons,List.flatMap_cons,List.flatMap_cons,List.append_assoc,List.append_assoc,List.append_assoc]
noncomputable def cL (mk:Str) (cs:List Cn):List D:=bX (sS (cs.flatMap (aT mk))) (sS (Str.ofString ""::cs.flatMap (bT mk))) (sI (cs.flatMap (cT mk)))
theorem ml (n:Nat) (mk:Str) {cs:List Cn} (hb:∀ c ∈ cs,c.w=Str.ofString "begins"->∀ t ∈ c.ts,∃ x,t=.s x) (few:(cs.flatMap Cn.ts).length<=30)
  (g1:(cs.flatMap (aT mk)).length < 63) (g2:(cs.flatMap (bT mk)).length < 63) (g3:(cs.flatMap (cT mk)).length < 64):af T (n + 1) 38 [.lst false (cs.map Cn.d),.str mk]=.ok (.lst true (cL mk cs)):=by
 obtain⟨y5,y6,y7,y8,e⟩:=u4 (af T n) (some (.lst false (cs.map Cn.d))) mk cs [] [Str.ofString ""] [] none none none none hb (by simp only[List.length_nil];omega) (by simp only[List.length_singleton];omega) (by simp only[List.length_nil];omega)
 have ce:=cq cs
 unfold cL
 rw[List.nil_append,List.nil_append,List.cons_append,List.nil_append] at e
 have s1:=dQ (o:=true) (xs:=cs.flatMap (aT mk)) (by omega)
 have s2:=dQ (o:=true) (xs:=Str.ofString ""::cs.flatMap (bT mk)) (by rw[List.length_cons];omega)
 have s3:=p0 (o:=true) (xs:=cs.flatMap (cT mk)) (by omega)
 have l1:=fE (cs.flatMap (aT mk))
 have l2:=fE (Str.ofString ""::cs.flatMap (bT mk))
 have l3:=qf (cs.flatMap (cT mk))
 rw[List.length_cons] at l2
 unfold cS at e
 have hs1:br (ddT (cs.flatMap (aT mk)))=sS (cs.flatMap (aT mk)):=rfl
 have hs2:br (ddT (Str.ofString ""::cs.flatMap (bT mk)))=sS (Str.ofString ""::cs.flatMap (bT mk)):=rfl
 have hs3:PySem.W.sortI (dd (cs.flatMap (cT mk)))=sI (cs.flatMap (cT mk)):=rfl
 rw[hs1] at s1
 rw[hs2] at s2
 rw[hs3] at s3
 generalize sS (cs.flatMap (aT mk))=A at *
 generalize sS (Str.ofString ""::cs.flatMap (bT mk))=B at *
 generalize sI (cs.flatMap (cT mk))=C at *
 generalize cs.flatMap (aT mk)=A0 at *
 generalize Str.ofString ""::cs.flatMap (bT mk)=B0 at *
 generalize cs.flatMap (cT mk)=C0 at *
 have f1:=hU (af T n) "text" A
 have f2:=hU (af T n) "begins" B
 have f3:=AG (af T n) C
 have f4:=qb (af T n) (.non::C.map .int) ((C.map (· - 1)).map .int++[.non])
 have lA:(A.map D.str).length=A.length:=List.length_map ..
 have lB:(B.map D.str).length=B.length:=List.length_map ..
 have lC:(C.map D.int).length=C.length:=List.length_map ..
 have lD:((C.map (· - 1)).map D.int).length=C.length:=by rw[List.length_map,List.length_map]
 have lE:(A.map (aN "text")).length=A.length:=List.length_map ..
 have lF:(B.map (aN "begins")).length=B.length:=List.length_map ..
 have z1:=cF "text" A
 have z2:=cF "begins" B
 have z3:=qd C
 have z4:=qe C
 have z5:=fD A B C
 have z6:=zl C
 have z7:=dB C
 have z8:ae (D.tup [.str "none"]::A.map (aN "text"))=true:=by show (true && ae (A.map (aN "text")))=true;rw[z1];rfl
 have z9:ae (D.tup [.str "none"]::(A.map (aN "text")++B.map (aN "begins")))=true:=by show (true && ae (A.map (aN "text")++B.map (aN "begins")))=true;rw[dR,z1,z2];rfl
 have nl:∀ a,av (.sset a)=false:=fun _=>rfl
 have vs:∀ a,vars (.sset a)=vars a:=fun _=>rfl
 unfold bX nums at *
 generalize List.zipWith fK (.non::C.map .int) ((C.map (· - 1)).map .int++[.non])=Z at *
 generalize hP:A.map (aN "text")=P at *
 generalize hR:B.map (aN "begins")=R at *
 rw[List.cons_append,List.nil_append,List.cons_append,List.cons_append] at z5 ⊢
 rw[Ev.go (show T 38=some d38 from rfl) (show d38.np=2 from rfl) (show d38.G.N.length=12 from rfl) (show d38.body=b38 from rfl) rfl];unfold b38
 unfold tC1 tC2 at e
 have hB0:([D.str ""]:List D)=[Str.ofString ""].map D.str:=rfl
 rw[List.map_nil,List.map_nil,List.map_cons,List.map_nil] at e
 simp -implicitDefEqProofs (disch:=omega) only[ev0,Nat.reduceBEq,Nat.reduceSub,Nat.reduceAdd,reduceIte,e,ce,s1,s2,s3,f1,f2,f3,f4,lA,lB,lC,lD,lE,lF,z1,z2,z3,z4,z5,z6,z7,z8,z9,nl,vs,List.length_append]
theorem sC (v x:Str) (σ:List Str):x ∈ Sv.ddS σ v↔x ∈ σ∨x=v:=by
 unfold Sv.ddS
 by_cases h:σ.any (· == v)=true
 ·rw[if_pos h]
  constructor
  ·exact .inl
  ·rintro (h1 | rfl)
   ·exact h1
   ·obtain⟨y,hy,e⟩:=List.any_eq_true.mp h
    rw[<- eq_of_beq e];exact hy
 ·rw[if_neg h,List.mem_append,List.mem_singleton]
theorem xj (v:Str) {σ:List Str} (n:σ.Nodup):(Sv.ddS σ v).Nodup:=by
 unfold Sv.ddS
 by_cases h:σ.any (· == v)=true
 ·rw[if_pos h];exact n
 ·rw[if_neg h,List.nodup_append]
  refine⟨n,by simp,fun a ha b hb e=>h (List.any_eq_true.mpr ⟨a,ha,?_⟩)⟩
  rw[e,List.mem_singleton.mp hb]
  simp
theorem jX:∀ (xs σ:List Str),σ.Nodup->(xs.foldl Sv.ddS σ).Nodup/\∀ x,x ∈ xs.foldl Sv.ddS σ↔x ∈ σ∨x ∈ xs
 | [],σ,n=>⟨n,fun x=>by simp⟩
 | v::xs,σ,n=>by
  obtain⟨h1,h2⟩:=jX xs (Sv.ddS σ v) (xj v n)
  refine⟨h1,fun x=>?_⟩
  rw[List.foldl_cons,h2,sC,List.mem_cons,or_assoc]
theorem qh {a b:List Str} (h:∀ x,x ∈ a↔x ∈ b):sS a=sS b:=by
 obtain⟨n1,m1⟩:=jX a [] List.nodup_nil
 obtain⟨n2,m2⟩:=jX b [] List.nodup_nil
 have p:(ddT a).Perm (ddT b):=(List.perm_ext_iff_of_nodup n1 n2).mpr fun x=>by
  rw[m1,m2,h]
 exact List.Perm.eq_of_pairwise (fun _ _ _ _ a b=>iK a b) (bQ _) (bQ _) (((bw _).trans p).trans (bw _).symm)
theorem sD (v x:Int) (σ:List Int):x ∈ PyProof.Rows.step_dedup σ v↔x ∈ σ∨x=v:=by
 unfold PyProof.Rows.step_dedup
 by_cases h:σ.any (· == v)=true
 ·rw[if_pos h]
  constructor
  ·exact .inl
  ·rintro (h1 | rfl)
   ·exact h1
   ·obtain⟨y,hy,e⟩:=List.any_eq_true.mp h
    rw[<- eq_of_beq e];exact hy
 ·rw[if_neg h,List.mem_append,List.mem_singleton]
theorem xk (v:Int) {σ:List Int} (n:σ.Nodup):(PyProof.Rows.step_dedup σ v).Nodup:=by
 unfold PyProof.Rows.step_dedup
 by_cases h:σ.any (· == v)=true
 ·rw[if_pos h];exact n
 ·rw[if_neg h,List.nodup_append]
  refine⟨n,by simp,fun a ha b hb e=>h (List.any_eq_true.mpr ⟨a,ha,?_⟩)⟩
  rw[e,List.mem_singleton.mp hb]
  simp
theorem jY:∀ (xs σ:List Int),σ.Nodup->(xs.foldl PyProof.Rows.step_dedup σ).Nodup/\∀ x,x ∈ xs.foldl PyProof.Rows.step_dedup σ↔x ∈ σ∨x ∈ xs
 | [],σ,n=>⟨n,fun x=>by simp⟩
 | v::xs,σ,n=>by
  obtain⟨h1,h2⟩:=jY xs (PyProof.Rows.step_dedup σ v) (xk v n)
  refine⟨h1,fun x=>?_⟩
  rw[List.foldl_cons,h2,sD,List.mem_cons,or_assoc]
theorem AL {a b:List Int} (h:∀ x,x ∈ a↔x ∈ b):sI a=sI b:=by
 obtain⟨n1,m1⟩:=jY a [] List.nodup_nil
 obtain⟨n2,m2⟩:=jY b [] List.nodup_nil
 have p:(dd a).Perm (dd b):=(List.perm_ext_iff_of_nodup n1 n2).mpr fun x=>by
  rw[m1,m2,h]
 exact List.Perm.eq_of_pairwise (fun _ _ _ _ a b=>Int.le_antisymm a b) (PySem.W.sortI_rises _) (PySem.W.sortI_rises _) (((PySem.W.sortI_perm _).trans p).trans (PySem.W.sortI_perm _).symm)
theorem ez {p:Str->Bool} {c:Cn}:∀ {gs:List Gp},c ∈ gcs p gs↔∃ g ∈ gs,p g.n=true/\c ∈ g.rows.flatten
 | []=>by simp[gcs]
 | g::gs=>by
  show c ∈ (if p g.n=true then g.rows.flatten else [])++gcs p gs↔_
  rw[List.mem_append,ez]
  constructor
  ·rintro (h | ⟨g',h1,h2⟩)
   ·split at h
    ·rename_i hp;exact⟨g,by simp,hp,h⟩
    ·simp at h
   ·exact⟨g',List.mem_cons_of_mem _ h1,h2⟩
  ·rintro ⟨g',h1,h2,h3⟩
   rcases List.mem_cons.mp h1 with rfl | h1
   ·exact .inl (by rw[if_pos h2];exact h3)
   ·exact .inr ⟨g',h1,h2,h3⟩
theorem qi (ks:List Str) (x y:Str):y ∈ dA ks x↔y ∈ ks∨y=x:=by
 unfold dA
 by_cases h:ks.contains x=true
 ·rw[if_pos h]
  constructor
  ·exact .inl
  ·rintro (h1 | rfl)
   ·exact h1
   ·simpa using h
 ·rw[if_neg h,List.mem_append,List.mem_singleton]
theorem ie:∀ (cs:List Cn) (ks:List Str) (y:Str),y ∈ nms ks cs↔y ∈ ks∨∃ c ∈ cs,io c=true/\c.m=y
 | [],ks,y=>by simp[nms]
 | c::cs,ks,y=>by
  rw[k6,ie cs]
  by_cases h:io c=true
  ·rw[if_pos h,qi]
   constructor
   ·rintro ((h1 | rfl) | ⟨d,h1,h2⟩)
    ·exact .inl h1
    ·exact .inr ⟨c,by simp,h,rfl⟩
    ·exact .inr ⟨d,List.mem_cons_of_mem _ h1,h2⟩
   ·rintro (h1 | ⟨d,h1,h2,h3⟩)
    ·exact .inl (.inl h1)
    ·rcases List.mem_cons.mp h1 with rfl | h1
     ·exact .inl (.inr h3.symm)
     ·exact .inr ⟨d,h1,h2,h3⟩
  ·rw[if_neg h]
   constructor
   ·rintro (h1 | ⟨d,h1,h2⟩)
    ·exact .inl h1
    ·exact .inr ⟨d,List.mem_cons_of_mem _ h1,h2⟩
   ·rintro (h1 | ⟨d,h1,h2,h3⟩)
    ·exact .inl h1
    ·rcases List.mem_cons.mp h1 with rfl | h1
     ·exact absurd h2 h
     ·exact .inr ⟨d,h1,h2,h3⟩
theorem jZ (gs:List Gp) (rs:List Ru) (c:Cn):c ∈ lk gs rs↔c ∈ lkL gs (aM rs):=by
 unfold lk lkL
 rw[List.mem_append,List.mem_filter,ez,List.mem_flatMap]
 constructor
 ·rintro (⟨h1,h2⟩ | ⟨g,h1,h2,h3⟩)
  ·refine⟨c,h1,?_⟩
   have h2':io c=false:=by simpa using h2
   unfold lkc
   rw[h2',if_neg Bool.false_ne_true]
   simp
  ·have h2':g.n ∈ nms [] (aM rs):=by simpa using h2
   rcases (ie _ _ _).mp h2' with h | ⟨d,k1,k2,k3⟩
   ·simp at h
   ·refine⟨d,k1,?_⟩
    unfold lkc
    rw[List.mem_append]
    refine .inr (ez.mpr ⟨g,h1,?_,h3⟩)
    unfold pk
    rw[k2,k3]
    simp
 ·rintro ⟨d,h1,h2⟩
  unfold lkc at h2
  rw[List.mem_append] at h2
  rcases h2 with h2 | h2
  ·split at h2
   ·simp at h2
   ·rename_i hd
    rw[List.mem_singleton] at h2
    subst h2
    exact .inl ⟨h1,by simpa using hd⟩
  ·obtain⟨g,k1,k2,k3⟩:=ez.mp h2
   have k2':=Bool.and_eq_true_iff.mp k2
   refine .inr ⟨g,k1,?_,k3⟩
   have:g.n ∈ nms [] (aM rs):=(ie _ _ _).mpr (.inr ⟨d,h1,k2'.1,(eq_of_beq k2'.2).symm⟩)
   simpa using this
theorem qj (gs:List Gp) (rs:List Ru):sS ((lk gs rs).map Cn.m)=sS ((lkL gs (aM rs)).map Cn.m):=qh fun x=>by
 rw[List.mem_map,List.mem_map]
 constructor
 ·rintro ⟨c,h1,h2⟩;exact⟨c,(jZ gs rs c).mp h1,h2⟩
 ·rintro ⟨c,h1,h2⟩;exact⟨c,(jZ gs rs c).mpr h1,h2⟩
theorem cM {x:Str}:∀ {ts:List Tn},x ∈ txs ts↔Tn.s x ∈ ts
 | []=>by simp[txs]
 | .s y::r=>by
  show x ∈ y::txs r↔_
  rw[List.mem_cons,List.mem_cons,cM]
  constructor
  ·rintro (rfl | h)
   ·exact .inl rfl
   ·exact .inr h
  ·rintro (h | h)
   ·exact .inl (by cases h;rfl)
   ·exact .inr h
 | .i y::r=>by
  show x ∈ txs r↔_
  rw[List.mem_cons,cM]
  exact⟨.inr,fun h=>h.elim (fun z=>by cases z) id⟩
theorem bG {x:Int}:∀ {ts:List Tn},x ∈ ins ts↔Tn.i x ∈ ts
 | []=>by simp[ins]
 | .i y::r=>by
  show x ∈ y::ins r↔_
  rw[List.mem_cons,List.mem_cons,bG]
  constructor
  ·rintro (rfl | h)
   ·exact .inl rfl
   ·exact .inr h
  ·rintro (h | h)
   ·exact .inl (by cases h;rfl)
   ·exact .inr h
 | .s y::r=>by
  show x ∈ ins r↔_
  rw[List.mem_cons,bG]
  exact⟨.inr,fun h=>h.elim (fun z=>by cases z) id⟩
inductive Wk:Str->Prop
 | is:Wk (Str.ofString "is")
 | not:Wk (Str.ofString "not")
 | be:Wk (Str.ofString "begins")
 | le:Wk (Str.ofString "least")
 | mo:Wk (Str.ofString "most")
theorem ql {a b:Str} (h:a≠b):(a == b)=false:=by simpa using h
theorem n7:Str.ofString "least"≠Str.ofString "most":=by decide +kernel
theorem bH {mk:Str} {ws:List Str} {c:Cn}:hit mk ws c=true↔c.m=mk/\c.w ∈ ws:=by
 unfold hit
 rw[Bool.and_eq_true,List.any_eq_true]
 constructor
 ·rintro ⟨h1,y,h2,h3⟩
  exact⟨eq_of_beq h1,(eq_of_beq h3) ▸ h2⟩
 ·rintro ⟨h1,h2⟩
  exact⟨by rw[h1];simp,c.w,h2,by simp⟩
theorem qm {mk x:Str} {c:Cn}:x ∈ aT mk c↔c.m=mk/\c.w≠Str.ofString "begins"/\Tn.s x ∈ c.ts:=by
 unfold aT
 by_cases h:((c.m == mk) && !(c.w == Str.ofString "begins"))=true
 ·rw[if_pos h,cM]
  have h':=Bool.and_eq_true_iff.mp h
  have e1:c.m=mk:=eq_of_beq h'.1
  have e2:c.w≠Str.ofString "begins":=by simpa using h'.2
  exact⟨fun z=>⟨e1,e2,z⟩,fun z=>z.2.2⟩
 ·rw[if_neg h]
  refine⟨fun z=>by simp at z,fun ⟨e1,e2,z⟩=>absurd ?_ h⟩
  rw[e1,ql e2]
  simp
theorem qo {mk x:Str} {c:Cn}:x ∈ bT mk c↔c.m=mk/\c.w=Str.ofString "begins"/\Tn.s x ∈ c.ts:=by
 unfold bT
 by_cases h:((c.m == mk) && (c.w == Str.ofString "begins"))=true
 ·rw[if_pos h,cM]
  have h':=Bool.and_eq_true_iff.mp h
  exact⟨fun z=>⟨eq_of_beq h'.1,eq_of_beq h'.2,z⟩,fun z=>z.2.2⟩
 ·rw[if_neg h]
  refine⟨fun z=>by simp at z,fun ⟨e1,e2,z⟩=>absurd ?_ h⟩
  rw[e1,e2]
  simp
theorem k8 {w:Str} {x y:Int}:x ∈ flt (w == Str.ofString "most") (w == Str.ofString "least") y↔(w≠Str.ofString "most"/\x=y)∨(w≠Str.ofString "least"/\x=y + 1):=by
 unfold flt
 rw[List.mem_append]
 by_cases h1:w=Str.ofString "most"
 ·by_cases h2:w=Str.ofString "least"
  ·simp[h1,h2]
  ·rw[ql h2,h1];simp[<- h1,h2]
 ·rw[ql h1]
  by_cases h2:w=Str.ofString "least"
  ·rw[h2];simp[n7]
  ·rw[ql h2];simp[h1,h2]
theorem fF {mk:Str} {x:Int} {c:Cn}:x ∈ cT mk c↔c.m=mk/\c.w≠Str.ofString "begins"/\∃ y,Tn.i y ∈ c.ts/\((c.w≠Str.ofString "most"/\x=y)∨(c.w≠Str.ofString "least"/\x=y + 1)):=by
 unfold cT
 by_cases h:((c.m == mk) && !(c.w == Str.ofString "begins"))=true
 ·rw[if_pos h,List.mem_flatMap]
  have h':=Bool.and_eq_true_iff.mp h
  have e1:c.m=mk:=eq_of_beq h'.1
  have e2:c.w≠Str.ofString "begins":=by simpa using h'.2
  constructor
  ·rintro ⟨y,h1,h2⟩;exact⟨e1,e2,y,bG.mp h1,k8.mp h2⟩
  ·rintro ⟨_,_,y,h1,h2⟩;exact⟨y,bG.mpr h1,k8.mpr h2⟩
 ·rw[if_neg h]
  refine⟨fun z=>by simp at z,fun ⟨e1,e2,z⟩=>absurd ?_ h⟩
  rw[e1,ql e2]
  simp
theorem qp {cs cs':List Cn} (mk:Str) (hm:∀ c,c ∈ cs↔c ∈ cs') (o:Ok cs) (hw:∀ c ∈ cs,c.ts=[]∨Wk c.w):cP mk cs=cL mk cs':=by
 have e1:tsP mk cs=sS (cs'.flatMap (aT mk)):=qh fun x=>by
  rw[cM,bW,List.mem_flatMap]
  constructor
  ·rintro ⟨c,h1,h2,h3⟩
   obtain⟨k1,k2⟩:=bH.mp h2
   refine⟨c,(hm c).mp h1,qm.mpr ⟨k1,fun z=>?_,h3⟩⟩
   rw[z] at k2
   exact absurd k2 (by decide +kernel)
  ·rintro ⟨c,h1,h2⟩
   obtain⟨k1,k2,k3⟩:=qm.mp h2
   have hc:=(hm c).mpr h1
   refine⟨c,hc,bH.mpr ⟨k1,?_⟩,k3⟩
   rcases hw c hc with z | z
   ·rw[z] at k3;simp at k3
   ·generalize hcw:c.w=w at z
    cases z with
    | is=>exact List.mem_cons_self
    | not=>exact List.mem_cons_of_mem _ List.mem_cons_self
    | be=>exact absurd hcw k2
    | le=>obtain⟨y,e⟩:=o.le c hc hcw _ k3;cases e
    | mo=>obtain⟨y,e⟩:=o.mo c hc hcw _ k3;cases e
 have e2:bsP mk cs=sS (Str.ofString ""::cs'.flatMap (bT mk)):=qh fun x=>by
  rw[List.mem_cons,List.mem_cons,cM,bW,List.mem_flatMap]
  have key:(∃ c ∈ cs,hit mk wBe c=true/\Tn.s x ∈ c.ts)↔∃ c ∈ cs',x ∈ bT mk c:=by
   constructor
   ·rintro ⟨c,h1,h2,h3⟩
    obtain⟨k1,k2⟩:=bH.mp h2
    exact⟨c,(hm c).mp h1,qo.mpr ⟨k1,List.mem_singleton.mp k2,h3⟩⟩
   ·rintro ⟨c,h1,h2⟩
    obtain⟨k1,k2,k3⟩:=qo.mp h2
    exact⟨c,(hm c).mpr h1,bH.mpr ⟨k1,List.mem_singleton.mpr k2⟩,k3⟩
  rw[key]
 have e3:cuP mk cs=sI (cs'.flatMap (cT mk)):=AL fun x=>by
  rw[List.mem_append,List.mem_append,List.mem_map,List.mem_flatMap]
  constructor
  ·rintro ((h | h) | ⟨y,h,e⟩)
   ·obtain⟨c,h1,h2,h3⟩:=bW.mp (bG.mp h)
    obtain⟨k1,k2⟩:=bH.mp h2
    refine⟨c,(hm c).mp h1,fF.mpr ⟨k1,fun z=>?_,x,h3,.inl ⟨fun z=>?_,rfl⟩⟩⟩
    ·rw[z] at k2;exact absurd k2 (by decide +kernel)
    ·rw[z] at k2;exact absurd k2 (by decide +kernel)
   ·obtain⟨c,h1,h2,h3⟩:=bW.mp (bG.mp h)
    obtain⟨k1,k2⟩:=bH.mp h2
    refine⟨c,(hm c).mp h1,fF.mpr ⟨k1,fun z=>?_,x,h3,.inl ⟨fun z=>?_,rfl⟩⟩⟩
    ·rw[z] at k2;exact absurd k2 (by decide +kernel)
    ·rw[z] at k2;exact absurd k2 (by decide +kernel)
   ·rw[List.mem_append] at h
    rcases h with h | h
    ·obtain⟨c,h1,h2,h3⟩:=bW.mp (bG.mp h)
     obtain⟨k1,k2⟩:=bH.mp h2
     refine⟨c,(hm c).mp h1,fF.mpr ⟨k1,fun z=>?_,y,h3,.inr ⟨fun z=>?_,e.symm⟩⟩⟩
     ·rw[z] at k2;exact absurd k2 (by decide +kernel)
     ·rw[z] at k2;exact absurd k2 (by decide +kernel)
    ·obtain⟨c,h1,h2,h3⟩:=bW.mp (bG.mp h)
     obtain⟨k1,k2⟩:=bH.mp h2
     refine⟨c,(hm c).mp h1,fF.mpr ⟨k1,fun z=>?_,y,h3,.inr ⟨fun z=>?_,e.symm⟩⟩⟩
     ·rw[z] at k2;exact absurd k2 (by decide +kernel)
     ·rw[z] at k2;exact absurd k2 (by decide +kernel)
  ·rintro ⟨c,h1,h2⟩
   obtain⟨k1,k2,y,k3,k4⟩:=fF.mp h2
   have hc:=(hm c).mpr h1
   rcases hw c hc with z | z
   ·rw[z] at k3;simp at k3
   ·generalize hcw:c.w=w at z
    have put:∀ ws:List Str,w ∈ ws->y ∈ ins (tt mk ws cs):=fun ws hws=>bG.mpr (bW.mpr ⟨c,hc,bH.mpr ⟨k1,by rw[hcw];exact hws⟩,k3⟩)
    rw[hcw] at k4
    cases z with
    | is=>
     have p:=put wIs List.mem_cons_self
     rcases k4 with ⟨_,rfl⟩ | ⟨_,rfl⟩
     ·exact .inl (.inl p)
     ·exact .inr ⟨y,List.mem_append_left _ p,rfl⟩
    | not=>
     have p:=put wIs (List.mem_cons_of_mem _ List.mem_cons_self)
     rcases k4 with ⟨_,rfl⟩ | ⟨_,rfl⟩
     ·exact .inl (.inl p)
     ·exact .inr ⟨y,List.mem_append_left _ p,rfl⟩
    | be=>exact absurd hcw k2
    | le=>
     have p:=put wLe List.mem_cons_self
     rcases k4 with ⟨_,rfl⟩ | ⟨h,_⟩
     ·exact .inl (.inr p)
     ·exact absurd rfl h
    | mo=>
     have p:=put wMo List.mem_cons_self
     rcases k4 with ⟨h,_⟩ | ⟨_,rfl⟩
     ·exact absurd rfl h
     ·exact .inr ⟨y,List.mem_append_right _ p,rfl⟩
 unfold cP cL
 rw[e1,e2,e3]
open PyProof.Rows
noncomputable def cel (ns:List Int) (k:Int):Int:=if 0 < ns.length then ns.getD (k % (ns.length:Int)).toNat 0 % 2147483647 else 0
noncomputable def dr (ns:List Int) (k m:Int):Int:=(cel ns k * (742938285 + 9973 * k * k) + k * 630360016) % 2147483647 / 97 % m
theorem AM (ns:List Int) (k:Int):0<=cel ns k/\cel ns k < 2147483647:=by
 unfold cel
 split
 ·exact⟨Int.emod_nonneg _ (by decide),Int.emod_lt_of_pos _ (by decide)⟩
 ·decide
theorem cv (ns:List Int) (k:Int) {m:Int} (h:0 < m):0<=dr ns k m:=Int.emod_nonneg _ (by omega)
theorem cH (ns:List Int) (k:Int) {m:Int} (h:0 < m):dr ns k m < m:=Int.emod_lt_of_pos _ h
theorem aJ (n:Nat) (ns:List Int) (k m:Int) (h0:0<=k) (h1:k<=2000) (hm:0 < m):af T (n + 1) 27 [.lst false (ns.map .int),.int k,.int m]=.ok (.int (dr ns k m)):=by
 rw[Ev.go (show T 27=some d27 from rfl) (show d27.np=3 from rfl) (show d27.G.N.length=5 from rfl) (show d27.body=b27 from rfl) rfl];unfold b27
 obtain⟨b0,b1⟩:=AM ns k
 unfold dr
 have lm:(ns.map D.int).length=ns.length:=List.length_map _
 by_cases h:0 < ns.length
 ·have hd:decide ((0:Int) < (ns.length:Int))=true:=decide_eq_true (by omega)
  have c0:=Int.emod_nonneg k (show (ns.length:Int)≠0 by omega)
  have c1:=Int.emod_lt_of_pos k (show (0:Int) < (ns.length:Int) by omega)
  have ec:ns.getD (k % (ns.length:Int)).toNat 0 % 2147483647=cel ns k:=by unfold cel;rw[if_pos h]
  simp -implicitDefEqProofs (disch:=omega) only[ev0,Nat.reduceBEq,Nat.reduceSub,Nat.reduceAdd,reduceIte,lm,hd,ec]
 ·have hd:decide ((0:Int) < (ns.length:Int))=false:=decide_eq_false (by omega)
  have ec:cel ns k=0:=by unfold cel;rw[if_neg h]
  rw[ec]
  simp -implicitDefEqProofs (disch:=omega) only[ev0,Nat.reduceBEq,Nat.reduceSub,Nat.reduceAdd,reduceIte,lm,hd]
theorem j5:(Str.ofString "abcdefghijklmnopqrstuvwxyz0123456789").length=36:=by decide +kernel
theorem qr:(Str.ofString "abcdefghijklmnopqrstuvwxyz").length=26:=by decide +kernel
theorem xn:(Str.ofString "").length=0:=by decide +kernel
theorem bJ (x:Str) (lo hi:Option Int):(Txt.slice x lo hi).length<=x.length:=by
 have:=indices_len_le lo hi x.length
 unfold Txt.slice
 split
 ·exact Nat.le_refl _
 ·refine Nat.le_trans ?_ this
  show (List.filterMap _ _).toArray.size<=_
  rw[List.size_toArray]
  exact List.length_filterMap_le ..
theorem ij (x y:Str):(x++y).length=x.length + y.length:=by
 show (x.cps++y.cps).size=_
 rw[Array.size_append]
 rfl
theorem qt {z:Str} {i:Int} (h0:0<=i) (h1:i < z.length) (hz:z.length<=1000):∃ y:Str,bo (.str z) (.int i)=.ok (.str y)/\y.length=1:=⟨_,Ev.x_c h0 h1 (by omega),rfl⟩
theorem k9 (n:Nat) (ns:List Int) {k:Int} (h0:0<=k) (h1:k<=1900) {st:Str} (hs:st.length<=100):∃ x:Str,af T (n + 2) 30 [.lst false (ns.map .int),.int k,.str st]=.ok (.str x)/\x.length<=101:=by
 have d1:=aJ n ns k 9 h0 (by omega) (by decide)
 have d2:=aJ n ns (k + 1) 3 (by omega) (by omega) (by decide)
 have d3:=aJ n ns (k + 2) 36 (by omega) (by omega) (by decide)
 have b3:=cv ns (k + 2) (m:=36) (by decide)
 have c3:=cH ns (k + 2) (m:=36) (by decide)
 obtain⟨y,hy,ly⟩:=qt (z:=Str.ofString "abcdefghijklmnopqrstuvwxyz0123456789") (i:=dr ns (k + 2) 36) b3 (by rw[j5];exact c3) (by rw[j5];decide)
 have l1:=bJ st none (some (dr ns k 9))
 have l2:=bJ (Txt.slice st none (some (dr ns k 9))) none (some (-1))
 obtain⟨a,ha⟩:∃ a,Txt.slice st none (some (dr ns k 9))=a:=⟨_,rfl⟩
 rw[ha] at l1 l2
 obtain⟨b,hb⟩:∃ b,Txt.slice a none (some (-1))=b:=⟨_,rfl⟩
 rw[hb] at l2
 have ab:=ij b y
 cases q1:(a == Str.ofString "") with
 | true=>
  refine⟨a,?_,by omega⟩
  rw[Ev.go (show T 30=some d30 from rfl) (show d30.np=3 from rfl) (show d30.G.N.length=4 from rfl) (show d30.body=b30 from rfl) rfl];unfold b30
  simp -implicitDefEqProofs (disch:=omega) only[ev0,Nat.reduceBEq,Nat.reduceSub,Nat.reduceAdd,reduceIte,d1,q1,ha]
 | false=>
  cases q2:(dr ns (k + 1) 3 == 0) with
  | true=>
   refine⟨b++y,?_,by omega⟩
   rw[Ev.go (show T 30=some d30 from rfl) (show d30.np=3 from rfl) (show d30.G.N.length=4 from rfl) (show d30.body=b30 from rfl) rfl];unfold b30
   simp -implicitDefEqProofs (disch:=omega) only[ev0,Nat.reduceBEq,Nat.reduceSub,Nat.reduceAdd,reduceIte,d1,d2,d3,q1,q2,hy,ha,hb]
  | false=>
   refine⟨a,?_,by omega⟩
   rw[Ev.go (show T 30=some d30 from rfl) (show d30.np=3 from rfl) (show d30.G.N.length=4 from rfl) (show d30.body=b30 from rfl) rfl];unfold b30
   simp -implicitDefEqProofs (disch:=omega) only[ev0,Nat.reduceBEq,Nat.reduceSub,Nat.reduceAdd,reduceIte,d1,d2,q1,q2,ha]
theorem gx (n:Nat) (ns:List Int) {k:Int} (h0:0<=k) (h1:k<=1900) (c:Int):∃ x:Int,af T (n + 2) 32 [.lst false (ns.map .int),.int k,.int c]=.ok (.int x):=by
 have d1:=aJ n ns k 8 h0 (by omega) (by decide)
 have b1:=cv ns k (m:=8) (by decide)
 have c1:=cH ns k (m:=8) (by decide)
 generalize dr ns k 8=r at *
 by_cases h:r < 5
 ·have hd:decide (r < 5)=true:=decide_eq_true h
  refine⟨c + r - 2,?_⟩
  rw[Ev.go (show T 32=some d32 from rfl) (show d32.np=3 from rfl) (show d32.G.N.length=4 from rfl) (show d32.body=b32 from rfl) rfl];unfold b32
  simp -implicitDefEqProofs (disch:=omega) only[ev0,Nat.reduceBEq,Nat.reduceSub,Nat.reduceAdd,reduceIte,d1,hd]
 ·have hd:decide (r < 5)=false:=decide_eq_false h
  have hx:bo (.lst true [.int 999999999,.int (0 - 999999999),.int 0]) (.int (r - 5))=.ok (.int ([999999999,0 - 999999999,0].getD (r - 5).toNat 0)):=Ev.x_i (o:=true) (xs:=[999999999,0 - 999999999,0]) (by omega) (by show r - 5 < 3;omega)
  refine⟨([999999999,0 - 999999999,0]:List Int).getD (r - 5).toNat 0,?_⟩
  rw[Ev.go (show T 32=some d32 from rfl) (show d32.np=3 from rfl) (show d32.G.N.length=4 from rfl) (show d32.body=b32 from rfl) rfl];unfold b32
  simp -implicitDefEqProofs (disch:=omega) only[ev0,Nat.reduceBEq,Nat.reduceSub,Nat.reduceAdd,reduceIte,d1,hd,hx]
theorem qu (n:Nat) (ns:List Int) {k:Int} (h0:0<=k) (h1:k<=1800) {st:Str} (hs:st.length<=100) (c:Int):∃ t:Tn,af T (n + 3) 33 [.lst false (ns.map .int),.int k,.str st,.int c]=.ok t.d:=by
 have d1:=aJ (n + 1) ns k 2 h0 (by omega) (by decide)
 obtain⟨x,ex⟩:=gx n ns (k:=k + 1) (by omega) (by omega) c
 obtain⟨y,ey,_⟩:=k9 n ns (k:=k + 2) (by omega) (by omega) hs
 cases q:(dr ns k 2 == 0) with
 | true=>
  refine⟨.i x,?_⟩
  unfold Tn.d
  rw[Ev.go (show T 33=some d33 from rfl) (show d33.np=4 from rfl) (show d33.G.N.length=4 from rfl) (show d33.body=b33 from rfl) rfl];unfold b33
  simp -implicitDefEqProofs (disch:=omega) only[ev0,Nat.reduceBEq,Nat.reduceSub,Nat.reduceAdd,reduceIte,d1,q,ex]
 | false=>
  refine⟨.s y,?_⟩
  unfold Tn.d
  rw[Ev.go (show T 33=some d33 from rfl) (show d33.np=4 from rfl) (show d33.G.N.length=4 from rfl) (show d33.body=b33 from rfl) rfl];unfold b33
  simp -implicitDefEqProofs (disch:=omega) only[ev0,Nat.reduceBEq,Nat.reduceSub,Nat.reduceAdd,reduceIte,d1,q,ey]
theorem xo (t:Tn):er t.d=t.d:=by cases t<;>rfl
theorem xq (t:Tn):ao t.d=true:=by cases t<;>rfl
noncomputable def tM:List IS:=[(.asg (.nm 8) (.call 33 [(.v 0),(.bin .add (.bin .add (.v 1) (.c (.int 2))) (.bin .mul (.c (.int 5)) (.v 7))),(.v 2),(.v 3)])),(.if_ (.cmp .eq (.v 4) (.c (.str "begins"))) [(.asg (.nm 8) (.call 30 [(.v 0),(.bin .add (.bin .add (.v 1) (.c (.int 2))) (.bin .mul (.c (.int 5)) (.v 7))),(.v 2)])),(.if_ (.cmp .eq (.v 8) (.c (.str ""))) [(.asg (.nm 8) (.sl (.v 2) none (some (.c (.int 1)))))] [])] []),(.app 6 (.v 8))]
theorem xr (n:Nat) (ns:List Int) {k:Int} (h0:0<=k) (h1:k<=1500) {st:Str} (hs:st.length<=100) (c:Int) (w:Str) (rm:Int) (ts:List Tn) (j:Int) (j0:0<=j) (j1:j<=20) (lt:ts.length<=100) (x7 x8:Option D) :
  ∃ (t:Tn) (y8:Option D),Ev.turn (af T (n + 3)) (.nm 7) tM (.int j) [some (.lst false (ns.map .int)),some (.int k),some (.str st),some (.int c),some (.str w),some (.int rm),some (.lst true (ts.map Tn.d)),x7,x8]=.ok (.nx [some (.lst false (ns.map .int)),some (.int k),some (.str st),some (.int c),some (.str w),some (.int rm),some (.lst true ((ts++[t]).map Tn.d)),some (.int j),y8])/\(w=Str.ofString "begins"->∃ x,t=.s x):=by
 obtain⟨t,et⟩:=qu n ns (k:=k + 2 + 5 * j) (by omega) (by omega) hs c
 obtain⟨x,ex,_⟩:=k9 (n + 1) ns (k:=k + 2 + 5 * j) (by omega) (by omega) hs
 have l1:(ts.map Tn.d).length=ts.length:=List.length_map ..
 have te:=xo t
 have tl:=xq t
 cases q:(w == Str.ofString "begins") with
 | false=>
  refine⟨t,some t.d,?_,fun z=>?_⟩
  ·unfold tM
   rw[List.map_append,List.map_cons,List.map_nil]
   simp -implicitDefEqProofs (disch:=omega) only[ev0,Nat.reduceBEq,Nat.reduceSub,Nat.reduceAdd,reduceIte,Ev.ah,et,te,tl,q,l1]
  ·rw[z] at q
   simp at q
 | true=>
  cases q2:(x == Str.ofString "") with
  | false=>
   refine⟨.s x,some (.str x),?_,fun _=>⟨x,rfl⟩⟩
   unfold tM
   rw[List.map_append,List.map_cons,List.map_nil]
   show _=Except.ok (Fl.nx [_,_,_,_,_,_,some (.lst true (ts.map Tn.d++[.str x])),_,_])
   simp -implicitDefEqProofs (disch:=omega) only[ev0,Nat.reduceBEq,Nat.reduceSub,Nat.reduceAdd,reduceIte,Ev.ah,et,te,tl,ex,q,q2,l1]
  | true=>
   refine⟨.s (Txt.slice st none (some 1)),some (.str (Txt.slice st none (some 1))),?_,fun _=>⟨_,rfl⟩⟩
   unfold tM
   rw[List.map_append,List.map_cons,List.map_nil]
   show _=Except.ok (Fl.nx [_,_,_,_,_,_,some (.lst true (ts.map Tn.d++[.str (Txt.slice st none (some 1))])),_,_])
   simp -implicitDefEqProofs (disch:=omega) only[ev0,Nat.reduceBEq,Nat.reduceSub,Nat.reduceAdd,reduceIte,Ev.ah,et,te,tl,ex,q,q2,l1]
theorem sE (n:Nat) (ns:List Int) {k:Int} (h0:0<=k) (h1:k<=1500) {st:Str} (hs:st.length<=100) (c:Int) (w:Str) (rm:Int) (r0:0 < rm) (r1:rm<=4) :
  ∃ ts:List Tn,af T (n + 4) 34 [.lst false (ns.map .int),.int k,.str st,.int c,.str w,.int rm]=.ok (.lst true (ts.map Tn.d))/\(ts.length:Int)<=rm/\(w=Str.ofString "begins"->∀ t ∈ ts,∃ x,t=.s x)/\
   (w=Str.ofString "least"∨w=Str.ofString "most"->∀ t ∈ ts,∃ x,t=.i x)/\(w=Str.ofString "has"∨w=Str.ofString "lacks"->ts=[]):=by
 obtain⟨x,ex⟩:=gx (n + 1) ns (k:=k + 1) (by omega) (by omega) c
 have key:∀ b:Bool,(w == Str.ofString "least" || w == Str.ofString "most")=b->∀ b':Bool,(w == Str.ofString "has" || w == Str.ofString "lacks")=b'->
   ∃ ts:List Tn,af T (n + 4) 34 [.lst false (ns.map .int),.int k,.str st,.int c,.str w,.int rm]=.ok (.lst true (ts.map Tn.d))/\(ts.length:Int)<=rm/\(b=false->w=Str.ofString "begins"->∀ t ∈ ts,∃ x,t=.s x)/\(b=true->∀ t ∈ ts,∃ x,t=.i x)/\(b=false->b'=true->ts=[]):=by
  intro b hb b' hb'
  cases b with
  | true=>
   refine⟨[.i x],?_,by show (1:Int)<=rm;omega,fun z=>(by cases z),fun _ t ht=>?_,fun z=>(by cases z)⟩
   ·rw[List.map_cons,List.map_nil]
    show _=Except.ok (D.lst true [.int x])
    rw[Ev.go (show T 34=some d34 from rfl) (show d34.np=6 from rfl) (show d34.G.N.length=9 from rfl) (show d34.body=b34 from rfl) rfl];unfold b34
    cases q1:(w == Str.ofString "least") with
    | true=>simp -implicitDefEqProofs (disch:=omega) only[ev0,Nat.reduceBEq,Nat.reduceSub,Nat.reduceAdd,reduceIte,q1,ex]
    | false=>
     rw[q1,Bool.false_or] at hb
     simp -implicitDefEqProofs (disch:=omega) only[ev0,Nat.reduceBEq,Nat.reduceSub,Nat.reduceAdd,reduceIte,q1,hb,ex]
   ·exact⟨x,List.mem_singleton.mp ht⟩
  | false=>
   have hb1:=Bool.or_eq_false_iff.mp hb
   have q1:=hb1.1
   have q2:=hb1.2
   cases b' with
   | true=>
    refine⟨[],?_,by show (0:Int)<=rm;omega,fun _ _ t ht=>(by simp at ht),fun z=>(by cases z),fun _ _=>rfl⟩
    rw[List.map_nil]
    rw[Ev.go (show T 34=some d34 from rfl) (show d34.np=6 from rfl) (show d34.G.N.length=9 from rfl) (show d34.body=b34 from rfl) rfl];unfold b34
    cases q3:(w == Str.ofString "has") with
    | true=>simp -implicitDefEqProofs (disch:=omega) only[ev0,Nat.reduceBEq,Nat.reduceSub,Nat.reduceAdd,reduceIte,q1,q2,q3]
    | false=>
     rw[q3,Bool.false_or] at hb'
     simp -implicitDefEqProofs (disch:=omega) only[ev0,Nat.reduceBEq,Nat.reduceSub,Nat.reduceAdd,reduceIte,q1,q2,q3,hb']
   | false=>
    have hb2:=Bool.or_eq_false_iff.mp hb'
    have q3:=hb2.1
    have q4:=hb2.2
    have d1:=aJ (n + 2) ns k rm h0 (by omega) r0
    have c0:=cv ns k r0
    have c1:=cH ns k r0
    generalize dr ns k rm=r at *
    obtain⟨τ',e,ts,y7,y8,rfl,hl,hx⟩:=Ev.g7 (its:=bp 0 (1 + r)) (τ:=[some (.lst false (ns.map .int)),some (.int k),some (.str st),some (.int c),some (.str w),some (.int rm),some (.lst true []),none,none]) (body:=Ev.turn (af T (n + 3)) (.nm 7) tM)
     (fun i τ=>∃ (ts:List Tn) (x7 x8:Option D),τ=[some (.lst false (ns.map .int)),some (.int k),some (.str st),some (.int c),some (.str w),some (.int rm),some (.lst true (ts.map Tn.d)),x7,x8]/\ts.length=i/\(w=Str.ofString "begins"->∀ t ∈ ts,∃ x,t=.s x))
     ⟨[],none,none,rfl,rfl,fun _ t ht=>by simp at ht⟩ (by
      rintro i x τ hx ⟨ts,x7,x8,rfl,hl,hxs⟩
      have hi:i < (1 + r).toNat:=by
       have:=(List.getElem?_eq_some_iff.mp hx).1
       rw[aX] at this
       omega
      unfold bp at hx
      rw[List.getElem?_map,List.getElem?_range (by omega)] at hx
      have hx':D.int (0 + (i:Nat))=x:=Option.some.inj hx
      subst hx'
      obtain⟨t,y8,e,ht⟩:=xr n ns h0 h1 hs c w rm ts (0 + (i:Int)) (by omega) (by omega) (by omega) x7 x8
      refine⟨_,e,ts++[t],_,_,rfl,by rw[List.length_append,hl];rfl,fun z u hu=>?_⟩
      rcases List.mem_append.mp hu with hu | hu
      ·exact hxs z u hu
      ·rw[List.mem_singleton.mp hu];exact ht z)
    refine⟨ts,?_,?_,fun _=>hx,fun z=>(by cases z),fun _ z=>(by cases z)⟩
    ·rw[Ev.go (show T 34=some d34 from rfl) (show d34.np=6 from rfl) (show d34.G.N.length=9 from rfl) (show d34.body=b34 from rfl) rfl];unfold b34
     unfold tM at e
     simp -implicitDefEqProofs (disch:=omega) only[ev0,Nat.reduceBEq,Nat.reduceSub,Nat.reduceAdd,reduceIte,q1,q2,q3,q4,d1,e]
    ·rw[aX] at hl
     omega
 obtain⟨ts,e,hl,k1,k2,k3⟩:=key _ rfl _ rfl
 have nb:w=Str.ofString "begins"->(w == Str.ofString "least" || w == Str.ofString "most")=false:=fun z=>by rw[z];decide +kernel
 have nh:(w=Str.ofString "has"∨w=Str.ofString "lacks")->(w == Str.ofString "least" || w == Str.ofString "most")=false/\(w == Str.ofString "has" || w == Str.ofString "lacks")=true:=fun z=>by rcases z with rfl | rfl<;>exact⟨by decide +kernel,by decide +kernel⟩
 have nl:(w=Str.ofString "least"∨w=Str.ofString "most")->(w == Str.ofString "least" || w == Str.ofString "most")=true:=fun z=>by rcases z with rfl | rfl<;>decide +kernel
 exact⟨ts,e,hl,fun z=>k1 (nb z) z,fun z=>k2 (nl z),fun z=>k3 (nh z).1 (nh z).2⟩
noncomputable def Cn.t (c:Cn):D:=.tup [.str c.m,.str c.w,.lst true (c.ts.map Tn.d)]
theorem jk (c:Cn):er c.t=c.d:=by
 unfold Cn.t Cn.d
 show D.tup [.str c.m,.str c.w,.lst false (ers (c.ts.map Tn.d))]=_
 rw[jd]
theorem j6 (cs:List Cn):ers (cs.map Cn.t)=cs.map Cn.d:=by
 rw[az,List.map_map]
 exact List.map_congr_left fun c _=>jk c
structure Gc (c:Cn):Prop where
 io:io c=false
 be:c.w=Str.ofString "begins"->∀ t ∈ c.ts,∃ x,t=.s x
 le:c.w=Str.ofString "least"->∀ t ∈ c.ts,∃ x,t=.i x
 mo:c.w=Str.ofString "most"->∀ t ∈ c.ts,∃ x,t=.i x
 wk:c.ts=[]∨Wk c.w
noncomputable def w9:List Str:=[Str.ofString "is",Str.ofString "not",Str.ofString "begins",Str.ofString "least",Str.ofString "most",Str.ofString "has",Str.ofString "lacks",Str.ofString "is",Str.ofString "begins"]
theorem xu {k:Nat} (h:k < 9):(Wk (w9.getD k ⟨#[]⟩)∨w9.getD k ⟨#[]⟩=Str.ofString "has"∨w9.getD k ⟨#[]⟩=Str.ofString "lacks")/\((Str.ofString "in" == w9.getD k ⟨#[]⟩) || (Str.ofString "out" == w9.getD k ⟨#[]⟩))=false:=by
 match k,h with
 | 0,_=>exact⟨.inl .is,by decide +kernel⟩
 | 1,_=>exact⟨.inl .not,by decide +kernel⟩
 | 2,_=>exact⟨.inl .be,by decide +kernel⟩
 | 3,_=>exact⟨.inl .le,by decide +kernel⟩
 | 4,_=>exact⟨.inl .mo,by decide +kernel⟩
 | 5,_=>exact⟨.inr (.inl rfl),by decide +kernel⟩
 | 6,_=>exact⟨.inr (.inr rfl),by decide +kernel⟩
 | 7,_=>exact⟨.inl .is,by decide +kernel⟩
 | 8,_=>exact⟨.inl .be,by decide +kernel⟩
noncomputable def tQ:List IS:=[(.asg (.nm 10) (.idx (.v 7) (.call 27 [(.v 0),(.bin .add (.v 1) (.bin .mul (.c (.int 60)) (.v 9))),(.c (.int 9))]))),(.asg (.nm 11) (.idx (.v 2) (.call 27 [(.v 0),(.bin .add (.bin .add (.v 1) (.c (.int 1))) (.bin .mul (.c (.int 60)) (.v 9))),(.bi .len [(.v 2)])]))),(.app 8 (.tup [(.v 11),(.v 10),(.call 34 [(.v 0),(.bin .add (.bin .add (.v 1) (.c (.int 2))) (.bin .mul (.c (.int 60)) (.v 9))),(.v 3),(.v 4),(.v 10),(.v 6)])]))]
noncomputable def qS (ns:List Int) (k:Int) (ms:List Str) (st:Str) (c ct rm:Int) (cs:List Cn) (x9 x10 x11:Option D):Ev:=[some (.lst false (ns.map .int)),some (.int k),some (.lst false (ms.map .str)),some (.str st),some (.int c),some (.int ct),some (.int rm),some (.lst true (w9.map .str)),some (.lst true (cs.map Cn.t)),x9,x10,x11]
theorem xw (n:Nat) (ns:List Int) {k:Int} (h0:0<=k) (h1:k<=600) {ms:List Str} (m0:0 < ms.length) (m1:ms.length<=10) {st:Str} (hs:st.length<=100) (c ct rm:Int) (r0:0 < rm) (r1:rm<=4) (cs:List Cn) (j:Int) (j0:0<=j) (j1:j<=10) (lt:cs.length<=100) (x9 x10 x11:Option D) :
  ∃ (d:Cn) (y10 y11:Option D),Ev.turn (af T (n + 4)) (.nm 9) tQ (.int j) (qS ns k ms st c ct rm cs x9 x10 x11)=.ok (.nx (qS ns k ms st c ct rm (cs++[d]) (some (.int j)) y10 y11))/\Gc d/\(d.ts.length:Int)<=rm:=by
 have d1:=aJ (n + 3) ns (k + 60 * j) 9 (by omega) (by omega) (by decide)
 have b1:=cv ns (k + 60 * j) (m:=9) (by decide)
 have c1:=cH ns (k + 60 * j) (m:=9) (by decide)
 have d2:=aJ (n + 3) ns (k + 1 + 60 * j) (ms.length:Int) (by omega) (by omega) (by omega)
 have b2:=cv ns (k + 1 + 60 * j) (m:=(ms.length:Int)) (by omega)
 have c2:=cH ns (k + 1 + 60 * j) (m:=(ms.length:Int)) (by omega)
 have hx:bo (.lst true (w9.map .str)) (.int (dr ns (k + 60 * j) 9))=.ok (.str (w9.getD (dr ns (k + 60 * j) 9).toNat ⟨#[]⟩)):=Ev.sf b1 (by show dr ns (k + 60 * j) 9 < 9;exact c1)
 have hm:bo (.lst false (ms.map .str)) (.int (dr ns (k + 1 + 60 * j) (ms.length:Int)))=.ok (.str (ms.getD (dr ns (k + 1 + 60 * j) (ms.length:Int)).toNat ⟨#[]⟩)):=Ev.sf b2 c2
 obtain⟨hw,hio⟩:=xu (k:=(dr ns (k + 60 * j) 9).toNat) (by omega)
 generalize w9.getD (dr ns (k + 60 * j) 9).toNat ⟨#[]⟩=w at *
 generalize ms.getD (dr ns (k + 1 + 60 * j) (ms.length:Int)).toNat ⟨#[]⟩=m at *
 obtain⟨ts,et,tl,p1,p2,p3⟩:=sE n ns (k:=k + 2 + 60 * j) (by omega) (by omega) hs c w rm r0 r1
 have lm:(ms.map D.str).length=ms.length:=List.length_map ..
 have lc:(cs.map Cn.t).length=cs.length:=List.length_map ..
 refine⟨⟨m,w,ts⟩,some (.str w),some (.str m),?_,⟨hio,p1,fun z=>p2 (.inl z),fun z=>p2 (.inr z),?_⟩,tl⟩
 ·unfold qS
  rw[List.map_append,List.map_cons,List.map_nil]
  show _=Except.ok (Fl.nx [_,_,_,_,_,_,_,_,some (.lst true (cs.map Cn.t++[.tup [.str m,.str w,.lst true (ts.map Tn.d)]])),_,_,_])
  generalize w9.map D.str=W at hx ⊢
  unfold tQ
  simp -implicitDefEqProofs (disch:=omega) only[ev0,Nat.reduceBEq,Nat.reduceSub,Nat.reduceAdd,reduceIte,Ev.ah,d1,d2,hx,hm,et,lm,lc]
 ·rcases hw with z | z | z
  ·exact .inr z
  ·exact .inl (p3 (.inl z))
  ·exact .inl (p3 (.inr z))
theorem jl (n:Nat) (ns:List Int) {k:Int} (h0:0<=k) (h1:k<=600) {ms:List Str} (m0:0 < ms.length) (m1:ms.length<=10) {st:Str} (hs:st.length<=100) (c ct rm:Int) (t0:0<=ct) (t1:ct<=10) (r0:0 < rm) (r1:rm<=4) :
  ∃ cs:List Cn,af T (n + 5) 35 [.lst false (ns.map .int),.int k,.lst false (ms.map .str),.str st,.int c,.int ct,.int rm]=.ok (.lst true (cs.map Cn.t))/\cs.length=ct.toNat/\∀ d ∈ cs,Gc d/\(d.ts.length:Int)<=rm:=by
 obtain⟨τ',e,cs,y9,y10,y11,rfl,hl,hx⟩:=Ev.g7 (its:=bp 0 ct) (τ:=qS ns k ms st c ct rm [] none none none) (body:=Ev.turn (af T (n + 4)) (.nm 9) tQ)
  (fun i τ=>∃ (cs:List Cn) (x9 x10 x11:Option D),τ=qS ns k ms st c ct rm cs x9 x10 x11/\cs.length=i/\∀ d ∈ cs,Gc d/\(d.ts.length:Int)<=rm)
  ⟨[],none,none,none,rfl,rfl,fun t ht=>by simp at ht⟩ (by
   rintro i x τ hx ⟨cs,x9,x10,x11,rfl,hl,hxs⟩
   have hi:i < ct.toNat:=by
    have:=(List.getElem?_eq_some_iff.mp hx).1
    rw[aX] at this
    omega
   unfold bp at hx
   rw[List.getElem?_map,List.getElem?_range (by omega)] at hx
   have hx':D.int (0 + (i:Nat))=x:=Option.some.inj hx
   subst hx'
   obtain⟨d,y10,y11,e,g1,g2⟩:=xw n ns h0 h1 m0 m1 hs c ct rm r0 r1 cs (0 + (i:Int)) (by omega) (by omega) (by omega) x9 x10 x11
   refine⟨_,e,cs++[d],_,_,_,rfl,by rw[List.length_append,hl];rfl,fun u hu=>?_⟩
   rcases List.mem_append.mp hu with hu | hu
   ·exact hxs u hu
   ·rw[List.mem_singleton.mp hu];exact⟨g1,g2⟩)
 refine⟨cs,?_,by rw[hl,aX];omega,hx⟩
 unfold qS w9 at e
 rw[List.map_nil,List.map_cons,List.map_cons,List.map_cons,List.map_cons,List.map_cons,List.map_cons,List.map_cons,List.map_cons,List.map_cons,List.map_nil] at e
 rw[Ev.go (show T 35=some d35 from rfl) (show d35.np=7 from rfl) (show d35.G.N.length=12 from rfl) (show d35.body=b35 from rfl) rfl];unfold b35
 unfold tQ at e
 simp -implicitDefEqProofs (disch:=omega) only[ev0,Nat.reduceBEq,Nat.reduceSub,Nat.reduceAdd,reduceIte,e]
noncomputable def one (c:Nat):Str:=⟨#[c]⟩
noncomputable def sal (cs:List Nat):Str:=⟨cs.toArray⟩
theorem lh (cs:List Nat):(sal cs).length=cs.length:=by unfold sal Str.length;simp
theorem sF (c:Nat):(one c).length=1:=rfl
theorem gy:∀ (cs:List Nat) (acc:Array Nat),(cs.map one).foldl (fun acc p=>acc++(Str.ofString "").cps++p.cps) acc=acc++cs.toArray
 | [],acc=>by simp
 | c::cs,acc=>by
  have e:(Str.ofString "").cps = #[]:=by decide +kernel
  rw[List.map_cons,List.foldl_cons,gy cs,e]
  show acc++#[]++#[c]++cs.toArray=_
  simp
theorem join_one (cs:List Nat):Txt.join "" (cs.map one)=sal cs:=by
 show (⟨((cs.map one).drop 1).foldl (fun acc p=>acc++(Str.ofString "").cps++p.cps) ((cs.map one).headD Str.empty).cps⟩:Str)=_
 cases cs with
 | nil=>rfl
 | cons c cs=>
  rw[List.map_cons,List.drop_succ_cons,List.drop_zero,List.headD_cons,gy]
  unfold sal one
  simp
theorem sG (cs:List Nat):((cs.map one).map (fun y:Str=>y.length)).sum=cs.length:=by
 induction cs with
 | nil=>rfl
 | cons c cs ih=>
  rw[List.map_cons,List.map_cons,List.sum_cons,ih,List.length_cons,sF]
  omega
theorem lj {o:Bool} {cs:List Nat} (h:cs.length<=1000):fI .join (.str "") [.lst o ((cs.map one).map .str)]=.ok (.str (sal cs)):=by
 have e:(Str.ofString "").length=0:=by decide +kernel
 rw[Ev.sd (by rw[sG,List.length_map,e];omega),join_one]
theorem mq (n:Nat) (ns:List Int) {k:Int} (h0:0<=k) (h1:k<=1900):∃ c:Int,af T (n + 2) 31 [.lst false (ns.map .int),.int k]=.ok (.int c):=by
 have d1:=aJ n ns k 20000 h0 (by omega) (by decide)
 have d2:=aJ n ns (k + 1) 100000 (by omega) (by omega) (by decide)
 have b1:=cv ns k (m:=20000) (by decide)
 have c1:=cH ns k (m:=20000) (by decide)
 have hp:opB .pow (.int 10) (.int 9)=.ok (.int 1000000000):=by kernel_rfl
 generalize dr ns k 20000=a at *
 generalize dr ns (k + 1) 100000=b at *
 refine⟨if 999999990 < (if 0 - 999999990 > a * 100000 + b - 1000000000 then 0 - 999999990 else a * 100000 + b - 1000000000) then 999999990 else (if 0 - 999999990 > a * 100000 + b - 1000000000 then 0 - 999999990 else a * 100000 + b - 1000000000),?_⟩
 rw[Ev.go (show T 31=some d31 from rfl) (show d31.np=2 from rfl) (show d31.G.N.length=3 from rfl) (show d31.body=b31 from rfl) rfl];unfold b31
 simp -implicitDefEqProofs (disch:=omega) only[ev0,Nat.reduceBEq,Nat.reduceSub,Nat.reduceAdd,reduceIte,d1,d2,hp]
theorem jm {g:D->Res (Option D)}:∀ (its:List D),(∀ x ∈ its,∃ y:Nat,g x=.ok (some (.str (one y))))->∃ ys:List Nat,aA g its=.ok ((ys.map one).map .str)/\ys.length=its.length
 | [],_=>⟨[],rfl,rfl⟩
 | x::its,h=>by
  obtain⟨y,hy⟩:=h x (by simp)
  obtain⟨ys,e,hl⟩:=jm its fun z hz=>h z (List.mem_cons_of_mem _ hz)
  exact⟨y::ys,cE hy e,by rw[List.length_cons,List.length_cons,hl]⟩
theorem dS {g:D->Res (Option D)}:∀ (its:List D),(∀ x ∈ its,∃ y:Str,g x=.ok (some (.str y)))->∃ ys:List Str,aA g its=.ok (ys.map .str)/\ys.length=its.length
 | [],_=>⟨[],rfl,rfl⟩
 | x::its,h=>by
  obtain⟨y,hy⟩:=h x (by simp)
  obtain⟨ys,e,hl⟩:=dS its fun z hz=>h z (List.mem_cons_of_mem _ hz)
  exact⟨y::ys,cE hy e,by rw[List.length_cons,List.length_cons,hl]⟩
theorem ik {a:Int} {x:D} (h:x ∈ bp 0 a):∃ j:Int,x=.int j/\0<=j/\j < a:=by
 unfold bp at h
 obtain⟨k,hk,rfl⟩:=List.mem_map.mp h
 rw[List.mem_range] at hk
 exact⟨0 + (k:Int),rfl,by omega,by omega⟩
theorem lp (n:Nat) (ns:List Int) {k:Int} (h0:0<=k) (h1:k<=1900) {z:Str} (z0:0 < z.length) (z1:z.length<=100) :
  ∃ ys:List Nat,aA (aG (af T (n + 1)) (.nm 3) [] (.idx (.v 0) (.call 27 [(.v 1),(.bin .add (.bin .add (.v 2) (.c (.int 2))) (.v 3)),(.bi .len [(.v 0)])])) [some (.str z),some (.lst false (ns.map .int)),some (.int k),none]) (bp 0 12)=.ok ((ys.map one).map .str)/\ys.length=12:=by
 obtain⟨ys,e,hl⟩:=jm (g:=aG (af T (n + 1)) (.nm 3) [] (.idx (.v 0) (.call 27 [(.v 1),(.bin .add (.bin .add (.v 2) (.c (.int 2))) (.v 3)),(.bi .len [(.v 0)])])) [some (.str z),some (.lst false (ns.map .int)),some (.int k),none]) (bp 0 12) (by
  intro x hx
  obtain⟨j,rfl,j0,j1⟩:=ik hx
  have d:=aJ n ns (k + 2 + j) (z.length:Int) (by omega) (by omega) (by omega)
  have b:=cv ns (k + 2 + j) (m:=(z.length:Int)) (by omega)
  have c:=cH ns (k + 2 + j) (m:=(z.length:Int)) (by omega)
  have hy:=Ev.x_c (z:=z) b c (by omega)
  refine⟨z.cps.toList.getD (dr ns (k + 2 + j) (z.length:Int)).toNat 0,?_⟩
  unfold one
  simp -implicitDefEqProofs (disch:=omega) only[ev0,Nat.reduceBEq,Nat.reduceSub,Nat.reduceAdd,reduceIte,Ev.ah,d,hy])
 exact⟨ys,e,hl.trans (by rw[aX];rfl)⟩
noncomputable def sg:Str:=Str.ofString "abcdefghijklmnopqrstuvwxyz0123456789"
theorem xx:∀ d:Fin 34,0 < (Txt.slice (Txt.slice sg (some ((d:Nat):Int)) none) none (some 2)).length:=by decide +kernel
theorem eC:sg.length=36:=j5
theorem sH (n:Nat) (ns:List Int) {k:Int} (h0:0<=k) (h1:k<=1800):∃ x:Str,af T (n + 2) 29 [.lst false (ns.map .int),.int k]=.ok (.str x)/\x.length<=100:=by
 have d1:=aJ n ns k 2 h0 (by omega) (by decide)
 have d2:=aJ n ns (k + 1) 34 (by omega) (by omega) (by decide)
 have b2:=cv ns (k + 1) (m:=34) (by decide)
 have c2:=cH ns (k + 1) (m:=34) (by decide)
 have lr:(bp 0 12).length=12:=by rw[aX];rfl
 cases q:(dr ns k 2 == 0) with
 | false=>
  obtain⟨ys,e,hl⟩:=lp n ns h0 (by omega) (z:=sg) (by rw[eC];decide) (by rw[eC];decide)
  have je:=lj (o:=true) (cs:=ys) (by omega)
  refine⟨sal ys,?_,by rw[lh];omega⟩
  unfold sg at e
  rw[Ev.go (show T 29=some d29 from rfl) (show d29.np=2 from rfl) (show d29.G.N.length=4 from rfl) (show d29.body=b29 from rfl) rfl];unfold b29
  simp -implicitDefEqProofs (disch:=omega) only[ev0,Nat.reduceBEq,Nat.reduceSub,Nat.reduceAdd,reduceIte,d1,q,e,je,lr]
 | true=>
  obtain⟨j,hj⟩:=Int.eq_ofNat_of_zero_le b2
  have hz:=xx ⟨j,by omega⟩
  have l1:=bJ sg (some ((j:Nat):Int)) none
  have l2:=bJ (Txt.slice sg (some ((j:Nat):Int)) none) none (some 2)
  rw[eC] at l1
  have hz':0 < (Txt.slice (Txt.slice sg (some ((j:Nat):Int)) none) none (some 2)).length:=hz
  obtain⟨ys,e,hl⟩:=lp n ns h0 (by omega) (z:=Txt.slice (Txt.slice sg (some ((j:Nat):Int)) none) none (some 2)) hz' (by omega)
  have je:=lj (o:=true) (cs:=ys) (by omega)
  refine⟨sal ys,?_,by rw[lh];omega⟩
  rw[hj] at d2
  have sl:=eC
  unfold sg at e l1 l2 sl
  rw[Ev.go (show T 29=some d29 from rfl) (show d29.np=2 from rfl) (show d29.G.N.length=4 from rfl) (show d29.body=b29 from rfl) rfl];unfold b29
  simp -implicitDefEqProofs (disch:=omega) only[ev0,Nat.reduceBEq,Nat.reduceSub,Nat.reduceAdd,reduceIte,d1,d2,q,e,je,sl,lr]
theorem qv {i:Int} (h0:0<=i) (h1:i < 26):∃ y:Str,bo (.str "abcdefghijklmnopqrstuvwxyz") (.int i)=.ok (.str y)/\y.length=1:=qt h0 (by rw[qr];exact h1) (by rw[qr];decide)
noncomputable def tN:List IS:=[(.asg (.nm 5) (.bin .add (.v 5) (.idx (.v 3) (.call 27 [(.v 0),(.bin .add (.bin .add (.v 1) (.c (.int 40))) (.v 6)),(.c (.int 26))]))))]
theorem sJ (n:Nat) (ns:List Int) {k:Int} (h0:0<=k) (h1:k<=1000) (a2 a3 a4:Option D) (ha:a3=some (.str "abcdefghijklmnopqrstuvwxyz")) {r:Int} (r0:0<=r) (r1:r < 8) :
  ∃ (b:Str) (x6:Option D),forM (Ev.turn (af T (n + 1)) (.nm 6) tN) (bp 0 r) [some (.lst false (ns.map .int)),some (.int k),a2,a3,a4,some (.str ""),none,none,none]=.ok (.nx [some (.lst false (ns.map .int)),some (.int k),a2,a3,a4,some (.str b),x6,none,none])/\b.length<=8:=by
 subst ha
 obtain⟨τ',e,b,x6,rfl,hb⟩:=Ev.g7 (its:=bp 0 r) (τ:=[some (.lst false (ns.map .int)),some (.int k),a2,some (.str "abcdefghijklmnopqrstuvwxyz"),a4,some (.str ""),none,none,none]) (body:=Ev.turn (af T (n + 1)) (.nm 6) tN)
  (fun i τ=>∃ (b:Str) (x6:Option D),τ=[some (.lst false (ns.map .int)),some (.int k),a2,some (.str "abcdefghijklmnopqrstuvwxyz"),a4,some (.str b),x6,none,none]/\b.length=i)
  ⟨Str.ofString "",none,rfl,xn⟩ (by
   rintro i x τ hx ⟨b,x6,rfl,hb⟩
   have hi:i < r.toNat:=by
    have:=(List.getElem?_eq_some_iff.mp hx).1
    rw[aX] at this
    omega
   unfold bp at hx
   rw[List.getElem?_map,List.getElem?_range (by omega)] at hx
   have hx':D.int (0 + (i:Nat))=x:=Option.some.inj hx
   subst hx'
   have d:=aJ n ns (k + 40 + (0 + (i:Int))) 26 (by omega) (by omega) (by decide)
   obtain⟨y,hy,ly⟩:=qv (cv ns (k + 40 + (0 + (i:Int))) (m:=26) (by decide)) (cH ns (k + 40 + (0 + (i:Int))) (m:=26) (by decide))
   refine⟨_,?_,b++y,some (.int (0 + (i:Nat))),rfl,by rw[ij];omega⟩
   unfold tN
   simp -implicitDefEqProofs (disch:=omega) only[ev0,Nat.reduceBEq,Nat.reduceSub,Nat.reduceAdd,reduceIte,Ev.ah,d,hy])
 refine⟨b,x6,e,?_⟩
 rw[hb,aX]
 omega
theorem AN {y:Str} {z:Int} (hy:y.length<=100) (h0:0<=z) (h1:z<=100):opB .mul (.str y) (.int z)=.ok (.str (Txt.mul y z)):=by
 show grd (decide (-16000<=z/\z<=16000/\y.length<=1000)) _=_
 rw[decide_eq_true ⟨by omega,by omega,by omega⟩]
 rfl
theorem qw (n:Nat) (ns:List Int) {k:Int} (h0:0<=k) (h1:k<=1000) {mn:Int} (m0:0<=mn) (m1:mn<=10):∃ xs:List Str,af T (n + 2) 28 [.lst false (ns.map .int),.int k,.int mn]=.ok (.lst true (xs.map .str))/\xs.length=mn.toNat:=by
 have d1:=aJ n ns k 26 h0 (by omega) (by decide)
 have b1:=cv ns k (m:=26) (by decide)
 have c1:=cH ns k (m:=26) (by decide)
 have d2:=aJ n ns (k + 1) 5 (by omega) (by omega) (by decide)
 have lr:(bp 0 mn).length=mn.toNat:=by rw[aX];omega
 generalize dr ns k 26=s at *
 cases q:(dr ns (k + 1) 5 == 0) with
 | true=>
  obtain⟨xs,e,hl⟩:=dS (g:=aG (af T (n + 1)) (.nm 2) [] (.bin .mul (.idx (.v 0) (.v 1)) (.bin .add (.c (.int 1)) (.v 2))) [some (.str "abcdefghijklmnopqrstuvwxyz"),some (.int s),none]) (bp 0 mn) (by
   intro x hx
   obtain⟨j,rfl,j0,j1⟩:=ik hx
   obtain⟨y,hy,ly⟩:=qv b1 c1
   have hm:=AN (y:=y) (z:=1 + j) (by omega) (by omega) (by omega)
   refine⟨Txt.mul y (1 + j),?_⟩
   simp -implicitDefEqProofs (disch:=omega) only[ev0,Nat.reduceBEq,Nat.reduceSub,Nat.reduceAdd,reduceIte,Ev.ah,hy,hm])
  refine⟨xs,?_,hl.trans lr⟩
  rw[Ev.go (show T 28=some d28 from rfl) (show d28.np=3 from rfl) (show d28.G.N.length=9 from rfl) (show d28.body=b28 from rfl) rfl];unfold b28
  simp -implicitDefEqProofs (disch:=omega) only[ev0,Nat.reduceBEq,Nat.reduceSub,Nat.reduceAdd,reduceIte,d1,d2,q,e,lr]
 | false=>
  have d3:=aJ n ns (k + 2) 8 (by omega) (by omega) (by decide)
  have b3:=cv ns (k + 2) (m:=8) (by decide)
  have c3:=cH ns (k + 2) (m:=8) (by decide)
  generalize dr ns (k + 2) 8=r at *
  obtain⟨b,x6,eb,lb⟩:=sJ n ns h0 h1 (some (.int mn)) (some (.str "abcdefghijklmnopqrstuvwxyz")) (some (.int s)) rfl b3 c3
  have d4:=aJ n ns (k + 3) ((b.length:Int) + 1) (by omega) (by omega) (by omega)
  have b4:=cv ns (k + 3) (m:=(b.length:Int) + 1) (by omega)
  have d5:=aJ n ns (k + 1) 4 (by omega) (by omega) (by decide)
  have b5:=cv ns (k + 1) (m:=4) (by decide)
  have c5:=cH ns (k + 1) (m:=4) (by decide)
  generalize dr ns (k + 3) ((b.length:Int) + 1)=at' at *
  generalize dr ns (k + 1) 4=u at *
  have hx:bo (.lst true [.int 1,.int 7,.int 25,.int 11]) (.int u)=.ok (.int (([1,7,25,11]:List Int).getD u.toNat 0)):=Ev.x_i (o:=true) (xs:=[1,7,25,11]) b5 (by show u < 4;exact c5)
  have hb:0<=([1,7,25,11]:List Int).getD u.toNat 0/\([1,7,25,11]:List Int).getD u.toNat 0<=25:=by
   have:u=0∨u=1∨u=2∨u=3:=by omega
   rcases this with rfl | rfl | rfl | rfl<;>decide
  generalize ([1,7,25,11]:List Int).getD u.toNat 0=stp at *
  obtain⟨xs,e,hl⟩:=dS (g:=aG (af T (n + 1)) (.nm 5) [] (.bin .add (.bin .add (.sl (.v 0) none (some (.v 1))) (.idx (.v 2) (.bin .mod (.bin .add (.v 3) (.bin .mul (.v 4) (.v 5))) (.c (.int 26))))) (.sl (.v 0) (some (.v 1)) none)) [some (.str b),some (.int at'),some (.str "abcdefghijklmnopqrstuvwxyz"),some (.int s),some (.int stp),none]) (bp 0 mn) (by
   intro x hx
   obtain⟨j,rfl,j0,j1⟩:=ik hx
   have e0:=Int.emod_nonneg (s + stp * j) (show (26:Int)≠0 by decide)
   have e1:=Int.emod_lt_of_pos (s + stp * j) (show (0:Int) < 26 by decide)
   obtain⟨y,hy,ly⟩:=qv e0 e1
   have l1:=bJ b none (some at')
   have l2:=bJ b (some at') none
   have l3:=ij (Txt.slice b none (some at')) y
   refine⟨Txt.slice b none (some at')++y++Txt.slice b (some at') none,?_⟩
   simp -implicitDefEqProofs (disch:=omega) only[ev0,Nat.reduceBEq,Nat.reduceSub,Nat.reduceAdd,reduceIte,Ev.ah,hy])
  refine⟨xs,?_,hl.trans lr⟩
  rw[Ev.go (show T 28=some d28 from rfl) (show d28.np=3 from rfl) (show d28.G.N.length=9 from rfl) (show d28.body=b28 from rfl) rfl];unfold b28
  unfold tN at eb
  simp -implicitDefEqProofs (disch:=omega) only[ev0,Nat.reduceBEq,Nat.reduceSub,Nat.reduceAdd,reduceIte,d1,d2,d3,d4,d5,q,eb,hx,e,lr]
theorem AO (c0 c1:Cn) {r:Int} (h0:0<=r) (h1:r < 4):∃ (ds:List D) (rows:List (List Cn)),bo (.lst true [.lst true [],.lst true [.lst true [c0.t]],.lst true [.lst true [c0.t],.lst true [c1.t]],.lst true [.lst true [c0.t,c1.t]]]) (.int r)=.ok (.lst true ds)/\ers ds=rows.map ax/\
  (∀ c ∈ rows.flatten,c=c0∨c=c1)/\(rows.flatten.length<=2/\rows.length<=2)/\(rows.flatten.flatMap Cn.ts).length<=c0.ts.length + c1.ts.length:=by
 have e0:er c0.t=c0.d:=jk c0
 have e1:er c1.t=c1.d:=jk c1
 have:r=0∨r=1∨r=2∨r=3:=by omega
 rcases this with rfl | rfl | rfl | rfl
 ·exact⟨[],[],rfl,rfl,fun c hc=>by simp at hc,by simp,by simp⟩
 ·refine⟨[.lst true [c0.t]],[[c0]],rfl,?_,fun c hc=>by simp at hc;exact .inl hc,by simp,by simp⟩
  show [D.lst false [er c0.t]]=[D.lst false [c0.d]]
  rw[e0]
 ·refine⟨[.lst true [c0.t],.lst true [c1.t]],[[c0],[c1]],rfl,?_,fun c hc=>by simpa using hc,by simp,by simp⟩
  show [D.lst false [er c0.t],D.lst false [er c1.t]]=[D.lst false [c0.d],D.lst false [c1.d]]
  rw[e0,e1]
 ·refine⟨[.lst true [c0.t,c1.t]],[[c0,c1]],rfl,?_,fun c hc=>by simpa using hc,by simp,by simp⟩
  show [D.lst false [er c0.t,er c1.t]]=[D.lst false [c0.d,c1.d]]
  rw[e0,e1]
theorem xy (m0 m1:Str) {r:Int} (h0:0<=r) (h1:r < 4):∃ mt:Str,bo (.lst true [.str "mates",.str m0,.str m1,.str "mates"]) (.int r)=.ok (.str mt):=by
 have:r=0∨r=1∨r=2∨r=3:=by omega
 rcases this with rfl | rfl | rfl | rfl
 ·exact⟨_,rfl⟩
 ·exact⟨_,rfl⟩
 ·exact⟨_,rfl⟩
 ·exact⟨_,rfl⟩
theorem qx (cl:Nat->List D->Res D) (mt:Str):∃ (oth:Str) (rest:List D),aA (aG cl (.nm 1) [(.cmp .ne (.v 1) (.v 0))] (.v 1) [some (.str mt),none]) [.str "mates",.str "others"]=.ok (.str oth::rest)/\ae rest=true:=by
 have st:∀ x:Str,aG cl (.nm 1) [(.cmp .ne (.v 1) (.v 0))] (.v 1) [some (.str mt),none] (.str x)=.ok (if (x == mt)=true then none else some (.str x)):=by
  intro x
  cases q:(x == mt) with
  | true=>simp -implicitDefEqProofs (disch:=omega) only[ev0,Nat.reduceBEq,Nat.reduceSub,Nat.reduceAdd,reduceIte,Ev.ah,q]
  | false=>simp -implicitDefEqProofs (disch:=omega) only[ev0,Nat.reduceBEq,Nat.reduceSub,Nat.reduceAdd,reduceIte,Ev.ah,q]
 have s1:=st "mates"
 have s2:=st "others"
 cases q1:((Str.ofString "mates") == mt) with
 | false=>
  rw[q1] at s1
  cases q2:((Str.ofString "others") == mt) with
  | false=>rw[q2] at s2;exact⟨_,_,cE s1 (cE s2 rfl),rfl⟩
  | true=>rw[q2] at s2;exact⟨_,_,cE s1 (hJ s2 rfl),rfl⟩
 | true=>
  rw[q1] at s1
  have hm:mt=Str.ofString "mates":=(eq_of_beq q1).symm
  have q2:((Str.ofString "others") == mt)=false:=by rw[hm];decide +kernel
  rw[q2] at s2
  exact⟨_,_,hJ s1 (cE s2 rfl),rfl⟩
theorem jn {α:Type} (xs:List α) {m:Int} (h:0<=m):dh xs (some m) none=xs.drop m.toNat:=by
 unfold dh HT.sIx
 simp only
 rw[if_neg (by omega)]
 by_cases hm:m.toNat<=xs.length
 ·rw[show min m.toNat xs.length=m.toNat from Nat.min_eq_left hm,List.take_of_length_le (by rw[List.length_drop];omega)]
 ·rw[show min m.toNat xs.length=xs.length from Nat.min_eq_right (by omega),List.drop_length,List.take_nil,List.drop_of_length_le (by omega)]
noncomputable def tLk:List IS:=[(.asg (.nm 10) (.call 27 [(.v 0),(.c (.int 486)),(.bin .add (.bi .len [(.v 8)]) (.c (.int 1)))])),(.asg (.nm 11) (.lst [(.tup [(.sl (.v 8) none (some (.v 10))),(.tup [(.c (.str "face")),(.c (.str "on"))])]),(.tup [(.sl (.v 8) (some (.v 10)) none),(.tup [(.c (.str "lot"))])])])),(.ret (.tup [(.v 6),(.tup [(.c (.str "salt")),(.c (.str "off")),(.v 11),(.tup [(.lst [(.tup [(.c (.str "on")),(.lst [])])]),(.lst [(.tup [(.c (.int 0)),(.c (.int 10007))])])])])]))]
noncomputable def bY:D:=.tup [.lst true [.tup [.str "on",.lst true []]],.lst true [.tup [.int 0,.int 10007]]]
theorem jo (n:Nat) (ns:List Int) (a1 a2 a3 a4 a5 a7 a9:Option D) (G:D) {ds:List D} {cs:List Cn} (he:ers ds=cs.map Cn.d) (hl:cs.length<=100) :
  ∃ cs1 cs2:List Cn,cs1++cs2=cs/\bh (af T (n + 1)) tLk [some (.lst false (ns.map .int)),a1,a2,a3,a4,a5,some G,a7,some (.lst true ds),a9,none,none]=.ok (.rt (.tup [G,.tup [.str "salt",.str "off",.lst true [.tup [.lst true (cs1.map Cn.d),.tup [.str "face",.str "on"]],.tup [.lst true (cs2.map Cn.d),.tup [.str "lot"]]],bY]])):=by
 have ld:ds.length=cs.length:=by rw[<- bM ds,he,List.length_map]
 have d:=aJ n ns 486 ((ds.length:Int) + 1) (by decide) (by decide) (by omega)
 have b:=cv ns 486 (m:=(ds.length:Int) + 1) (by omega)
 generalize dr ns 486 ((ds.length:Int) + 1)=z at *
 have c1:dh ds none (some z)=ds.take z.toNat:=Ev.w8 ds b
 have c2:dh ds (some z) none=ds.drop z.toNat:=jn ds b
 have c3:dh (ers ds) (some z) none=(ers ds).drop z.toNat:=jn (ers ds) b
 have e1:ers (ds.take z.toNat)=(cs.take z.toNat).map Cn.d:=by rw[az,List.map_take,<- az,he,<- List.map_take]
 have e2:ers (ds.drop z.toNat)=(cs.drop z.toNat).map Cn.d:=by rw[az,List.map_drop,<- az,he,<- List.map_drop]
 have e3:ers ((ers ds).drop z.toNat)=(cs.drop z.toNat).map Cn.d:=by rw[he,<- List.map_drop,cq]
 refine⟨cs.take z.toNat,cs.drop z.toNat,List.take_append_drop ..,?_⟩
 have v1:vars (.sl (.v 8) none (some (.v 10)))=[8,10]:=rfl
 have v2:vars (.sl (.v 8) (some (.v 10)) none)=[8,10]:=rfl
 unfold tLk bY
 cases f1:ae (ds.take z.toNat) with
 | true=>
  have g1:(cs.take z.toNat).map Cn.d=ds.take z.toNat:=by rw[<- e1];exact aK f1
  cases f2:ae (ds.drop z.toNat) with
  | true=>
   have g2:(cs.drop z.toNat).map Cn.d=ds.drop z.toNat:=by rw[<- e2];exact aK f2
   rw[g1,g2]
   simp -implicitDefEqProofs (disch:=omega) only[ev0,Nat.reduceBEq,Nat.reduceSub,Nat.reduceAdd,reduceIte,d,c1,c2,f1,f2]
  | false=>
   rw[g1]
   simp -implicitDefEqProofs (disch:=omega) only[ev0,Nat.reduceBEq,Nat.reduceSub,Nat.reduceAdd,reduceIte,d,c1,c2,f1,f2,e2,v2]
 | false=>
  cases f2:ae ((ers ds).drop z.toNat) with
  | true=>
   have g2:(cs.drop z.toNat).map Cn.d=(ers ds).drop z.toNat:=by rw[<- e3];exact aK f2
   rw[g2]
   simp -implicitDefEqProofs (disch:=omega) only[ev0,Nat.reduceBEq,Nat.reduceSub,Nat.reduceAdd,reduceIte,d,c1,c3,f1,f2,e1,v1]
  | false=>
   simp -implicitDefEqProofs (disch:=omega) only[ev0,Nat.reduceBEq,Nat.reduceSub,Nat.reduceAdd,reduceIte,d,c1,c3,f1,f2,e1,e3,v1,v2]
noncomputable def fLk:List IS:=[(.asg (.nm 4) (.call 35 [(.v 0),(.c (.int 500)),(.v 1),(.v 2),(.v 3),(.c (.int 2)),(.c (.int 2))])),(.asg (.nm 5) (.idx (.lst [(.c (.str "mates")),(.idx (.v 1) (.c (.int 0))),(.idx (.v 1) (.c (.int 1))),(.c (.str "mates"))]) (.call 27 [(.v 0),(.c (.int 487)),(.c (.int 4))]))),(.asg (.nm 6) (.lst [(.tup [(.v 5),(.idx (.lst [(.lst []),(.lst [(.sl (.v 4) none (some (.c (.int 1))))]),(.lst [(.sl (.v 4) none (some (.c (.int 1)))),(.sl (.v 4) (some (.c (.int 1))) none)]),(.lst [(.v 4)])]) (.call 27 [(.v 0),(.c (.int 480)),(.c (.int 4))]))])])),(.app 6 (.tup [(.idx (.comp {N:=["_law_mates","_law_own"],kd:=[.cell,.local],gl:=[],df:=false} [5] (.nm 1) (.val (.lst [(.c (.str "mates")),(.c (.str "others"))])) [(.cmp .ne (.v 1) (.v 0))] (.v 1)) (.c (.int 0))),(.lst [])])),(.asg (.nm 7) (.call 27 [(.v 0),(.c (.int 481)),(.c (.int 5))])),(.asg (.nm 8) (.call 35 [(.v 0),(.c (.int 200)),(.v 1),(.v 2),(.v 3),(.v 7),(.idx (.lst [(.c (.int 2)),(.c (.int 4))]) (.call 27 [(.v 0),(.c (.int 482)),(.c (.int 2))]))])),(.if_ (.cmp .eq (.call 27 [(.v 0),(.c (.int 483)),(.c (.int 2))]) (.c (.int 0))) [(.asg (.nm 9) (.tup [(.v 5),(.idx (.lst [(.c (.str "in")),(.c (.str "out"))]) (.call 27 [(.v 0),(.c (.int 484)),(.c (.int 2))])),(.lst [])])),(.ins 8 (.call 27 [(.v 0),(.c (.int 485)),(.bin .add (.v 7) (.c (.int 1)))]) (.v 9))] [])]
theorem qy:b36=fLk++tLk:=rfl
theorem xA {r:Int} (h0:0<=r) (h1:r < 2):∃ w:Str,bo (.lst true [.str "in",.str "out"]) (.int r)=.ok (.str w)/\(w=Str.ofString "in"∨w=Str.ofString "out"):=by
 have:r=0∨r=1:=by omega
 rcases this with rfl | rfl
 ·exact⟨_,rfl,.inl rfl⟩
 ·exact⟨_,rfl,.inr rfl⟩
theorem qz {r:Int} (h0:0<=r) (h1:r < 2):∃ w:Int,bo (.lst true [.int 2,.int 4]) (.int r)=.ok (.int w)/\0 < w/\w<=4:=by
 have:r=0∨r=1:=by omega
 rcases this with rfl | rfl
 ·exact⟨_,rfl,by decide,by decide⟩
 ·exact⟨_,rfl,by decide,by decide⟩
theorem sL (n:Nat) (ns:List Int) (m0 m1:Str) {st:Str} (hs:st.length<=100) (c:Int) :
  ∃ (mt oth:Str) (c0 c1:Cn) (rows:List (List Cn)) (cs cs1 cs2:List Cn),af T (n + 6) 36 [.lst false (ns.map .int),.lst false [.str m0,.str m1],.str st,.int c]=.ok (.tup [.lst true [.tup [.str mt,.lst false (rows.map ax)],.tup [.str oth,.lst true []]],.tup [.str "salt",.str "off",.lst true [.tup [.lst true (cs1.map Cn.d),.tup [.str "face",.str "on"]],.tup [.lst true (cs2.map Cn.d),.tup [.str "lot"]]],bY]])/\cs1++cs2=cs/\
   (Gc c0/\c0.ts.length<=2)/\(Gc c1/\c1.ts.length<=2)/\(∀ d ∈ rows.flatten,d=c0∨d=c1)/\(rows.flatten.length<=2/\rows.length<=2)/\(rows.flatten.flatMap Cn.ts).length<=c0.ts.length + c1.ts.length/\
   ∃ (l r:List Cn) (x:Option Cn),cs=l++x.toList++r/\(l++r).length<=4/\(∀ d ∈ l++r,Gc d/\d.ts.length<=4)/\∀ d,x=some d->io d=true/\d.ts=[]:=by
 obtain⟨ic,ei,il,ig⟩:=jl n ns (k:=500) (by decide) (by decide) (ms:=[m0,m1]) (by simp) (by simp) hs c 2 2 (by decide) (by decide) (by decide) (by decide)
 match ic,il,ei,ig with
 | [c0,c1],_,ei,ig=>
 have d1:=aJ (n + 4) ns 487 4 (by decide) (by decide) (by decide)
 have d2:=aJ (n + 4) ns 480 4 (by decide) (by decide) (by decide)
 have d3:=aJ (n + 4) ns 481 5 (by decide) (by decide) (by decide)
 have d4:=aJ (n + 4) ns 482 2 (by decide) (by decide) (by decide)
 have d5:=aJ (n + 4) ns 483 2 (by decide) (by decide) (by decide)
 have d6:=aJ (n + 4) ns 484 2 (by decide) (by decide) (by decide)
 obtain⟨mt,hmt⟩:=xy m0 m1 (cv ns 487 (m:=4) (by decide)) (cH ns 487 (m:=4) (by decide))
 obtain⟨dr4,rows,hrw,re,r1,r2,r3⟩:=AO c0 c1 (cv ns 480 (m:=4) (by decide)) (cH ns 480 (m:=4) (by decide))
 obtain⟨rm,hrm,rm0,rm1⟩:=qz (cv ns 482 (m:=2) (by decide)) (cH ns 482 (m:=2) (by decide))
 obtain⟨w,hw,ww⟩:=xA (cv ns 484 (m:=2) (by decide)) (cH ns 484 (m:=2) (by decide))
 obtain⟨oth,rest,eo,_⟩:=qx (af T (n + 5)) mt
 have b3:=cv ns 481 (m:=5) (by decide)
 have c3:=cH ns 481 (m:=5) (by decide)
 obtain⟨cs,ec,cl,cg⟩:=jl n ns (k:=200) (by decide) (by decide) (ms:=[m0,m1]) (by simp) (by simp) hs c (dr ns 481 5) rm b3 (by omega) rm0 rm1
 have d7:=aJ (n + 4) ns 485 (dr ns 481 5 + 1) (by decide) (by decide) (by omega)
 have b7:=cv ns 485 (m:=dr ns 481 5 + 1) (by omega)
 have c7:=cH ns 485 (m:=dr ns 481 5 + 1) (by omega)
 rw[List.map_cons,List.map_cons,List.map_nil] at ei ec
 rw[List.map_cons,List.map_cons,List.map_nil] at ei
 generalize dr ns 481 5=ct at *
 generalize dr ns 485 (ct + 1)=z at *
 have e0:=jk c0
 have e1:=jk c1
 have k1:dh [c0.t,c1.t] none (some 1)=[c0.t]:=rfl
 have k2:dh [c0.t,c1.t] (some 1) none=[c1.t]:=rfl
 have x0:bo (.lst false [.str m0,.str m1]) (.int 0)=.ok (.str m0):=rfl
 have x1:bo (.lst false [.str m0,.str m1]) (.int 1)=.ok (.str m1):=rfl
 have x2:bo (.lst true (.str oth::rest)) (.int 0)=.ok (.str oth):=by
  rw[Ev.x_l,Ev.gZ .non (by decide) (by rw[List.length_cons];omega)]
  rfl
 have lc:(cs.map Cn.t).length=cs.length:=List.length_map ..
 have vI:vars (.idx (.lst [(.lst []),(.lst [(.sl (.v 4) none (some (.c (.int 1))))]),(.lst [(.sl (.v 4) none (some (.c (.int 1)))),(.sl (.v 4) (some (.c (.int 1))) none)]),(.lst [(.v 4)])]) (.call 27 [(.v 0),(.c (.int 480)),(.c (.int 4))]))=[4,4,4,4,0]:=rfl
 have g0:=ig c0 (by simp)
 have g1:=ig c1 (by simp)
 cases q:(dr ns 483 2 == 0) with
 | false=>
  obtain⟨cs1,cs2,h12,ee⟩:=jo (n + 4) ns (some (.lst false [.str m0,.str m1])) (some (.str st)) (some (.int c)) (some (.lst false [c0.d,c1.d])) (some (.str mt)) (some (.int ct)) none (.lst true [.tup [.str mt,.lst false (rows.map ax)],.tup [.str oth,.lst true []]]) (ds:=cs.map Cn.t) (cs:=cs) (j6 cs) (by omega)
  refine⟨mt,oth,c0,c1,rows,cs,cs1,cs2,?_,h12,⟨g0.1,by have:=g0.2;omega⟩,⟨g1.1,by have:=g1.2;omega⟩,r1,r2,r3,cs,[],none,by simp,by rw[List.append_nil];omega,fun d hd=>?_,fun d hd=>by cases hd⟩
  ·rw[Ev.go (show T 36=some d36 from rfl) (show d36.np=4 from rfl) (show d36.G.N.length=12 from rfl) (show d36.body=b36 from rfl) rfl,qy]
   unfold fLk
   generalize tLk=TL at ee ⊢
   simp -implicitDefEqProofs (disch:=omega) only[ev0,Nat.reduceBEq,Nat.reduceSub,Nat.reduceAdd,reduceIte,ei,ec,d1,d2,d3,d4,d5,q,hmt,hrw,hrm,re,eo,x0,x1,x2,k1,k2,vI,e0,e1,ee]
  ·rw[List.append_nil] at hd
   exact⟨(cg d hd).1,by have:=(cg d hd).2;omega⟩
 | true=>
  have hz:(decide (0<=z/\z.toNat<=cs.length))=true:=decide_eq_true ⟨b7,by omega⟩
  have ne:D.tup [.str mt,.str w,.lst false []]=Cn.d (⟨mt,w,[]⟩:Cn):=rfl
  have he:ers ((cs.map Cn.t).take z.toNat++D.tup [.str mt,.str w,.lst false []]::(cs.map Cn.t).drop z.toNat)=(cs.take z.toNat++[(⟨mt,w,[]⟩:Cn)]++cs.drop z.toNat).map Cn.d:=by
   rw[az,List.map_append,List.map_cons,<- List.map_take,<- List.map_drop,<- az,<- az,j6,j6,ne,jf,List.map_append,List.map_append,List.append_assoc]
   rfl
  obtain⟨cs1,cs2,h12,ee⟩:=jo (n + 4) ns (some (.lst false [.str m0,.str m1])) (some (.str st)) (some (.int c)) (some (.lst false [c0.d,c1.d])) (some (.str mt)) (some (.int ct)) (some (.tup [.str mt,.str w,.lst false []])) (.lst true [.tup [.str mt,.lst false (rows.map ax)],.tup [.str oth,.lst true []]]) he (by rw[List.length_append,List.length_append,List.length_take,List.length_drop,List.length_singleton];omega)
  refine⟨mt,oth,c0,c1,rows,_,cs1,cs2,?_,h12,⟨g0.1,by have:=g0.2;omega⟩,⟨g1.1,by have:=g1.2;omega⟩,r1,r2,r3,cs.take z.toNat,cs.drop z.toNat,some ⟨mt,w,[]⟩,rfl,by rw[List.take_append_drop];omega,fun d hd=>?_,fun d hd=>?_⟩
  ·rw[Ev.go (show T 36=some d36 from rfl) (show d36.np=4 from rfl) (show d36.G.N.length=12 from rfl) (show d36.body=b36 from rfl) rfl,qy]
   unfold fLk
   generalize tLk=TL at ee ⊢
   simp -implicitDefEqProofs (disch:=omega) only[ev0,Nat.reduceBEq,Nat.reduceSub,Nat.reduceAdd,reduceIte,ei,ec,d1,d2,d3,d4,d5,d6,d7,q,hmt,hrw,hrm,hw,re,eo,x0,x1,x2,k1,k2,vI,e0,e1,hz,lc,ee]
  ·rw[List.take_append_drop] at hd
   exact⟨(cg d hd).1,by have:=(cg d hd).2;omega⟩
  ·cases hd
   refine⟨?_,rfl⟩
   unfold io
   rcases ww with rfl | rfl
   ·show ((Str.ofString "in" == Str.ofString "in") || _)=true
    simp
   ·show (_ || (Str.ofString "out" == Str.ofString "out"))=true
    simp
noncomputable def gs2 (mt oth:Str) (rows:List (List Cn)):List Gp:=[⟨mt,rows⟩,⟨oth,[]⟩]
noncomputable def rs2 (cs1 cs2:List Cn):List Ru:=[⟨cs1,.tup [.str "face",.str "on"]⟩,⟨cs2,.tup [.str "lot"]⟩]
noncomputable def sw2 (cs1 cs2:List Cn):D:=.tup [.str "salt",.str "off",.lst false ((rs2 cs1 cs2).map Ru.d),er bY]
theorem all2 (cs1 cs2:List Cn):aM (rs2 cs1 cs2)=cs1++cs2:=by
 show cs1++(cs2++[])=_
 rw[List.append_nil]
theorem mr (p:Str->Bool) (mt oth:Str) (rows:List (List Cn)):gcs p (gs2 mt oth rows)=if p mt=true then rows.flatten else []:=by
 show (if p mt=true then rows.flatten else [])++((if p oth=true then List.flatten [] else [])++[])=_
 rw[List.flatten_nil]
 simp
theorem ro2 (cs1 cs2:List Cn):∀ r ∈ rs2 cs1 cs2,er r.o=r.o:=by
 intro r hr
 unfold rs2 at hr
 rcases List.mem_cons.mp hr with rfl | hr
 ·rfl
 ·rw[List.mem_singleton.mp hr];rfl
theorem hd2 (mt oth:Str) (rows:List (List Cn)) (cs1 cs2:List Cn) (h1:(cs1++cs2).length<=100) (h2:rows.flatten.length<=2):Hd (gs2 mt oth rows) (rs2 cs1 cs2) (sw2 cs1 cs2) where
 ix:=rfl
 er:=by
  have h:=jV (ro2 cs1 cs2)
  unfold sw2
  show D.tup [.str "salt",.str "off",.lst false (ers ((rs2 cs1 cs2).map Ru.d)),L2.er (L2.er bY)]=_
  rw[h,nr]
 ro:=ro2 cs1 cs2
 l1:=by rw[all2];exact h1
 l2:=by
  rw[mr]
  split
  ·omega
  ·simp
theorem qA {cs:List Cn} {k:Nat} (h:∀ c ∈ cs,c.ts.length<=k):(cs.flatMap Cn.ts).length<=k * cs.length:=by
 induction cs with
 | nil=>simp
 | cons c cs ih=>
  rw[List.flatMap_cons,List.length_append,List.length_cons,Nat.mul_succ]
  have h1:=h c (by simp)
  have h2:=ih fun d hd=>h d (List.mem_cons_of_mem _ hd)
  omega
structure Dw (c0 c1:Cn) (rows:List (List Cn)) (cs l r:List Cn) (x:Option Cn):Prop where
 g0:Gc c0/\c0.ts.length<=2
 g1:Gc c1/\c1.ts.length<=2
 rw:∀ d ∈ rows.flatten,d=c0∨d=c1
 rl:rows.flatten.length<=2
 rt:(rows.flatten.flatMap Cn.ts).length<=c0.ts.length + c1.ts.length
 eq:cs=l++x.toList++r
 ll:(l++r).length<=4
 lg:∀ d ∈ l++r,Gc d/\d.ts.length<=4
 xi:∀ d,x=some d->io d=true/\d.ts=[]
variable {c0 c1:Cn} {rows:List (List Cn)} {cs l r:List Cn} {x:Option Cn}
theorem fil (w:Dw c0 c1 rows cs l r x):cs.filter (fun c=>!io c)=l++r:=by
 rw[w.eq,List.filter_append,List.filter_append]
 have h1:l.filter (fun c=>!io c)=l:=List.filter_eq_self.mpr fun d hd=>by rw[(w.lg d (List.mem_append_left _ hd)).1.io];rfl
 have h2:r.filter (fun c=>!io c)=r:=List.filter_eq_self.mpr fun d hd=>by rw[(w.lg d (List.mem_append_right _ hd)).1.io];rfl
 have h3:x.toList.filter (fun c=>!io c)=[]:=by
  cases x with
  | none=>rfl
  | some d=>show List.filter _ [d]=[];rw[List.filter_cons,(w.xi d rfl).1];rfl
 rw[h1,h2,h3,List.append_nil]
theorem lq (w:Dw c0 c1 rows cs l r x) (mt oth:Str) (cs1 cs2:List Cn) (h:cs1++cs2=cs):∀ c ∈ lk (gs2 mt oth rows) (rs2 cs1 cs2),Gc c:=by
 intro c hc
 unfold lk at hc
 rw[all2,h,fil w,mr,List.mem_append] at hc
 rcases hc with hc | hc
 ·exact(w.lg c hc).1
 ·split at hc
  ·rcases w.rw c hc with rfl | rfl
   ·exact w.g0.1
   ·exact w.g1.1
  ·simp at hc
theorem u5 (w:Dw c0 c1 rows cs l r x) (mt oth:Str) (cs1 cs2:List Cn) (h:cs1++cs2=cs):Ok (lk (gs2 mt oth rows) (rs2 cs1 cs2)) where
 be:=fun c hc=>(lq w mt oth cs1 cs2 h c hc).be
 le:=fun c hc=>(lq w mt oth cs1 cs2 h c hc).le
 mo:=fun c hc=>(lq w mt oth cs1 cs2 h c hc).mo
 few:=by
  unfold lk
  rw[all2,h,fil w,mr,List.flatMap_append,List.length_append]
  have h1:=qA (k:=4) fun c hc=>(w.lg c hc).2
  have h2:=w.ll
  have h3:=w.rt
  have h4:=w.g0.2
  have h5:=w.g1.2
  split
  ·omega
  ·simp only[List.flatMap_nil,List.length_nil];omega
 fc:=by
  unfold lk
  rw[all2,h,fil w,mr,List.length_append]
  have h2:=w.ll
  have h3:=w.rl
  split
  ·omega
  ·simp only[List.length_nil];omega
end Law
namespace Law
open PySem PySem.Spec L2 L2.Fr PyProof.Rows
variable {c0 c1:Cn} {rows:List (List Cn)} {cs l r:List Cn} {x:Option Cn}
theorem xB (mt oth:Str) {d:Cn} (h:io d=false):lkc (gs2 mt oth rows) d=[d]:=by
 unfold lkc
 rw[h,if_neg Bool.false_ne_true,mr]
 have:pk d mt=false:=by unfold pk;rw[h];rfl
 rw[this,if_neg Bool.false_ne_true]
 rfl
theorem j7 (mt oth:Str):∀ {a:List Cn},(∀ d ∈ a,io d=false)->lkL (gs2 mt oth rows) a=a
 | [],_=>rfl
 | d::a,h=>by
  show lkc _ d++lkL _ a=_
  rw[xB mt oth (h d (by simp)),j7 mt oth fun e he=>h e (List.mem_cons_of_mem _ he)]
  rfl
theorem xC (w:Dw c0 c1 rows cs l r x) (mt oth:Str):∃ y:List Cn,lkL (gs2 mt oth rows) cs=l++y++r/\(y=[]∨y=rows.flatten):=by
 have h1:lkL (gs2 mt oth rows) l=l:=j7 mt oth fun d hd=>(w.lg d (List.mem_append_left _ hd)).1.io
 have h2:lkL (gs2 mt oth rows) r=r:=j7 mt oth fun d hd=>(w.lg d (List.mem_append_right _ hd)).1.io
 refine⟨lkL (gs2 mt oth rows) x.toList,?_,?_⟩
 ·rw[w.eq]
  show List.flatMap (lkc _) _=_
  rw[List.flatMap_append,List.flatMap_append]
  exact congr (congrArg _ (congr (congrArg _ h1) rfl)) h2
 ·cases x with
  | none=>exact .inl rfl
  | some d=>
   show lkc _ d++[]=[]∨lkc _ d++[]=_
   rw[List.append_nil]
   unfold lkc
   rw[(w.xi d rfl).1,if_pos rfl,mr,List.nil_append]
   split
   ·exact .inr rfl
   ·exact .inl rfl
theorem lu (w:Dw c0 c1 rows cs l r x) (mt oth:Str):(lkL (gs2 mt oth rows) cs).length<=6/\((lkL (gs2 mt oth rows) cs).flatMap Cn.ts).length<=20:=by
 obtain⟨y,e,hy⟩:=xC w mt oth
 have h1:=qA (k:=4) fun c hc=>(w.lg c hc).2
 have h2:=w.ll
 have h3:=w.rt
 have h4:=w.g0.2
 have h5:=w.g1.2
 have h6:=w.rl
 rw[e]
 rw[List.flatMap_append,List.length_append] at h1
 rw[List.length_append] at h2
 rw[List.length_append,List.length_append,List.flatMap_append,List.flatMap_append,List.length_append,List.length_append]
 rw[List.length_append] at h1
 rcases hy with rfl | rfl
 ·constructor
  ·simp only[List.length_nil];omega
  ·simp only[List.flatMap_nil,List.length_nil];omega
 ·constructor<;>omega
end Law
namespace Law
open PySem PySem.Spec L2 L2.Fr PyProof.Rows
theorem bV {α:Type} {e:α->D} {n:Nat}:∀ {xs:List α},(∀ a ∈ xs,pl n (e a)=true)->pls n (xs.map e)=true
 | [],_=>by rw[List.map_nil,pls]
 | a::xs,h=>by
  rw[List.map_cons,pls,h a (by simp),bV fun b hb=>h b (List.mem_cons_of_mem _ hb)]
  rfl
theorem c9 {n:Nat} {ds:List D} (h:pls n ds=true) (hl:ds.length < 1000):pl (n + 1) (.lst false ds)=true:=by
 rw[pl,h,decide_eq_true hl]
 rfl
theorem de {n:Nat} {ds:List D} (h:pls n ds=true) (hl:ds.length < 1000):pl (n + 1) (.tup ds)=true:=by
 rw[pl,h,decide_eq_true hl]
 rfl
theorem AQ (n:Nat) (t:Tn):pl (n + 1) t.d=true:=by
 cases t<;>rfl
theorem AR (n:Nat) {c:Cn} (h:c.ts.length < 1000):pl (n + 3) c.d=true:=by
 unfold Cn.d
 refine de ?_ (by simp)
 have h1:pl (n + 2) (.lst false (c.ts.map Tn.d))=true:=c9 (bV fun t _=>AQ n t) (by rw[List.length_map];exact h)
 rw[pls,pls,pls,pls,h1]
 rfl
theorem j8 (n:Nat) {r:List Cn} (h:∀ c ∈ r,c.ts.length < 1000) (hl:r.length < 1000):pl (n + 4) (ax r)=true:=c9 (bV fun c hc=>AR n (h c hc)) (by rw[List.length_map];exact hl)
theorem AS {mt oth:Str} {rows:List (List Cn)} (h:∀ c ∈ rows.flatten,c.ts.length < 1000) (hl:rows.flatten.length < 1000) (hr:rows.length < 1000):pl 8 (.lst false ((gs2 mt oth rows).map Gp.d))=true:=by
 have h1:pl 6 (.lst false (rows.map ax))=true:=c9 (bV fun r hr=>j8 1 (fun c hc=>h c (List.mem_flatten.mpr ⟨r,hr,hc⟩)) (Nat.lt_of_le_of_lt (by
  have:=List.Sublist.length_le (List.sublist_flatten_of_mem hr)
  exact this) hl)) (by rw[List.length_map];exact hr)
 refine c9 (n:=7) ?_ (by simp[gs2])
 show pls 7 [D.tup [.str mt,.lst false (rows.map ax)],D.tup [.str oth,.lst false []]]=true
 rw[pls,pls,pls]
 rw[de (n:=6) (by rw[pls,pls,pls,h1];rfl) (by simp)]
 rfl
theorem AU {cs1 cs2:List Cn} (h:∀ c ∈ cs1++cs2,c.ts.length < 1000) (hl:(cs1++cs2).length < 1000):pl 8 (sw2 cs1 cs2)=true:=by
 rw[List.length_append] at hl
 have h1:pl 5 (ax cs1)=true:=j8 1 (fun c hc=>h c (List.mem_append_left _ hc)) (by omega)
 have h2:pl 5 (ax cs2)=true:=j8 1 (fun c hc=>h c (List.mem_append_right _ hc)) (by omega)
 have h3:pl 6 (D.tup [ax cs1,.tup [.str "face",.str "on"]])=true:=de (by rw[pls,pls,pls,h1];rfl) (by simp)
 have h4:pl 6 (D.tup [ax cs2,.tup [.str "lot"]])=true:=de (by rw[pls,pls,pls,h2];rfl) (by simp)
 have h5:pl 7 (.lst false [D.tup [ax cs1,.tup [.str "face",.str "on"]],D.tup [ax cs2,.tup [.str "lot"]]])=true:=c9 (by rw[pls,pls,pls,h3,h4];rfl) (by simp)
 unfold sw2
 refine de (n:=7) ?_ (by simp)
 show pls 7 [.str "salt",.str "off",.lst false [D.tup [ax cs1,.tup [.str "face",.str "on"]],D.tup [ax cs2,.tup [.str "lot"]]],er bY]=true
 rw[pls,pls,pls,pls,pls,h5]
 rfl
variable {c0 c1:Cn} {rows:List (List Cn)} {cs l r:List Cn} {x:Option Cn}
theorem dC {n:Nat}:∀ (A B:List D),pls n (A++B)=(pls n A && pls n B)
 | [],B=>by rw[List.nil_append,pls,Bool.true_and]
 | a::A,B=>by rw[List.cons_append,pls,pls,dC A B,Bool.and_assoc]
theorem lx:∀ (A B:List D),pls 1 A=true->pls 1 B=true->pls 2 (List.zipWith fK A B)=true
 | [],_,_,_=>by rw[List.zipWith_nil_left,pls]
 | _::_,[],_,_=>by rw[List.zipWith_nil_right,pls]
 | a::A,b::B,h1,h2=>by
  rw[pls] at h1 h2
  have h1':=Bool.and_eq_true_iff.mp h1
  have h2':=Bool.and_eq_true_iff.mp h2
  rw[List.zipWith_cons_cons,pls,lx A B h1'.2 h2'.2,Bool.and_true]
  unfold fK
  refine de ?_ (by simp)
  rw[pls,pls,pls,pls,h1'.1,h2'.1]
  rfl
theorem qB {ts bs:List Str} {cu:List Int} (h:ts.length + bs.length + cu.length<=900):pl 3 (.lst false (bX ts bs cu))=true:=by
 refine c9 (n:=2) ?_ ?_
 ·unfold bX
  have h1:∀ (k:Str) (xs:List Str),pls 2 (xs.map (aN k))=true:=fun k xs=>bV fun a _=>rfl
  have h2:pls 2 (nums cu)=true:=by
   unfold nums
   refine lx _ _ ?_ ?_
   ·rw[pls,bV fun a _=>rfl]
    rfl
   ·rw[dC,bV fun a _=>rfl]
    rfl
  rw[dC,dC,dC,h1,h1,h2]
  rfl
 ·unfold bX
  rw[List.length_append,List.length_append,List.length_append,List.length_map,List.length_map,dB,List.length_singleton]
  omega
theorem qC {mk:Str} {cs:List Cn} (o:Ok cs):pl 3 (.lst false (cP mk cs))=true:=qB (by
 have h1:=hW (mk:=mk) o
 have h2:=ia (mk:=mk) o
 have h3:=ib (mk:=mk) o
 omega)
theorem AV (mk:Str) (cs:List Cn):ae (cP mk cs)=true:=fD _ _ _
theorem xD {mk:Str} {cs:List Cn} (o:Ok cs):(cP mk cs).length<=200:=by
 have h1:=hW (mk:=mk) o
 have h2:=ia (mk:=mk) o
 have h3:=ib (mk:=mk) o
 unfold cP bX
 rw[List.length_append,List.length_append,List.length_append,List.length_map,List.length_map,dB,List.length_singleton]
 omega
theorem qD (mk:Str):∀ cs:List Cn,(cs.flatMap (aT mk)).length<=(cs.flatMap Cn.ts).length
 | []=>Nat.le_refl _
 | c::cs=>by
  rw[List.flatMap_cons,List.flatMap_cons,List.length_append,List.length_append]
  have h:=qD mk cs
  have h1:=bz c.ts
  unfold aT at *
  split
  ·omega
  ·simp only[List.length_nil];omega
theorem qE (mk:Str):∀ cs:List Cn,(cs.flatMap (bT mk)).length<=(cs.flatMap Cn.ts).length
 | []=>Nat.le_refl _
 | c::cs=>by
  rw[List.flatMap_cons,List.flatMap_cons,List.length_append,List.length_append]
  have h:=qE mk cs
  have h1:=bz c.ts
  unfold bT at *
  split
  ·omega
  ·simp only[List.length_nil];omega
theorem lH (a b:Bool):∀ xs:List Int,(xs.flatMap (flt a b)).length<=2 * xs.length
 | []=>Nat.le_refl _
 | x::xs=>by
  rw[List.flatMap_cons,List.length_append,List.length_cons]
  have h:=lH a b xs
  have h1:(flt a b x).length<=2:=by cases a<;>cases b<;>simp[flt]
  omega
theorem qF (mk:Str):∀ cs:List Cn,(cs.flatMap (cT mk)).length<=2 * (cs.flatMap Cn.ts).length
 | []=>Nat.le_refl _
 | c::cs=>by
  rw[List.flatMap_cons,List.flatMap_cons,List.length_append,List.length_append]
  have h:=qF mk cs
  have h1:=bA c.ts
  have h2:=lH (c.w == Str.ofString "most") (c.w == Str.ofString "least") (ins c.ts)
  unfold cT at *
  split
  ·omega
  ·simp only[List.length_nil];omega
theorem xE (w:Dw c0 c1 rows cs l r x) (mt oth:Str) {cs1 cs2:List Cn} (h:cs1++cs2=cs) (n:Nat) (mk:Str) :
  af T (n + 1) 38 [.lst false ((lkL (gs2 mt oth rows) cs).map Cn.d),.str mk]=.ok (.lst true (cP mk (lk (gs2 mt oth rows) (rs2 cs1 cs2)))):=by
 have hl:=lu w mt oth
 have hm:∀ c,c ∈ lk (gs2 mt oth rows) (rs2 cs1 cs2)↔c ∈ lkL (gs2 mt oth rows) cs:=fun c=>by
  have:=jZ (gs2 mt oth rows) (rs2 cs1 cs2) c
  rw[all2,h] at this
  exact this
 have hg:=lq w mt oth cs1 cs2 h
 rw[qp mk hm (u5 w mt oth cs1 cs2 h) fun c hc=>(hg c hc).wk]
 have h1:=qD mk (lkL (gs2 mt oth rows) cs)
 have h2:=qE mk (lkL (gs2 mt oth rows) cs)
 have h3:=qF mk (lkL (gs2 mt oth rows) cs)
 exact ml n mk (fun c hc=>(hg c ((hm c).mpr hc)).be) (by omega) (by omega) (by omega) (by omega)
end Law
namespace Law
open PySem PySem.Spec L2 L2.Fr PyProof.Rows
noncomputable def sM:List IS:=[(.asg (.nm 10) (.call 26 [(.idx (.v 7) (.c (.int 0))),(.idx (.v 7) (.c (.int 1))),(.v 9)])),(.if_ (.not_ (.call 39 [(.v 10),(.call 38 [(.v 6),(.v 9)])])) [(.ret (.c (.bl false)))] []),(.ins 10 (.c (.int 0)) (.tup [(.c (.str "none"))]))]
theorem sN (N M st c a4 a5:Option D) {g s G S due:D} {K:List D} (o:Bool) (a10:Option D) (mk:Str) (hg:er g=G) (hs:er s=S) (hG:er G=G) (hS:er S=S) (hK:ers K=K) {cp:List D}
  (e1:af T 14 26 [G,S,.str mk]=.ok (.lst true cp)) (e2:af T 14 38 [.lst false K,.str mk]=.ok (.lst true cp)) (hp:pl 3 (.lst false cp)=true) (lf:ae cp=true) (ln:cp.length<=200) (a9:Option D) :
  ∃ g' s' o' b10,(er g'=G/\er s'=S)/\Ev.turn (af T 14) (.nm 9) sM (.str mk) [N,M,st,c,a4,a5,some (.lst o K),some (.tup [g,s]),some due,a9,a10]=.ok (.nx [N,M,st,c,a4,a5,some (.lst o' K),some (.tup [g',s']),some due,some (.str mk),b10]):=by
 have e3:=same 3 11 hp
 have hc:ers cp=cp:=by
  have:=fB 3 _ hp
  injection this
 have hz:(decide ((0:Int)<=0/\(0:Int).toNat<=cp.length))=true:=decide_eq_true ⟨by decide,Nat.zero_le _⟩
 have x0:∀ a b:D,atI [a,b] 0=some a:=fun _ _=>rfl
 have x1:∀ a b:D,atI [a,b] 1=some b:=fun _ _=>rfl
 refine⟨G,S,o,some (.lst true (cp.take (Int.toNat 0)++.tup [.str "none"]::cp.drop (Int.toNat 0))),⟨hG,hS⟩,?_⟩
 unfold sM
 simp -implicitDefEqProofs (disch:=omega) only[ev0,Nat.reduceBEq,Nat.reduceSub,Nat.reduceAdd,reduceIte,Ev.ah,hg,hs,hG,hS,hK,e1,e2,e3,hc,lf,ln,hz,x0,x1]
theorem lI (N M st c a4 a5:Option D) {G S due:D} {K:List D} (hG:er G=G) (hS:er S=S) (hK:ers K=K) {cp:Str->List D}
  (e1:∀ mk,af T 14 26 [G,S,.str mk]=.ok (.lst true (cp mk))) (e2:∀ mk,af T 14 38 [.lst false K,.str mk]=.ok (.lst true (cp mk))) (hp:∀ mk,pl 3 (.lst false (cp mk))=true) (lf:∀ mk,ae (cp mk)=true) (ln:∀ mk,(cp mk).length<=200) :
  ∀ (ms:List Str) (g s:D) (o:Bool) (a9 a10:Option D),er g=G->er s=S->∃ g' s' o' b9 b10,(er g'=G/\er s'=S)/\forM (Ev.turn (af T 14) (.nm 9) sM) (ms.map .str) [N,M,st,c,a4,a5,some (.lst o K),some (.tup [g,s]),some due,a9,a10]=.ok (.nx [N,M,st,c,a4,a5,some (.lst o' K),some (.tup [g',s']),some due,b9,b10])
 | [],g,s,o,a9,a10,hg,hs=>⟨g,s,o,a9,a10,⟨hg,hs⟩,rfl⟩
 | m::ms,g,s,o,a9,a10,hg,hs=>by
  obtain⟨g1,s1,o1,b1,⟨h1,h2⟩,e3⟩:=sN N M st c a4 a5 (due:=due) o a10 m hg hs hG hS hK (e1 m) (e2 m) (hp m) (lf m) (ln m) a9
  obtain⟨g2,s2,o2,b9,b2,h3,e4⟩:=lI N M st c a4 a5 (due:=due) hG hS hK e1 e2 hp lf ln ms g1 s1 o1 (some (.str m)) b1 h1 h2
  exact⟨g2,s2,o2,b9,b2,h3,by rw[List.map_cons,Ev.aU,e3,Ev.aY,Ev.aZ,e4]⟩
theorem sO:∀ rows:List (List Cn),ers (rows.map ax)=rows.map ax:=fun rows=>by
 rw[az,List.map_map]
 exact List.map_congr_left fun r _=>by
  show D.lst false (ers (r.map Cn.d))=_
  rw[cq]
  rfl
theorem By {d G S:D} (h:er d=.tup [G,S]):∃ g s,d=.tup [g,s]/\er g=G/\er s=S:=by
 cases d with
 | tup ds=>
  have h':D.tup (ers ds)=.tup [G,S]:=h
  injection h' with h'
  match ds,h' with
  | [a,b],h'=>
   injection h' with h1 h2
   injection h2 with h2 _
   exact⟨a,b,rfl,h1,h2⟩
 | _=>cases h
theorem holds (ns:List Int) (hn:ns.length<=63):af T 15 sh [.lst false (ns.map .int)]=.ok (.bl true):=by
 obtain⟨xs,e1,hl⟩:=qw 12 ns (k:=0) (by decide) (by decide) (mn:=3) (by decide) (by decide)
 match xs,hl with
 | [m0,m1,m2],_=>
 obtain⟨st,e2,hs⟩:=sH 12 ns (k:=130) (by decide) (by decide)
 obtain⟨c,e3⟩:=mq 12 ns (k:=145) (by decide) (by decide)
 obtain⟨mt,oth,c0,c1,rows,cs,cs1,cs2,e4,h12,g0,g1,r1,⟨r2,r4⟩,r3,l,r,x,hcs,hll,hlg,hxi⟩:=sL 8 ns m0 m1 hs c
 have w:Dw c0 c1 rows cs l r x:=⟨g0,g1,r1,r2,r3,hcs,hll,hlg,hxi⟩
 have o:=u5 w mt oth cs1 cs2 h12
 have hcl:cs.length<=5:=by
  rw[hcs,List.length_append,List.length_append]
  rw[List.length_append] at hll
  have:x.toList.length<=1:=by cases x<;>simp
  omega
 have H:=hd2 mt oth rows cs1 cs2 (by rw[h12];omega) r2
 have hL:=lu w mt oth
 have e5:=jW 13 H (by rw[all2,h12];omega)
 have e7:=p7 11 H o.fc
 have e8:∀ mk,af T 14 26 _=_:=fun mk=>qg 9 H o mk
 have e9:∀ mk,af T 14 38 _=_:=fun mk=>xE w mt oth h12 13 mk
 have em:=qj (gs2 mt oth rows) (rs2 cs1 cs2)
 rw[all2,h12] at e5 em
 have pG:pl 8 (.lst false ((gs2 mt oth rows).map Gp.d))=true:=AS (fun c hc=>by
  rcases r1 c hc with rfl | rfl
  ·have:=g0.2;omega
  ·have:=g1.2;omega) (by omega) (by omega)
 have pS:pl 8 (sw2 cs1 cs2)=true:=AU (fun c hc=>by
  rw[h12,hcs] at hc
  rcases List.mem_append.mp hc with hc | hc
  ·rcases List.mem_append.mp hc with hc | hc
   ·have:=(hlg c (List.mem_append_left _ hc)).2;omega
   ·rw[(hxi c (by cases x with | none=>simp at hc | some y=>simp at hc;rw[hc])).2];simp
  ·have:=(hlg c (List.mem_append_right _ hc)).2;omega) (by rw[h12];omega)
 have hG:=fB 8 _ pG
 have hS:=fB 8 _ pS
 have pp:pl 9 (.tup [.lst false ((gs2 mt oth rows).map Gp.d),sw2 cs1 cs2])=true:=de (by rw[pls,pls,pls,pG,pS];rfl) (by simp)
 obtain⟨d,e6,hd⟩:=copy 9 5 pp
 obtain⟨g,s,rfl,hg,hs'⟩:=By hd
 have eA:er (.lst true [.tup [.str mt,.lst false (rows.map ax)],.tup [.str oth,.lst true []]])=.lst false ((gs2 mt oth rows).map Gp.d):=by
  show D.lst false [D.tup [.str mt,.lst false (ers (rows.map ax))],.tup [.str oth,.lst false []]]=_
  rw[sO]
  rfl
 have eB:er (.tup [.str "salt",.str "off",.lst true [.tup [.lst true (cs1.map Cn.d),.tup [.str "face",.str "on"]],.tup [.lst true (cs2.map Cn.d),.tup [.str "lot"]]],bY])=sw2 cs1 cs2:=by
  show D.tup [.str "salt",.str "off",.lst false [.tup [.lst false (ers (cs1.map Cn.d)),.tup [.str "face",.str "on"]],.tup [.lst false (ers (cs2.map Cn.d)),.tup [.str "lot"]]],er bY]=_
  rw[cq,cq]
  rfl
 have e0:=Ev.jQ ns
 have eK:=cq (lkL (gs2 mt oth rows) cs)
 have lK:((lkL (gs2 mt oth rows) cs).map Cn.d).length<=6:=by rw[List.length_map];exact hL.1
 have f1:=p6 (af T 14) (lkL (gs2 mt oth rows) cs)
 have s1:=dQ (o:=true) (xs:=(lkL (gs2 mt oth rows) cs).map Cn.m) (by rw[List.length_map];omega)
 have hs1:br (ddT ((lkL (gs2 mt oth rows) cs).map Cn.m))=sS ((lkL (gs2 mt oth rows) cs).map Cn.m):=rfl
 rw[hs1] at s1
 rw[em] at e7
 have pD:pl 2 (.lst false ((sS ((lkL (gs2 mt oth rows) cs).map Cn.m)).map .str))=true:=c9 (bV fun a _=>rfl) (by
  have:=fE ((lkL (gs2 mt oth rows) cs).map Cn.m)
  rw[List.length_map] at this ⊢
  omega)
 have ed:=same 2 12 pD
 have ef:=same 9 5 pp
 have lD:((lkL (gs2 mt oth rows) cs).map Cn.m).length<=6:=by rw[List.length_map];exact hL.1
 have k2:dh [D.str m0,.str m1,.str m2] none (some 2)=[D.str m0,.str m1]:=rfl
 obtain⟨g',s',o',b9,b10,⟨hg',hs2⟩,el⟩:=lI (some (.lst false (ns.map .int))) (some (.lst false [.str m0,.str m1,.str m2])) (some (.str st)) (some (.int c)) (some (.lst false ((gs2 mt oth rows).map Gp.d))) (some (sw2 cs1 cs2)) (due:=.lst false ((sS ((lkL (gs2 mt oth rows) cs).map Cn.m)).map .str)) hG hS eK e8 e9 (fun _=>qC o) (fun _=>AV _ _) (fun _=>xD o) [m0,m1,m2] g s false none none hg hs'
 have lA:ao (D.lst true [.tup [.str mt,.lst false (rows.map ax)],.tup [.str oth,.lst true []]])=false:=rfl
 have vI:vars (.sl (.v 1) none (some (.c (.int 2))))=[1]:=rfl
 have lB:ao (D.tup [.str "salt",.str "off",.lst true [.tup [.lst true (cs1.map Cn.d),.tup [.str "face",.str "on"]],.tup [.lst true (cs2.map Cn.d),.tup [.str "lot"]]],bY])=false:=rfl
 have x0:∀ a b:D,atI [a,b] 0=some a:=fun _ _=>rfl
 have x1:∀ a b:D,atI [a,b] 1=some b:=fun _ _=>rfl
 have xm:bo (.lst false [.str m0,.str m1,.str m2]) (.int 0)=.ok (.str m0):=rfl
 have nl:∀ a,av (.sset a)=false:=fun _=>rfl
 have vC:vars (.sset (.comp {N:=["_law_cond"],kd:=[.local],gl:=[],df:=false} [] (.nm 0) (.val (.v 6)) [] (.idx (.v 0) (.c (.int 0)))))=[6]:=rfl
 rw[Ev.go (show T sh=some d41 from rfl) (show d41.np=1 from rfl) (show d41.G.N.length=11 from rfl) (show d41.body=b41 from rfl) rfl]
 unfold b41
 generalize hT:List.map D.int ns=NS at *
 generalize lkL (gs2 mt oth rows) cs=LK at *
 generalize hGG:D.lst false ((gs2 mt oth rows).map Gp.d)=G at *
 generalize sw2 cs1 cs2=S at *
 generalize D.lst true [.tup [.str mt,.lst false (rows.map ax)],.tup [.str oth,.lst true []]]=A at *
 generalize D.tup [.str "salt",.str "off",.lst true [.tup [.lst true (cs1.map Cn.d),.tup [.str "face",.str "on"]],.tup [.lst true (cs2.map Cn.d),.tup [.str "lot"]]],bY]=B at *
 rw[List.map_cons,List.map_cons,List.map_cons,List.map_nil] at e1
 rw[List.map_cons,List.map_cons,List.map_cons,List.map_nil] at el
 unfold sM at el
 rw[Ev.aU] at el
 have em0:=e8 m0
 have en0:=e9 m0
 have eg:=same 3 11 (qC (mk:=m0) o)
 have hc0:ers (cP m0 (lk (gs2 mt oth rows) (rs2 cs1 cs2)))=cP m0 (lk (gs2 mt oth rows) (rs2 cs1 cs2)):=by
  have:=fB 3 _ (qC (mk:=m0) o)
  injection this
 simp -implicitDefEqProofs (disch:=omega) only[ev0,Nat.reduceBEq,Nat.reduceSub,Nat.reduceAdd,reduceIte,el,em0,en0,eg,hc0,hg',hs2,e1,e2,e3,e4,e5,e6,e7,eA,eB,eK,lK,f1,s1,ed,ef,e0,k2,hG,hS,hg,hs',lA,lB,vI,x0,x1,ite_self,nl,vC,xm]
end Law
namespace PySem.W.Fast
theorem tw4975952695319288577:True:=⟨⟩
theorem tw6899248108737341174:True:=⟨⟩
theorem tw15106810263041244441:True:=⟨⟩
theorem tw8181947760170296388:True:=⟨⟩
theorem tw1908559995734403830:True:=⟨⟩
theorem tw13995144607260649733:True:=⟨⟩
theorem tw17375429301197889412:True:=⟨⟩
theorem tw9158578551111427530:True:=⟨⟩
theorem tw7032739076309830491:True:=⟨⟩
theorem tw17291046682110473912:True:=⟨⟩
theorem tw3038052135256491128:True:=⟨⟩
theorem tw9327574712670691380:True:=⟨⟩
theorem tw17464281649564878824:True:=⟨⟩
theorem tw1820482647061695137:True:=⟨⟩
theorem tw9801059371206283557:True:=⟨⟩
theorem tw3774431283565339160:True:=⟨⟩
theorem tw878274183486005045:True:=⟨⟩
theorem tw11507060424969549982:True:=⟨⟩
theorem tw15323730218590548269:True:=⟨⟩
theorem tw5220617623047383577:True:=⟨⟩
theorem tw8690254014941617697:True:=⟨⟩
theorem tw1986720437496922494:True:=⟨⟩
theorem tw3854182388301986880:True:=⟨⟩
theorem tw15238268758449500200:True:=⟨⟩
theorem tw10374165682315948784:True:=⟨⟩
theorem tw3568040035524510040:True:=⟨⟩
theorem tw11431037313924133437:True:=⟨⟩
theorem tw13237086581400916029:True:=⟨⟩
theorem tw3482603104162051913:True:=⟨⟩
theorem tw8851914861774838430:True:=⟨⟩
theorem tw17019450102918880419:True:=⟨⟩
theorem tw2478413323115661997:True:=⟨⟩
theorem tw6862656564479520876:True:=⟨⟩
theorem tw3056044362930958064:True:=⟨⟩
theorem tw602503175350272957:True:=⟨⟩
theorem tw2509322098148937535:True:=⟨⟩
theorem tw13685107098403589627:True:=⟨⟩
theorem tw2761105093164078806:True:=⟨⟩
theorem tw17750554886537171242:True:=⟨⟩
theorem tw9034417041345922584:True:=⟨⟩
theorem tw13161036978345685349:True:=⟨⟩
theorem tw14620304693825807494:True:=⟨⟩
theorem tw15562139334271402053:True:=⟨⟩
theorem tw12718132067126804037:True:=⟨⟩
theorem tw12284872218705657701:True:=⟨⟩
theorem tw14560443752749467004:True:=⟨⟩
theorem tw8268010182205596879:True:=⟨⟩
theorem tw11510870326155656752:True:=⟨⟩
theorem tw9977446294921196659:True:=⟨⟩
theorem tw9164201227305628956:True:=⟨⟩
theorem tw9607550506220014272:True:=⟨⟩
theorem tw12734796398596334071:True:=⟨⟩
theorem tw17914116056219615293:True:=⟨⟩
theorem tw1177863931094593972:True:=⟨⟩
theorem tw8656825785409063911:True:=⟨⟩
theorem tw3801974587505228729:True:=⟨⟩
theorem tw581691319363143645:True:=⟨⟩
theorem tw3034062390639234528:True:=⟨⟩
theorem tw9649774640449302784:True:=⟨⟩
theorem tw8975371599646272050:True:=⟨⟩
theorem tw5913478556563093323:True:=⟨⟩
theorem tw3866582560276278029:True:=⟨⟩
theorem tw9962209771290854083:True:=⟨⟩
theorem tw9258580349903412785:True:=⟨⟩
theorem tw5139766337123743622:True:=⟨⟩
theorem tw6480266874696039871:True:=⟨⟩
theorem tw7800056407903932643:True:=⟨⟩
theorem tw1865303094008874588:True:=⟨⟩
theorem tw9095484517452699371:True:=⟨⟩
theorem tw5205732476941063261:True:=⟨⟩
theorem tw3688517446533461441:True:=⟨⟩
theorem tw4997545693167490677:True:=⟨⟩
theorem tw574666276374193450:True:=⟨⟩
theorem tw16395673214410169407:True:=⟨⟩
theorem tw10134417694344698982:True:=⟨⟩
theorem tw9335961002334654186:True:=⟨⟩
theorem tw1232414739993694336:True:=⟨⟩
theorem tw10441978346418194372:True:=⟨⟩
theorem tw2681706577763453721:True:=⟨⟩
theorem tw4816276698638725830:True:=⟨⟩
theorem tw6312164413205404152:True:=⟨⟩
theorem tw14529275045794766138:True:=⟨⟩
theorem tw13496202291782261678:True:=⟨⟩
theorem tw1595074262289798446:True:=⟨⟩
theorem tw15185254415820457414:True:=⟨⟩
theorem tw12073441424006730469:True:=⟨⟩
theorem tw3110088537113031669:True:=⟨⟩
theorem tw1853605432063902671:True:=⟨⟩
theorem tw4164031659323085997:True:=⟨⟩
theorem tw13717031213133397932:True:=⟨⟩
theorem tw12156885027180937714:True:=⟨⟩
theorem tw13659297102512751946:True:=⟨⟩
theorem tw16198882803274651803:True:=⟨⟩
theorem tw1017479219580539206:True:=⟨⟩
theorem tw13800825265371896886:True:=⟨⟩
theorem tw4148783395414253942:True:=⟨⟩
theorem tw11519248410523760009:True:=⟨⟩
theorem tw9223503996183284460:True:=⟨⟩
theorem tw3380167145177877266:True:=⟨⟩
theorem tw4538054889583952125:True:=⟨⟩
theorem tw7006332230955263093:True:=⟨⟩
theorem tw4989428716881999115:True:=⟨⟩
theorem tw16537950929295344058:True:=⟨⟩
theorem tw17570378725731277703:True:=⟨⟩
theorem tw9630894379720355276:True:=⟨⟩
theorem tw12635021377782244374:True:=⟨⟩
theorem tw10332335876511458987:True:=⟨⟩
theorem tw10765133544521553281:True:=⟨⟩
theorem tw8807919792494998981:True:=⟨⟩
theorem tw2471135433352957923:True:=⟨⟩
theorem tw13603107893486881832:True:=⟨⟩
theorem tw9604399833454603627:True:=⟨⟩
theorem tw3806821619151879480:True:=⟨⟩
theorem tw17214245697390401771:True:=⟨⟩
theorem tw14754051119305785609:True:=⟨⟩
theorem tw10280622633316067779:True:=⟨⟩
theorem tw1262163427777434986:True:=⟨⟩
theorem tw8282107607993370040:True:=⟨⟩
theorem tw8528490424248078595:True:=⟨⟩
theorem tw3659541986479772336:True:=⟨⟩
theorem tw7709162689146844781:True:=⟨⟩
theorem tw11767002271699595591:True:=⟨⟩
theorem tw9206698357590456571:True:=⟨⟩
theorem tw14118109163178507328:True:=⟨⟩
theorem tw14968962348686095110:True:=⟨⟩
theorem tw15284278203664928656:True:=⟨⟩
theorem tw4050157510486311414:True:=⟨⟩
theorem tw9495768737394032771:True:=⟨⟩
theorem tw15286711525193866798:True:=⟨⟩
theorem tw7133245571731500439:True:=⟨⟩
theorem tw12203855305577079201:True:=⟨⟩
theorem tw14117678753343367430:True:=⟨⟩
theorem tw5088524196533419157:True:=⟨⟩
theorem tw5261470009690332959:True:=⟨⟩
theorem tw15189546966988855038:True:=⟨⟩
theorem tw5484841184541400754:True:=⟨⟩
theorem tw15080764125980296143:True:=⟨⟩
theorem tw3978061110732641932:True:=⟨⟩
theorem tw8604369216415564395:True:=⟨⟩
end PySem.W.Fast
open PySem PySem.W PyProof.Rows
set_option maxRecDepth 100000 in
set_option maxHeartbeats 0 in
theorem PySem.Challenge.cw_flagroll_k43_marks_and_cells_holds : PySem.Challenge.rw_flagroll_k43_marks_and_cells.Holds := by
  w_on; o_law; k_head; (case hw => w_witness2)
  k_fill
  refine L2.nY (l := PySem.Challenge.rw_flagroll_k43_marks_and_cells) (T := Law.T) (n := 14) (f := Law.sh) (x := Law.si) rfl rfl ⟨fun _ => rfl, by decide, by decide⟩ (fun w h Y => PySem.W.kIn_of Y) ?F Law.holds
  case F =>
    intro w mg fa h KX G hmg
    refine' Law.all_mk KX G hmg (Law.dfo Law.c18 rfl (fun _ _ _ _ _ _ => Law.ln1 fun _ => rfl) KX G ?a18 ?l18 ?e18 ?k18) (Law.dfo Law.c19 rfl (fun _ _ _ _ _ _ => Law.ln2 fun _ _ => rfl) KX G ?a19 ?l19 ?e19 ?k19) (Law.dfo Law.c20 rfl (fun _ _ _ _ _ _ => Law.ln2 fun _ _ => rfl) KX G ?a20 ?l20 ?e20 ?k20) (Law.dfo Law.c21 rfl (fun _ _ _ _ _ _ => Law.ln2 fun _ _ => rfl) KX G ?a21 ?l21 ?e21 ?k21) (Law.dfo Law.c22 rfl (fun _ _ _ _ _ _ => Law.ln4 fun _ _ _ _ => rfl) KX G ?a22 ?l22 ?e22 ?k22) (Law.dfo Law.c23 rfl (fun _ _ _ _ _ _ => Law.ln3 fun _ _ _ => rfl) KX G ?a23 ?l23 ?e23 ?k23) (Law.dfo Law.c24 rfl (fun _ _ _ _ _ _ => Law.ln3 fun _ _ _ => rfl) KX G ?a24 ?l24 ?e24 ?k24) (Law.dfo Law.c25 rfl (fun _ _ _ _ _ _ => Law.ln3 fun _ _ _ => rfl) KX G ?a25 ?l25 ?e25 ?k25) (Law.dfo Law.c26 rfl (fun _ _ _ _ _ _ => Law.ln3 fun _ _ _ => rfl) KX G ?a26 ?l26 ?e26 ?k26) (Law.dfo Law.c27 rfl (fun _ _ _ _ _ _ => Law.ln3 fun _ _ _ => rfl) KX G ?a27 ?l27 ?e27 ?k27) (Law.dfo Law.c28 rfl (fun _ _ _ _ _ _ => Law.ln3 fun _ _ _ => rfl) KX G ?a28 ?l28 ?e28 ?k28) (Law.dfo Law.c29 rfl (fun _ _ _ _ _ _ => Law.ln2 fun _ _ => rfl) KX G ?a29 ?l29 ?e29 ?k29) (Law.dfo Law.c30 rfl (fun _ _ _ _ _ _ => Law.ln3 fun _ _ _ => rfl) KX G ?a30 ?l30 ?e30 ?k30) (Law.dfo Law.c31 rfl (fun _ _ _ _ _ _ => Law.ln2 fun _ _ => rfl) KX G ?a31 ?l31 ?e31 ?k31) (Law.dfo Law.c32 rfl (fun _ _ _ _ _ _ => Law.ln3 fun _ _ _ => rfl) KX G ?a32 ?l32 ?e32 ?k32) (Law.dfo Law.c33 rfl (fun _ _ _ _ _ _ => Law.ln4 fun _ _ _ _ => rfl) KX G ?a33 ?l33 ?e33 ?k33) (Law.dfo Law.c34 rfl (fun _ _ _ _ _ _ => Law.ln6 fun _ _ _ _ _ _ => rfl) KX G ?a34 ?l34 ?e34 ?k34) (Law.dfo Law.c35 rfl (fun _ _ _ _ _ _ => Law.ln7 fun _ _ _ _ _ _ _ => rfl) KX G ?a35 ?l35 ?e35 ?k35) (Law.dfo Law.c36 rfl (fun _ _ _ _ _ _ => Law.ln4 fun _ _ _ _ => rfl) KX G ?a36 ?l36 ?e36 ?k36) (Law.dfo Law.c37 rfl (fun _ _ _ _ _ _ => Law.ln2 fun _ _ => rfl) KX G ?a37 ?l37 ?e37 ?k37) (Law.dfo Law.c38 rfl (fun _ _ _ _ _ _ => Law.ln2 fun _ _ => rfl) KX G ?a38 ?l38 ?e38 ?k38) (Law.dfo Law.c39 rfl (fun _ _ _ _ _ _ => Law.ln2 fun _ _ => rfl) KX G ?a39 ?l39 ?e39 ?k39) (Law.dfo Law.c40 rfl (fun _ _ _ _ _ _ => Law.ln1 fun _ => rfl) KX G ?a40 ?l40 ?e40 ?k40) ?a41 ?l41 ?e41 ?k41 ?z0 ?z1 ?z2 ?z3 ?z4 ?z5 ?z6 ?z7 ?z8 ?z9 ?z10 ?z11 ?z12 ?z13 ?z14 ?z15 ?z16 ?z17
    (case a18 => k_is)
    (case l18 => k_is)
    (case e18 => k_is)
    (case k18 => k_is)
    (case a19 => k_is)
    (case l19 => k_is)
    (case e19 => k_is)
    (case k19 => k_is)
    (case a20 => k_is)
    (case l20 => k_is)
    (case e20 => k_is)
    (case k20 => k_is)
    (case a21 => k_is)
    (case l21 => k_is)
    (case e21 => k_is)
    (case k21 => k_is)
    (case a22 => k_is)
    (case l22 => k_is)
    (case e22 => k_is)
    (case k22 => k_is)
    (case a23 => k_is)
    (case l23 => k_is)
    (case e23 => k_is)
    (case k23 => k_is)
    (case a24 => k_is)
    (case l24 => k_is)
    (case e24 => k_is)
    (case k24 => k_is)
    (case a25 => k_is)
    (case l25 => k_is)
    (case e25 => k_is)
    (case k25 => k_is)
    (case a26 => k_is)
    (case l26 => k_is)
    (case e26 => k_is)
    (case k26 => k_is)
    (case a27 => k_is)
    (case l27 => k_is)
    (case e27 => k_is)
    (case k27 => k_is)
    (case a28 => k_is)
    (case l28 => k_is)
    (case e28 => k_is)
    (case k28 => k_is)
    (case a29 => k_is)
    (case l29 => k_is)
    (case e29 => k_is)
    (case k29 => k_is)
    (case a30 => k_is)
    (case l30 => k_is)
    (case e30 => k_is)
    (case k30 => k_is)
    (case a31 => k_is)
    (case l31 => k_is)
    (case e31 => k_is)
    (case k31 => k_is)
    (case a32 => k_is)
    (case l32 => k_is)
    (case e32 => k_is)
    (case k32 => k_is)
    (case a33 => k_is)
    (case l33 => k_is)
    (case e33 => k_is)
    (case k33 => k_is)
    (case a34 => k_is)
    (case l34 => k_is)
    (case e34 => k_is)
    (case k34 => k_is)
    (case a35 => k_is)
    (case l35 => k_is)
    (case e35 => k_is)
    (case k35 => k_is)
    (case a36 => k_is)
    (case l36 => k_is)
    (case e36 => k_is)
    (case k36 => k_is)
    (case a37 => k_is)
    (case l37 => k_is)
    (case e37 => k_is)
    (case k37 => k_is)
    (case a38 => k_is)
    (case l38 => k_is)
    (case e38 => k_is)
    (case k38 => k_is)
    (case a39 => k_is)
    (case l39 => k_is)
    (case e39 => k_is)
    (case k39 => k_is)
    (case a40 => k_is)
    (case l40 => k_is)
    (case e40 => k_is)
    (case k40 => k_is)
    (case a41 => k_is)
    (case l41 => k_is)
    (case e41 => k_is)
    (case k41 => k_is)
    (case z0 => k_is)
    (case z1 => k_is)
    (case z2 => k_is)
    (case z3 => k_is)
    (case z4 => k_is)
    (case z5 => k_is)
    (case z6 => k_is)
    (case z7 => k_is)
    (case z8 => k_is)
    (case z9 => k_is)
    (case z10 => k_is)
    (case z11 => k_is)
    (case z12 => k_is)
    (case z13 => k_is)
    (case z14 => k_is)
    (case z15 => k_is)
    (case z16 => k_is)
    (case z17 => k_is)
#print axioms PySem.Challenge.cw_flagroll_k43_marks_and_cells_holds
