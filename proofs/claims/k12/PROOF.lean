import PyProof.Rows.All
import Wide.All
import OpenK.AllK
import Wide.FinOn
import Lean
import PyProof.EqAt
import PyProof.EqKinds
import PyProof.TupleCall
import PyProof.NeKinds
import KE.KRevIter
import KE.KSortTup
import Wide.Txt2
import PyProof.FString4
import KE.KIntText
import PyProof.ZipIter
import PyProof.TupleIter
import PyProof.WalksMore
import PyProof.Rows.SortShell
import KE.KDictSum
import PyProof.Rows.SortStr
import PyProof.Rows.SetFrom
import PyProof.DictUpdate
import KE.KDictOf
import PyProof.AttrMissSeq
import KE.KIsAll
import PyProof.ExcArgsOwn
import PyProof.ExcAttrAll.ValueError
import OpenK.KDescr
import PyProof.StationsW
import OpenK.KOwn
import KE.KTryMore
import OpenK.KRaise
import PyProof.RulesDel
import PyProof.RulesAs
import PyProof.Rows.Catch
import PyProof.Rows.StrReprFit
import PyProof.NsCount
import PySem.Challenge.RW_flagroll_k12_places_moved
set_option maxHeartbeats 8000000
set_option Elab.async false
set_option linter.all false
set_option maxRecDepth 100000
namespace L2
open PySem PySem.Spec PyProof.Rows
noncomputable abbrev Key:=Sum Int Str
noncomputable def fB:Key->Value->Bool
 | .inl k,v=>Value.isInt k v
 | .inr x,v=>Value.isStrOf x v
noncomputable def Bz (w:World):Key->Int
 | .inl k=>hashInt k
 | .inr x=>hashStr w x
theorem aL:∀ {k:Key}{v:Value},fB k v=true->(∃ i t,k=Sum.inl i/\v=Value.int i t)∨(∃ x t,k=Sum.inr x/\v=Value.str x t)
 | .inl i,v,h=>by
  obtain⟨t,e⟩:=Value.isInt_shape (k:=i) (v:=v) h
  exact .inl ⟨i,t,rfl,e⟩
 | .inr x,v,h=>by
  obtain⟨t,e⟩:=Value.isStrOf_shape (x:=x) (v:=v) h
  exact .inr ⟨x,t,rfl,e⟩
theorem lK (i:Int)(t:Tok):fB (.inl i) (.int i t)=true:=by simp[fB,Value.isInt]
theorem lL (x:Str)(t:Tok):fB (.inr x) (.str x t)=true:=by simp[fB,Value.isStrOf]
theorem vR (a b:Int):decide ((Sum.inl a:Key)=Sum.inl b)=(a == b):=by
 by_cases e:a=b
 ·subst e;simp
 ·have h:¬ (Sum.inl a:Key)=Sum.inl b:=fun q=>e (Sum.inl.inj q)
  rw[decide_eq_false h]
  exact(beq_eq_false_iff_ne.mpr e).symm
theorem vS (a b:Str):decide ((Sum.inr a:Key)=Sum.inr b)=decide (a=b):=by
 by_cases e:a=b
 ·subst e;simp
 ·have h:¬ (Sum.inr a:Key)=Sum.inr b:=fun q=>e (Sum.inr.inj q)
  rw[decide_eq_false h,decide_eq_false e]
theorem vT (a:Int)(b:Str):decide ((Sum.inl a:Key)=Sum.inr b)=false:=decide_eq_false (fun q=>nomatch q)
theorem vU (a:Str)(b:Int):decide ((Sum.inr a:Key)=Sum.inl b)=false:=decide_eq_false (fun q=>nomatch q)
noncomputable def aE (prog:Program)(w:World):PySem.KeyKind prog w Key where
 is:=fB
 hash:=Bz w
 inj:=fun v a b ha hb=>by
  rcases aL ha with ⟨i,t,rfl,rfl⟩|⟨x,t,rfl,rfl⟩
  ·rcases aL hb with ⟨j,u,rfl,e⟩|⟨y,u,rfl,e⟩
   ·injection e with e1 _;rw[e1]
   ·exact nomatch e
  ·rcases aL hb with ⟨j,u,rfl,e⟩|⟨y,u,rfl,e⟩
   ·exact nomatch e
   ·injection e with e1 _;rw[e1]
 byValue:=fun k v h=>by
  rcases aL h with ⟨i,t,rfl,rfl⟩|⟨x,t,rfl,rfl⟩<;>rfl
 pyHash:=fun hv h=>by
  rcases aL hv with ⟨i,t,rfl,rfl⟩|⟨x,t,rfl,rfl⟩
  ·exact wpAny_pyHash_int h
  ·exact wpAny_pyHash_str h
 eqBool:=fun hu hv h=>by
  rcases aL hu with ⟨i,t,rfl,rfl⟩|⟨x,t,rfl,rfl⟩
  ·rcases aL hv with ⟨j,u,rfl,rfl⟩|⟨y,u,rfl,rfl⟩
   ·rw[vR] at h;exact wpAny_eqBool_int h
   ·rw[vT] at h;exact SeqAt.EqAt.int_str i t y u _ _ _ _ h
  ·rcases aL hv with ⟨j,u,rfl,rfl⟩|⟨y,u,rfl,rfl⟩
   ·rw[vU] at h;exact SeqAt.EqAt.str_int x t j u _ _ _ _ h
   ·rw[vS] at h;exact wpAny_eqBool_str h
 «strs»:=fun k x t v h=>by
  rcases aL h with ⟨i,u,rfl,e⟩|⟨y,u,rfl,e⟩
  ·exact nomatch e
  ·injection e with e1 _
   subst e1
   cases v<;>rfl
theorem ib (prog:Program)(w:World)(i:Int)(t:Tok):(aE prog w).is (.inl i) (.int i t)=true:=lK i t
theorem ic (prog:Program)(w:World)(x:Str)(t:Tok):(aE prog w).is (.inr x) (.str x t)=true:=lL x t
inductive V where
 | CD|bl (b:Bool)|int (i:Int)|str (x:Str)|IJ (b:Array UInt8)|MH (b:UInt64)|ref (a:Addr)|ty (n:String)
 deriving DecidableEq
noncomputable def RelV:V->Value->Prop
 | .CD,u=>u=Value.none
 | .bl b,u=>u=Value.bool b
 | .int i,u=>∃ t,u=Value.int i t
 | .str x,u=>∃ t,u=Value.str x t
 | .IJ b,u=>∃ t,u=Value.bytes b t
 | .MH b,u=>∃ t,u=Value.float b t
 | .ref a,u=>u=Value.ref a
 | .ty n,u=>u=Value.type n
abbrev Vals:List V->List Value->Prop:=Paired RelV
theorem Vals.length {xs:List V}{us:List Value}(r:Vals xs us):xs.length=us.length:=Paired.length r
theorem Vals.get:∀ {xs:List V}{us:List Value}{i:Nat}{x:V},Vals xs us->xs[i]? = some x->∃ u,us[i]? = some u/\RelV x u
 | _,_,_,_,.nil,e=>by simp at e
 | _,_,0,_,.cons r _,e=>by simp at e;subst e;exact⟨_,rfl,r⟩
 | _,_,i+1,x,.cons _ t,e=>by
  obtain⟨u,h1,h2⟩:=Vals.get (i:=i) (x:=x) t (by simpa using e)
  exact⟨u,by simpa using h1,h2⟩
theorem Vals.set {x:V}{u:Value}(r:RelV x u):∀ {xs:List V}{us:List Value} (i:Nat),Vals xs us->Vals (xs.set i x) (us.set i u)
 | _,_,_,.nil=>.nil
 | _,_,0,.cons _ t=>.cons r t
 | _,_,i+1,.cons q t=>.cons q (Vals.set r i t)
theorem Vals.append:∀ {xs ys:List V}{us ws:List Value},Vals xs us->Vals ys ws->Vals (xs++ys) (us++ws)
 | _,_,_,_,.nil,s=>s
 | _,_,_,_,.cons r t,s=>.cons r (Vals.append t s)
theorem Vals.take:∀ {xs:List V}{us:List Value} (n:Nat),Vals xs us->Vals (xs.take n) (us.take n)
 | _,_,0,_=>.nil
 | _,_,_+1,.nil=>.nil
 | _,_,n+1,.cons r t=>.cons r (Vals.take n t)
theorem Vals.drop:∀ {xs:List V}{us:List Value} (n:Nat),Vals xs us->Vals (xs.drop n) (us.drop n)
 | _,_,0,r=>r
 | _,_,_+1,.nil=>.nil
 | _,_,n+1,.cons _ t=>Vals.drop n t
noncomputable def ft:Option V->Option Value->Prop
 | some v,some u=>RelV v u
 | none,none=>True
 | _,_=>False
def KV {κ:Type}:List (κ×V)->List (κ×Value)->Prop:=Paired fun (p:κ×V) (q:κ×Value)=>p.1=q.1/\RelV p.2 q.2
noncomputable def kV:Key->V
 | .inl i=>.int i
 | .inr x=>.str x
inductive HO where
 | lst (xs:List V)
 | tup (xs:List V)
 | dK (kvs:List (Key×V))|dT (kvs:List (List Key×V))
 | set (S:Int->Bool) (n:Nat)
 | ins (C dx:Addr) (fs:List (Str×V))
 | own (x:Addr)
 | xd (fs:List (Str×V))
 | met (f x:Addr)
 | Gb (lo hi:Int)
 | CK (o:Obj) (u:HO)
 | HX (ps:Array Value)
 | ext (φ:Heap->Prop)
noncomputable abbrev Hp:=Addr->Option HO
noncomputable def upd (H:Hp)(a:Addr)(o:HO):Hp:=fun b=>if b=a then some o else H b
theorem ar {H:Hp}{a:Addr}{o:HO}:upd H a o a=some o:=by unfold upd;rw[if_pos rfl]
theorem aj {H:Hp}{a b:Addr}{o:HO}(h:b≠a):upd H a o b=H b:=by unfold upd;rw[if_neg h]
theorem yk {H:Hp}{a b:Addr}{o u:HO}(h:H a=some o)(h':H b=some u)(d:o≠u):a≠b:=by
 intro e;subst e;rw[h] at h';exact d (Option.some.inj h')
theorem aA {H:Hp}{a b:Addr}{o:HO}(h:H a=some o)(h':H b=none):a≠b:=by
 intro e;subst e;rw[h] at h';cases h'
section
variable (P:Program)(w:World)
noncomputable def aP (H:Hp)(h:Heap)(a:Addr):HO->Prop
 | .lst xs=>xs.length<=sizeLine/\∃ (its:List Value) (n:Nat),Vals xs its/\h.get? a=some {cls:=.type "list",data:=.seq its.toArray n}
 | .tup xs=>xs.length<=sizeLine/\∃ its:List Value,Vals xs its/\IsTup h a its.toArray
 | .dK kvs=>kvs.length<=sizeLine/\(a == sysModules)=false/\∃ vs,KV kvs vs/\h.DictOf (aE P w) a vs
 | .dT kvs=>kvs.length<=sizeLine/\(a == sysModules)=false/\∃ xs:List (List Key×Addr×Value),
   Paired (fun (p:List Key×V) (q:List Key×Addr×Value)=>p.1=q.1/\H q.2.1=some (.tup (p.1.map kV))/\RelV p.2 q.2.2) kvs xs/\
   ∃ o es ep,h.get? a=some o/\o.ExactDict/\o.data=.dict es ep/\es.toList=xs.map (entryOfKey (tupleKind (aE P w)))/\(xs.map (·.1)).Nodup
 | .set S n=>h.SetOf (intKind P w) a S n
 | .ins C dx fs=>H dx=some (.own a)/\fs.length<=1000/\dx≠a/\h.get? a=some (PySem.W.instObj C dx)/\
   ∃ mA,h.Ns1 dx mA/\(∀ f,ft (fs.lookup f) (mA f))/\PySem.Within mA (fs.map (·.1))
 | .own _=>∃ o,h.get? a=some o
 | .xd fs=>∃ mA,h.Ns1 a mA/\∀ f,ft (fs.lookup f) (mA f)
 | .Gb lo hi=>∃ t u v,h.get? a=some {cls:=.type "range",data:=.fields #[.int lo t,.int hi u,.int 1 v]}
 | .CK o u=>h.get? a=some o/\aP H h a u
 | .HX ps=>h.get? a=some {cls:=.none,data:=.fields ps}
 | .met f x=>h.get? a=some (PySem.W.methodObj (.ref f) (.ref x))
 | .ext φ=>φ h/\(∃ o,h.get? a=some o)/\∀ h1 h2:Heap,φ h1->(∀ o,h1.get? a=some o->h2.get? a=some o)->φ h2
def C0 (H:Hp)(h:Heap):Prop:=∀ a o,H a=some o->aP P w H h a o
end
section
variable {P:Program}{w:World}{H H':Hp}{h h':Heap}{a:Addr}{o:HO}
theorem aP.lt (x:aP P w H h a o):a < h.objs.size:=by
 cases o with
 | lst xs=>obtain⟨_,_,_,_,e⟩:=x;exact Heap.lt_size e
 | tup xs=>obtain⟨_,_,_,p⟩:=x;exact p.lt
 | dK kvs=>obtain⟨_,_,_,_,o,_,_,e,_⟩:=x;exact Heap.lt_size e
 | dT kvs=>obtain⟨_,_,_,_,o,_,_,e,_⟩:=x;exact Heap.lt_size e
 | set S n=>obtain⟨o,_,_,_,e,_⟩:=x;exact Heap.lt_size e
 | ins C dx fs=>obtain⟨_,_,_,e,_⟩:=x;exact Heap.lt_size e
 | own y=>obtain⟨_,e⟩:=x;exact Heap.lt_size e
 | xd fs=>obtain⟨_,⟨_,_,_,e,_⟩,_⟩:=x;exact Heap.lt_size e
 | Gb lo hi=>obtain⟨_,_,_,e⟩:=x;exact Heap.lt_size e
 | CK ob u=>obtain⟨e,_⟩:=x;exact Heap.lt_size e
 | HX ps=>exact Heap.lt_size (show h.get? a=some _ from x)
 | met f y=>exact Heap.lt_size (show h.get? a=some _ from x)
 | ext φ=>obtain⟨_,⟨_,e⟩,_⟩:=x;exact Heap.lt_size e
theorem Paired.IK {α β:Type}{F G:α->β->Prop}:∀ {l₁:List α}{l₂:List β},Paired F l₁ l₂->(∀ a b,F a b->G a b)->Paired G l₁ l₂
 | _,_,.nil,_=>.nil
 | _,_,.cons r t,f=>.cons (f _ _ r) (Paired.IK t f)
theorem aP.D8 (x:aP P w H h a o)(k:∀ b u,(b=a∨H b=some (.own a))->h.get? b=some u->h'.get? b=some u)
  (ho:∀ b,H b=some (.own a)->H' b=some (.own a)) (ht:∀ b xs,H b=some (.tup xs)->H' b=some (.tup xs)):aP P w H' h' a o:=by
 induction o with
 | lst xs=>obtain⟨z,its,n,r,e⟩:=x;exact⟨z,its,n,r,k _ _ (.inl rfl) e⟩
 | tup xs=>obtain⟨z,its,r,ob,e,c⟩:=x;exact⟨z,its,r,ob,k _ _ (.inl rfl) e,c⟩
 | dK kvs=>obtain⟨z,y,vs,r,ob,es,ep,e,c⟩:=x;exact⟨z,y,vs,r,ob,es,ep,k _ _ (.inl rfl) e,c⟩
 | dT kvs=>
  obtain⟨z,y,xs,r,ob,es,ep,e,c⟩:=x
  exact⟨z,y,xs,Paired.IK r fun p q z=>⟨z.1,ht _ _ z.2.1,z.2.2⟩,ob,es,ep,k _ _ (.inl rfl) e,c⟩
 | set S n=>obtain⟨ob,es,ep,t,e,c⟩:=x;exact⟨ob,es,ep,t,k _ _ (.inl rfl) e,c⟩
 | ins C dx fs=>
  obtain⟨d,z,ne,e,mA,⟨od,es,ep,e2,c⟩,r⟩:=x
  exact⟨ho _ d,z,ne,k _ _ (.inl rfl) e,mA,⟨od,es,ep,k _ _ (.inr d) e2,c⟩,r⟩
 | own y=>obtain⟨ob,e⟩:=x;exact⟨ob,k _ _ (.inl rfl) e⟩
 | xd fs=>obtain⟨mA,⟨od,es,ep,e,c⟩,r⟩:=x;exact⟨mA,⟨od,es,ep,k _ _ (.inl rfl) e,c⟩,r⟩
 | Gb lo hi=>obtain⟨t,u,v,e⟩:=x;exact⟨t,u,v,k _ _ (.inl rfl) e⟩
 | CK ob u ih=>obtain⟨e,q⟩:=x;exact⟨k _ _ (.inl rfl) e,ih q⟩
 | HX ps=>
  have e:h.get? a=some {cls:=.none,data:=.fields ps}:=x
  show h'.get? a=some {cls:=.none,data:=.fields ps}
  exact k a _ (.inl rfl) e
 | met f y=>
  have e:h.get? a=some (PySem.W.methodObj (.ref f) (.ref y)):=x
  show h'.get? a=some (PySem.W.methodObj (.ref f) (.ref y))
  exact k a _ (.inl rfl) e
 | ext φ=>obtain⟨p,⟨o,e⟩,st⟩:=x;exact⟨st _ _ p fun o q=>k _ _ (.inl rfl) q,⟨o,k _ _ (.inl rfl) e⟩,st⟩
theorem C0.lt (x:C0 P w H h)(e:H a=some o):a < h.objs.size:=(x a o e).lt
theorem C0.fresh (x:C0 P w H h)(e:h.objs.size<=a):H a=none:=by
 cases q:H a with
 | none=>rfl
 | some u=>exact absurd (Nat.lt_of_lt_of_le (x.lt q) e) (Nat.lt_irrefl _)
theorem C0.kept (x:C0 P w H h)(k:∀ b u,h.get? b=some u->h'.get? b=some u):C0 P w H h':=fun a o e=>
 (x a o e).D8 (fun b u _ q=>k b u q) (fun _ q=>q) fun _ _ q=>q
theorem C0.laid (x:C0 P w H h)(k:∀ b u,h.get? b=some u->h'.get? b=some u)(hp:h.objs.size<=a)(new:aP P w (upd H a o) h' a o):C0 P w (upd H a o) h':=fun b u e=>by
 have hn:=x.fresh hp
 by_cases hb:b=a
 ·subst hb;rw[ar] at e;cases e;exact new
 ·rw[aj hb] at e
  exact(x b u e).D8 (fun c v _ q=>k c v q) (fun c q=>by rw[aj (aA q hn)];exact q) fun c xs q=>by rw[aj (aA q hn)];exact q
end
def Rd (H:Hp)(a:Addr)(u:HO):Prop:=H a=some u∨∃ o,H a=some (.CK o u)
theorem Rd.ok {P:Program}{w:World}{H:Hp}{h:Heap}{a:Addr}{u:HO}(r:Rd H a u)(x:C0 P w H h):aP P w H h a u:=by
 rcases r with r|⟨o,r⟩
 ·exact x a u r
 ·obtain⟨_,q⟩:=x a _ r
  exact q
noncomputable def KC:Option HO->Prop
 | some (.lst _)=>True
 | some (.dK _)=>True
 | some (.dT _)=>True
 | some (.set _ _)=>True
 | some (.ins _ _ _)=>True
 | some (.ext _)=>True
 | _=>False
section
variable {P:Program}{w:World}{H:Hp}{h h':Heap}{x e:Addr}{o':HO}
theorem C0.write (ok:C0 P w H h)(mu:KC (H x))(he:e=x∨H e=some (.own x))(k:∀ b u,b≠e->h.get? b=some u->h'.get? b=some u)(J2:∃ u,h'.get? e=some u)
  (new:aP P w (upd H x o') h' x o'):C0 P w (upd H x o') h':=fun b u q=>by
 have KD:∀ c y,H c=some (.own y)->c≠x:=fun c y r z=>by subst z;rw[r] at mu;exact mu
 have MI:∀ c xs,H c=some (.tup xs)->c≠x:=fun c xs r z=>by subst z;rw[r] at mu;exact mu
 by_cases hb:b=x
 ·subst hb;rw[ar] at q;cases q;exact new
 ·rw[aj hb] at q
  by_cases IL:b=e
  ·have q':H b=some (.own x):=by
    rcases he with z|z
    ·exact absurd (IL.trans z) hb
    ·rw[IL];exact z
   rw[q] at q';cases q'
   obtain⟨v,hv⟩:=J2
   exact⟨v,by rw[IL];exact hv⟩
  ·refine(ok b u q).D8 (fun c v hc r=>k c v ?_ r) (fun c r=>by rw[aj (KD c b r)];exact r) fun c xs r=>by rw[aj (MI c xs r)];exact r
   rcases hc with rfl|hc
   ·exact IL
   ·rintro rfl
    rcases he with z|z
    ·exact KD c b hc z
    ·rw[hc] at z;cases z;exact hb rfl
end
structure Un (fs ex:List Addr)(H H':Hp)(h h':Heap):Prop where
 keep:∀ b o,h.get? b=some o->H b=none->b∉fs->b∉ex->h'.get? b=some o
 slot:∀ b o,h.get? b=some o->H b=none->b∈fs->b∉ex->∃ sl,h'.get? b=some {o with slots:=sl}
 free:∀ b o,h.get? b=some o->H b=none->b∉ex->H' b=none
 there:∀ b o,h.get? b=some o->b∉ex->∃ o',h'.get? b=some o'
 DK:∀ b xs,H b=some (.tup xs)->H' b=some (.tup xs)
 Dq:∀ b o u,H b=some (.CK o u)->H' b=some (.CK o u)
 EJ:∀ b ps,H b=some (.HX ps)->∃ more,H' b=some (.HX (ps++more))
section
variable {fs T1 ex Od:List Addr}{H H1 H2:Hp}{h h1 h2 h':Heap}{a x e:Addr}{o:HO}
theorem Un.any (u:Un fs ex H H1 h h1){b:Addr}{ob:Obj}(q:h.get? b=some ob)(n:H b=none)(hx:b∉ex):∃ sl,h1.get? b=some {ob with slots:=sl}:=by
 by_cases hb:b∈fs
 ·exact u.slot b ob q n hb hx
 ·exact⟨ob.slots,u.keep b ob q n hb hx⟩
theorem Un.kept (k:∀ b u,h.get? b=some u->h'.get? b=some u):Un fs ex H H h h':=
 ⟨fun b ob q _ _ _=>k b ob q,fun b ob q _ _ _=>⟨ob.slots,k b ob q⟩,fun _ _ _ n _=>n,fun b ob q _=>⟨ob,k b ob q⟩,fun _ _ q=>q,fun _ _ _ q=>q,fun _ ps q=>⟨#[],by rw[q];simp⟩⟩
theorem Un.refl:Un fs ex H H h h:=Un.kept fun _ _ q=>q
theorem Un.laid (k:∀ b u,h.get? b=some u->h'.get? b=some u)(hp:h.objs.size<=a)(hn:H a=none):Un fs ex H (upd H a o) h h' where
 keep:=fun b u q _ _ _=>k b u q
 slot:=fun b u q _ _ _=>⟨u.slots,k b u q⟩
 free:=fun b u q n _=>by rw[aj (Nat.ne_of_lt (Nat.lt_of_lt_of_le (Heap.lt_size q) hp))];exact n
 there:=fun b u q _=>⟨u,k b u q⟩
 DK:=fun b xs q=>by rw[aj (aA q hn)];exact q
 Dq:=fun b u xs q=>by rw[aj (aA q hn)];exact q
 EJ:=fun b ps q=>⟨#[],by rw[aj (aA q hn),q];simp⟩
theorem Un.write (mu:KC (H x))(he:e=x∨H e=some (.own x))(k:∀ b u,b≠e->h.get? b=some u->h'.get? b=some u)(J2:∃ u,h'.get? e=some u):Un fs ex H (upd H x o) h h':=by
 have hx:∀ b,H b=none->b≠x:=fun b n z=>by subst z;rw[n] at mu;exact mu
 have hb:∀ b,H b=none->b≠e:=fun b n z=>by
  subst z
  rcases he with r|r
  ·exact hx b n r
  ·rw[n] at r;cases r
 have hm:∀ b u,H b=some u->¬ KC (some u)->b≠x:=fun b u q nm z=>by subst z;rw[q] at mu;exact nm mu
 refine⟨fun b u q n _ _=>k b u (hb b n) q,fun b u q n _ _=>⟨u.slots,k b u (hb b n) q⟩,fun b u q n _=>by rw[aj (hx b n)];exact n,fun b u q _=>?_,
  fun b xs q=>by rw[aj (hm b _ q fun z=>z)];exact q,fun b u xs q=>by rw[aj (hm b _ q fun z=>z)];exact q,fun b ps q=>⟨#[],by rw[aj (hm b _ q fun z=>z),q];simp⟩⟩
 by_cases IL:b=e
 ·subst IL;exact J2
 ·exact⟨u,k b u IL q⟩
end
noncomputable def IM (h:Heap)(H:Hp):List Addr:=(List.range h.objs.size).filter fun a=>(H a).isSome
noncomputable def gk (h:Heap)(H:Hp):Heap:=PySem.W.hideAll h (IM h H)
theorem lM (h:Heap)(H:Hp):(gk h H).objs.size=h.objs.size:=PySem.W.hideAll_size _ _
theorem mE {h:Heap}{H:Hp}{b:Addr}{o:Obj}(e:h.get? b=some o)(n:H b=none):(gk h H).get? b=some o:=
 PySem.W.hideAll_get _ e fun hm=>by
  have q:(H b).isSome=true:=(List.mem_filter.mp hm).2
  rw[n] at q;simp at q
theorem qZ {h:Heap}{H:Hp}{b:Addr}{o:Obj}(e:(gk h H).get? b=some o):h.get? b=some o/\H b=none:=by
 have e':h.get? b=some o:=PySem.W.of_hideAll (IM h H) e
 refine⟨e',?_⟩
 cases q:H b with
 | none=>rfl
 | some x=>
  have hm:b∈IM h H:=List.mem_filter.mpr ⟨List.mem_range.mpr (Heap.lt_size e'),by simp[q]⟩
  have z:(gk h H).get? b=none:=PySem.W.hideAll_none (IM h H) hm
  rw[z] at e;cases e
structure Mod (K:PySem.W.Frag)(mg:Str->Option Value)(base:Heap):Prop where
 G5:K.In base
 glob:base.Ns mainGlobals mg
 blt:∃ mb,base.Ns builtinsNs mb/\∀ x:Str,x≠"__name__"->mb x=bootBuiltins x
 nolimit:base.NoLimit
structure Cx where
 prog:Program
 w:World
 K:PySem.W.Frag
 mg:Str->Option Value
 base:Heap
 A:Around
 N:List Str
 C1:Shared
 EK:Hp
 env:Env
 outer:List Env
 stack:List Env
 ex:List Addr
 fn:Str->Bool
 calm:Bool
 pn:List (Addr×Obj)
 xe:Value->Shared->Prop
noncomputable def Dr (l:List Env):List Addr:=l.filterMap (·.frame)
noncomputable abbrev Cx.fs (X:Cx):List Addr:=Dr X.outer
def KG (sc:Scope)(x:Str):Prop:=sc.names.lookup x=some .local∨sc.names.lookup x=some .cell∨sc.names.lookup x=some .free
def Loc (sc:Scope)(x:Str):Prop:=sc.names.lookup x=some .local∨sc.names.lookup x=some .cell
def Look (env:Env)(h:Heap)(m:Str->Option Value)(x:Str)(u:Value):Prop:=
 (env.kindOf x=some .local/\m x=some u)∨((env.kindOf x=some .cell∨env.kindOf x=some .free)/\∃ c,env.cells.lookup x=some c/\h.IsCell c (some u))
structure Cx.Ok (X:Cx):Prop where
 mod:Mod X.K X.mg X.base
 kind:X.env.scope.kind=.function
 glob:X.env.globals=mainGlobals
 blt:X.env.builtins=builtinsNs
 above:X.C1.heap.objs.size<=X.env.locals
 inj:∀ x y c,X.env.cells.lookup x=some c->X.env.cells.lookup y=some c->x=y
 has:∀ x,(X.env.kindOf x=some .cell∨X.env.kindOf x=some .free)->∃ c,X.env.cells.lookup x=some c
 J3:∀ x c,X.fn x=true->X.env.cells.lookup x=some c->X.C1.heap.objs.size<=c
 hd:X.calm=true->X.A.handled=none
 frames:X.A.frames=some X.stack
 Cq:X.stack=X.outer∨(X.stack=X.env::X.outer/\X.env.frame=some X.env.locals)
 KH:∀ b∈X.ex,b≠X.env.locals/\∀ x c,X.env.cells.lookup x=some c->c≠b
 bs:∀ b o,X.base.get? b=some o->X.C1.heap.get? b=some o/\X.EK b=none
 Gv:X.base.objs.size<=X.C1.heap.objs.size
 Gd:∀ b o,X.base.get? b=some o->b∉X.ex
 Ge:∀ b∈X.ex,b∉X.fs
 Ds:X.C1.heap.FunFrames X.base X.outer
 Fs:∀ b∈X.fs,X.EK b=none
structure Inv (X:Cx)(pins:List (Addr×Obj))(σ:List (Option V))(H:Hp)(s:Shared):Prop where
 ok:X.Ok
 os:s.os=X.C1.os
 bare:AllBare s.gens
 base:Un X.fs X.ex X.EK H X.C1.heap s.heap
 loc:∃ m,s.heap.Ns X.env.locals m/\∀ (i:Nat) (x:Str) (v:V),X.N[i]? = some x->σ[i]? = some (some v)->KG X.env.scope x->∃ u,RelV v u/\Look X.env s.heap m x u
 cell:∀ x c,X.env.cells.lookup x=some c->∃ v,s.heap.IsCell c v
 free:H X.env.locals=none
 Dt:∀ x c,X.env.cells.lookup x=some c->H c=none
 pin:∀ p∈X.pn++pins,s.heap.get? p.1=some p.2/\H p.1=none/\p.1≠X.env.locals/\p.1∉X.fs/\∀ v,p.2.data≠.cell v
 CA:C0 X.prog X.w H s.heap
 len:σ.length=X.N.length
section
variable {X:Cx}{pins:List (Addr×Obj)}{σ:List (Option V)}{H H':Hp}{s:Shared}{h':Heap}
theorem Cx.Ok.MJ (ok:X.Ok){b:Addr}{o:Obj}(e:X.base.get? b=some o):b∉X.fs:=fun hb=>by
 have:=(ok.Ds.mem hb).1
 rw[e] at this;cases this
theorem Inv.bs (I:Inv X pins σ H s):∀ b o,X.base.get? b=some o->s.heap.get? b=some o/\H b=none:=fun b o e=>
 ⟨I.base.keep b o (I.ok.bs b o e).1 (I.ok.bs b o e).2 (I.ok.MJ e) (I.ok.Gd b o e),I.base.free b o (I.ok.bs b o e).1 (I.ok.bs b o e).2 (I.ok.Gd b o e)⟩
theorem Inv.bk (I:Inv X pins σ H s):∀ b o,X.base.get? b=some o->s.heap.get? b=some o:=fun b o e=>(I.bs b o e).1
theorem Inv.mod (I:Inv X pins σ H s):Mod X.K X.mg X.base:=I.ok.mod
theorem Inv.EL (I:Inv X pins σ H s):X.K.In s.heap:=I.ok.mod.G5.keeps I.bk
theorem Inv.lt (I:Inv X pins σ H s):X.env.locals < s.heap.objs.size:=let ⟨_,hn,_⟩:=I.loc;hn.lt
theorem Inv.sz (I:Inv X pins σ H s):X.C1.heap.objs.size<=s.heap.objs.size:=Nat.le_trans I.ok.above (Nat.le_of_lt I.lt)
theorem Inv.MK (I:Inv X pins σ H s){a:Addr}(h:s.heap.objs.size<=a):a∉X.fs:=fun hb=>by
 obtain⟨_,o,ho,_⟩:=I.ok.Ds.mem hb
 exact absurd (Nat.lt_of_lt_of_le (Heap.lt_size ho) (Nat.le_trans I.sz h)) (Nat.lt_irrefl _)
theorem Inv.IP (I:Inv X pins σ H s):∀ x c,X.env.cells.lookup x=some c->c≠X.env.locals:=fun x c e z=>by
 obtain⟨v,o,ho,hd⟩:=I.cell x c e
 obtain⟨m,⟨o',es,ep,E7,Qx,_⟩,_⟩:=I.loc
 rw[z,E7] at ho;cases ho;rw[Qx] at hd;cases hd
theorem Inv.Ds (I:Inv X pins σ H s):s.heap.FunFrames X.base X.outer:=by
 have all:∀ (l:List Env),(∀ b∈Dr l,b∈X.fs)->X.C1.heap.FunFrames X.base l->s.heap.FunFrames X.base l:=by
  intro l
  induction l with
  | nil=>intro _ _;trivial
  | cons env r ih=>
   intro hs hl
   obtain⟨hk,⟨L,o,hf,hn,ho,hd⟩,hr⟩:=hl
   have hL:L∈X.fs:=hs L (by unfold Dr;rw[List.filterMap_cons,hf];exact List.mem_cons_self)
   obtain⟨sl,e⟩:=I.base.slot L o ho (I.ok.Fs L hL) hL fun z=>I.ok.Ge L z hL
   exact⟨hk,⟨L,_,hf,hn,e,hd⟩,ih (fun b hb=>hs b (by unfold Dr;rw[List.filterMap_cons,hf];exact List.mem_cons_of_mem _ hb)) hr⟩
 exact all X.outer (fun _ hb=>hb) I.ok.Ds
theorem Inv.stack (I:Inv X pins σ H s):s.heap.FunFrames X.base X.stack:=by
 rcases I.ok.Cq with e|⟨e,hf⟩
 ·rw[e];exact I.Ds
 ·rw[e]
  obtain⟨m,hn,_⟩:=I.loc
  refine .cons (by rw[I.ok.kind];decide) hf hn ?_ I.Ds
  exact Heap.get?_none_of_le (Nat.le_trans I.ok.Gv I.ok.above)
theorem Inv.Fx (I:Inv X pins σ H s):∀ b∈Dr X.stack,b∈X.env.locals::X.fs:=fun b hb=>by
 rcases I.ok.Cq with e|⟨e,hf⟩
 ·rw[e] at hb;exact List.mem_cons_of_mem _ hb
 ·rw[e] at hb
  unfold Dr at hb
  rw[List.filterMap_cons,hf] at hb
  exact hb
theorem Inv.EM (I:Inv X pins σ H s):∀ b∈Dr X.stack,H b=none:=fun b hb=>by
 rcases List.mem_cons.mp (I.Fx b hb) with e|hb
 ·rw[e];exact I.free
 ·obtain⟨_,o,ho,_⟩:=I.ok.Ds.mem hb
  exact I.base.free b o ho (I.ok.Fs b hb) fun z=>I.ok.Ge b z hb
theorem Inv.step {g':Array GenState}{t':Nat}{d':Drawn}{ch:List Addr}(I:Inv X pins σ H s)
  (Gw:∀ b∈ch,(b∈X.ex∨X.C1.heap.objs.size<=b)/\b≠X.env.locals/\(∀ x c,X.env.cells.lookup x=some c->c≠b)/\∀ p∈X.pn++pins,p.1≠b)
  (keep:∀ b o,b≠X.env.locals->b∉X.fs->b∉ch->s.heap.get? b=some o->H b=none->h'.get? b=some o)
  (slot:∀ b o,b≠X.env.locals->b∈X.fs->b∉ch->s.heap.get? b=some o->H b=none->∃ sl,h'.get? b=some {o with slots:=sl}) (free:∀ b o,b∉ch->s.heap.get? b=some o->H b=none->H' b=none)
  (there:∀ b o,b∉ch->s.heap.get? b=some o->∃ o',h'.get? b=some o')
  (DK:∀ b xs,H b=some (.tup xs)->H' b=some (.tup xs)) (Dq:∀ b o u,H b=some (.CK o u)->H' b=some (.CK o u)) (EJ:∀ b ps,H b=some (.HX ps)->∃ more,H' b=some (.HX (ps++more)))
  (ns:∀ m,s.heap.Ns X.env.locals m->h'.Ns X.env.locals m) (CA:C0 X.prog X.w H' h') (hg:AllBare g') :
  Inv X pins σ H' {s with heap:=h',gens:=g',drawn:=d',toks:=t'}:=by
 have Oe:∀ b o,X.C1.heap.get? b=some o->b≠X.env.locals:=fun b o e=>Nat.ne_of_lt (Nat.lt_of_lt_of_le (Heap.lt_size e) I.ok.above)
 have LX:∀ b o,X.C1.heap.get? b=some o->b∉X.ex->b∉ch:=fun b o e hx hb=>by
  rcases (Gw b hb).1 with z|z
  ·exact hx z
  ·exact absurd (Nat.lt_of_lt_of_le (Heap.lt_size e) z) (Nat.lt_irrefl _)
 have cellK:∀ x c,X.env.cells.lookup x=some c->∀ v,s.heap.IsCell c v->h'.IsCell c v:=fun x c e v ⟨o,ho,hd⟩=>by
  have KI:c∉ch:=fun z=>(Gw c z).2.2.1 x c e rfl
  by_cases hc:c∈X.fs
  ·obtain⟨sl,q⟩:=slot c o (I.IP x c e) hc KI ho (I.Dt x c e)
   exact⟨_,q,hd⟩
  ·exact⟨o,keep c o (I.IP x c e) hc KI ho (I.Dt x c e),hd⟩
 refine⟨I.ok,I.os,hg,⟨fun b o e n hb hx=>?_,fun b o e n hb hx=>?_,fun b o e n hx=>?_,fun b o e hx=>?_,fun b xs e=>DK b xs (I.base.DK b xs e),fun b o xs e=>Dq b o xs (I.base.Dq b o xs e),fun b ps e=>?_⟩,?_,fun x c e=>?_,?_,fun x c e=>?_,fun p hp=>?_,CA,I.len⟩
 ·exact keep b o (Oe b o e) hb (LX b o e hx) (I.base.keep b o e n hb hx) (I.base.free b o e n hx)
 ·obtain⟨sl,e1⟩:=I.base.slot b o e n hb hx
  obtain⟨KJ,e2⟩:=slot b _ (Oe b o e) hb (LX b o e hx) e1 (I.base.free b o e n hx)
  exact⟨KJ,e2⟩
 ·obtain⟨o',e1⟩:=I.base.there b o e hx
  exact free b o' (LX b o e hx) e1 (I.base.free b o e n hx)
 ·obtain⟨o',e1⟩:=I.base.there b o e hx
  exact there b o' (LX b o e hx) e1
 ·obtain⟨m1,e1⟩:=I.base.EJ b ps e
  obtain⟨m2,e2⟩:=EJ b _ e1
  exact⟨m1++m2,by rw[e2,Array.append_assoc]⟩
 ·obtain⟨m,hn,hl⟩:=I.loc
  refine⟨m,ns m hn,fun i x v e1 e2 e3=>?_⟩
  obtain⟨u,r,l⟩:=hl i x v e1 e2 e3
  refine⟨u,r,?_⟩
  rcases l with l|⟨k,c,e,z⟩
  ·exact .inl l
  ·exact .inr ⟨k,c,e,cellK x c e _ z⟩
 ·obtain⟨v,z⟩:=I.cell x c e
  exact⟨v,cellK x c e v z⟩
 ·obtain⟨m,⟨o,_,_,ho,_⟩,_⟩:=I.loc
  exact free _ o (fun z=>(Gw _ z).2.1 rfl) ho I.free
 ·obtain⟨v,o,ho,hd⟩:=I.cell x c e
  exact free c o (fun z=>(Gw c z).2.2.1 x c e rfl) ho (I.Dt x c e)
 ·obtain⟨e,n,ne,nf,d⟩:=I.pin p hp
  have KI:p.1∉ch:=fun z=>(Gw p.1 z).2.2.2 p hp rfl
  exact⟨keep p.1 p.2 ne nf KI e n,free p.1 p.2 KI e n,ne,nf,d⟩
theorem Inv.un {t':Nat}(I:Inv X pins σ H s)(u:Un X.fs [] H H' s.heap h')(CA:C0 X.prog X.w H' h'):Inv X pins σ H' {s with heap:=h',toks:=t'}:=by
 obtain⟨m,⟨o,es,ep,ho,r⟩,_⟩:=id I.loc
 obtain⟨sl,hL⟩:=u.any ho I.free (by simp)
 exact I.step (g':=s.gens) (d':=s.drawn) (ch:=[]) (fun _ z=>nomatch z) (fun b o _ hb _ e n=>u.keep b o e n hb (by simp)) (fun b o _ hb _ e n=>u.slot b o e n hb (by simp)) (fun b o _ e n=>u.free b o e n (by simp)) (fun b o _ e=>u.there b o e (by simp)) u.DK u.Dq u.EJ (fun m' hm=>by
  obtain⟨o',Eu,ML,E7,r'⟩:=hm
  rw[ho] at E7;cases E7
  exact⟨_,Eu,ML,hL,r'⟩) CA I.bare
theorem Inv.call {g':Array GenState}{t':Nat}{d':Drawn}{ch:List Addr}(I:Inv X pins σ H s)(u:Un (Dr X.stack) ch H H' s.heap h')(CA:C0 X.prog X.w H' h')(hg:AllBare g')
  (Gw:∀ b∈ch,(b∈X.ex∨X.C1.heap.objs.size<=b)/\b≠X.env.locals/\(∀ x c,X.env.cells.lookup x=some c->c≠b)/\∀ p∈X.pn++pins,p.1≠b) :
  Inv X pins σ H' {s with heap:=h',gens:=g',drawn:=d',toks:=t'}:=by
 obtain⟨m,⟨o,es,ep,ho,r⟩,_⟩:=id I.loc
 obtain⟨sl,hL⟩:=u.any ho I.free fun z=>(Gw _ z).2.1 rfl
 exact I.step (ch:=ch) Gw (fun b o hL hb hc e n=>u.keep b o e n (fun z=>(List.mem_cons.mp (I.Fx b z)).elim hL hb) hc) (fun b o _ _ hc e n=>u.any e n hc) (fun b o hc e n=>u.free b o e n hc) (fun b o hc e=>u.there b o e hc) u.DK u.Dq u.EJ (fun m' hm=>by
  obtain⟨o',Eu,ML,E7,r'⟩:=hm
  rw[ho] at E7;cases E7
  exact⟨_,Eu,ML,hL,r'⟩) CA hg
theorem Inv.turned {t':Nat}{it:Addr}(I:Inv X pins σ H s)(k:∀ b o,b≠it->s.heap.get? b=some o->h'.get? b=some o)(hn:H it=none)(hL:it≠X.env.locals)
  (h1:it∈X.ex∨X.C1.heap.objs.size<=it) (h2:∀ x c,X.env.cells.lookup x=some c->c≠it) (h3:∀ p∈X.pn++pins,p.1≠it):Inv X pins σ H {s with heap:=h',toks:=t'}:=by
 have HY:∀ b u,H b=some u->b≠it:=fun b u e z=>by rw[z,hn] at e;cases e
 refine I.step (g':=s.gens) (d':=s.drawn) (ch:=[it]) (fun b hb=>?_) (fun b o _ _ hc e _=>k b o (fun z=>hc (by simp[z])) e) (fun b o _ _ hc e _=>⟨o.slots,k b o (fun z=>hc (by simp[z])) e⟩) (fun _ _ _ _ n=>n)
  (fun b o hc e=>⟨o,k b o (fun z=>hc (by simp[z])) e⟩) (fun _ _ e=>e) (fun _ _ _ e=>e) (fun b ps e=>⟨#[],by rw[e];simp⟩) (fun m hm=>?_) (fun b u e=>?_) I.bare
 ·have e:b=it:=by simpa using hb
  subst e
  exact⟨h1,hL,h2,h3⟩
 ·obtain⟨o,es,ep,ho,r⟩:=hm
  exact⟨o,es,ep,k _ o (Ne.symm hL) ho,r⟩
 ·refine(I.CA b u e).D8 (fun c v hc q=>k c v ?_ q) (fun _ q=>q) fun _ _ q=>q
  rcases hc with z|z
  ·rw[z];exact HY b u e
  ·exact HY c _ z
theorem Inv.tok (I:Inv X pins σ H s)(t:Nat):Inv X pins σ H {s with toks:=t}:=I.un (h':=s.heap) (t':=t) Un.refl I.CA
theorem Inv.kept {t':Nat}(I:Inv X pins σ H s)(k:∀ b u,s.heap.get? b=some u->h'.get? b=some u):Inv X pins σ H {s with heap:=h',toks:=t'}:=I.un (Un.kept k) (I.CA.kept k)
theorem Inv.laid {a:Addr}{o:HO}{t':Nat}(I:Inv X pins σ H s)(k:∀ b u,s.heap.get? b=some u->h'.get? b=some u)(hp:s.heap.objs.size<=a)(new:aP X.prog X.w (upd H a o) h' a o) :
  Inv X pins σ (upd H a o) {s with heap:=h',toks:=t'}:=I.un (Un.laid k hp (I.CA.fresh hp)) (I.CA.laid k hp new)
theorem Inv.write {x e:Addr}{o:HO}{t':Nat}(I:Inv X pins σ H s)(mu:KC (H x))(he:e=x∨H e=some (.own x))(k:∀ b u,b≠e->s.heap.get? b=some u->h'.get? b=some u)(J2:∃ u,h'.get? e=some u)
  (new:aP X.prog X.w (upd H x o) h' x o):Inv X pins σ (upd H x o) {s with heap:=h',toks:=t'}:=I.un (Un.write mu he k J2) (I.CA.write mu he k J2 new)
theorem Inv.FP {Ia:List (Addr×Obj)}(I:Inv X pins σ H s)(h:∀ p∈Ia,s.heap.get? p.1=some p.2/\H p.1=none/\p.1≠X.env.locals/\p.1∉X.fs/\∀ v,p.2.data≠.cell v):Inv X Ia σ H s:=
 ⟨I.ok,I.os,I.bare,I.base,I.loc,I.cell,I.free,I.Dt,fun p hp=>(List.mem_append.mp hp).elim (fun z=>I.pin p (List.mem_append_left _ z)) (h p),I.CA,I.len⟩
theorem ig {N:List Str}(hN:N.Nodup){i j:Nat}{x:Str}(a:N[i]? = some x)(b:N[j]? = some x):i=j:=by
 obtain⟨h1,e1⟩:=List.getElem?_eq_some_iff.mp a
 obtain⟨h2,e2⟩:=List.getElem?_eq_some_iff.mp b
 exact(List.getElem_inj hN).mp (e1.trans e2.symm)
theorem fC {M:Model}{A:Around}{E:Value->Shared->Prop}{i:Nat}{x:Str}{v:V}{u:Value}{Q:Unit->Shared->Prop}(I:Inv X pins σ H s)(hN:X.N.Nodup)(hi:X.N[i]? = some x)(hx:Loc X.env.scope x)(r:RelV v u)
  (h:∀ s',Inv X pins (σ.set i (some v)) H s'->(∃ a,Heap.SameBut a s.heap s'.heap/\(a=X.env.locals∨X.env.cells.lookup x=some a))->Q () s') (hf:X.fn x=true∨X.env.scope.names.lookup x=some .local:=by first|exact .inl rfl|exact .inr rfl|assumption):wpAny M A (storeName X.env x u) Q E s:=by
 obtain⟨m,hn,hl⟩:=id I.loc
 have IQ:(X.env.scope.kind == .class||(X.env.scope.kind == .module&&X.env.locals != X.env.globals))=false:=by rw[I.ok.kind];rfl
 have KN:i < σ.length:=by rw[I.len];exact(List.getElem?_eq_some_iff.mp hi).1
 have IP:=I.IP
 have tracked:∀ {a:Addr}{h':Heap},(∃ o,s.heap.get? a=some o/\H a=none)->Heap.SameBut a s.heap h'->C0 X.prog X.w H h':=fun {a h'} ha hs b ob e=>by
  obtain⟨_,_,FQ⟩:=ha
  refine(I.CA b ob e).D8 (fun c w' hc q=>(hs.2 c ?_).trans q) (fun _ q=>q) fun _ _ q=>q
  rintro rfl
  rcases hc with rfl|hc
  ·rw[FQ] at e;cases e
  ·rw[FQ] at hc;cases hc
 rcases hx with hk|hk
 ·refine wpAny_storeName_local hk hn (fun h' Ek hs=>?_) IQ
  obtain⟨oL,_,_,Qy,_⟩:=id hn
  refine h _ ⟨I.ok,I.os,I.bare,⟨fun b o e n hb hx=>?_,fun b o e n hb hx=>?_,I.base.free,fun b o e hx=>?_,I.base.DK,I.base.Dq,I.base.EJ⟩,⟨_,Ek,fun j y v' e1 e2 e3=>?_⟩,fun y c e=>?_,I.free,I.Dt,fun p hp=>?_,tracked ⟨oL,Qy,I.free⟩ hs,by simpa using I.len⟩ ⟨_,hs,.inl rfl⟩
  ·exact(hs.2 b (Nat.ne_of_lt (Nat.lt_of_lt_of_le (Heap.lt_size e) I.ok.above))).trans (I.base.keep b o e n hb hx)
  ·obtain⟨sl,e1⟩:=I.base.slot b o e n hb hx
   exact⟨sl,(hs.2 b (Nat.ne_of_lt (Nat.lt_of_lt_of_le (Heap.lt_size e) I.ok.above))).trans e1⟩
  ·obtain⟨o',e1⟩:=I.base.there b o e hx
   exact⟨o',(hs.2 b (Nat.ne_of_lt (Nat.lt_of_lt_of_le (Heap.lt_size e) I.ok.above))).trans e1⟩
  ·by_cases hj:j=i
   ·subst hj
    rw[hi] at e1;cases e1
    rw[List.getElem?_set_self KN] at e2
    cases e2
    exact⟨u,r,.inl ⟨hk,by simp⟩⟩
   ·rw[List.getElem?_set_ne (Ne.symm hj)] at e2
    obtain⟨u',r',q⟩:=hl j y v' e1 e2 e3
    refine⟨u',r',?_⟩
    rcases q with ⟨k,e⟩|⟨k,c,e,z⟩
    ·refine .inl ⟨k,?_⟩
     have:y≠x:=fun e=>hj (ig hN e1 (e ▸ hi))
     simp[this,e]
    ·exact .inr ⟨k,c,e,z.sameBut hs (IP y c e)⟩
  ·obtain⟨w',z⟩:=I.cell y c e
   exact⟨w',z.sameBut hs (IP y c e)⟩
  ·obtain⟨e,n,ne,nf,d⟩:=I.pin p hp
   exact⟨(hs.2 p.1 ne).trans e,n,ne,nf,d⟩
 ·have Hs:X.fn x=true:=by
   rcases hf with z|z
   ·exact z
   ·rw[z] at hk;cases hk
  obtain⟨c,hc⟩:=I.ok.has x (.inl hk)
  obtain⟨w',z⟩:=I.cell x c hc
  refine wpAny_storeName_cell I.ok.kind hk hc z (fun h' J4 hs=>?_)
  obtain⟨oc,Of,MM⟩:=id z
  refine h {s with heap:=h'} ⟨I.ok,I.os,I.bare,⟨fun b o e n hb hx=>?_,fun b o e n hb hx=>?_,I.base.free,fun b o e hx=>?_,I.base.DK,I.base.Dq,I.base.EJ⟩,⟨m,hn.sameBut hs (Ne.symm (IP x c hc)),fun j y v' e1 e2 e3=>?_⟩,fun y c' e=>?_,I.free,I.Dt,fun p hp=>?_,tracked ⟨oc,Of,I.Dt x c hc⟩ hs,by simpa using I.len⟩ ⟨c,hs,.inr hc⟩
  ·exact(hs.2 b (Nat.ne_of_lt (Nat.lt_of_lt_of_le (Heap.lt_size e) (I.ok.J3 x c Hs hc)))).trans (I.base.keep b o e n hb hx)
  ·obtain⟨sl,e1⟩:=I.base.slot b o e n hb hx
   exact⟨sl,(hs.2 b (Nat.ne_of_lt (Nat.lt_of_lt_of_le (Heap.lt_size e) (I.ok.J3 x c Hs hc)))).trans e1⟩
  ·obtain⟨o',e1⟩:=I.base.there b o e hx
   exact⟨o',(hs.2 b (Nat.ne_of_lt (Nat.lt_of_lt_of_le (Heap.lt_size e) (I.ok.J3 x c Hs hc)))).trans e1⟩
  ·by_cases hj:j=i
   ·subst hj
    rw[hi] at e1;cases e1
    rw[List.getElem?_set_self KN] at e2
    cases e2
    exact⟨u,r,.inr ⟨.inl hk,c,hc,J4⟩⟩
   ·rw[List.getElem?_set_ne (Ne.symm hj)] at e2
    obtain⟨u',r',q⟩:=hl j y v' e1 e2 e3
    refine⟨u',r',?_⟩
    rcases q with q|⟨k,c',e,z'⟩
    ·exact .inl q
    ·refine .inr ⟨k,c',e,z'.sameBut hs ?_⟩
     rintro rfl
     exact hj (ig hN e1 (I.ok.inj _ _ _ e hc ▸ hi))
  ·by_cases Og:c'=c
   ·subst Og;exact⟨_,J4⟩
   ·obtain⟨w2,z2⟩:=I.cell y c' e
    exact⟨w2,z2.sameBut hs Og⟩
  ·obtain⟨e,n,ne,nf,d⟩:=I.pin p hp
   refine⟨(hs.2 p.1 ?_).trans e,n,ne,nf,d⟩
   intro q
   rw[q,Of] at e
   have q':oc=p.2:=Option.some.inj e
   exact d w' (by rw[<- q'];exact MM)
theorem ij {M:Model}{A:Around}{E:Value->Shared->Prop}{i:Nat}{x:Str}{v:V}{u:Value}{Q:Unit->Shared->Prop}(I:Inv X pins σ H s)(hN:X.N.Nodup)(hi:X.N[i]? = some x)(hx:Loc X.env.scope x)(r:RelV v u)
  (h:∀ s',Inv X pins (σ.set i (some v)) H s'->Q () s') (hf:X.fn x=true∨X.env.scope.names.lookup x=some .local:=by first|exact .inl rfl|exact .inr rfl|assumption):wpAny M A (storeName X.env x u) Q E s:=
 fC I hN hi hx r (fun s' I' _=>h s' I') hf
theorem Inv.Ib {s':Shared}{ch:List Addr}(I:Inv X pins σ H s)(ho:s'.os=s.os)(u:Un (Dr X.stack) ch H H' s.heap s'.heap)(CA:C0 X.prog X.w H' s'.heap)(hg:AllBare s'.gens)
  (Gw:∀ b∈ch,(b∈X.ex∨X.C1.heap.objs.size<=b)/\b≠X.env.locals/\(∀ x c,X.env.cells.lookup x=some c->c≠b)/\∀ p∈X.pn++pins,p.1≠b):Inv X pins σ H' s':=by
 obtain⟨h',g',d',t',o'⟩:=s'
 have e:o'=s.os:=ho
 subst e
 exact I.call (g':=g') (t':=t') (d':=d') u CA hg Gw
end
noncomputable abbrev XK:=Value->Option Addr->Hp->Prop
noncomputable abbrev St:=List (Option V)
noncomputable abbrev VK:=V->Hp->Prop
noncomputable abbrev TE:=St->Hp->VK->Prop
noncomputable abbrev TT:=St->Hp->(Bool->Hp->Prop)->Prop
noncomputable abbrev TA:=St->Hp->(List V->Hp->Prop)->Prop
structure Ends where
 nx:St->Hp->Prop
 rt:VK
 bk:St->Hp->Prop:=fun _ _=>False
 ct:St->Hp->Prop:=fun _ _=>False
noncomputable abbrev TS:=Ends->St->Hp->Prop
def EP (X:Cx)(pins:List (Addr×Obj))(σ:St)(Q:VK)(u:Value)(s':Shared):Prop:=∃ v H',Inv X pins σ H' s'/\RelV v u/\Q v H'
def TP (X:Cx)(pins:List (Addr×Obj))(σ:St)(Q:Bool->Hp->Prop)(b:Bool)(s':Shared):Prop:=∃ H',Inv X pins σ H' s'/\Q b H'
def AP (X:Cx)(pins:List (Addr×Obj))(σ:St)(Q:List V->Hp->Prop)(us:List Value)(s':Shared):Prop:=∃ vs H',Inv X pins σ H' s'/\Vals vs us/\Q vs H'
def SP (X:Cx)(pins:List (Addr×Obj))(D:Ends)(f:Flow)(s':Shared):Prop:=
 match f with
 | .next=>∃ CB H',Inv X pins CB H' s'/\D.nx CB H'
 | .brk=>∃ CB H',Inv X pins CB H' s'/\D.bk CB H'
 | .cont=>∃ CB H',Inv X pins CB H' s'/\D.ct CB H'
 | .ret u=>∃ v CB H',Inv X pins CB H' s'/\RelV v u/\D.rt v H'
def PE (X:Cx)(e:Expr)(t:TE):Prop:=
 ∀ (pins:List (Addr×Obj)) (s:Shared) (σ:St) (H:Hp) (Q:VK),Inv X pins σ H s->t σ H Q->wpAny (model X.prog X.w) X.A (eval e X.env) (EP X pins σ Q) X.xe s
def PT (X:Cx)(e:Expr)(t:TT):Prop:=
 ∀ (pins:List (Addr×Obj)) (s:Shared) (σ:St) (H:Hp) (Q:Bool->Hp->Prop),Inv X pins σ H s->t σ H Q->wpAny (model X.prog X.w) X.A (isTrue e X.env (eval e X.env)) (TP X pins σ Q) X.xe s
def PW (X:Cx)(e:Expr)(t:TT):Prop:=
 ∀ (whole:Sem Value) (pins:List (Addr×Obj)) (s:Shared) (σ:St) (H:Hp) (Q:Bool->Hp->Prop),Inv X pins σ H s->t σ H Q->wpAny (model X.prog X.w) X.A (isTrue e X.env whole) (TP X pins σ Q) X.xe s
theorem PW.pt {X:Cx}{e:Expr}{t:TT}(h:PW X e t):PT X e t:=h _
def PA (X:Cx)(es:List Expr)(t:TA):Prop:=
 ∀ (pos:Pos) (pins:List (Addr×Obj)) (s:Shared) (σ:St) (H:Hp) (Q:List V->Hp->Prop),Inv X pins σ H s->t σ H Q->wpAny (model X.prog X.w) X.A (spliced (backTo pos (starEach es X.env))) (AP X pins σ Q) X.xe s
def PS (X:Cx)(st:Stmt)(t:TS):Prop:=
 ∀ (pins:List (Addr×Obj)) (s:Shared) (σ:St) (H:Hp) (D:Ends),Inv X pins σ H s->t D σ H->wpAny (model X.prog X.w) X.A (exec st X.env) (SP X pins D) X.xe s
def Fy (X:Cx)(st:List Stmt)(t:TS):Prop:=
 ∀ (pins:List (Addr×Obj)) (s:Shared) (σ:St) (H:Hp) (D:Ends),Inv X pins σ H s->t D σ H->wpAny (model X.prog X.w) X.A (execs st X.env) (SP X pins D) X.xe s
theorem CF {α:Type}{t:Sem α}{Q Q':α->Shared->Prop}{M:Model}{A:Around}{E:Value->Shared->Prop}{s:Shared}(h:wpAny M A t Q E s)(hQ:∀ a s,Q a s->Q' a s):wpAny M A t Q' E s:=wpAny_mono h hQ fun _ _ x=>x
section
variable {X:Cx}
def ra (i:Nat):TE:=fun σ H Q=>∃ v,σ[i]? = some (some v)/\Q v H
def tC (v:V):TE:=fun _ H Q=>Q v H
theorem mG {i:Nat}{x:Str}{pos:Pos}(hN:X.N[i]? = some x)(hv:KG X.env.scope x)(hd:(x == ("__debug__" : Str))=false:=by decide) (GD:(x == ("__classdict__" : Str))=false:=by decide):PE X (.Name x pos) (ra i):=by
 intro pins s σ H Q I h
 obtain⟨v,e,h⟩:=h
 obtain⟨m,hn,hl⟩:=I.loc
 obtain⟨u,r,l⟩:=hl i x v hN e hv
 have fin:EP X pins σ Q u s:=⟨v,H,I,r,h⟩
 rcases l with ⟨hk,hm⟩|⟨hk,c,hc,Ic⟩
 ·exact wpAny_Name (wpAny_loadName_local I.ok.kind hk hn hm fin) hd
 ·rcases hk with hk|hk
  ·exact wpAny_Name (wpAny_loadName_cell I.ok.kind hk hc Ic fin) hd
  ·exact wpAny_Name (wpAny_loadName_free I.ok.kind hk hc Ic fin GD) hd
theorem vV {i j pos}:PE X (.Constant (.int i) j pos) (tC (.int i)):=fun _ _ _ H _ I h=>wpAny_Constant_int ⟨.int i,H,I.tok _,⟨_,rfl⟩,h⟩
theorem yl {b j pos}:PE X (.Constant (.bool b) j pos) (tC (.bl b)):=fun _ _ _ H _ I h=>Constant_bool ⟨.bl b,H,I,rfl,h⟩
theorem vW {j pos}:PE X (.Constant .none j pos) (tC .CD):=fun _ _ _ H _ I h=>Constant_none ⟨.CD,H,I,rfl,h⟩
theorem d6 {x j pos}:PE X (.Constant (.str x) j pos) (tC (.str x)):=fun _ _ _ H _ I h=>Calls.Constant_str ⟨.str x,H,I.tok _,⟨_,rfl⟩,h⟩
def Gl (X:Cx)(x:Str):Prop:=X.env.kindOf x=some .globalImplicit
theorem ck {E:Value->Shared->Prop}{pins:List (Addr×Obj)}{s:Shared}{σ:St}{H:Hp}{x:Str}{u:Value}{pos:Pos}{Q:Value->Shared->Prop}(I:Inv X pins σ H s)(hg:Gl X x)(hm:X.mg x=some u)(h:Q u s)
  (hd:(x == ("__debug__" : Str))=false:=by decide):wpAny (model X.prog X.w) X.A (eval (.Name x pos) X.env) Q E s:=
 Calls.Name_function_global I.ok.kind hg (Calls.loadGlobal_global (by rw[I.ok.glob];exact I.mod.glob.keeps I.bk) hm h) hd
theorem bO {E:Value->Shared->Prop}{pins:List (Addr×Obj)}{s:Shared}{σ:St}{H:Hp}{x:Str}{u:Value}{pos:Pos}{Q:Value->Shared->Prop}(I:Inv X pins σ H s)(hg:Gl X x)(hm:X.mg x=none)(hv:bootBuiltins x=some u)(h:Q u s)
  (hn:x≠"__name__":=by decide) (hd:(x == ("__debug__" : Str))=false:=by decide):wpAny (model X.prog X.w) X.A (eval (.Name x pos) X.env) Q E s:=by
 obtain⟨mb,h1,h2⟩:=I.mod.blt
 exact Calls.Name_function_global I.ok.kind hg (Calls.loadGlobal_builtin (by rw[I.ok.glob];exact I.mod.glob.keeps I.bk) hm (by rw[I.ok.blt];exact h1.keeps I.bk) ((h2 x hn).trans hv) h) hd
theorem rb {x:Str}{v:V}{u:Value}{pos:Pos}(hg:Gl X x)(hm:X.mg x=some u)(r:RelV v u)(hd:(x == ("__debug__" : Str))=false:=by decide):PE X (.Name x pos) (tC v):=
 fun _ _ _ H _ I h=>ck I hg hm ⟨v,H,I,r,h⟩ hd
theorem rf {x:Str}{v:V}{u:Value}{pos:Pos}(hg:Gl X x)(hm:X.mg x=none)(hv:bootBuiltins x=some u)(r:RelV v u)(hn:x≠"__name__":=by decide) (hd:(x == ("__debug__" : Str))=false:=by decide):PE X (.Name x pos) (tC v):=
 fun _ _ _ H _ I h=>bO I hg hm hv ⟨v,H,I,r,h⟩ hn hd
variable {a b:Expr}{ta tb:TE}{pos:Pos}
def PC (X:Cx)(op:CmpOp)(a b:Expr)(t:TE):Prop:=
 ∀ (pins:List (Addr×Obj)) (s:Shared) (σ:St) (H:Hp) (Q:VK),Inv X pins σ H s->t σ H Q->
  wpAny (model X.prog X.w) X.A (eval a X.env) (fun v CC=>wpAny (model X.prog X.w) X.A (eval b X.env) (fun u E8=>wpAny (model X.prog X.w) X.A (compareOp op v u) (EP X pins σ Q) X.xe E8) X.xe CC) X.xe s
def tB (t:TE):TT:=fun σ H Q=>t σ H fun x H1=>∃ c,x=.bl c/\Q c H1
theorem mH {op:CmpOp}{t:TE}(h:PC X op a b t)(h1:behindInMarks op b=false:=by first|exact GF _ (by decide) (by decide)|rfl):PE X (.Compare a [op] [b] pos) t:=fun pins s σ H Q I hw=>wpAny_Compare1 (h pins s σ H Q I hw) h1
theorem mJ {op:CmpOp}{t:TE}(h:PC X op a b t)(h1:behindInMarks op b=false:=by first|exact GF _ (by decide) (by decide)|rfl):PT X (.Compare a [op] [b] pos) (tB t):=by
 intro pins s σ H Q I hw
 refine wpAny_isTrue_Compare1 (CF (h pins s σ H _ I hw) fun v s1 h1=>CF h1 fun u s2 h2=>CF h2 fun c s3 ⟨x,H1,I1,r1,q1⟩=>?_) h1
 obtain⟨d,rfl,q⟩:=q1
 cases r1
 exact wpAny_truthy_bool ⟨H1,I1,q⟩
variable {tA LY:TT}{rest:List Expr}
def ym (t u:TT):TT:=fun σ H Q=>t σ H fun c H1=>if c=true then u σ H1 Q else Q false H1
def Qz (t u:TT):TT:=fun σ H Q=>t σ H fun c H1=>if c=true then Q true H1 else u σ H1 Q
def BA (t:TT):TT:=fun σ H Q=>t σ H fun c H1=>Q (!c) H1
theorem rg (ha:PT X a tA):PW X (.BoolOp .And [a] pos) tA:=by
 intro wh pins s σ H Q I h
 refine isTrue_and (CF (ha pins s σ H Q I h) fun c s1 e=>?_)
 cases c with
 | true=>exact isTrue_and_nil e
 | false=>exact e
theorem vX (ha:PT X a tA):PW X (.BoolOp .Or [a] pos) tA:=by
 intro wh pins s σ H Q I h
 refine isTrue_or (CF (ha pins s σ H Q I h) fun c s1 e=>?_)
 cases c with
 | false=>exact isTrue_or_nil e
 | true=>exact e
theorem vY (ha:PT X a tA)(hb:PW X (.BoolOp .And (b::rest) pos) LY):PW X (.BoolOp .And (a::b::rest) pos) (ym tA LY):=by
 intro wh pins s σ H Q I h
 refine isTrue_and (CF (ha pins s σ H _ I h) fun c s1 ⟨H1,I1,q1⟩=>?_)
 cases c with
 | true=>exact hb wh pins s1 σ H1 Q I1 q1
 | false=>exact⟨H1,I1,q1⟩
theorem yn (ha:PT X a tA)(hb:PW X (.BoolOp .Or (b::rest) pos) LY):PW X (.BoolOp .Or (a::b::rest) pos) (Qz tA LY):=by
 intro wh pins s σ H Q I h
 refine isTrue_or (CF (ha pins s σ H _ I h) fun c s1 ⟨H1,I1,q1⟩=>?_)
 cases c with
 | true=>exact⟨H1,I1,q1⟩
 | false=>exact hb wh pins s1 σ H1 Q I1 q1
theorem vZ (ha:PT X a tA):PT X (.UnaryOp .Not a pos) (BA tA):=by
 intro pins s σ H Q I h
 exact isTrue_not (ha pins s σ H (fun c H1=>Q (!c) H1) I h)
theorem mK {op}{t:TE}(h:PE X a t):PE X (.BoolOp op [a] pos) t:=fun pins s σ H Q I hw=>BoolOp_one (h pins s σ H Q I hw)
end
def DC (K:PySem.W.Frag)(H:Hp)(a:Addr)(xs:List V):Prop:=
 Rd H a (.lst xs)∨
  ∃ (o:Obj) (its:Array Value) (n:Nat),K.lookup a=some o/\o.cls=.type "list"/\o.dict=none/\o.data=.seq its n/\its.size<=sizeLine/\Vals xs its.toList
def DL (K:PySem.W.Frag)(H:Hp)(a:Addr)(xs:List V):Prop:=
 Rd H a (.tup xs)∨
  ∃ (o:Obj) (its:Array Value) (n:Nat),K.lookup a=some o/\o.cls=.type "tuple"/\o.data=.seq its n/\its.size<=sizeLine/\Vals xs its.toList
noncomputable def BC:Value->Option V
 | .none=>some .CD
 | .bool b=>some (.bl b)
 | .int i _=>some (.int i)
 | .str x _=>some (.str x)
 | .bytes b _=>some (.IJ b)
 | .float b _=>some (.MH b)
 | .ref a=>some (.ref a)
 | .type n=>some (.ty n)
 | _=>none
theorem RelV.abs {x:V}{u:Value}(r:RelV x u):BC u=some x:=by
 cases x with
 | CD=>cases r;rfl
 | bl _=>cases r;rfl
 | int _=>obtain⟨t,rfl⟩:=r;rfl
 | str _=>obtain⟨t,rfl⟩:=r;rfl
 | IJ _=>obtain⟨t,rfl⟩:=r;rfl
 | MH _=>obtain⟨t,rfl⟩:=r;rfl
 | ref _=>cases r;rfl
 | ty _=>cases r;rfl
theorem RelV.inj {x y:V}{u:Value}(r:RelV x u)(q:RelV y u):x=y:=Option.some.inj (r.abs.symm.trans q.abs)
theorem Vals.inj:∀ {xs ys:List V}{us:List Value},Vals xs us->Vals ys us->xs=ys
 | _,_,_,.nil,.nil=>rfl
 | _,_,_,.cons r t,.cons r' t'=>by rw[r.inj r',Vals.inj t t']
section
variable {X:Cx}{pins:List (Addr×Obj)}{σ:St}{H:Hp}{s:Shared}{a:Addr}{xs ys:List V}
theorem DL.of {K:PySem.W.Frag}(h:H a=some (.tup xs)):DL K H a xs:=.inl (.inl h)
theorem Inv.list (I:Inv X pins σ H s)(h:DC X.K H a xs):∃ its:List Value,Vals xs its/\PlainL s.heap a its.toArray/\xs.length<=sizeLine:=by
 rcases h with h|⟨o,its,n,hk,hc,hd,hs,hz,r⟩
 ·obtain⟨z,its,n,r,e⟩:=h.ok I.CA
  exact⟨its,r,⟨_,n,e,rfl,rfl,rfl⟩,z⟩
 ·refine⟨its.toList,r,⟨o,n,I.EL a o hk,hc,hd,by simpa using hs⟩,?_⟩
  have e:=r.length
  simp only[Array.length_toList] at e
  omega
theorem Inv.tuple (I:Inv X pins σ H s)(h:DL X.K H a xs):∃ its:List Value,Vals xs its/\IsTup s.heap a its.toArray/\xs.length<=sizeLine:=by
 rcases h with h|⟨o,its,n,hk,hc,hs,hz,r⟩
 ·obtain⟨z,its,r,p⟩:=h.ok I.CA
  exact⟨its,r,p,z⟩
 ·refine⟨its.toList,r,⟨o,I.EL a o hk,hc,n,by simpa using hs⟩,?_⟩
  have e:=r.length
  simp only[Array.length_toList] at e
  omega
theorem Inv.C9 (I:Inv X pins σ H s)(h:DC X.K H a xs)(h':DC X.K H a ys):xs=ys:=by
 obtain⟨its,r,⟨o,n,e,_,_,d⟩,_⟩:=I.list h
 obtain⟨its',r',⟨o',n',e',_,_,d'⟩,_⟩:=I.list h'
 rw[e] at e';cases e'
 rw[d] at d'
 injection d' with d1 _
 have:its=its':=by simpa using congrArg Array.toList d1
 subst this
 exact r.inj r'
theorem Inv.DX (I:Inv X pins σ H s)(h:DL X.K H a xs)(h':DL X.K H a ys):xs=ys:=by
 obtain⟨its,r,⟨o,e,_,n,d⟩,_⟩:=I.tuple h
 obtain⟨its',r',⟨o',e',_,n',d'⟩,_⟩:=I.tuple h'
 rw[e] at e';cases e'
 rw[d] at d'
 injection d' with d1 _
 have:its=its':=by simpa using congrArg Array.toList d1
 subst this
 exact r.inj r'
end
noncomputable abbrev Cx.EN (X:Cx)(E:Value->Shared->Prop):Cx:={X with xe:=E}
noncomputable abbrev Cx.Di (X:Cx):Cx:=X.EN fun _ _=>False
theorem Cx.Ok.EN {X:Cx}(ok:X.Ok)(E:Value->Shared->Prop):(X.EN E).Ok:=
 ⟨ok.mod,ok.kind,ok.glob,ok.blt,ok.above,ok.inj,ok.has,ok.J3,ok.hd,ok.frames,ok.Cq,ok.KH,ok.bs,ok.Gv,ok.Gd,ok.Ge,ok.Ds,ok.Fs⟩
theorem Cx.Ok.DY {X:Cx}{E:Value->Shared->Prop}(ok:(X.EN E).Ok):X.Ok:=
 ⟨ok.mod,ok.kind,ok.glob,ok.blt,ok.above,ok.inj,ok.has,ok.J3,ok.hd,ok.frames,ok.Cq,ok.KH,ok.bs,ok.Gv,ok.Gd,ok.Ge,ok.Ds,ok.Fs⟩
section
variable {X:Cx}{pins:List (Addr×Obj)}{σ:St}{H:Hp}{s:Shared}{E:Value->Shared->Prop}
theorem Inv.EN (I:Inv X pins σ H s)(E:Value->Shared->Prop):Inv (X.EN E) pins σ H s:=⟨I.ok.EN E,I.os,I.bare,I.base,I.loc,I.cell,I.free,I.Dt,I.pin,I.CA,I.len⟩
theorem Inv.DY (I:Inv (X.EN E) pins σ H s):Inv X pins σ H s:=⟨I.ok.DY,I.os,I.bare,I.base,I.loc,I.cell,I.free,I.Dt,I.pin,I.CA,I.len⟩
end
section
variable {X:Cx}{st:Stmt}{rest:List Stmt}{t u:TS}{e:Expr}{te:TE}{pos:Pos}
def mL:TS:=fun D σ H=>D.nx σ H
def BD (t u:TS):TS:=fun D σ H=>t {D with nx:=u D} σ H
theorem gm:Fy X [] mL:=fun _ _ σ H _ I h=>wpAny_execs_nil ⟨σ,H,I,h⟩
theorem c6 (h1:PS X st t)(h2:Fy X rest u):Fy X (st::rest) (BD t u):=by
 intro pins s σ H D I h
 refine wpAny_execs_cons (CF (h1 pins s σ H {D with nx:=u D} I h) fun f s1 q=>?_)
 cases f with
 | next=>
  obtain⟨CB,H',I',q⟩:=q
  exact h2 pins s1 CB H' D I' q
 | ret v=>exact q
 | brk=>exact q
 | cont=>exact q
def v5:TS:=fun D σ H=>D.bk σ H
def yo:TS:=fun D σ H=>D.ct σ H
theorem rh:PS X (.Pass pos) mL:=fun _ _ σ H _ I h=>wpAny_Pass ⟨σ,H,I,h⟩
theorem mM:PS X (.Break pos) v5:=fun _ _ σ H _ I h=>wpAny_Break ⟨σ,H,I,h⟩
theorem ik:PS X (.Continue pos) yo:=fun _ _ σ H _ I h=>wpAny_Continue ⟨σ,H,I,h⟩
theorem Inv.quiet {pins:List (Addr×Obj)}{σ:St}{H:Hp}{s:Shared}(I:Inv X pins σ H s):interactive X.env=false:=by simp[interactive,I.ok.kind]
theorem v7 {x j pos pos'}:PS X (.Expr (.Constant (.str x) j pos) pos') mL:=fun _ s σ H _ I h=>wpAny_Expr (Calls.Constant_str (show SP X _ _ .next {s with toks:=s.toks+1} from ⟨σ,H,I.tok _,h⟩)) I.quiet
def yp (te:TE):TS:=fun D σ H=>te σ H fun _ H1=>D.nx σ H1
theorem gn (he:PE X e te)(hs:swapsWith e none pos.line X.env=pure false:=by rfl):PS X (.Expr e pos) (yp te):=by
 intro pins s σ H D I h
 exact wpAny_Expr_any (CF (he pins s σ H _ I h) fun v s1 ⟨x,H1,I1,r1,q1⟩=>⟨σ,H1,I1,q1⟩) I.quiet hs
def BE (te:TE):TS:=fun D σ H=>te σ H D.rt
theorem mO (he:PE X e te):PS X (.Return (some e) pos) (BE te):=by
 intro pins s σ H D I h
 exact wpAny_Return_some (CF (he pins s σ H _ I h) fun v s1 ⟨x,H1,I1,r1,q1⟩=>⟨x,σ,H1,I1,r1,q1⟩)
def yq:TS:=fun D _ H=>D.rt .CD H
theorem rj:PS X (.Return none pos) yq:=fun _ _ σ H _ I h=>wpAny_Return_none ⟨.CD,σ,H,I,rfl,h⟩
def BF (c:TT)(t u:TS):TS:=fun D σ H=>c σ H fun b H1=>if b=true then t D σ H1 else u D σ H1
theorem yr {c:Expr}{a b:List Stmt}{tc:TT}(hc:PT X c tc)(ha:Fy X a t)(hb:Fy X b u):PS X (.If c a b pos) (BF tc t u):=by
 intro pins s σ H D I h
 refine wpAny_If (CF (hc pins s σ H _ I h) fun d s1 ⟨H1,I1,q1⟩=>?_)
 cases d with
 | true=>exact ha pins s1 σ H1 D I1 q1
 | false=>exact hb pins s1 σ H1 D I1 q1
def v8:TS:=fun _ _ _=>False
theorem mP:PS X st v8:=fun _ _ _ _ _ _ h=>h.elim
end
noncomputable abbrev TG:=V->St->Hp->(St->Hp->Prop)->Prop
noncomputable abbrev Ie:=List V->St->Hp->(St->Hp->Prop)->Prop
def PG (X:Cx)(target:Expr)(t:TG):Prop:=
 ∀ (pins:List (Addr×Obj)) (s:Shared) (σ:St) (H:Hp) (v:V) (u:Value) (Q:St->Hp->Prop),Inv X pins σ H s->RelV v u->t v σ H Q->
  wpAny (model X.prog X.w) X.A (assign target X.env u) (fun _ s'=>∃ CB H',Inv X pins CB H' s'/\Q CB H') X.xe s
def KO (X:Cx)(ts:List Expr)(t:Ie):Prop:=
 ∀ (pins:List (Addr×Obj)) (s:Shared) (σ:St) (H:Hp) (vs:List V) (us:List Value) (Q:St->Hp->Prop),Inv X pins σ H s->Vals vs us->t vs σ H Q->
  wpAny (model X.prog X.w) X.A (assignInOrder ((assignEach ts X.env).map (·.2)) us) (fun _ s'=>∃ CB H',Inv X pins CB H' s'/\Q CB H') X.xe s
noncomputable abbrev v9:=V->V->V->Hp->(Hp->Prop)->Prop
def yt (X:Cx)(t:v9):Prop:=
 ∀ (pins:List (Addr×Obj)) (s:Shared) (σ:St) (H:Hp) (o i v:V) (ov iv u:Value) (Q:Hp->Prop),Inv X pins σ H s->RelV o ov->RelV i iv->RelV v u->t o i v H Q->
  wpAny (model X.prog X.w) X.A (setItem ov iv u) (fun _ s'=>∃ H',Inv X pins σ H' s'/\Q H') X.xe s
section
variable {X:Cx}{pos:Pos}
def mQ (i:Nat):TG:=fun v σ H Q=>Q (σ.set i (some v)) H
theorem rl {i:Nat}{x:Str}(hN:X.N.Nodup)(hi:X.N[i]? = some x)(hx:Loc X.env.scope x)(hf:X.fn x=true∨X.env.scope.names.lookup x=some .local:=by first|exact .inl rfl|exact .inr rfl|assumption):PG X (.Name x pos) (mQ i):=by
 intro pins s σ H v u Q I r h
 exact wpAny_assign_Name (ij I hN hi hx r (fun s' I'=>⟨_,H,I',h⟩) hf)
def yu:Ie:=fun vs σ H Q=>vs=[]/\Q σ H
def tN (t:TG)(u:Ie):Ie:=fun vs σ H Q=>∃ v r,vs=v::r/\t v σ H fun CB H'=>u r CB H' Q
theorem rn:KO X [] yu:=by
 intro pins s σ H vs us Q I r h
 obtain⟨e,h⟩:=h
 subst e
 cases r
 exact assignInOrder_nil ⟨σ,H,I,h⟩
theorem mR {e:Expr}{es:List Expr}{t:TG}{u:Ie}(h1:PG X e t)(h2:KO X es u)
  (hs:(assignEach (e::es) X.env).map (·.2)=assign e X.env::(assignEach es X.env).map (·.2):=by rfl):KO X (e::es) (tN t u):=by
 intro pins s σ H vs us Q I r h
 obtain⟨v,vr,e1,h⟩:=h
 subst e1
 cases r with
 | cons r rr=>
  rw[hs]
  refine assignInOrder_cons (CF (h1 pins s σ H _ _ _ I r h) fun _ s1 ⟨Oh,H1,I1,q1⟩=>?_)
  exact h2 pins s1 Oh H1 _ _ Q I1 rr q1
def BG (to ti:TE)(t:v9):TG:=fun v σ H Q=>to σ H fun o H1=>ti σ H1 fun i H2=>t o i v H2 fun H3=>Q σ H3
theorem wa {o i:Expr}{to ti:TE}{t:v9}(ho:PE X o to)(hi:PE X i ti)(hs:yt X t)
  (ha:∀ v,assign (.Subscript o i pos) X.env v=(do
   let ov <- holding [v] (eval o X.env)
   let iv <- holding [v,ov] (eval i X.env)
   standAt pos
   holding [v,ov,iv] (setItem ov iv v)
   release [v,ov,iv] []):=by intro _;rfl):PG X (.Subscript o i pos) (BG to ti t):=by
 intro pins s σ H v u Q I r h
 rw[ha]
 refine wpAny_bind (wpAny_holding (CF (ho pins s σ H _ I h) fun ov s1 ⟨x,H1,I1,r1,q1⟩=>?_))
 refine wpAny_bind (wpAny_holding (CF (hi pins s1 σ H1 _ I1 q1) fun iv s2 ⟨y,H2,I2,r2,q2⟩=>?_))
 refine wpAny_bind (wpAny_standAt (wpAny_bind (wpAny_holding (CF (hs pins s2 σ H2 x y v ov iv u _ I2 r1 r2 r q2) fun _ s3 ⟨H3,I3,q3⟩=>?_))))
 exact wpAny_release ⟨σ,H3,I3,q3⟩
def wb (te:TE)(g:TG):TS:=fun D σ H=>te σ H fun x H1=>g x σ H1 D.nx
theorem mS {tg e:Expr}{te:TE}{g:TG}(he:PE X e te)(hg:PG X tg g)(hs:swapsWithSole [tg] e pos.line X.env=pure false:=by rfl)(hw:swappedStores [tg] e X.env=pure none:=by rfl)
  (h1:(assignEach [tg] X.env).map (·.2)=[assign tg X.env]:=by rfl):PS X (.Assign [tg] e pos) (wb te g):=by
 intro pins s σ H D I h
 refine wpAny_Assign_stores (CF (he pins s σ H _ I h) fun v s1 ⟨x,H1,I1,r1,q1⟩=>?_) hs hw
 rw[h1]
 exact CF (hg pins s1 σ H1 x v _ I1 r1 q1) fun _ s2 q=>q
theorem jj {i:Nat}{x:Str}{e:Expr}{te:TE}{pos':Pos}(hN:X.N.Nodup)(hi:X.N[i]? = some x)(hx:Loc X.env.scope x)(he:PE X e te)(hs:swapsWith e (some (.Name x pos')) pos.line X.env=pure false:=by rfl)(hf:X.fn x=true∨X.env.scope.names.lookup x=some .local:=by first|exact .inl rfl|exact .inr rfl|assumption) :
  PS X (.Assign [.Name x pos'] e pos) (wb te (mQ i)):=by
 intro pins s σ H D I h
 refine wpAny_Assign_Name (CF (he pins s σ H _ I h) fun v s1 ⟨y,H1,I1,r1,q1⟩=>?_) hs
 exact ij I1 hN hi hx r1 (fun s2 I2=>⟨_,H1,I2,q1⟩) hf
end
structure It where
 go:Nat->Hp->Prop
 Ht:Nat->Hp->V->Hp->Prop
 stop:Nat->Hp->Prop
def cQ (X:Cx)(pins:List (Addr×Obj))(H:Hp)(b:Addr):Prop:=
 H b=none/\b≠X.env.locals/\b∉X.fs/\(b∈X.ex∨X.C1.heap.objs.size<=b)/\(∀ x c,X.env.cells.lookup x=some c->c≠b)/\∀ p∈X.pn++pins,p.1≠b
theorem Inv.Gf {X:Cx}{pins:List (Addr×Obj)}{σ:St}{H H':Hp}{s:Shared}{b:Addr}(I:Inv X pins σ H s)(hb:s.heap.objs.size<=b)(hn:H' b=none):cQ X pins H' b:=by
 refine⟨hn,Nat.ne_of_gt (Nat.lt_of_lt_of_le I.lt hb),I.MK hb,.inr (Nat.le_trans I.sz hb),fun x c e z=>?_,fun p hp z=>?_⟩
 ·obtain⟨v,q⟩:=I.cell x c e
  exact absurd (Nat.lt_of_lt_of_le q.lt (by rw[z];exact hb)) (Nat.lt_irrefl _)
 ·exact absurd (Nat.lt_of_lt_of_le (Heap.lt_size (I.pin p hp).1) (by rw[z];exact hb)) (Nat.lt_irrefl _)
structure Turn (P:Program)(w:World)(K:PySem.W.Frag)(tg:Expr)(J:It)(fp:List Addr)(it:Addr)(tn:Nat->Heap->Prop):Prop where
 mem:it∈fp
 obj:∀ i h,tn i h->∀ b∈fp,∃ o,h.get? b=some o/\∀ v,o.data≠.cell v
 keep:∀ i h h',tn i h->(∀ b∈fp,∀ o,h.get? b=some o->h'.get? b=some o)->tn i h'
 item:∀ (X:Cx),X.prog=P->X.w=w->X.K=K->X.calm=true->∀ (i:Nat) (pins:List (Addr×Obj)) (s:Shared) (σ:St) (H:Hp) (E:Value->Shared->Prop),Inv X pins σ H s->(∀ b∈fp,cQ X pins H b)->tn i s.heap->J.go i H->
  wpAny (model P w) X.A (pyNext (.ref it)) (fun r s1=>∃ u,r=some u/\
   wpAny (model P w) X.A (letOwnedTupleGo tg (.ref it) u) (fun _ s2=>∃ x H',Inv X pins σ H' s2/\RelV x u/\J.Ht i H x H'/\tn (i+1) s2.heap/\∀ b∈fp,H' b=none) E s1) E s
 done:∀ (X:Cx),X.prog=P->X.w=w->X.K=K->X.calm=true->∀ (i:Nat) (pins:List (Addr×Obj)) (s:Shared) (σ:St) (H:Hp) (E:Value->Shared->Prop),Inv X pins σ H s->(∀ b∈fp,cQ X pins H b)->tn i s.heap->J.stop i H->
  wpAny (model P w) X.A (pyNext (.ref it)) (fun r s1=>r=none/\Inv X pins σ H s1) E s
 self:∀ (A:Around) (i:Nat) (s:Shared) (Q:Value->Shared->Prop) (E:Value->Shared->Prop),tn i s.heap->Q (.ref it) s->wpAny (model P w) A (pyIter (.ref it)) Q E s
noncomputable abbrev TI:=St->Hp->(It->Hp->Prop)->Prop
def J5 (X:Cx)(pins:List (Addr×Obj))(σ:St)(tg:Expr)(R:It->Hp->Prop)(LZ:Value)(s2:Shared):Prop:=
 ∃ (it:Addr) (fp:List Addr) (tn:Nat->Heap->Prop) (J:It) (H':Hp),LZ=.ref it/\Inv X pins σ H' s2/\Turn X.prog X.w X.K tg J fp it tn/\tn 0 s2.heap/\(∀ b∈fp,cQ X pins H' b)/\R J H'
def PI (X:Cx)(tg iter:Expr)(wi:TI):Prop:=
 ∀ (pins:List (Addr×Obj)) (s:Shared) (σ:St) (H:Hp) (R:It->Hp->Prop),Inv X pins σ H s->wi σ H R->
  wpAny (model X.prog X.w) X.A (eval iter X.env) (fun v s1=>wpAny (model X.prog X.w) X.A (pyIter v) (J5 X pins σ tg R) X.xe s1) X.xe s
theorem jP {M : Model}{A : Around}{E : Value -> Shared -> Prop}{s : Shared}{tg : Expr}{it : Addr}{u : Value}{o : Obj}{n : String}{vs : Array Value}{Q : Unit -> Shared -> Prop}(ho : s.heap.get? it = some o)(hc : o.cls = .type n)(hd : o.data = .fields vs)
    (hn : ["enumerate", "zip", "dict_itemiterator", "dict_reverseitemiterator", "odict_iterator", "itertools.zip_longest", "itertools.pairwise"].contains n = false) (hQ : Q () s) : wpAny M A (letOwnedTupleGo tg (.ref it) u) Q E s := by
  unfold letOwnedTupleGo
  cases tg <;> first
    | exact wpAny_pure hQ
    | (cases u <;> first
        | exact wpAny_pure hQ
        | (refine wpAny_bind (wpAny_load ho ?_)
           rw [hc, hd]
           show wpAny M A (if (["enumerate", "zip", "dict_itemiterator", "dict_reverseitemiterator", "odict_iterator", "itertools.zip_longest", "itertools.pairwise"].contains n&&vs[0]? == some (rawInt _)) = true then _ else _) Q E s
           rw [if_neg (by intro h; rw [hn, Bool.false_and] at h; cases h)]
           exact wpAny_pure hQ))
noncomputable def L0 (K:PySem.W.Frag)(a:Addr):It:=
 ⟨fun i H=>∃ xs x,DC K H a xs/\xs[i]? = some x,fun i H x H'=>H'=H/\∀ xs,DC K H a xs->xs[i]? = some x,fun i H=>∃ xs,DC K H a xs/\xs.length<=i⟩
noncomputable def MN (K:PySem.W.Frag)(a:Addr):It:=
 ⟨fun i H=>∃ xs x,DL K H a xs/\xs[i]? = some x,fun i H x H'=>H'=H/\∀ xs,DL K H a xs->xs[i]? = some x,fun i H=>∃ xs,DL K H a xs/\xs.length<=i⟩
noncomputable def J6 (lo:Int)(n:Nat):It:=⟨fun i _=>i < n,fun i H x H'=>H'=H/\x=.int (lo+i),fun i _=>n<=i⟩
theorem lN {P:Program}{w:World}{K:PySem.W.Frag}{tg:Expr}(a it:Addr):Turn P w K tg (L0 K a) [it] it (fun i h=>h.IsListIter it a i) where
 mem:=by simp
 obj:=fun i h st b hb=>by
  have e:b=it:=by simpa using hb
  subst e
  obtain⟨o,e,c,d⟩:=st
  exact⟨o,e,fun v z=>by rw[d] at z;cases z⟩
 keep:=fun i h h' st k=>st.at fun o e=>k it (by simp) o e
 item:=by
  intro X hP hw hK hc i pins s σ H E I hf st hg
  subst hP hw hK
  obtain⟨xs,x,hq,hx⟩:=hg
  obtain⟨its,rv,p,hz⟩:=I.list hq
  obtain⟨u,hu,ru⟩:=rv.get hx
  obtain⟨f0,f1,f2,f3,f4,f5⟩:=hf it (by simp)
  refine wpAny_pyNext_list_item st p.isList (x:=u) (by simpa using hu) fun h' Fz sb=>?_
  have I1:Inv X pins σ H {s with heap:=h'}:=I.turned (t':=s.toks) (fun b o hb e=>(sb.2 b hb).trans e) f0 f1 f3 f4 f5
  obtain⟨o,e,c,d⟩:=id Fz
  exact⟨u,rfl,jP (s:={s with heap:=h'}) e c d (by decide) ⟨x,H,I1,ru,⟨rfl,fun ys hy=>by rw[I.C9 hy hq];exact hx⟩,Fz,fun b hb=>(hf b hb).1⟩⟩
 done:=by
  intro X hP hw hK hc i pins s σ H E I hf st hg
  subst hP hw hK
  obtain⟨xs,hq,hx⟩:=hg
  obtain⟨its,rv,p,hz⟩:=I.list hq
  obtain⟨f0,f1,f2,f3,f4,f5⟩:=hf it (by simp)
  have hl:=rv.length
  exact wpAny_pyNext_list_end (I.ok.hd hc) st p.isList (by simp;omega) fun h' eb=>⟨rfl,I.turned (t':=s.toks) (fun b o hb e=>eb b o hb e) f0 f1 f3 f4 f5⟩
 self:=fun _ _ _ _ _ st h=>wpAny_pyIter_listiter st h
theorem jk {P:Program}{w:World}{K:PySem.W.Frag}{tg:Expr}(a it:Addr):Turn P w K tg (MN K a) [it] it (fun i h=>h.IsTupleIter it a i) where
 mem:=by simp
 obj:=fun i h st b hb=>by
  have e:b=it:=by simpa using hb
  subst e
  obtain⟨o,e,c,d⟩:=st
  exact⟨o,e,fun v z=>by rw[d] at z;cases z⟩
 keep:=fun i h h' st k=>st.at fun o e=>k it (by simp) o e
 item:=by
  intro X hP hw hK hc i pins s σ H E I hf st hg
  subst hP hw hK
  obtain⟨xs,x,hq,hx⟩:=hg
  obtain⟨its,rv,p,hz⟩:=I.tuple hq
  obtain⟨u,hu,ru⟩:=rv.get hx
  obtain⟨f0,f1,f2,f3,f4,f5⟩:=hf it (by simp)
  refine wpAny_pyNext_tuple_item st (show s.heap.IsTuple a its.toArray from p) (x:=u) (by simpa using hu) fun h' Fz sb=>?_
  have I1:Inv X pins σ H {s with heap:=h'}:=I.turned (t':=s.toks) (fun b o hb e=>(sb.2 b hb).trans e) f0 f1 f3 f4 f5
  obtain⟨o,e,c,d⟩:=id Fz
  exact⟨u,rfl,jP (s:={s with heap:=h'}) e c d (by decide) ⟨x,H,I1,ru,⟨rfl,fun ys hy=>by rw[I.DX hy hq];exact hx⟩,Fz,fun b hb=>(hf b hb).1⟩⟩
 done:=by
  intro X hP hw hK hc i pins s σ H E I hf st hg
  subst hP hw hK
  obtain⟨xs,hq,hx⟩:=hg
  obtain⟨its,rv,p,hz⟩:=I.tuple hq
  obtain⟨f0,f1,f2,f3,f4,f5⟩:=hf it (by simp)
  have hl:=rv.length
  exact wpAny_pyNext_tuple_end (I.ok.hd hc) st (show s.heap.IsTuple a its.toArray from p) (by simp;omega) fun h' eb=>⟨rfl,I.turned (t':=s.toks) (fun b o hb e=>eb b o hb e) f0 f1 f3 f4 f5⟩
 self:=fun _ _ _ _ _ st h=>wpAny_pyIter_tupleiter st h
theorem jl {P:Program}{w:World}{K:PySem.W.Frag}{tg:Expr}(it:Addr)(lo:Int)(n:Nat):Turn P w K tg (J6 lo n) [it] it (fun i h=>IsRangeIter h it (lo+(i:Nat)*1) ((n:Int) - (i:Nat)) 1) where
 mem:=by simp
 obj:=fun i h st b hb=>by
  have e:b=it:=by simpa using hb
  subst e
  exact⟨_,st,fun v z=>by
   have z':Data.fields _=Data.cell v:=z
   cases z'⟩
 keep:=fun i h h' st k=>k it (by simp) _ st
 item:=by
  intro X hP hw hK hc i pins s σ H E I hf st hg
  subst hP hw hK
  obtain⟨f0,f1,f2,f3,f4,f5⟩:=hf it (by simp)
  have W:=Walks.range (prog:=X.prog) (w:=X.w) (I.ok.hd hc) it lo 1 n
  refine W.item i s _ _ hg st fun v h' tk hv Fz kk=>?_
  obtain⟨t,rfl⟩:=hv
  have I1:Inv X pins σ H {s with heap:=h',toks:=tk}:=I.turned (fun b o hb e=>kk b o (by simpa using hb) e) f0 f1 f3 f4 f5
  refine⟨_,rfl,jP (s:={s with heap:=h',toks:=tk}) (n:="range_iterator") Fz rfl rfl (by decide) ⟨.int (lo+i),H,I1,⟨t,?_⟩,⟨rfl,rfl⟩,Fz,fun b hb=>(hf b hb).1⟩⟩
  rw[Int.mul_one]
 done:=by
  intro X hP hw hK hc i pins s σ H E I hf st hg
  subst hP hw hK
  obtain⟨f0,f1,f2,f3,f4,f5⟩:=hf it (by simp)
  exact wpAny_pyNext_range_end (I.ok.hd hc) st (by have:n<=i:=hg;omega) fun h' eb=>⟨rfl,I.turned (t':=s.toks) (fun b o hb e=>eb b o hb e) f0 f1 f3 f4 f5⟩
 self:=fun _ _ _ _ _ st h=>wpAny_pyIter_rangeiter st h
section
variable {X:Cx}{tg:Expr}
theorem il {pins:List (Addr×Obj)}{σ:St}{H:Hp}{s:Shared}{R:It->Hp->Prop}{E:Value->Shared->Prop}{lo hi:Int}{t u v:Tok}{tk:Nat}(I:Inv X pins σ H s)(h1 : -(2 ^ 62)<=lo)(h2:lo < 2 ^ 62)(h3 : -(2 ^ 62)<=hi)(h4:hi < 2 ^ 62)
  (q:R (J6 lo (hi - lo).toNat) H):wpAny (model X.prog X.w) X.A (pyIter (.ref s.heap.objs.size)) (J5 X pins σ tg R) E {s with heap:=s.heap.push {cls:=.type "range",data:=.fields #[.int lo t,.int hi u,.int 1 v]},toks:=tk}:=by
 refine wpAny_pyIter_range (IsRange.new ..) (small_one h1 h2 h3 h4) ?_
 have I1:Inv X pins σ H {s with heap:=s.heap.push {cls:=.type "range",data:=.fields #[.int lo t,.int hi u,.int 1 v]},toks:=tk}:=I.kept fun b o e=>Heap.get?_push_of_some _ e
 refine⟨(s.heap.push {cls:=.type "range",data:=.fields #[.int lo t,.int hi u,.int 1 v]}).objs.size,[(s.heap.push {cls:=.type "range",data:=.fields #[.int lo t,.int hi u,.int 1 v]}).objs.size],_,_,H,rfl,
  I1.kept (t':=tk) fun b o e=>Heap.get?_push_of_some _ e,jl _ lo (hi - lo).toNat,?_,fun b hb=>?_,q⟩
 ·have e1:lo+((0:Nat):Int)*1=lo:=by simp
  have e2:(((hi - lo).toNat:Nat):Int) - ((0:Nat):Int)=Builtin.Range.rangeSize lo hi 1:=by rw[rangeSize_one];split<;>omega
  show IsRangeIter _ _ (lo+((0:Nat):Int)*1) ((((hi - lo).toNat:Nat):Int) - ((0:Nat):Int)) 1
  rw[e1,e2]
  exact Heap.get?_push_size _ rfl
 ·have e:b=(s.heap.push {cls:=.type "range",data:=.fields #[.int lo t,.int hi u,.int 1 v]}).objs.size:=by simpa using hb
  subst e
  exact I1.Gf (Nat.le_refl _) (I1.CA.fresh (Nat.le_refl _))
def yv (ta:TA):TI:=fun σ H R=>ta σ H fun vs H1=>∃ j:Int,vs=[.int j]/\-(2 ^ 62)<=j/\j < 2 ^ 62/\R (J6 0 j.toNat) H1
def yy (ta:TA):TI:=fun σ H R=>ta σ H fun vs H1=>∃ i j:Int,vs=[.int i,.int j]/\(-(2 ^ 62)<=i/\i < 2 ^ 62/\-(2 ^ 62)<=j/\j < 2 ^ 62)/\R (J6 i (j - i).toNat) H1
theorem fD {a:Expr}{ta:TA}{p pos:Pos}(hg:Gl X "range") (hm:X.mg "range" = none) (ha:PA X [a] ta) (hs:starEach [a] X.env=[(false,eval a X.env)]:=by rfl):PI X tg (.Call (.Name "range" p) [a] [] pos) (yv ta):=by
 intro pins s σ H R I h
 refine Call_ (bO I hg hm boot_range (PyProof.Rows.callWith_type1 (CF (ha pos pins s σ H _ I h) fun us s1 ⟨vs,H1,I1,r1,q1⟩=>?_) hs rfl))
 obtain⟨j,e,q1,q2,q⟩:=q1
 subst e
 cases r1 with
 | cons r rr=>
  cases rr
  obtain⟨t,rfl⟩:=r
  exact call_range_1 (il I1 (by omega) (by omega) q1 q2 (by simpa using q))
theorem fE {a b:Expr}{ta:TA}{p pos:Pos}(hg:Gl X "range") (hm:X.mg "range" = none) (ha:PA X [a,b] ta) (hs:starEach [a,b] X.env=[(false,eval a X.env),(false,eval b X.env)]:=by rfl) (FR:starEach [b] X.env=[(false,eval b X.env)]:=by rfl) :
  PI X tg (.Call (.Name "range" p) [a,b] [] pos) (yy ta):=by
 intro pins s σ H R I h
 refine Call_ (bO I hg hm boot_range (PyProof.Rows.callWith_type1 (CF (ha pos pins s σ H _ I h) fun us s1 ⟨vs,H1,I1,r1,q1⟩=>?_) (by rw[hs,FR]) (by rw[FR];rfl)))
 obtain⟨i,j,e,⟨q1,q2,q3,q4⟩,q⟩:=q1
 subst e
 cases r1 with
 | cons r rr=>
  cases rr with
  | cons r' rr=>
   cases rr
   obtain⟨t,rfl⟩:=r
   obtain⟨t',rfl⟩:=r'
   exact call_range_2 (il I1 q1 q2 q3 q4 q)
def BH (wi:TI)(g:TG)(tb:TS):TS:=fun D σ H=>wi σ H fun J H1=>∃ W:Nat->Nat->St->Hp->Prop,(∃ m,W 0 m σ H1)/\∀ i m σ H,W i m σ H->
 (J.stop i H/\D.nx σ H)∨(J.go i H/\∃ N:St->Hp->Prop,(∀ CB H',N CB H'->∃ m',m' < m/\W (i+1) m' CB H')/\∀ x H',J.Ht i H x H'->g x σ H' fun E9 H2=>tb {D with nx:=N,ct:=N,bk:=D.nx} E9 H2)
noncomputable def dB (fp:List Addr)(h:Heap):List (Addr×Obj):=fp.filterMap fun b=>(h.get? b).map fun o=>(b,o)
theorem cn {fp:List Addr}{h:Heap}{b:Addr}{o:Obj}(hb:b∈fp)(e:h.get? b=some o):(b,o)∈dB fp h:=List.mem_filterMap.mpr ⟨b,hb,by rw[e];rfl⟩
theorem lO {fp:List Addr}{h:Heap}{p:Addr×Obj}(hp:p∈dB fp h):p.1∈fp/\h.get? p.1=some p.2:=by
 obtain⟨b,hb,e⟩:=List.mem_filterMap.mp hp
 cases q:h.get? b with
 | none=>rw[q] at e;cases e
 | some o=>
  rw[q] at e
  have e':(b,o)=p:=Option.some.inj e
  subst e'
  exact⟨hb,q⟩
theorem Inv.pinned {pins:List (Addr×Obj)}{σ:St}{H:Hp}{s:Shared}{fp:List Addr}(I:Inv X pins σ H s)(hf:∀ b∈fp,cQ X pins H b)(ho:∀ b∈fp,∃ o,s.heap.get? b=some o/\∀ v,o.data≠.cell v):Inv X (pins++dB fp s.heap) σ H s:=
 I.FP fun p hp=>(List.mem_append.mp hp).elim (fun z=>I.pin p (List.mem_append_right _ z)) fun z=>by
  obtain⟨hb,e⟩:=lO z
  obtain⟨f0,f1,f2,_⟩:=hf p.1 hb
  obtain⟨o,e',d⟩:=ho p.1 hb
  rw[e] at e';cases e'
  exact⟨e,f0,f1,f2,d⟩
theorem Inv.DM {pins pl:List (Addr×Obj)}{σ:St}{H:Hp}{s:Shared}(I:Inv X (pins++pl) σ H s):Inv X pins σ H s:=I.FP fun p hp=>I.pin p (List.mem_append_right _ (List.mem_append_left _ hp))
theorem mT {iter:Expr}{body:List Stmt}{wi:TI}{g:TG}{tb:TS}{pos:Pos}(hp:PassesOwn (model X.prog X.w) X.A X.env X.xe)(hc:X.calm=true)(hi:PI X tg iter wi)(hg:PG X tg g)(hb:Fy X body tb)
  (hs:∀ x,foldedSetIterable iter X.env x=pure x:=by intro _;rfl):PS X (.For tg iter body [] pos) (BH wi g tb):=by
 intro pins s σ H D I h
 refine wpAny_For (CF (hi pins s σ H _ I h) fun v s1 h1=>CF h1 fun LZ s2 h2=>?_) hs
 obtain⟨it,fp,tn,J,H2,e,I2,T,G6,f2,W,⟨m0,w0⟩,turn⟩:=h2
 subst e
 -- MO stays true of IT IU objects through IT loop
 have FA:∀ {H':Hp},(∀ b∈fp,H' b=none)->∀ b∈fp,cQ X pins H' b:=fun hn b hb=>⟨hn b hb,(f2 b hb).2⟩
 refine codeAny_forLoop_any (fun n s'=>∃ i CB H',Inv X pins CB H' s'/\tn i s'.heap/\(∀ b∈fp,H' b=none)/\W i n CB H') ?_ m0 ⟨0,σ,H2,I2,G6,fun b hb=>(f2 b hb).1,w0⟩
 rintro n s3 ⟨i,KP,H3,I3,Oi,Oj,w3⟩
 rcases turn i n KP H3 w3 with ⟨stop,qn⟩|⟨go,N,hN,step⟩
 ·refine wpAny_passesOwn hp (CF (T.done X rfl rfl rfl hc i pins s3 KP H3 X.xe I3 (FA Oj) Oi stop) fun r s4 ⟨hr,I4⟩=>?_)
  subst hr
  exact wpAny_execs_nil ⟨KP,H3,I4,qn⟩
 ·refine wpAny_passesOwn hp (CF (T.item X rfl rfl rfl hc i pins s3 KP H3 X.xe I3 (FA Oj) Oi go) fun r s4 ⟨u,hr,h4⟩=>?_)
  subst hr
  refine wpAny_passesOwn hp (CF h4 fun _ s5 ⟨x,H5,I5,r5,y5,KQ,MP⟩=>?_)
  have QA:=I5.pinned (FA MP) (T.obj _ _ KQ)
  refine wpAny_passesOwn hp (CF (hg _ s5 KP H5 x u _ QA r5 (step x H5 y5)) fun _ s6 ⟨IV,H6,I6,q6⟩=>?_)
  refine wpAny_passesOwn hp (CF (hb _ s6 IV H6 _ I6 q6) fun f s7 q7=>?_)
  have again:∀ {GH:St}{H7:Hp},Inv X (pins++dB fp s5.heap) GH H7 s7->N GH H7->∃ m,m < n/\∃ i CB H',Inv X pins CB H' s7/\tn i s7.heap/\(∀ b∈fp,H' b=none)/\W i m CB H':=fun {GH H7} I7 n7=>by
   obtain⟨m',hm,w7⟩:=hN GH H7 n7
   refine⟨m',hm,i+1,GH,H7,I7.DM,T.keep _ _ _ KQ fun b hb o e=>(I7.pin (b,o) (List.mem_append_right _ (List.mem_append_right _ (cn hb e)))).1,fun b hb=>?_,w7⟩
   obtain⟨o,e,d⟩:=T.obj _ _ KQ b hb
   exact(I7.pin (b,o) (List.mem_append_right _ (List.mem_append_right _ (cn hb e)))).2.1
  cases f with
  | next=>obtain⟨GH,H7,I7,n7⟩:=q7;exact again I7 n7
  | cont=>obtain⟨GH,H7,I7,n7⟩:=q7;exact again I7 n7
  | brk=>obtain⟨GH,H7,I7,q7⟩:=q7;exact⟨GH,H7,I7.DM,q7⟩
  | ret v=>obtain⟨x7,GH,H7,I7,r7,q7⟩:=q7;exact⟨x7,GH,H7,I7.DM,r7,q7⟩
end
noncomputable abbrev R2:=V->V->Hp->VK->Prop
def Fb (X:Cx)(f:Value->Value->Sem Value)(r:R2):Prop:=
 ∀ (pins:List (Addr×Obj)) (s:Shared) (σ:St) (H:Hp) (x y:V) (v u:Value) (Q:VK),Inv X pins σ H s->RelV x v->RelV y u->r x y H Q->
  wpAny (model X.prog X.w) X.A (f v u) (EP X pins σ Q) X.xe s
def MQ (X:Cx)(f:Value->Sem Value)(r:V->Hp->VK->Prop):Prop:=
 ∀ (pins:List (Addr×Obj)) (s:Shared) (σ:St) (H:Hp) (x:V) (v:Value) (Q:VK),Inv X pins σ H s->RelV x v->r x H Q->
  wpAny (model X.prog X.w) X.A (f v) (EP X pins σ Q) X.xe s
def cy (X:Cx)(f:Value)(r:List V->Hp->VK->Prop):Prop:=
 ∀ (pins:List (Addr×Obj)) (s:Shared) (σ:St) (H:Hp) (xs:List V) (us:List Value) (Q:VK),Inv X pins σ H s->Vals xs us->r xs H Q->
  wpAny (model X.prog X.w) X.A (call f us) (EP X pins σ Q) X.xe s
def BI (X:Cx)(r:V->Hp->(Bool->Hp->Prop)->Prop):Prop:=
 ∀ (pins:List (Addr×Obj)) (s:Shared) (σ:St) (H:Hp) (x:V) (v:Value) (Q:Bool->Hp->Prop),Inv X pins σ H s->RelV x v->r x H Q->
  wpAny (model X.prog X.w) X.A (truthy v) (TP X pins σ Q) X.xe s
def L1 (r:R2)(ta tb:TE):TE:=fun σ H Q=>ta σ H fun x H1=>tb σ H1 fun y H2=>r x y H2 Q
def QB (r:V->Hp->VK->Prop)(ta:TE):TE:=fun σ H Q=>ta σ H fun x H1=>r x H1 Q
noncomputable def rI (C:Int->Int->Prop)(g:Int->Int->V):R2:=fun x y H Q=>∃ i j,x=.int i/\y=.int j/\C i j/\Q (g i j) H
noncomputable def MR (g:Int->Int->V):R2:=fun x y H Q=>∃ i j,x=.int i/\y=.int j/\Q (g i j) H
def rU (g:Int->V):V->Hp->VK->Prop:=fun x H Q=>∃ i,x=.int i/\Q (g i) H
section
variable {X:Cx}{a b c:Expr}{ta tb tc:TE}{pos:Pos}
theorem wc (ha:PE X a ta)(hb:PE X b tb){pins:List (Addr×Obj)}{s:Shared}{σ:St}{H:Hp}{R:V->V->Hp->Prop}(I:Inv X pins σ H s)
  (h:ta σ H fun x H1=>tb σ H1 fun y H2=>R x y H2) {Q:Value->Shared->Prop}{f:Value->Value->Sem Value}
  (hf:∀ v u s2 x y H2,Inv X pins σ H2 s2->RelV x v->RelV y u->R x y H2->wpAny (model X.prog X.w) X.A (f v u) Q X.xe s2) :
  wpAny (model X.prog X.w) X.A (eval a X.env) (fun v CC=>wpAny (model X.prog X.w) X.A (eval b X.env) (fun u E8=>wpAny (model X.prog X.w) X.A (f v u) Q X.xe E8) X.xe CC) X.xe s:=by
 refine CF (ha pins s σ H _ I h) fun v s1 ⟨x,H1,I1,r1,q1⟩=>?_
 refine CF (hb pins s1 σ H1 _ I1 q1) fun u s2 ⟨y,H2,I2,r2,q2⟩=>?_
 exact hf v u s2 x y H2 I2 r1 r2 q2
theorem mU {op:Operator}{r:R2}(ho:Fb X (binaryOp op) r)(ha:PE X a ta)(hb:PE X b tb):PE X (.BinOp a op b pos) (L1 r ta tb):=by
 intro pins s σ H Q I h
 exact wpAny_BinOp (wc ha hb I h fun v u s2 x y H2 I2 rx ry q=>ho pins s2 σ H2 x y v u Q I2 rx ry q)
theorem yz {op:UnaryOp}{r:V->Hp->VK->Prop}(ho:MQ X (unaryOp op) r)(ha:PE X a ta):PE X (.UnaryOp op a pos) (QB r ta):=by
 intro pins s σ H Q I h
 exact UnaryOp_ (CF (ha pins s σ H _ I h) fun v s1 ⟨x,H1,I1,r1,q1⟩=>ho pins s1 σ H1 x v Q I1 r1 q1)
theorem L3 {f:Value->Value->Sem Value}{C:Int->Int->Prop}{g:Int->Int->Int}
  (rule:∀ (i j:Int) (t u:Tok) (s:Shared) (Q:Value->Shared->Prop) (E:Value->Shared->Prop),C i j->Q (.int (g i j) s.toks) {s with toks:=s.toks+1}->wpAny (model X.prog X.w) X.A (f (.int i t) (.int j u)) Q E s) :
  Fb X f (rI C fun i j=>.int (g i j)):=by
 intro pins s σ H x y v u Q I rx ry h
 obtain⟨i,j,rfl,rfl,hc,q⟩:=h
 obtain⟨t,rfl⟩:=rx
 obtain⟨t',rfl⟩:=ry
 exact rule i j t t' s _ _ hc ⟨.int (g i j),H,I.tok _,⟨_,rfl⟩,q⟩
theorem yB {f:Value->Value->Sem Value}{g:Int->Int->Int}
  (rule:∀ (i j:Int) (t u:Tok) (s:Shared) (Q:Value->Shared->Prop) (E:Value->Shared->Prop),Q (.int (g i j) s.toks) {s with toks:=s.toks+1}->wpAny (model X.prog X.w) X.A (f (.int i t) (.int j u)) Q E s) :
  Fb X f (MR fun i j=>.int (g i j)):=by
 intro pins s σ H x y v u Q I rx ry h
 obtain⟨i,j,rfl,rfl,q⟩:=h
 obtain⟨t,rfl⟩:=rx
 obtain⟨t',rfl⟩:=ry
 exact rule i j t t' s _ _ ⟨.int (g i j),H,I.tok _,⟨_,rfl⟩,q⟩
def BJ (i j:Int):Prop:=0 < j/\j < 1073741824
def BK (i j:Int):Prop:=0<=j/\j<=1000000/\i.natAbs < 2 ^ 64
def wd (i j:Int):Prop:=(-(2 ^ 64) < i/\i < 2 ^ 64)∨(-(2 ^ 64) < j/\j < 2 ^ 64)
theorem wd.ok {i j:Int}(h:wd i j):IntMulOk i j:=by
 rcases h with ⟨h1,h2⟩|⟨h1,h2⟩
 ·exact .of_left (intBits_le_64 h1 h2)
 ·exact .of_right (intBits_le_64 h1 h2)
theorem we:Fb X (binaryOp .Add) (MR fun i j=>.int (i+j)):=yB fun _ _ _ _ _ _ _ q=>add_int q
theorem wg:Fb X (binaryOp .Sub) (MR fun i j=>.int (i - j)):=yB fun _ _ _ _ _ _ _ q=>sub_int q
theorem wj:Fb X (binaryOp .Mult) (rI wd fun i j=>.int (i*j)):=L3 fun _ _ _ _ _ _ _ hc q=>mul_int q hc.ok
theorem rp:Fb X (binaryOp .FloorDiv) (rI BJ fun i j=>.int (i / j)):=L3 fun i j _ _ _ _ _ hc q=>by
 have h1:(0:Int) < j:=hc.1
 have h2:j < 1073741824:=hc.2
 exact floordiv_int (by omega) (by rw[Int.fdiv_eq_ediv_of_nonneg i (by omega)];exact q) (.inl (PyProof.noPylong_small (by omega)))
theorem wk:Fb X (binaryOp .Mod) (rI (fun _ j=>0 < j) fun i j=>.int (i % j)):=L3 fun i j _ _ _ _ _ hc q=>by
 have h1:(0:Int) < j:=hc
 exact mod_int' (by omega) (by rw[Int.fmod_eq_emod_of_nonneg i (by omega)];exact q)
theorem wm:Fb X (binaryOp .Pow) (rI BK fun i j=>.int (i ^ j.toNat)):=L3 fun _ _ _ _ _ _ _ hc q=>pow_int_small hc.1 hc.2.1 hc.2.2 q
theorem QC {f:Value->Sem Value}{g:Int->Int}
  (rule:∀ (i:Int) (t:Tok) (s:Shared) (Q:Value->Shared->Prop) (E:Value->Shared->Prop),Q (.int (g i) s.toks) {s with toks:=s.toks+1}->wpAny (model X.prog X.w) X.A (f (.int i t)) Q E s) :
  MQ X f (rU fun i=>.int (g i)):=by
 intro pins s σ H x v Q I rx h
 obtain⟨i,rfl,q⟩:=h
 obtain⟨t,rfl⟩:=rx
 exact rule i t s _ _ ⟨.int (g i),H,I.tok _,⟨_,rfl⟩,q⟩
theorem wo:MQ X (unaryOp .USub) (rU fun i=>.int (-i)):=QC fun _ _ _ _ _ q=>neg_int q
end
section
variable {X:Cx}{a b c:Expr}{ta tb tc:TE}{pos:Pos}
theorem rq {op:CmpOp}{r:R2}(ho:Fb X (compareOp op) r)(ha:PE X a ta)(hb:PE X b tb)(hm:behindInMarks op b=false):PE X (.Compare a [op] [b] pos) (L1 r ta tb):=by
 intro pins s σ H Q I h
 exact wpAny_Compare1 (wc ha hb I h fun v u s2 x y H2 I2 rx ry q=>ho pins s2 σ H2 x y v u Q I2 rx ry q) hm
def yC (t:TE):TT:=fun σ H Q=>t σ H fun x H'=>∃ k,x=.bl k/\Q k H'
theorem rz {op:CmpOp}{r:R2}(ho:Fb X (compareOp op) r)(ha:PE X a ta)(hb:PE X b tb)(hm:behindInMarks op b=false):PT X (.Compare a [op] [b] pos) (yC (L1 r ta tb)):=by
 intro pins s σ H Q I h
 refine wpAny_isTrue_Compare1 (CF (ha pins s σ H _ I h) fun v s1 ⟨x,H1,I1,r1,q1⟩=>CF (hb pins s1 σ H1 _ I1 q1) fun u s2 ⟨y,H2,I2,r2,q2⟩=>
  CF (ho pins s2 σ H2 x y v u _ I2 r1 r2 q2) fun c s3 ⟨z,H3,I3,r3,k,e,q3⟩=>?_) hm
 subst e
 cases r3
 exact wpAny_truthy_bool ⟨H3,I3,q3⟩
def BL (K:PySem.W.Frag)(x:V)(H:Hp)(k:Bool):Prop:=
 match x with
 | .CD=>k=false
 | .bl b=>k=b
 | .int i=>k=(i != 0)
 | .str y=>y.length<=sizeLine/\k=((y.length:Int) != 0)
 | .IJ y=>y.size<=sizeLine/\k=((y.size:Int) != 0)
 | .ref p=>(∃ xs,DC K H p xs/\k = !xs.isEmpty)∨(∃ xs,DL K H p xs/\k = !xs.isEmpty)∨∃ kvs,H p=some (.dK kvs)/\k = !kvs.isEmpty
 | _=>False
theorem jm {κ:Type}{kvs:List (κ×V)}{vs:List (κ×Value)}(r:KV kvs vs):(!vs.isEmpty) = !kvs.isEmpty:=by
 cases r<;>rfl
theorem d7 {xs:List V}{its:List Value}(r:Vals xs its):(!its.toArray.isEmpty) = !xs.isEmpty:=by
 cases r<;>simp
theorem dC:(sizeLine:Nat) < 2 ^ 63:=by rw[sizeLine_eq];decide
theorem wq:BI X (fun x H Q=>∃ k,BL X.K x H k/\Q k H):=by
 intro pins s σ H x v Q I rx h
 obtain⟨k,e,q⟩:=h
 have hl:=dC
 have hs:sizeLine=16777216:=sizeLine_eq
 cases x with
 | CD=>
  cases rx
  have e':k=false:=e
  subst e'
  exact truthy_none ⟨H,I,q⟩
 | bl b=>
  cases rx
  have e':k=b:=e
  subst e'
  exact wpAny_truthy_bool ⟨H,I,q⟩
 | int i=>
  obtain⟨t,rfl⟩:=rx
  have e':k=(i != 0):=e
  subst e'
  exact PySem.P.truthy_int ⟨H,I,q⟩
 | str y=>
  obtain⟨t,rfl⟩:=rx
  obtain⟨hy,e'⟩:y.length<=sizeLine/\k=((y.length:Int) != 0):=e
  subst e'
  exact PySem.P.truthy_str (by omega) ⟨H,I.tok _,q⟩
 | IJ y=>
  obtain⟨t,rfl⟩:=rx
  obtain⟨hy,e'⟩:y.size<=sizeLine/\k=((y.size:Int) != 0):=e
  subst e'
  exact PySem.W.truthy_bytes (by omega) ⟨H,I.tok _,q⟩
 | ref p=>
  cases rx
  have e':(∃ xs,DC X.K H p xs/\k = !xs.isEmpty)∨(∃ xs,DL X.K H p xs/\k = !xs.isEmpty)∨∃ kvs,H p=some (.dK kvs)/\k = !kvs.isEmpty:=e
  rcases e' with ⟨xs,hx,e'⟩|⟨xs,hx,e'⟩|⟨kvs,hx,e'⟩
  ·subst e'
   obtain⟨its,r,pl,hz⟩:=I.list hx
   have hlen:=r.length
   exact wpAny_truthy_list pl.isList (by simp only[List.size_toArray];omega) ⟨H,I.tok _,by rw[d7 r];exact q⟩
  ·subst e'
   obtain⟨its,r,pl,hz⟩:=I.tuple hx
   have hlen:=r.length
   exact truthy_tuple pl (by simp only[List.size_toArray];omega) ⟨H,I.tok _,by rw[d7 r];exact q⟩
  ·subst e'
   obtain⟨hz,hS,vs,r,m⟩:kvs.length<=sizeLine/\(p == sysModules)=false/\∃ vs,KV kvs vs/\s.heap.DictOf (aE X.prog X.w) p vs:=I.CA p _ hx
   have hlen:kvs.length=vs.length:=Paired.length r
   exact wpAny_truthy_dict hS m (by omega) ⟨H,I.tok _,by rw[jm r];exact q⟩
 | _=>exact(show False from e).elim
theorem jn:Fb X (binaryOp .Add) (fun x y H Q=>∃ i j,x=.str i/\y=.str j/\i.length+j.length<=sizeLine/\Q (.str (i++j)) H):=by
 intro pins s σ H x y v u Q I rx ry h
 obtain⟨i,j,rfl,rfl,hz,q⟩:=h
 obtain⟨t,rfl⟩:=rx
 obtain⟨t',rfl⟩:=ry
 exact add_str (fun t' tk=>⟨.str (i++j),H,I.tok _,⟨_,rfl⟩,q⟩) hz
theorem vals1 {x:V}{us:List Value}(r:Vals [x] us):∃ u,us=[u]/\RelV x u:=by
 cases r with
 | cons r1 r2=>cases r2;exact⟨_,rfl,r1⟩
theorem vals2 {x y:V}{us:List Value}(r:Vals [x,y] us):∃ u w',us=[u,w']/\RelV x u/\RelV y w':=by
 cases r with
 | cons r1 r2=>
  cases r2 with
  | cons r3 r4=>cases r4;exact⟨_,_,rfl,r1,r3⟩
theorem lP (hc:X.calm=true):cy X (.builtin "max") (fun xs H Q=>∃ i j,xs=[.int i,.int j]/\Q (.int (if j > i then j else i)) H):=by
 intro pins s σ H xs us Q I r h
 obtain⟨i,j,rfl,q⟩:=h
 obtain⟨u,w',rfl,⟨t,rfl⟩,⟨t',rfl⟩⟩:=vals2 r
 refine max_two_ints (I.ok.hd hc) fun h' tk k=>⟨_,H,I.kept k,?_,q⟩
 by_cases hj:j > i
 ·rw[if_pos hj,if_pos hj];exact⟨_,rfl⟩
 ·rw[if_neg hj,if_neg hj];exact⟨_,rfl⟩
theorem lQ (hc:X.calm=true):cy X (.builtin "min") (fun xs H Q=>∃ i j,xs=[.int i,.int j]/\Q (.int (if j < i then j else i)) H):=by
 intro pins s σ H xs us Q I r h
 obtain⟨i,j,rfl,q⟩:=h
 obtain⟨u,w',rfl,⟨t,rfl⟩,⟨t',rfl⟩⟩:=vals2 r
 refine min_two_ints (I.ok.hd hc) fun h' tk k=>⟨_,H,I.kept k,?_,q⟩
 by_cases hj:j < i
 ·rw[if_pos hj,if_pos hj];exact⟨_,rfl⟩
 ·rw[if_neg hj,if_neg hj];exact⟨_,rfl⟩
def BM (K:PySem.W.Frag)(x:V)(H:Hp)(n:Nat):Prop:=
 match x with
 | .str y=>y.length<=sizeLine/\n=y.length
 | .IJ y=>y.size<=sizeLine/\n=y.size
 | .ref p=>(∃ xs,DC K H p xs/\n=xs.length)∨∃ xs,DL K H p xs/\n=xs.length
 | _=>False
theorem Du:cy X (.builtin "len") (fun xs H Q=>∃ x n,xs=[x]/\BM X.K x H n/\Q (.int n) H):=by
 intro pins s σ H xs us Q I r h
 obtain⟨x,n,rfl,e,q⟩:=h
 obtain⟨u,rfl,rx⟩:=vals1 r
 have hl:=dC
 have hs:sizeLine=16777216:=sizeLine_eq
 cases x with
 | str y=>
  obtain⟨t,rfl⟩:=rx
  obtain⟨hy,e'⟩:y.length<=sizeLine/\n=y.length:=e
  subst e'
  exact len_str (by omega) ⟨.int _,H,I.tok _,⟨_,rfl⟩,q⟩
 | IJ y=>
  obtain⟨t,rfl⟩:=rx
  obtain⟨hy,e'⟩:y.size<=sizeLine/\n=y.size:=e
  subst e'
  exact PySem.W.len_bytes (by omega) ⟨.int _,H,I.tok _,⟨_,rfl⟩,q⟩
 | ref p=>
  cases rx
  have e':(∃ xs,DC X.K H p xs/\n=xs.length)∨∃ xs,DL X.K H p xs/\n=xs.length:=e
  rcases e' with ⟨xs,hx,e'⟩|⟨xs,hx,e'⟩
  ·subst e'
   obtain⟨its,r',pl,hz⟩:=I.list hx
   have hlen:=r'.length
   exact Calls.call_len_list pl.isList (by simp only[List.size_toArray];omega) ⟨.int xs.length,H,I.tok _,⟨_,by simp only[List.size_toArray];rw[hlen]⟩,q⟩
  ·subst e'
   obtain⟨its,r',pl,hz⟩:=I.tuple hx
   have hlen:=r'.length
   exact len_tuple pl (by simp only[List.size_toArray];omega) ⟨.int xs.length,H,I.tok _,⟨_,by simp only[List.size_toArray];rw[hlen]⟩,q⟩
 | _=>exact(show False from e).elim
end
theorem ft.some_of {v:V}{o:Option Value}(r:ft (some v) o):∃ u,o=some u/\RelV v u:=by
 cases o with
 | none=>exact(show False from r).elim
 | some u=>exact⟨u,rfl,r⟩
structure Dv (k:Nat)(A:Around):Prop where
 hd:k < 1000->A.handled=none
 dp:A.depth+3*(k % 1000)+5 < recursionLimit
 un:A.units+16*(k % 1000)+200 < cLine
theorem Dv.deeper {k:Nat}{A:Around}(r:Dv (k+1) A)(env:Env)(hk:k % 1000≠999):Dv k (A.deeper env):=
 ⟨fun z=>r.hd (by omega),by have:=r.dp;show A.depth+1+3*(k % 1000)+5 < _;omega,by have:=r.un;show A.units+3+16*(k % 1000)+200 < _;omega⟩
theorem Dv.depth {k:Nat}{A:Around}(r:Dv k A):A.depth < recursionLimit:=by have:=r.dp;omega
def mV:TA:=fun _ H Q=>Q [] H
def d8 (ta:TE)(tr:TA):TA:=fun σ H Q=>ta σ H fun x H1=>tr σ H1 fun xs H2=>Q (x::xs) H2
section
variable {X:Cx}{e:Expr}{es:List Expr}{te:TE}{t:TA}{pos:Pos}
theorem bF:PA X [] mV:=fun _ _ _ _ H Q I h=>Calls.spliced_nil ⟨[],H,I,.nil,h⟩
theorem aF (ha:PE X e te)(hr:PA X es t)(hs:starEach (e::es) X.env=(false,eval e X.env)::starEach es X.env:=by rfl):PA X (e::es) (d8 te t):=by
 intro pos pins s σ H Q I h
 rw[hs]
 show wpAny _ _ (spliced ((false,eval e X.env)::backTo pos (starEach es X.env))) _ _ s
 refine Calls.spliced_cons (CF (ha pins s σ H _ I h) fun u s1 ⟨x,H1,I1,r1,q1⟩=>?_)
 exact CF (hr pos pins s1 σ H1 _ I1 q1) fun us s2 ⟨xs,H2,I2,r2,q2⟩=>⟨x::xs,H2,I2,.cons r1 r2,q2⟩
def BN (t:TA):TE:=fun σ H Q=>t σ H fun xs H1=>xs.length<=sizeLine/\∀ p,H1 p=none->Q (.ref p) (upd H1 p (.tup xs))
def BO (t:TA):TE:=fun σ H Q=>t σ H fun xs H1=>xs.length<=sizeLine/\∀ p,H1 p=none->Q (.ref p) (upd H1 p (.lst xs))
theorem mW {x1}(h:PA X es t):PE X (.Tuple es x1 pos) (BN t):=by
 intro pins s σ H Q I hq
 refine wpAny_Tuple_spliced (CF (h pos pins s σ H _ I hq) fun us s1 ⟨xs,H1,I1,r,z,q⟩=>⟨by rw[<- r.length];exact z,?_⟩)
 have hf:H1 s1.heap.objs.size=none:=I1.CA.fresh (Nat.le_refl _)
 refine⟨.ref s1.heap.objs.size,upd H1 s1.heap.objs.size (.tup xs),I1.laid (t':=s1.toks) (fun b u e=>Heap.get?_push_of_some _ e) (Nat.le_refl _) ?_,rfl,q _ hf⟩
 exact⟨z,us,r,⟨_,Heap.get?_push_size _ rfl,rfl,_,rfl⟩⟩
theorem mX (h:PA X es t):PE X (.List es pos) (BO t):=by
 intro pins s σ H Q I hq
 refine wpAny_List_spliced (CF (h pos pins s σ H _ I hq) fun us s1 ⟨xs,H1,I1,r,z,q⟩=>⟨by rw[<- r.length];exact z,?_⟩)
 have hf:H1 s1.heap.objs.size=none:=I1.CA.fresh (Nat.le_refl _)
 refine⟨.ref s1.heap.objs.size,upd H1 s1.heap.objs.size (.lst xs),I1.laid (t':=s1.toks) (fun b u e=>Heap.get?_push_of_some _ e) (Nat.le_refl _) ?_,rfl,q _ hf⟩
 exact⟨z,us,0,r,Heap.get?_push_size _ rfl⟩
end
noncomputable abbrev Sp:=List V->Hp->VK->XK->Prop
noncomputable abbrev Dw:=List Env->Hp->Shared->XK->Value->Shared->Prop
structure FC (P:Program)(w:World)(K:PySem.W.Frag)(mg:Str->Option Value)(base:Heap)(A:Around)(outer:List Env)(s:Shared)(H:Hp):Prop where
 frames:A.frames=some outer
 mod:Mod K mg base
 bs:∀ b o,base.get? b=some o->s.heap.get? b=some o/\H b=none
 Gv:base.objs.size<=s.heap.objs.size
 Ds:s.heap.FunFrames base outer
 Fs:∀ b∈Dr outer,H b=none
 CA:C0 P w H s.heap
 bare:AllBare s.gens
def CE (outer:List Env)(P:Program)(w:World)(H:Hp)(s:Shared)(Q:VK)(u:Value)(s':Shared):Prop:=
 ∃ v H',s'.os=s.os/\AllBare s'.gens/\Un (Dr outer) [] H H' s.heap s'.heap/\C0 P w H' s'.heap/\RelV v u/\Q v H'
def CR (CX:Dw)(outer:List Env)(P:Program)(w:World)(H:Hp)(s:Shared)(Q:VK)(E:XK)(r:Result)(s':Shared):Prop:=
 match r with
 | .ok (.ret u)=>CE outer P w H s Q u s'
 | .ok _=>False
 | .error e=>CX outer H s E e s'
structure DN (P:Program)(w:World)(K:PySem.W.Frag)(mg:Str->Option Value)(base:Heap)(CX:Dw)(k:Nat)(f:Addr)(fd:FuncData)(ps:List Str)(sp:Sp):Prop where
 len:∀ vs H Q E,sp vs H Q E->vs.length=ps.length
 run:∀ (A:Around) (outer:List Env) (s:Shared) (H:Hp) (args:Args) (us:List Value) (vs:List V) (Q:VK) (E:XK),Dv k A->FC P w K mg base A outer s H->BindsTo s fd args (ps.zip us)->Vals vs us->sp vs H Q E->
  codeAny (model P w) A (.call (.ref f) args) (CR CX outer P w H s Q E) s
section
variable {X:Cx}{pins:List (Addr×Obj)}{σ:St}{H:Hp}{s s':Shared}
theorem Inv.El (I:Inv X pins σ H s):FC X.prog X.w X.K X.mg X.base X.A X.stack s H:=
 ⟨I.ok.frames,I.ok.mod,I.bs,Nat.le_trans I.ok.Gv I.sz,I.stack,I.EM,I.CA,I.bare⟩
theorem Inv.after {Q:VK}{u:Value}(I:Inv X pins σ H s)(h:CE X.stack X.prog X.w H s Q u s'):EP X pins σ Q u s':=by
 obtain⟨v,H',os,bare,un,CA,r,q⟩:=h
 obtain⟨hh,g,d,t,KR⟩:=s'
 obtain rfl:KR=s.os:=os
 exact⟨v,H',I.call (h':=hh) (g':=g) (d':=d) (t':=t) (ch:=[]) un CA bare (fun b z=>absurd z (by simp)),r,q⟩
end
def Binds (K:PySem.W.Frag)(fd:FuncData)(ps:List Str)(ds:List Value):Prop:=
 ∀ (s:Shared) (us:List Value),K.In s.heap->(us++ds).length=ps.length->BindsTo s fd ⟨us,[]⟩ (ps.zip (us++ds))
theorem Binds.all {K:PySem.W.Frag}{fd:FuncData}{ps:List Str}(h:∀ us:List Value,us.length=ps.length->bindArgs fd ⟨us,[]⟩=pure (ps.zip us)):Binds K fd ps []:=fun s us _ hl=>by
 rw[List.append_nil] at hl ⊢
 exact .of_eq (h us hl)
def Passes (CX:Dw)(X:Cx)(E:XK):Prop:=∀ (pins:List (Addr×Obj)) (σ:St) (H:Hp) (s:Shared) (e:Value) (s':Shared),Inv X pins σ H s->CX X.stack H s E e s'->X.xe e s'
structure EO (N P:List Str)(sc:Scope):Prop where
 kind:sc.kind=.function
 co:sc.isCoroutine=false
 gen:sc.isGenerator=false
 nd:N.Nodup
 pre:N.take P.length=P
 par:∀ x∈P,sc.names.lookup x=some .local∨sc.names.lookup x=some .cell
 IW:∀ y∈sc.names,y.2≠.free
theorem fF {kindOf:Str->Option NameKind}{x:Str}:∀ {binds:List (Str×Value)}{m:Str->Option Value},(∀ v,(x,v)∉binds)->bindL kindOf binds m x=m x
 | [],_,_=>rfl
 | (n,v)::r,m,h=>by
  unfold bindL
  rw[fF fun w hw=>h w (List.mem_cons_of_mem _ hw)]
  split
  ·have:x≠n:=by rintro rfl;exact h v List.mem_cons_self
   simp[this]
  ·rfl
theorem fG {kindOf:Str->Option NameKind}{x:Str}:∀ {binds:List (Str×Value)}{m:Str->Option Value},(∀ v,(x,v)∉binds)->bindC kindOf binds m x=m x
 | [],_,_=>rfl
 | (n,v)::r,m,h=>by
  unfold bindC
  rw[fG fun w hw=>h w (List.mem_cons_of_mem _ hw)]
  split
  ·rfl
  ·have:x≠n:=by rintro rfl;exact h v List.mem_cons_self
   simp[this]
theorem fH {kindOf:Str->Option NameKind}{x:Str}{v:Value}:∀ {P:List Str}{vs:List Value}{i:Nat}{m:Str->Option Value},P.Nodup->P[i]? = some x->vs[i]? = some v->kindOf x=some .local->
  bindL kindOf (P.zip vs) m x=some v
 | [],_,_,_,_,h,_,_=>by simp at h
 | _::_,[],_,_,_,_,h,_=>by simp at h
 | p::P,w::vs,0,m,nd,h1,h2,hk=>by
  simp at h1 h2;subst h1;subst h2
  show bindL kindOf ((p,w)::P.zip vs) m p=_
  unfold bindL
  rw[fF fun v hv=>(List.nodup_cons.mp nd).1 (List.of_mem_zip hv).1,if_pos hk]
  simp
 | p::P,w::vs,i+1,m,nd,h1,h2,hk=>by
  show bindL kindOf ((p,w)::P.zip vs) m x=_
  unfold bindL
  exact fH (i:=i) (List.nodup_cons.mp nd).2 (by simpa using h1) (by simpa using h2) hk
theorem fI {kindOf:Str->Option NameKind}{x:Str}{v:Value}:∀ {P:List Str}{vs:List Value}{i:Nat}{m:Str->Option Value},P.Nodup->P[i]? = some x->vs[i]? = some v->kindOf x≠some .local->
  bindC kindOf (P.zip vs) m x=some v
 | [],_,_,_,_,h,_,_=>by simp at h
 | _::_,[],_,_,_,_,h,_=>by simp at h
 | p::P,w::vs,0,m,nd,h1,h2,hk=>by
  simp at h1 h2;subst h1;subst h2
  show bindC kindOf ((p,w)::P.zip vs) m p=_
  unfold bindC
  rw[fG fun v hv=>(List.nodup_cons.mp nd).1 (List.of_mem_zip hv).1,if_neg hk]
  simp
 | p::P,w::vs,i+1,m,nd,h1,h2,hk=>by
  show bindC kindOf ((p,w)::P.zip vs) m x=_
  unfold bindC
  exact fI (i:=i) (List.nodup_cons.mp nd).2 (by simpa using h1) (by simpa using h2) hk
noncomputable def start (N:List Str)(vs:List V):St:=vs.map some++List.replicate (N.length - vs.length) none
noncomputable def cp (CX:Dw)(P:Program)(w:World)(K:PySem.W.Frag)(mg:Str->Option Value)(base:Heap)(N:List Str)(qual:Str)(scope:Scope)(f:Addr)(cd:Value)(A:Around)(outer:List Env)(s:Shared)(H:Hp)(E:XK):Cx where
 prog:=P
 w:=w
 K:=K
 mg:=mg
 base:=base
 A:=A.deeper (envOfC qual scope s.heap.objs.size f cd)
 N:=N
 C1:=s
 EK:=H
 env:=envOfC qual scope s.heap.objs.size f cd
 outer:=outer
 stack:=envOfC qual scope s.heap.objs.size f cd::outer
 ex:=[]
 calm:=A.handled.isNone
 fn:=fun _=>true
 pn:=[]
 xe:=fun e s'=>wpAny (model P w) (A.deeper (envOfC qual scope s.heap.objs.size f cd)) (leaving (envOfC qual scope s.heap.objs.size f cd) e) (fun _ Gg=>CX outer H s E e Gg) (fun e' Gg=>CX outer H s E e' Gg) s'
theorem ip {sc:Scope}{n:Nat}{x:Str}(h:sc.names.lookup x=some .cell):∃ c,(cellsFrom n sc.names []).lookup x=some c:=by
 have q:=PySem.W.cellsFrom_some sc.names n [] (.inl h)
 exact Option.isSome_iff_exists.mp q
theorem lT {CX:Dw}{P:Program}{w:World}{K:PySem.W.Frag}{mg:Str->Option Value}{base:Heap}{N ps:List Str}{qual:Str}{scope:Scope}{f:Addr}{cd:Value}{A:Around}{outer:List Env}{s s1:Shared}{H:Hp}{E:XK}{us:List Value}{vs:List V}
  (S:EO N ps scope) (e0:FC P w K mg base A outer s H) (hl:vs.length=ps.length) (r:Vals vs us)
  (x:InCallC s s.heap.objs.size (bindL (envOfC qual scope s.heap.objs.size f cd).kindOf (ps.zip us) fun _=>none) (cellsFrom (s.heap.objs.size+1) scope.names []) (bindC (envOfC qual scope s.heap.objs.size f cd).kindOf (ps.zip us) fun _=>none) s1) :
  Inv (cp CX P w K mg base N qual scope f cd A outer s H E) [] (start N vs) H s1:=by
 have Hu:ps.length<=N.length:=by have:=congrArg List.length S.pre;rw[List.length_take] at this;omega
 obtain⟨h1,tk,rfl,hk⟩:=x.done
 have KS:∀ b:Addr,b∉(cp CX P w K mg base N qual scope f cd A outer s H E).ex:=fun b z=>absurd (show b∈([]:List Addr) from z) (by simp)
 refine⟨⟨e0.mod,S.kind,rfl,rfl,Nat.le_refl _,fun y z c h1 h2=>?_,fun y hy=>?_,fun y c _ h=>?_,fun h=>Option.isNone_iff_eq_none.mp h,Around.frames_deeper e0.frames,.inr ⟨rfl,rfl⟩,fun b z=>absurd z (KS b),e0.bs,e0.Gv,fun b _ _=>KS b,fun b z=>absurd z (KS b),e0.Ds,e0.Fs⟩,
  rfl,e0.bare,Un.kept hk,⟨_,x.toInCall.ns,fun i y v h1 h2 h3=>?_⟩,fun y c h=>⟨_,x.cell y c h⟩,e0.CA.fresh (Nat.le_refl _),fun y c h=>?_,fun p hp=>absurd (show p∈([]:List (Addr×Obj)) from hp) (by simp),e0.CA.kept hk,?_⟩
 ·exact name_of_addr x.apart (PySem.mem_of_lookup h1) (PySem.mem_of_lookup h2)
 ·have hy:scope.names.lookup y=some .cell∨scope.names.lookup y=some .free:=hy
  rcases hy with hy|hy
  ·exact ip hy
  ·exact absurd rfl (S.IW _ (PySem.mem_of_lookup hy))
 ·exact Nat.le_of_lt (x.above y c (PySem.mem_of_lookup h))
 ·have hi:i < vs.length:=by
   unfold start at h2
   by_cases hi:i < vs.length
   ·exact hi
   ·rw[List.getElem?_append_right (by simpa using hi)] at h2
    rw[List.getElem?_replicate] at h2
    split at h2<;>cases h2
  have ha:vs[i]? = some v:=by
   unfold start at h2
   rw[List.getElem?_append_left (by simpa using hi),List.getElem?_map] at h2
   cases e:vs[i]? with
   | none=>rw[e] at h2;cases h2
   | some a=>rw[e] at h2;cases h2;rfl
  obtain⟨u,hu,rv⟩:=r.get ha
  have hp:ps[i]? = some y:=by
   rw[<- S.pre,List.getElem?_take_of_lt (by omega)];exact h1
  have Ol:ps.Nodup:=by rw[<- S.pre];exact S.nd.sublist (List.take_sublist _ _)
  refine⟨u,rv,?_⟩
  rcases S.par y (List.mem_of_getElem? hp) with k|k
  ·exact .inl ⟨k,fH Ol hp hu k⟩
  ·obtain⟨c,e⟩:=ip (n:=s.heap.objs.size+1) k
   refine .inr ⟨.inl k,c,e,?_⟩
   have q:=x.cell y c e
   rw[fI Ol hp hu (by show scope.names.lookup y≠_;rw[k];decide)] at q
   exact q
 ·exact e0.CA.fresh (Nat.le_of_lt (x.above y c (PySem.mem_of_lookup h)))
 ·unfold start
  show _=N.length
  rw[List.length_append,List.length_map,List.length_replicate]
  omega
theorem tO {CX:Dw}{P:Program}{w:World}{K:PySem.W.Frag}{mg:Str->Option Value}{base:Heap}{k:Nat}{f:Addr}{name qual:Str}{params:Arguments}{body:List Stmt}{scope:Scope}{dV kV doc pm Em ct oc:Value}{an od:Option Addr}
  {Hv:Array (Option Value)}{N ps:List Str}{sp:Sp} (lk:K.lookup f=some ⟨oc,od,.func (PySem.W.fnOf name qual params body scope dV kV doc pm an Em ct),Hv⟩) (GD:PySem.W.codeIn K Em qual=true) (S:EO N ps scope)
  (QD:k % 1000≠999) (len:∀ vs H Q E,sp vs H Q E->vs.length=ps.length)
  (GI:∀ (A:Around) (outer:List Env) (s:Shared) (H:Hp) (vs:List V) (Q:VK) (E:XK),Dv k (A.deeper (envOfC qual scope s.heap.objs.size f Em))->sp vs H Q E->
   ∃ t,Fy (cp CX P w K mg base N qual scope f Em A outer s H E) body t/\t {nx:=fun _ H'=>Q .CD H',rt:=Q} (start N vs) H) :
  DN P w K mg base CX (k+1) f (PySem.W.fnOf name qual params body scope dV kV doc pm an Em ct) ps sp:=by
 refine⟨len,fun A outer s H args us vs Q E hr e0 hb r Ft=>?_⟩
 have hl:=len _ _ _ _ Ft
 have KX:K.In s.heap:=e0.mod.G5.keeps fun b o e=>(e0.bs b o e).1
 have lim:s.heap.NoLimit:=e0.mod.nolimit.keeps fun b o e=>(e0.bs b o e).1
 have KU:∀ y∈ps.zip us,scope.names.lookup y.1=some .local∨(scope.names.lookup y.1=some .cell/\((cellsFrom (s.heap.objs.size+1) scope.names []).lookup y.1).isSome=true):=fun ⟨n,v⟩ hy=>by
  rcases S.par n (List.of_mem_zip hy).1 with q|q
  ·exact .inl q
  ·exact .inr ⟨q,PySem.W.cellsFrom_some _ _ _ (.inl q)⟩
 refine codeAny_call_function hr.depth (KX _ _ lk) rfl S.co S.gen rfl (PySem.W.codeRec_of KX GD) (hb _ _ _ _ ?_)
 refine wpAny_newFunctionEnv_cells S.kind KU fun env he s1 x=>?_
 subst he
 refine⟨lim.keeps x.toInCall.keep,codeAny_func ?_⟩
 obtain⟨t,ht,hq⟩:=GI A outer s H vs Q E (hr.deeper _ QD) Ft
 have I:Inv (cp CX P w K mg base N qual scope f Em A outer s H E) [] (start N vs) H s1:=lT S e0 hl r x
 refine wpAny_mono (ht [] s1 (start N vs) H _ I hq) (fun fl s' hs=>?_) fun e s' hs=>hs
 have fin:∀ {CB:St}{H':Hp}{v:V}{u:Value},Inv (cp CX P w K mg base N qual scope f Em A outer s H E) [] CB H' s'->RelV v u->Q v H'->CE outer P w H s Q u s':=
  fun {CB H' v u} J rv q=>⟨v,H',J.os,J.bare,J.base,J.CA,rv,q⟩
 cases fl with
 | ret u=>
  obtain⟨v,CB,H',J,rv,q⟩:=hs
  exact fin J rv q
 | next=>
  obtain⟨CB,H',J,q⟩:=hs
  exact fin (v:=V.CD) (u:=Value.none) J rfl q
 | brk=>
  obtain⟨_,_,_,q⟩:=hs
  exact False.elim q
 | cont=>
  obtain⟨_,_,_,q⟩:=hs
  exact False.elim q
section
variable {X:Cx}{x:Str}{p pos:Pos}{e:Expr}{es:List Expr}{t:TA}{id T:String}{r:List V->Hp->VK->Prop}
def MS (r:List V->Hp->VK->Prop)(t:TA):TE:=fun σ H Q=>t σ H fun vs H1=>r vs H1 Q
theorem iq (hc:cy X (.builtin id) r)(hg:Gl X x)(hm:X.mg x=none)(hv:bootBuiltins x=some (.builtin id))(ha:PA X (e::es) t)(hn:x≠"__name__":=by decide) (MT:(x == ("__debug__" : Str))=false:=by decide)
  (he:starEach (e::es) X.env=(false,eval e X.env)::starEach es X.env:=by rfl) (Hu:(backTo pos (starEach es X.env)).any (·.1)=false:=by rfl):PE X (.Call (.Name x p) (e::es) [] pos) (MS r t):=by
 intro pins s σ H Q I h
 refine wpAny_Call_Name_kw (bO I hg hm hv ?_ hn MT)
 exact PyProof.Rows.callWith_builtin1 (CF (ha pos pins s σ H _ I h) fun us s1 ⟨vs,H1,I1,r1,q1⟩=>hc pins s1 σ H1 vs us Q I1 r1 q1) he Hu
theorem dD (hc:cy X (.type T) r)(hg:Gl X x)(hm:X.mg x=none)(hv:bootBuiltins x=some (.type T))(ha:PA X (e::es) t)(hn:x≠"__name__":=by decide) (MT:(x == ("__debug__" : Str))=false:=by decide)
  (he:starEach (e::es) X.env=(false,eval e X.env)::starEach es X.env:=by rfl) (Hu:(backTo pos (starEach es X.env)).any (·.1)=false:=by rfl):PE X (.Call (.Name x p) (e::es) [] pos) (MS r t):=by
 intro pins s σ H Q I h
 refine wpAny_Call_Name_kw (bO I hg hm hv ?_ hn MT)
 exact PyProof.Rows.callWith_type1 (CF (ha pos pins s σ H _ I h) fun us s1 ⟨vs,H1,I1,r1,q1⟩=>hc pins s1 σ H1 vs us Q I1 r1 q1) he Hu
end
end L2
namespace HT
open PySem PyProof.Rows
section
variable {prog:Program}{w:World}{A:Around}{E:Value->Shared->Prop}{s:Shared}
noncomputable def Ey (n d:Nat):Option Int->Nat
 | none=>d
 | some v=>if v < 0 then (v+(n:Int)).toNat else min v.toNat n
end
end HT
namespace L2
open PySem PySem.Spec PyProof.Rows
noncomputable abbrev TO:=St->Hp->(Option Int->Hp->Prop)->Prop
def PO (X:Cx)(e:Option Expr)(t:TO):Prop:=
 ∀ (pins:List (Addr×Obj)) (s:Shared) (σ:St) (H:Hp) (Q:Option Int->Hp->Prop),Inv X pins σ H s->t σ H Q->
  wpAny (model X.prog X.w) X.A (evalPart e X.env) (fun u s'=>∃ o H',Inv X pins σ H' s'/\IsPart u o/\Q o H') X.xe s
noncomputable def rA:TO:=fun _ H Q=>Q none H
noncomputable def yD (t:TE):TO:=fun σ H Q=>t σ H fun x H1=>∃ i,x=.int i/\Q (some i) H1
theorem intsAre_of {ns:List Int}:∀ {us:List Value},Vals (ns.map V.int) us->IntsAre us ns:=by
 induction ns with
 | nil=>intro us r;rw[List.map_nil] at r;cases r;exact .nil
 | cons n ns ih=>
  intro us r
  rw[List.map_cons] at r
  cases r with
  | cons r1 r2=>
   obtain⟨t,e⟩:=r1
   subst e
   exact .cons n t (ih r2)
section
variable {X:Cx}{e:Expr}{te:TE}{lo hi:Option Expr}{tl th:TO}{pos p2:Pos}
theorem rB:PO X none rA:=by
 intro pins s σ H Q I h
 rw[evalPart_none]
 exact wpAny_pure ⟨none,H,I,.none,h⟩
theorem rC (h:PE X e te):PO X (some e) (yD te):=by
 intro pins s σ H Q I hw
 rw[evalPart_some]
 refine CF (h pins s σ H _ I hw) fun u s1 ⟨x,H1,I1,r1,q1⟩=>?_
 obtain⟨i,rfl,q⟩:=q1
 obtain⟨t,rfl⟩:=r1
 exact⟨some i,H1,I1,.int i t,q⟩
def L4 (X:Cx)(r:V->Option Int->Option Int->Hp->VK->Prop):Prop:=
 ∀ (pins:List (Addr×Obj)) (s:Shared) (σ:St) (H:Hp) (x:V) (v vl vu:Value) (lo hi:Option Int) (sl:Addr) (Q:VK),Inv X pins σ H s->RelV x v->s.heap.IsSliceOf sl vl vu .none->IsPart vl lo->IsPart vu hi->r x lo hi H Q->
  ∃ T id,typeLookup (.type T) "__getitem__" = pure (some (.builtin id))/\s.TypeIs v T/\wpAny (model X.prog X.w) X.A (getItem v (.ref sl)) (EP X pins σ Q) X.xe s
def QE (r:V->Option Int->Option Int->Hp->VK->Prop)(te:TE)(tl th:TO):TE:=fun σ H Q=>te σ H fun x H1=>tl σ H1 fun l H2=>th σ H2 fun u H3=>r x l u H3 Q
theorem ir {r:V->Option Int->Option Int->Hp->VK->Prop}(hr:L4 X r)(he:PE X e te)(hl:PO X lo tl)(hu:PO X hi th):PE X (.Subscript e (.Slice lo hi none p2) pos) (QE r te tl th):=by
 intro pins s σ H Q I h
 refine Subscript_ (CF (he pins s σ H _ I h) fun v s1 ⟨x,H1,I1,r1,q1⟩=>?_)
 refine wpAny_Slice (CF (hl pins s1 σ H1 _ I1 q1) fun vl s2 ⟨l,H2,I2,pl,q2⟩=>CF (hu pins s2 σ H2 _ I2 q2) fun vu s3 ⟨u,H3,I3,pu,q3⟩=>?_)
 rw[evalPart_none]
 refine wpAny_pure ?_
 have I4:Inv X pins σ H3 {s3 with heap:=s3.heap.push {cls:=.type "slice",data:=.fields #[vl,vu,.none]}}:=I3.kept (t':=s3.toks) fun b ob q=>Heap.get?_push_of_some _ q
 obtain⟨T,id,hT,ht,hg⟩:=hr pins {s3 with heap:=s3.heap.push {cls:=.type "slice",data:=.fields #[vl,vu,.none]}} σ H3 x v vl vu l u s3.heap.objs.size Q I4 r1 (Heap.IsSliceOf.new ..) pl pu q3
 show wpAny (model X.prog X.w) X.A (subscriptTail e (.Slice lo hi none p2) v (.ref s3.heap.objs.size)) (EP X pins σ Q) X.xe {s3 with heap:=s3.heap.push {cls:=.type "slice",data:=.fields #[vl,vu,.none]}}
 exact tail_any (ops:=[.ref s3.heap.objs.size,v]) ht hT hg (by with_unfolding_all rfl)
noncomputable def lU (xs:List V)(lo hi:Option Int):List V:=(xs.drop (HT.Ey xs.length 0 lo)).take (HT.Ey xs.length xs.length hi - HT.Ey xs.length 0 lo)
theorem iu (xs:List V)(lo hi:Option Int):(lU xs lo hi).length<=xs.length:=by
 unfold lU
 rw[List.length_take,List.length_drop]
 omega
end
noncomputable def E4 (n:Nat)(i:Int):Option Nat:=if 0<=i then (if i < n then some i.toNat else none) else if -(n:Int)<=i then some (i+n).toNat else none
noncomputable def DW {α:Type}(xs:List α)(i:Int):Option α:=(E4 xs.length i).bind fun j=>xs[j]?
theorem jQ {n:Nat}{i:Int}{j:Nat}(h:E4 n i=some j):seqIndex? i n=some j/\j < n/\-(n:Int)<=i/\i < n:=by
 unfold E4 at h
 by_cases h0:0<=i
 ·rw[if_pos h0] at h
  by_cases h1:i < n
  ·rw[if_pos h1] at h
   have e:i.toNat=j:=Option.some.inj h
   exact⟨by rw[seqIndex_of h0 h1,e],by omega,by omega,h1⟩
  ·rw[if_neg h1] at h;cases h
 ·rw[if_neg h0] at h
  by_cases h1 : -(n:Int)<=i
  ·rw[if_pos h1] at h
   have e:(i+n).toNat=j:=Option.some.inj h
   exact⟨by rw[seqIndex_neg (by omega) h1,e],by omega,h1,by omega⟩
  ·rw[if_neg h1] at h;cases h
theorem gp {α:Type}{xs:List α}{i:Int}{v:α}(h:DW xs i=some v):∃ j,seqIndex? i xs.length=some j/\xs[j]? = some v/\j < xs.length/\-(xs.length:Int)<=i/\i < xs.length:=by
 unfold DW at h
 cases e:E4 xs.length i with
 | none=>rw[e] at h;cases h
 | some j=>
  rw[e] at h
  obtain⟨h1,h2,h3,h4⟩:=jQ e
  exact⟨j,h1,h,h2,h3,h4⟩
def rD (b:Expr):Prop:=∀ o i,subscripted b false o i=operate [o,i] (getItem o i)
def G7 (X:Cx)(r:R2):Prop:=
 ∀ (value slice:Expr) (pins:List (Addr×Obj)) (s:Shared) (σ:St) (H:Hp) (x y:V) (v u:Value) (Q:VK),Inv X pins σ H s->RelV x v->RelV y u->r x y H Q->
  subscripted slice false v u=operate [v,u] (getItem v u)->wpAny (model X.prog X.w) X.A (subscriptTail value slice v u) (EP X pins σ Q) X.xe s
def Om (X:Cx)(id:String)(r:V->List V->Hp->VK->Prop):Prop:=
 ∀ (pins:List (Addr×Obj)) (s:Shared) (σ:St) (H:Hp) (x:V) (xs:List V) (v:Value) (us:List Value) (Q:VK),Inv X pins σ H s->RelV x v->Vals xs us->r x xs H Q->
  wpAny (model X.prog X.w) X.A (call (.builtin id) (v::us)) (EP X pins σ Q) X.xe s
section
variable {X:Cx}{a b:Expr}{ta tb:TE}{pos:Pos}
theorem G7.or {r r':R2}(h:G7 X r)(h':G7 X r'):G7 X (fun x y H Q=>r x y H Q∨r' x y H Q):=by
 intro value slice pins s σ H x y v u Q I rx ry q hs
 rcases q with q|q
 ·exact h value slice pins s σ H x y v u Q I rx ry q hs
 ·exact h' value slice pins s σ H x y v u Q I rx ry q hs
theorem yE {r:R2}(hr:G7 X r)(ha:PE X a ta)(hb:PE X b tb)(hs:rD b):PE X (.Subscript a b pos) (L1 r ta tb):=by
 intro pins s σ H Q I h
 exact Subscript_ (wc ha hb I h fun v u s2 x y H2 I2 rx ry q=>hr a b pins s2 σ H2 x y v u Q I2 rx ry q (hs _ _))
noncomputable def yF (K:PySem.W.Frag):R2:=fun x y H Q=>∃ p xs i v,x=.ref p/\y=.int i/\DC K H p xs/\DW xs i=some v/\Q v H
noncomputable def yG (K:PySem.W.Frag):R2:=fun x y H Q=>∃ p xs i v,x=.ref p/\y=.int i/\DL K H p xs/\DW xs i=some v/\Q v H
noncomputable def yI:R2:=fun x y H Q=>∃ z i c,x=.str z/\y=.int i/\z.length<=sizeLine/\DW z.cps.toList i=some c/\Q (.str ⟨#[c]⟩) H
theorem rE:G7 X (yF X.K):=by
 intro value slice pins s σ H x y v u Q I rx ry h hs
 obtain⟨p,xs,i,z,rfl,rfl,hq,he,q⟩:=h
 cases rx
 obtain⟨t,rfl⟩:=ry
 obtain⟨its,r,pl,hz⟩:=I.list hq
 obtain⟨j,h1,h2,h3,h4,h5⟩:=gp he
 obtain⟨w,ew,Hw⟩:=r.get h2
 have hl:=r.length
 have hn:=dC
 have fin:EP X pins σ Q w s:=⟨z,H,I,Hw,q⟩
 by_cases h0:0<=i
 ·have hj:i.toNat=j:=by
   rw[seqIndex_of h0 h5] at h1
   exact Option.some.inj h1
  exact item_listR pl.isList h0 (by omega) (by rw[hj];simpa using ew) fin hs
 ·have hj:(i+(its.toArray.size:Int)).toNat=j:=by
   rw[seqIndex_neg (by omega) h4] at h1
   rw[List.size_toArray,<- hl]
   exact Option.some.inj h1
  exact subscriptTail_builtinR (x:=w) pl.isList.typeIs slot_list_getitem.lookup
   (wpAny_getItem_list_neg (Q:=fun r s'=>r=w/\EP X pins σ Q r s') pl.isList (by omega) (by rw[List.size_toArray]<;>omega) (by omega) (by rw[hj];simpa using ew) ⟨rfl,fin⟩) hs
theorem wt:G7 X (yG X.K):=by
 intro value slice pins s σ H x y v u Q I rx ry h hs
 obtain⟨p,xs,i,z,rfl,rfl,hq,he,q⟩:=h
 cases rx
 obtain⟨t,rfl⟩:=ry
 obtain⟨its,r,pl,hz⟩:=I.tuple hq
 obtain⟨j,h1,h2,h3,h4,h5⟩:=gp he
 obtain⟨w,ew,Hw⟩:=r.get h2
 have hl:=r.length
 have hn:=dC
 have fin:EP X pins σ Q w s:=⟨z,H,I,Hw,q⟩
 exact subscriptTail_builtinR (x:=w) pl.typeIs slot_tuple_getitem.lookup
  (getItem_tuple (j:=j) (Q:=fun r s'=>r=w/\EP X pins σ Q r s') pl (by omega) (by omega) (by rw[List.size_toArray,<- hl];exact h1) (by simpa using ew) ⟨rfl,fin⟩) hs
theorem wu:G7 X yI:=by
 intro value slice pins s σ H x y v u Q I rx ry h hs
 obtain⟨z,i,c,rfl,rfl,hz,he,q⟩:=h
 obtain⟨t,rfl⟩:=rx
 obtain⟨t',rfl⟩:=ry
 obtain⟨j,h1,h2,h3,h4,h5⟩:=gp he
 have hl:z.cps.toList.length=z.length:=by simp[Str.length]
 rw[hl] at h1 h4 h5
 have hn:=dC
 exact tail_any (typeIs_str s z t) slot_str_getitem.lookup (getItem_str (c:=c) (by
  have e1:decide (i < -(2 ^ 63:Int))=false:=decide_eq_false (by omega)
  have e2:decide (i >= 2 ^ 63)=false:=decide_eq_false (by omega)
  rw[e1,e2,Bool.or_false]) (by rw[h1];simpa using h2) ⟨.str ⟨#[c]⟩,H,I.tok _,⟨_,rfl⟩,q⟩) hs
noncomputable def QF (K:PySem.W.Frag):R2:=fun x y H Q=>yF K x y H Q∨yG K x y H Q∨yI x y H Q
theorem wx:G7 X (QF X.K):=rE.or (wt.or wu)
theorem jo (its:List Value)(n j:Nat)(u:Value):Obj.mapSeq (·.setIfInBounds j u) {cls:=.type "list",data:=.seq its.toArray n} = {cls:=.type "list",data:=.seq (its.set j u).toArray n}:=by
 simp[Obj.mapSeq]
theorem Inv.lst {pins:List (Addr×Obj)}{σ:St}{H:Hp}{s:Shared}{p:Addr}{xs:List V}(I:Inv X pins σ H s)(h:H p=some (.lst xs)) :
  ∃ (its:List Value) (n:Nat),Vals xs its/\s.heap.get? p=some {cls:=.type "list",data:=.seq its.toArray n}/\xs.length<=sizeLine:=by
 obtain⟨z,its,n,r,e⟩:=I.CA p _ h
 exact⟨its,n,r,e,z⟩
theorem Inv.IX {pins:List (Addr×Obj)}{σ:St}{H:Hp}{s:Shared}{p:Addr}{xs ys:List V}{its its':List Value}{n n':Nat}{f:Obj->Obj}(I:Inv X pins σ H s)(h:H p=some (.lst xs))
  (ho:s.heap.get? p=some {cls:=.type "list",data:=.seq its.toArray n}) (hf:f {cls:=.type "list",data:=.seq its.toArray n} = {cls:=.type "list",data:=.seq its'.toArray n'}) (r:Vals ys its') (hz:ys.length<=sizeLine) (t:Nat) :
  Inv X pins σ (upd H p (.lst ys)) {s with heap:=s.heap.update p f,toks:=t}:=by
 have e:(s.heap.update p f).get? p=some {cls:=.type "list",data:=.seq its'.toArray n'}:=by
  rw[Heap.get?_update_self f ho (by rw[hf]<;>rfl),hf]
 refine I.write (x:=p) (e:=p) (by rw[h];trivial) (.inl rfl) (fun b u hb q=>(Heap.get?_update_other _ _ (Ne.symm hb)).trans q) ⟨_,e⟩ ?_
 exact⟨hz,its',n',r,e⟩
def yJ:V->V->V->Hp->(Hp->Prop)->Prop:=fun o i v H Q=>∃ p xs k j,o=.ref p/\i=.int k/\H p=some (.lst xs)/\E4 xs.length k=some j/\Q (upd H p (.lst (xs.set j v)))
theorem set_list:yt X yJ:=by
 intro pins s σ H o i v ov iv u Q I ro ri rv h
 obtain⟨p,xs,k,j,rfl,rfl,hp,hj,q⟩:=h
 cases ro
 obtain⟨t,rfl⟩:=ri
 obtain⟨its,n,r,ho,hz⟩:=I.lst hp
 obtain⟨h1,h2,h3,h4⟩:=jQ hj
 have hl:=r.length
 have hn:=dC
 have I':Inv X pins σ (upd H p (.lst (xs.set j v))) {s with heap:=s.heap.update p (Obj.mapSeq (·.setIfInBounds j u))}:=
  I.IX hp ho (jo its n j u) (r.set rv j) (by rw[List.length_set];exact hz) s.toks
 by_cases h0:0<=k
 ·have hk:k.toNat=j:=by
   rw[seqIndex_of h0 h4] at h1
   exact Option.some.inj h1
  exact PySem.W.ki_setAt ho h0 (by omega) (by rw[List.size_toArray,<- hl];exact h4) (by rw[hk];exact⟨_,I',q⟩)
 ·have hk:(k+(its.toArray.size:Int)).toNat=j:=by
   rw[seqIndex_neg (by omega) h3] at h1
   rw[List.size_toArray,<- hl]
   exact Option.some.inj h1
  exact PySem.W.ki_setBack ho (by omega) (by rw[List.size_toArray,<- hl];exact h3) (by omega) (by rw[hk];exact⟨_,I',q⟩)
theorem gq (lo hi:Option Int)(n:Nat):(sliceBounds lo hi none n).1=((HT.Ey n 0 lo:Nat):Int)/\(sliceBounds lo hi none n).2.1=((HT.Ey n n hi:Nat):Int)/\(sliceBounds lo hi none n).2.2=1:=by
 refine⟨?_,?_,rfl⟩
 ·cases lo with
  | none=>simp[sliceBounds,HT.Ey]
  | some i=>
   simp only[sliceBounds,HT.Ey,Option.getD_none,show (1:Int) > 0 by decide,if_true]
   by_cases h:i < 0
   ·simp only[h,if_true]<;>omega
   ·simp only[h,if_false]<;>omega
 ·cases hi with
  | none=>simp[sliceBounds,HT.Ey]
  | some i=>
   simp only[sliceBounds,HT.Ey,Option.getD_none,show (1:Int) > 0 by decide,if_true]
   by_cases h:i < 0
   ·simp only[h,if_true]<;>omega
   ·simp only[h,if_false]<;>omega
theorem fu (its:List Value)(lo hi:Option Int):slicePick its.toArray lo hi none=((its.drop (HT.Ey its.length 0 lo)).take (HT.Ey its.length its.length hi - HT.Ey its.length 0 lo)).toArray:=by
 obtain⟨h1,h2,h3⟩:=gq lo hi its.toArray.size
 unfold slicePick
 rw[h1,h2,h3]
 simp only[sliceRange_one,pick_run,List.size_toArray]<;>rfl
def BP (K:PySem.W.Frag):V->Option Int->Option Int->Hp->VK->Prop:=fun x lo hi H Q=>∃ a xs,x=.ref a/\DC K H a xs/\∀ p,H p=none->Q (.ref p) (upd H p (.lst (lU xs lo hi)))
theorem jR:L4 X (BP X.K):=by
 intro pins s σ H x v vl vu lo hi sl Q I rx hs pl pu h
 obtain⟨a,xs,rfl,hx,q⟩:=h
 cases rx
 obtain⟨its,r,ht,hz⟩:=I.list hx
 have hlen:=r.length
 refine⟨"list",_,slot_list_getitem.lookup,ht.isList.typeIs,?_⟩
 refine wpAny_getItem_list_slice ht.isList hs pl pu .none (by simp) ?_ (by rw[List.size_toArray]<;>omega)
 rw[fu,<- hlen]
 refine⟨.ref s.heap.objs.size,_,I.laid (t':=s.toks) (o:=.lst (lU xs lo hi)) (fun b ob q=>Heap.get?_push_of_some _ q) (Nat.le_refl _) ?_,rfl,q _ (I.CA.fresh (Nat.le_refl _))⟩
 exact⟨Nat.le_trans (iu xs lo hi) hz,_,0,(r.drop (HT.Ey xs.length 0 lo)).take (HT.Ey xs.length xs.length hi - HT.Ey xs.length 0 lo),Heap.get?_push_size _ rfl⟩
theorem cq:cy X (.type "list") (fun xs H Q=>∃ p ys,xs=[.ref p]/\(DC X.K H p ys∨DL X.K H p ys)/\∀ l,H l=none->Q (.ref l) (upd H l (.lst ys))):=by
 intro pins s σ H xs us Q I r h
 obtain⟨p,ys,rfl,hq,q⟩:=h
 obtain⟨u,rfl,rx⟩:=vals1 r
 cases rx
 have fin:∀ (its:List Value),Vals ys its->ys.length<=sizeLine->∀ (h':Heap) (c':Nat),(∀ b o',s.heap.get? b=some o'->h'.get? b=some o')->
   h'.get? s.heap.objs.size=some {cls:=.type "list",dict:=none,data:=.seq its.toArray c',slots:=#[]}->EP X pins σ Q (.ref s.heap.objs.size) {s with heap:=h'}:=fun its r' hz h' c' kp e=>
  ⟨.ref s.heap.objs.size,_,I.laid (t':=s.toks) kp (Nat.le_refl _) (show aP X.prog X.w _ h' _ (.lst ys) from ⟨hz,its,c',r',e⟩),rfl,q _ (I.CA.fresh (Nat.le_refl _))⟩
 rcases hq with hq|hq
 ·obtain⟨its,r',pl,hz⟩:=I.list hq
  have hlen:=r'.length
  obtain⟨o,ho,hc,n,hd⟩:=pl.isList
  exact call_list_seq p (.inl rfl) ho hc hd (fun h' c' kp e=>fin its r' hz h' c' kp e) (by simp only[List.size_toArray]<;>omega)
 ·obtain⟨its,r',pl,hz⟩:=I.tuple hq
  have hlen:=r'.length
  obtain⟨o,ho,hc,n,hd⟩:=pl
  exact call_list_seq p (.inr rfl) ho hc hd (fun h' c' kp e=>fin its r' hz h' c' kp e) (by simp only[List.size_toArray]<;>omega)
def Oo (K:PySem.W.Frag)(T:String)(x:V)(H:Hp):Prop:=match x with
 | .str _=>T = "str"
 | .int _=>T = "int"
 | .ref p=>(T = "list"/\∃ xs,DC K H p xs)∨(T = "tuple"/\∃ o,K.lookup p=some o/\o.cls=.type "tuple"/\o.dict=none)∨
   (T = "dict"/\((∃ kvs,H p=some (.dK kvs))∨∃ kvs,H p=some (.dT kvs)))∨(T = "set"/\∃ S n,H p=some (.set S n))
 | _=>False
theorem wy {pins:List (Addr×Obj)}{σ:St}{H:Hp}{s:Shared}{T:String}{x:V}{v:Value}(I:Inv X pins σ H s)(r:RelV x v)(ty:Oo X.K T x H) :
  s.TypeIs v T/\∀ a,v=.ref a->∃ ob,s.heap.get? a=some ob/\ob.dict=none:=by
 cases x with
 | str z=>
  obtain⟨t,rfl⟩:=r
  cases (show T = "str" from ty)
  exact⟨typeIs_str s z t,fun _ e=>nomatch e⟩
 | int i=>
  obtain⟨t,rfl⟩:=r
  cases (show T = "int" from ty)
  exact⟨typeIs_int s i t,fun _ e=>nomatch e⟩
 | ref p=>
  cases r
  rcases ty with ⟨rfl,xs,hq⟩|⟨rfl,o,hk,hc,hd⟩|⟨rfl,hk⟩|⟨rfl,S,n,hk⟩
  ·obtain⟨its,_,pl,_⟩:=I.list hq
   refine⟨pl.isList.typeIs,fun a e=>?_⟩
   cases e
   obtain⟨o,n,e,c,hd,_⟩:=pl
   exact⟨o,e,hd⟩
  ·refine⟨⟨o,I.EL p o hk,hc⟩,fun a e=>?_⟩
   cases e
   exact⟨o,I.EL _ o hk,hd⟩
  ·have z:∃ o,s.heap.get? p=some o/\o.ExactDict:=by
    rcases hk with ⟨kvs,hk⟩|⟨kvs,hk⟩
    ·obtain⟨_,_,_,_,o,_,_,e,ex,_⟩:=I.CA p _ hk
     exact⟨o,e,ex⟩
    ·obtain⟨_,_,_,_,o,_,_,e,ex,_⟩:=I.CA p _ hk
     exact⟨o,e,ex⟩
   obtain⟨o,e,ex⟩:=z
   refine⟨⟨o,e,ex.1⟩,fun a e2=>?_⟩
   cases e2
   exact⟨o,e,ex.2.1⟩
  ·obtain⟨o,_,_,_,e,ex,_⟩:=I.CA p _ hk
   refine⟨⟨o,e,ex.1⟩,fun a e2=>?_⟩
   cases e2
   exact⟨o,e,ex.2.1⟩
 | _=>exact False.elim ty
def Oq (K:PySem.W.Frag)(T:String)(r:V->List V->Hp->VK->Prop)(to:TE)(t:TA):TE:=fun σ H Q=>to σ H fun x H1=>Oo K T x H1/\t σ H1 fun xs H2=>r x xs H2 Q
variable {o e:Expr}{es:List Expr}{to:TE}{t:TA}{name:Str}{apos Cw:Pos}{T id:String}{r:V->List V->Hp->VK->Prop}
theorem jS (pa:PlainAttrs T)(slot:Slot T name id)(J7:typeOf (.builtin id)=pure (.type "method_descriptor")) (hm:Om X id r) (ho:PE X o to) (ha:PA X (e::es) t)
  (DO:attributeBase o name X.env (eval o X.env)=eval o X.env:=by rfl)
  (Fd:((backTo Cw (starEach (e::es) X.env)).all (fun x=>!x.1)&&(backToKw Cw (keywordEach [] X.env)).all (fun x=>x.1.isSome)
  &&decide ((e::es).length+([]:List Keyword).length+(if ([]:List Keyword).isEmpty then 0 else 1) < 30))=true:=by rfl)
  (Fe:(apos.endLine == Cw.line)=true:=by rfl) (hs:starEach (e::es) X.env=(false,eval e X.env)::starEach es X.env:=by rfl) (IY:(backTo Cw (starEach es X.env)).any (·.1)=false:=by rfl) :
  PE X (.Call (.Attribute o name apos) (e::es) [] Cw) (Oq X.K T r to t):=by
 intro pins s σ H Q I h
 refine wpAny_Call_method_late DO Fd Fe rfl (CF (ho pins s σ H _ I h) fun v s1 ⟨x,H1,I1,r1,ty,q1⟩=>?_)
 obtain⟨h1,h2⟩:=wy I1 r1 ty
 refine⟨T,id,pa,slot,J7,h1,h2,?_⟩
 have hA:=ha Cw pins s1 σ H1 _ I1 q1
 rw[hs] at hA ⊢
 refine Calls.callWith_builtin (by show (false||(backTo Cw (starEach es X.env)).any (·.1))=false;rw[IY]<;>rfl) (Calls.evalArgs_plain ?_)
 exact CF hA fun us s2 ⟨vs,H2,I2,r2,q2⟩=>hm pins s2 σ H2 x vs v us Q I2 r1 r2 q2
end
def Ot (X:Cx)(id:String)(r:V->List V->Hp->VK->Prop):Prop:=
 ∀ (pins:List (Addr×Obj)) (s:Shared) (σ:St) (H:Hp) (x:V) (xs:List V) (v:Value) (us:List Value) (Q:VK),Inv X pins σ H s->RelV x v->Vals xs us->r x xs H Q->
  wpAny (model X.prog X.w) X.A (call (.builtin id) (v::us)) (EP X pins σ Q) X.xe s
theorem Vals.one:∀ {x:V}{us:List Value},Vals [x] us->∃ u,us=[u]/\RelV x u
 | _,_,.cons r .nil=>⟨_,rfl,r⟩
theorem Vals.rep {xs:List V}{us:List Value}(h:Vals xs us):∀ k:Nat,Vals (List.replicate k xs).flatten (List.replicate k us).flatten
 | 0=>.nil
 | k+1=>by
  rw[List.replicate_succ,List.replicate_succ,List.flatten_cons,List.flatten_cons]
  exact Vals.append h (Vals.rep h k)
theorem foldl_rep (its:List Value):∀ (k:Nat) (acc:List Value),
  List.foldl (fun x1 x2=>x1++x2) acc.toArray (List.replicate k its.toArray)=(acc++(List.replicate k its).flatten).toArray
 | 0,acc=>by simp
 | k+1,acc=>by
  have e:acc.toArray++its.toArray=(acc++its).toArray:=by simp
  have e2:(acc++its)++(List.replicate k its).flatten=acc++(List.replicate (k+1) its).flatten:=by
   rw[List.replicate_succ,List.flatten_cons,List.append_assoc]
  rw[<- e2,<- foldl_rep its k (acc++its),<- e,List.replicate_succ,List.foldl_cons]
section
variable {X:Cx}{pins:List (Addr×Obj)}{σ:St}{H:Hp}{s:Shared}{l b:Addr}{xs ys zs:List V}
theorem Inv.ER {its its':List Value}{n:Nat}{f:Array Value->Array Value}{t':Nat}(I:Inv X pins σ H s)(hH:H l=some (.lst xs))
  (e:s.heap.get? l=some {cls:=.type "list",data:=.seq its.toArray n}) (hf:f its.toArray=its'.toArray) (hv:Vals ys its') (hz:ys.length<=sizeLine) :
  Inv X pins σ (upd H l (.lst ys)) {s with heap:=s.heap.update l (Obj.mapSeq f),toks:=t'}:=by
 have q:=PySem.IsL.update e f
 rw[hf] at q
 refine I.write (x:=l) (e:=l) (by rw[hH];exact trivial) (.inl rfl) (fun b' u hb hu=>(Heap.get?_update_other s.heap (Obj.mapSeq f) (Ne.symm hb)).trans hu) ⟨_,q⟩ ?_
 exact⟨hz,its',_,hv,q⟩
theorem Inv.IZ {its:List Value}{t':Nat}(I:Inv X pins σ H s)(hv:Vals ys its)(hz:ys.length<=sizeLine) :
  Inv X pins σ (upd H s.heap.objs.size (.lst ys)) {s with heap:=s.heap.push {cls:=.type "list",data:=.seq its.toArray},toks:=t'}:=
 I.laid (fun _ _ q=>Heap.get?_push_of_some _ q) (Nat.le_refl _) ⟨hz,its,0,hv,Heap.get?_push_size _ rfl⟩
theorem Inv.fresh (I:Inv X pins σ H s):H s.heap.objs.size=none:=I.CA.fresh (Nat.le_refl _)
theorem Inv.MU (I:Inv X pins σ H s)(hH:H l=some (.lst xs)):xs.length<=sizeLine/\∃ (its:List Value) (n:Nat),Vals xs its/\xs.length=its.length/\s.heap.get? l=some {cls:=.type "list",data:=.seq its.toArray n}:=by
 obtain⟨z,its,n,r,e⟩:=I.CA l _ hH
 exact⟨z,its,n,r,r.length,e⟩
theorem mY {n:Nat}(h:n<=sizeLine):Builtin.List.listTooLong n=false:=by
 unfold Builtin.List.listTooLong
 exact decide_eq_false (by omega)
end
section
variable {X:Cx}
def rF:V->List V->Hp->VK->Prop:=fun x vs H Q=>∃ l xs y,x=.ref l/\vs=[y]/\H l=some (.lst xs)/\xs.length < sizeLine/\Q .CD (upd H l (.lst (xs++[y])))
theorem fJ:Ot X "list.append" rF:=by
 intro pins s σ H x vs v us Q I rx rv h
 obtain⟨l,xs,y,rfl,rfl,hH,hz,q⟩:=h
 cases rx
 obtain⟨u,rfl,ru⟩:=rv.one
 obtain⟨z,its,n,r,hl,e⟩:=I.MU hH
 refine call_meets F.slot_list_append ⟨_,e,rfl⟩ F.entry_list_append (F.args_list_append_2 _ _) (PySem.list_append l its.toArray n u (by rw[List.size_toArray];omega)) ⟨e,?_⟩
 refine⟨.CD,_,I.ER (its':=its++[u]) hH e (by simp) (r.append (.cons ru .nil)) ?_,rfl,q⟩
 rw[List.length_append,List.length_singleton]
 omega
theorem len_rep {α:Type}(xs:List α)(k:Nat):(List.replicate k xs).flatten.length=k*xs.length:=by
 induction k with
 | zero=>simp
 | succ k ih=>rw[List.replicate_succ,List.flatten_cons,List.length_append,ih,Nat.succ_mul,Nat.add_comm]
end
end L2
namespace Att
open PySem PySem.W PySem.Calls PyProof.Rows
theorem dX {P:Params}{h:Heap}:∀ (ns:List Int) (vs:List Value),WellAll P h vs (ns.map WData.int)->IntsAre vs ns:=by
 intro ns
 induction ns with
 | nil=>
  intro vs w
  rw[List.map_nil] at w
  cases w
  exact .nil
 | cons n ns ih=>
  intro vs w
  rw[List.map_cons] at w
  cases w with
  | cons a b=>
   cases a
   exact .cons _ _ (ih _ b)
theorem lV {l:OpenLaw}{n:Nat}(hn:l.most=some n){P:Params}{h:Heap}{args:List WData}{vals:List Value}
  (Hx:l.row.toRowW.claim.pre args=true) (MV:WellAll P h vals args) :
  ∃ a vs ns,vals=[Value.ref a]/\args=[WData.list (ns.map WData.int)]/\h.get? a=some {cls:=.type "list",data:=.seq vs.toArray}/\IntsAre vs ns/\ns.length<=n:=by
 have QG:WShape.hasAll [] args [.list .int]=true:=(pre_splitW Hx).1
 have hc:l.pre.holds [] {args:=args} = true:=(pre_splitW Hx).2
 obtain⟨d,r,rfl,h1,h2⟩:=hasAllW_cons QG
 obtain rfl:=hasAllW_nil h2
 obtain⟨xs,rfl,h3⟩:=hasW_list h1
 obtain⟨ns,rfl⟩:=items_int h3
 have hlen:ns.length<=n:=by
  unfold OpenLaw.pre at hc
  have h4:(WTm.not (.lt (.lit (.int (n:Int))) (.len (.arg 0)))).holds [] {args:=[.list (ns.map .int)]} = true:=by
   have h4:=(holds_andW hc).1
   rw[hn] at h4
   exact h4
  have h5:=condW_of h4 (w_not (w_lt w_lit (w_len_list (w_arg rfl))))
  rw[List.length_map] at h5
  refine Nat.le_of_not_lt fun q=>?_
  have q':(n:Int) < ((ns.length:Nat):Int):=by omega
  first
   | (rw[decide_eq_true q'] at h5;exact absurd h5 (by decide))
   | (simp at h5;omega)
 cases MV with
 | cons w1 w2=>
  cases w2
  cases w1 with
  | list ho GJ=>exact⟨_,_,ns,rfl,rfl,ho,dX ns _ GJ,hlen⟩
theorem lW (l:OpenLaw)(args:List WData):l.row.toRowW.claim.post args (.bool true) args=true:=
 postW_of (r:=l.row.toRowW) (X:=(true == true))
  (show WShape.has [] (.bool true) .bool=true by first|rfl|decide|simp[WShape.has,WShape.arms,WShape.armsAll])
  (show (WTm.eq .res (.lit (.bool true))).value [] {args:=args,res:=some (.bool true),after:=args} = some (.bool (true == true)) from w_eq_bool (w_res rfl) w_lit) rfl
theorem Ff {l:OpenLaw}{n:Nat}{q:Program}{loose:List Str}{XP:(Str->Option Value)->Heap->Prop}{YP:World->Heap->Prop}{d:DefRec}
  (hn:l.most=some n) (KW:d.params.defaults=[])
  (call:∀ (w:World) (C1 CC:Shared) (mg mb:Str->Option Value) (fa:Addr) (o:Obj) (pm cd doc:Value) (a:Addr) (vs:List Value) (ns:List Int),
   Ground q loose [] XP w C1 mg mb CC.heap->YP w CC.heap->
   CC.heap.get? fa=some o->o.data=.func (docDef d.name d.params d.body d.scope pm cd doc)->CC.heap.CodeRec cd d.name->mg d.name=some (.ref fa)->
   CC.heap.get? a=some {cls:=.type "list",data:=.seq vs.toArray}->IntsAre vs ns->ns.length<=n->CC.gens = #[]->
   codeAny (model l.prog w) callerA (.call (.ref fa) ⟨[.ref a],[]⟩) (fun r s'=>r=.ok (.ret (.bool true))/\OldK CC.heap s'.heap/\s'.os=CC.os/\AllBare s'.gens) CC) :
  WalkO q loose XP YP l.row.toRowW d [] (fun f vs=>PySem.call f vs):=by
 intro w C1 CC mg mb G Y fa o pm cd doc dV kV ho hd GD hD hmg hg args vals as Hx QH T2 MV T3
 obtain rfl:dV=.none:=Dflts.none hD KW
 obtain rfl:kV=.none:=Dflts.noKw hD
 obtain⟨a,vs,ns,rfl,rfl,I0,hints,hlen⟩:=lV hn Hx MV
 refine enter_call (codeAny_mono (call w C1 CC mg mb fa o pm cd doc a vs ns G Y ho (fd_plain hd) GD hmg I0 hints hlen hg) fun r s' hq=>?_)
 obtain⟨rfl,h2,h3,h4⟩:=hq
 exact⟨.inl ⟨.bool true,.bool true,[],rfl,fun _=>rfl,.bool true,lW l _,fun _=>⟨List.Pairwise.nil,fun _ hm=>(nomatch hm)⟩⟩,h2,h3,h4⟩
end Att
namespace L2
open PySem PySem.Spec PyProof.Rows
def KL (K:PySem.W.Frag)(a:Addr)(xs:List V):Prop:=
 ∃ (its:List Value) (n:Nat),K.lookup a=some {cls:=.type "list",data:=.seq its.toArray n}/\its.length<=sizeLine/\Vals xs its
def Ls (K:PySem.W.Frag)(H:Hp)(a:Addr)(xs:List V):Prop:=Rd H a (.lst xs)∨KL K a xs
theorem fK:∀ {vs:List Value}{ns:List Int},IntsAre vs ns->Vals (ns.map V.int) vs
 | _,_,.nil=>.nil
 | _,_,.cons n t h=>.cons ⟨t,rfl⟩ (fK h)
def wz (H:Hp):Prop:=∀ b,H b=none∨∃ o xs,H b=some (.CK o (.lst xs))
theorem mZ {P:Program}{w:World}{K:PySem.W.Frag}{mg mb:Str->Option Value}{CX:Dw}{k:Nat}{fa a:Addr}{fd:FuncData}{x:Str}{sp:Sp}{CC:Shared}{vs:List Value}{ns:List Int}
  (KX:K.In CC.heap) (Ja:CC.heap.Ns mainGlobals mg) (hb:CC.heap.Ns builtinsNs mb) (QI:∀ x:Str,x≠"__name__"->mb x=bootBuiltins x) (MW:CC.heap.NoLimit) (hg:CC.gens = #[])
  (ha:CC.heap.get? a=some {cls:=.type "list",data:=.seq vs.toArray}) (hi:IntsAre vs ns) (hl:ns.length<=sizeLine) (hr:Dv k callerA)
  (F:∀ base:Heap,K.In base->base.Ns mainGlobals mg->DN P w K mg base CX k fa fd [x] sp) (KY:∀ (s:Shared) (u:Value),BindsTo s fd ⟨[u],[]⟩ [(x,u)])
  (Ft:∀ H:Hp,wz H->Ls K H a (ns.map V.int)->sp [.ref a] H (fun v _=>v=.bl true) fun _ _ _=>False)
  (MX:∀ H e s',CX [] H CC (fun _ _ _=>False) e s'->False) :
  codeAny (model P w) callerA (.call (.ref fa) ⟨[.ref a],[]⟩) (fun r s'=>r=.ok (.ret (.bool true))/\OldK CC.heap s'.heap/\s'.os=CC.os/\AllBare s'.gens) CC:=by
 have rv:=fK hi
 have MY:=hi.length
 -- from an abstract heap in Ou nothing but IT Jb may be tracked
 have core:∀ H:Hp,wz H->Ls K H a (ns.map V.int)->C0 P w H CC.heap->(∀ b,H b≠none->b=a)->(H a≠none->K.lookup a=none)->
   codeAny (model P w) callerA (.call (.ref fa) ⟨[.ref a],[]⟩) (fun r s'=>r=.ok (.ret (.bool true))/\OldK CC.heap s'.heap/\s'.os=CC.os/\AllBare s'.gens) CC:=by
  intro H hO hS CA hA hK
  have FT:∀ {b:Addr}{o:Obj},CC.heap.get? b=some o->H b=none->(gk CC.heap H).get? b=some o:=fun e n=>mE e n
  have KS:∀ {b:Addr}{o:Obj}{es:Array DictEntry}{ep:Nat},CC.heap.get? b=some o->o.data=.dict es ep->H b=none:=fun {b o es ep} e d=>by
   cases q:H b with
   | none=>rfl
   | some u=>
    have e':b=a:=hA b (by rw[q];simp)
    subst e'
    rw[ha] at e;cases e
    have d':Data.seq vs.toArray _=Data.dict es ep:=d
    cases d'
  have L5:∀ {b:Addr}{m:Str->Option Value},CC.heap.Ns b m->(gk CC.heap H).Ns b m:=fun {b m} ⟨o,es,ep,e,d,r⟩=>⟨o,es,ep,FT e (KS e d),d,r⟩
  have Ov:K.In (gk CC.heap H):=fun b o e=>FT (KX b o e) (by
   cases q:H b with
   | none=>rfl
   | some u=>
    have e':b=a:=hA b (by rw[q];simp)
    subst e'
    rw[hK (by rw[q];simp)] at e;cases e)
  have hM:Mod K mg (gk CC.heap H):=⟨Ov,L5 Ja,⟨mb,L5 hb,QI⟩,let ⟨mc,h1,h2⟩:=MW;⟨mc,L5 h1,h2⟩⟩
  have e0:FC P w K mg (gk CC.heap H) callerA [] CC H:=⟨rfl,hM,fun b o e=>qZ e,Nat.le_of_eq (lM _ _),trivial,fun b hb=>absurd (show b∈([]:List Addr) from hb) (by simp),CA,.of_eq hg⟩
  refine codeAny_mono ((F _ Ov (L5 Ja)).run callerA [] CC H ⟨[.ref a],[]⟩ [.ref a] [.ref a] _ _ hr e0 (KY CC (.ref a)) (.cons rfl .nil) (Ft H hO hS)) fun r s' h=>?_
  cases r with
  | error e=>exact(MX H e s' h).elim
  | ok fl=>
   cases fl with
   | next=>exact False.elim h
   | brk=>exact False.elim h
   | cont=>exact False.elim h
   | ret u=>
    obtain⟨v,H',os,bare,un,MZ,r',q⟩:=h
    have q':v=.bl true:=q
    subst q'
    obtain rfl:u=Value.bool true:=r'
    refine⟨rfl,OldK.of_keep fun b o e=>?_,os,bare⟩
    cases q:H b with
    | none=>exact un.keep b o e q (by intro z;exact absurd (show b∈([]:List Addr) from z) (by simp)) (by simp)
    | some u=>
     rcases hO b with z|⟨ob,xs,z⟩
     ·rw[q] at z;cases z
     ·have z2:=un.Dq b ob _ z
      obtain⟨e1,_⟩:=CA b _ z
      obtain⟨e2,_⟩:=MZ b _ z2
      rw[e] at e1;cases e1
      exact e2
 cases hk:K.lookup a with
 | some o=>
  -- IT Jb is one of IT KZ own objects
  have e:=KX a o hk
  rw[ha] at e
  cases e
  refine core (fun _=>none) (fun _=>.inl rfl) (.inr ⟨vs,_,hk,by rw[MY];exact hl,rv⟩) (fun b u z=>by have z':(none:Option HO)=some u:=z;cases z') (fun b z=>absurd rfl z) fun z=>absurd rfl z
 | none=>
  refine core (fun b=>if b=a then some (.CK {cls:=.type "list",data:=.seq vs.toArray} (.lst (ns.map V.int))) else none) (fun b=>?_) (.inl (.inr ⟨{cls:=.type "list",data:=.seq vs.toArray},if_pos rfl⟩)) (fun b u z=>?_) (fun b z=>?_) fun _=>hk
  ·by_cases hb:b=a
   ·exact .inr ⟨_,_,if_pos hb⟩
   ·exact .inl (if_neg hb)
  ·by_cases hb:b=a
   ·have z':=(if_pos hb).symm.trans z
    cases z'
    subst hb
    exact⟨ha,by rw[List.length_map];exact hl,vs,_,rv,ha⟩
   ·have z':=(if_neg hb).symm.trans z
    cases z'
  ·by_cases hb:b=a
   ·exact hb
   ·exact absurd (if_neg hb) z
theorem rG {l:PySem.W.OpenLaw}{n k:Nat}{q:Program}{loose:List Str}{XP:(Str->Option Value)->Heap->Prop}{YP:World->Heap->Prop}{d:DefRec}{K:Params->PySem.W.Frag}{CX:World->Dw}{sp:World->Sp}{x:Str}
  (hn:l.most=some n) (L6:n<=sizeLine) (KW:d.params.defaults=[]) (hr:Dv k callerA)
  (hY:∀ (w:World) (h:Heap),YP w h->(K w.params).In h)
  (F:∀ (w:World) (mg:Str->Option Value) (fa:Addr) (h:Heap),(K w.params).In h->h.Ns mainGlobals mg->mg d.name=some (.ref fa)->
   ∃ fd:FuncData,(∀ (s:Shared) (u:Value),BindsTo s fd ⟨[u],[]⟩ [(x,u)])/\
    ∀ base:Heap,(K w.params).In base->base.Ns mainGlobals mg->DN l.prog w (K w.params) mg base (CX w) k fa fd [x] (sp w))
  (Ft:∀ (w:World) (H:Hp) (a:Addr) (ns:List Int),ns.length<=n->wz H->Ls (K w.params) H a (ns.map V.int)->sp w [.ref a] H (fun v _=>v=.bl true) fun _ _ _=>False)
  (MX:∀ (w:World) (H:Hp) (s:Shared) (e:Value) (s':Shared),CX w [] H s (fun _ _ _=>False) e s'->False) :
  PySem.W.WalkO q loose XP YP l.row.toRowW d [] (fun f vs=>PySem.call f vs):=by
 refine Att.Ff hn KW fun w C1 CC mg mb fa o pm cd doc a vs ns G Y ho hd GD hmg I0 hints hlen hg=>?_
 have KX:=hY w _ Y
 obtain⟨fd,hb,hF⟩:=F w mg fa _ KX G.T.g hmg
 exact mZ KX G.T.g G.T.b G.T.builtins G.T.nolimit hg I0 hints (Nat.le_trans hlen L6) hr hF hb (fun H hO hS=>Ft w H a ns hlen hO hS) fun H e s'=>MX w H CC e s'
noncomputable def bH (s:Stmt):Arguments:=match s with
 | .FunctionDef _ a _ _ _ _ _ _ _ _=>a
 | _=>{posonlyargs:=[],args:=[],vararg:=none,kwonlyargs:=[],kw_defaults:=[],kwarg:=none,defaults:=[]}
noncomputable def aM (s:Stmt):List Stmt:=match s with
 | .FunctionDef _ _ b _ _ _ _ _ _ _=>b
 | _=>[]
noncomputable def av (s:Stmt):Scope:=match s with
 | .FunctionDef _ _ _ _ _ _ sc _ _ _=>sc
 | _=>{kind:=.function,names:=[],isGenerator:=false,isCoroutine:=false}
structure Ig (K:PySem.W.Frag)(x qual:Str)(st:Stmt)(f:Addr)(fd:FuncData):Prop where
 ex:∃ (oc:Value) (od:Option Addr) (kV doc pm:Value) (an:Option Addr) (Em ct:Value) (Hv:Array (Option Value)),
  fd=PySem.W.fnOf x qual (bH st) (aM st) (av st) .none kV doc pm an Em ct/\K.lookup f=some ⟨oc,od,.func fd,Hv⟩/\PySem.W.codeIn K Em qual=true
 kp:PySem.W.keepIn K (.ref f)=true
section
variable {P:Program}{w:World}{K:PySem.W.Frag}{mg:Str->Option Value}{base:Heap}
theorem Ig.binds {x qual:Str}{st:Stmt}{f:Addr}{fd:FuncData}{ps:List Str}(F:Ig K x qual st f fd)
  (h:∀ (kV doc pm:Value) (an:Option Addr) (Em ct:Value) (us:List Value),us.length=ps.length->bindArgs (PySem.W.fnOf x qual (bH st) (aM st) (av st) .none kV doc pm an Em ct) ⟨us,[]⟩=pure (ps.zip us)):Binds K fd ps []:=by
 obtain⟨oc,od,kV,doc,pm,an,Em,ct,Hv,rfl,lk,GD⟩:=F.ex
 exact .all (h kV doc pm an Em ct)
theorem d9 {x qual:Str}{st:Stmt}{f:Addr}{oc:Value}{od an:Option Addr}{Hv:Array (Option Value)}{kV doc pm Em ct:Value}(l:K.lookup f=some ⟨oc,od,.func (PySem.W.fnOf x qual (bH st) (aM st) (av st) .none kV doc pm an Em ct),Hv⟩)
  (c:PySem.W.codeIn K Em qual=true) (k:PySem.W.keepIn K (.ref f)=true):Ig K x qual st f (PySem.W.fnOf x qual (bH st) (aM st) (av st) .none kV doc pm an Em ct):=⟨⟨oc,od,kV,doc,pm,an,Em,ct,Hv,rfl,l,c⟩,k⟩
end
def aq (H H':Hp):Prop:=∀ b o,H b=some o->H' b=some o
theorem aq.refl (H:Hp):aq H H:=fun _ _ h=>h
theorem aq.trans {H H1 H2:Hp}(a:aq H H1)(b:aq H1 H2):aq H H2:=fun c o h=>b c o (a c o h)
theorem aq.free {H H':Hp}(e:aq H H'){l:Addr}(h:H' l=Option.none):H l=Option.none:=by
 cases q:H l with
 | none=>rfl
 | some o=>
  rw[e l o q] at h
  cases h
theorem aq.seq {K:PySem.W.Frag}{H H':Hp}{a:Addr}{xs:List V}(e:aq H H')(h:DC K H a xs):DC K H' a xs:=by
 rcases h with (h|⟨o,h⟩)|h
 ·exact .inl (.inl (e _ _ h))
 ·exact .inl (.inr ⟨o,e _ _ h⟩)
 ·exact .inr h
theorem ax {X:Cx}{e:Expr}{t t':TE}(h:PE X e t)(m:∀ σ H Q,t' σ H Q->t σ H Q):PE X e t':=fun pins s σ H Q I q=>h pins s σ H Q I (m σ H Q q)
theorem dE {X:Cx}{e:Expr}{t t':TT}(h:PT X e t)(m:∀ σ H Q,t' σ H Q->t σ H Q):PT X e t':=fun pins s σ H Q I q=>h pins s σ H Q I (m σ H Q q)
theorem gr {X:Cx}{e:List Expr}{t t':TA}(h:PA X e t)(m:∀ σ H Q,t' σ H Q->t σ H Q):PA X e t':=fun pos pins s σ H Q I q=>h pos pins s σ H Q I (m σ H Q q)
theorem aO {X:Cx}{e:Stmt}{t t':TS}(h:PS X e t)(m:∀ D σ H,t' D σ H->t D σ H):PS X e t':=fun pins s σ H D I q=>h pins s σ H D I (m D σ H q)
theorem cK {X:Cx}{e:List Stmt}{t t':TS}(h:Fy X e t)(m:∀ D σ H,t' D σ H->t D σ H):Fy X e t':=fun pins s σ H D I q=>h pins s σ H D I (m D σ H q)
theorem eh {X:Cx}{tg e:Expr}{t t':TI}(h:PI X tg e t)(m:∀ σ H Q,t' σ H Q->t σ H Q):PI X tg e t':=fun pins s σ H Q I q=>h pins s σ H Q I (m σ H Q q)
def FU (X:Cx)(scope:Scope)(cl:List (Str×Addr))(N:List Str)(C:Addr)(s3:Shared)(H3:Hp)(fp:List Addr)(xe:Value->Shared->Prop:=fun _ _=>False):Cx:=
 {X with N:=N,C1:=s3,EK:=H3,env:=compEnvC scope cl C X.env,outer:=X.stack,ex:=fp,fn:=fun _=>false,pn:=[],xe:=xe}
structure DZ (X:Cx)(scope:Scope)(cl:List (Str×Addr))(Fr:List (Str×Nat))(Tg:List Str):Prop where
 K0:closureFor scope X.env=pure cl
 kind:scope.kind=.function
 ES:∀ y∈scope.names,y.2≠.cell
 loc:∀ y∈scope.names,y.2=.local->scope.names.lookup y.1=some .local
 sub:∀ x c,cl.lookup x=some c->X.env.cells.lookup x=some c
 has:∀ x,((relabel scope X.env).names.lookup x=some .cell∨(relabel scope X.env).names.lookup x=some .free)->∃ c,cl.lookup x=some c
 out:∀ p∈Fr,X.N[p.2]? = some p.1/\(X.env.kindOf p.1=some .cell∨X.env.kindOf p.1=some .free)/\((relabel scope X.env).names.lookup p.1=some .cell∨(relabel scope X.env).names.lookup p.1=some .free)
noncomputable def stC (Fr:List (Str×Nat))(Tg:List Str)(σ:St):St:=Fr.map (fun p=>(σ[p.2]?).join)++List.replicate Tg.length none
section
variable {X:Cx}{scope:Scope}{cl:List (Str×Addr)}{Fr:List (Str×Nat)}{Tg:List Str}{pins:List (Addr×Obj)}{σ:St}{H3:Hp}{s3:Shared}{fp:List Addr}
theorem wA (S:DZ X scope cl Fr Tg)(I:Inv X pins σ H3 s3)(hf:∀ b∈fp,cQ X pins H3 b)(M0:∀ b∈fp,b < s3.heap.objs.size)(N:List Str)(xe:Value->Shared->Prop):(FU X scope cl N s3.heap.objs.size s3 H3 fp xe).Ok where
 mod:=I.ok.mod
 kind:=S.kind
 glob:=I.ok.glob
 blt:=I.ok.blt
 above:=Nat.le_refl _
 inj:=fun x y c h1 h2=>I.ok.inj x y c (S.sub x c h1) (S.sub y c h2)
 has:=fun x h=>S.has x h
 J3:=fun x c h _=>absurd (show false=true from h) (by decide)
 hd:=I.ok.hd
 frames:=I.ok.frames
 Cq:=.inl rfl
 KH:=fun b hb=>⟨Nat.ne_of_lt (M0 b hb),fun x c e z=>(hf b hb).2.2.2.2.1 x c (S.sub x c e) z⟩
 bs:=I.bs
 Gv:=Nat.le_trans I.ok.Gv I.sz
 Gd:=fun b o e hb=>by
  rcases (hf b hb).2.2.2.1 with z|z
  ·exact I.ok.Gd b o e z
  ·exact absurd (Nat.lt_of_lt_of_le (Heap.lt_size e) (Nat.le_trans I.ok.Gv z)) (Nat.lt_irrefl _)
 Ge:=fun b hb z=>by
  rcases List.mem_cons.mp (I.Fx b z) with z|z
  ·exact(hf b hb).2.1 z
  ·exact(hf b hb).2.2.1 z
 Ds:=I.stack
 Fs:=I.EM
theorem lX (S:DZ X scope cl Fr Tg)(I:Inv X pins σ H3 s3)(hf:∀ b∈fp,cQ X pins H3 b)(M0:∀ b∈fp,b < s3.heap.objs.size){h':Heap}{tk:Nat}
  (Ja:h'.Ns s3.heap.objs.size (fun _=>none)) (hk:∀ b o,s3.heap.get? b=some o->h'.get? b=some o) (xe:Value->Shared->Prop) :
  Inv (FU X scope cl (Fr.map (·.1)++Tg) s3.heap.objs.size s3 H3 fp xe) [] (stC Fr Tg σ) H3 {s3 with heap:=h',toks:=tk} where
 ok:=wA S I hf M0 _ _
 os:=rfl
 bare:=I.bare
 base:=Un.kept hk
 loc:=by
  refine⟨_,Ja,fun i x v e1 e2 e3=>?_⟩
  have hi:i < Fr.length:=by
   by_cases hi:i < Fr.length
   ·exact hi
   ·unfold stC at e2
    rw[List.getElem?_append_right (by simpa using hi),List.getElem?_replicate] at e2
    split at e2<;>cases e2
  have L7:(Fr.map (·.1))[i]? = some x:=by
   rw[<- e1]
   exact(List.getElem?_append_left (by simpa using hi)).symm
  have Dc:(Fr.map (fun p=>(σ[p.2]?).join))[i]? = some (some v):=by
   rw[<- e2]
   exact(List.getElem?_append_left (by simpa using hi)).symm
  rw[List.getElem?_map] at L7 Dc
  obtain⟨p,hp,rfl⟩:=Option.map_eq_some_iff.mp L7
  rw[hp] at Dc
  have Hy:(σ[p.2]?).join=some v:=Option.some.inj Dc
  have e4:σ[p.2]? = some (some v):=by
   cases q:σ[p.2]? with
   | none=>rw[q] at Hy;cases Hy
   | some y=>rw[q] at Hy;rw[show y=some v from Hy]
  obtain⟨o1,o2,o3⟩:=S.out p (List.mem_of_getElem? hp)
  obtain⟨m,hn,hl⟩:=I.loc
  have hv:KG X.env.scope p.1:=by
   rcases o2 with o2|o2
   ·exact .inr (.inl o2)
   ·exact .inr (.inr o2)
  obtain⟨u,r,l⟩:=hl p.2 p.1 v o1 e4 hv
  refine⟨u,r,.inr ⟨o3,?_⟩⟩
  obtain⟨c,hc⟩:=S.has p.1 o3
  refine⟨c,hc,?_⟩
  have J4:=S.sub _ _ hc
  rcases l with ⟨k,_⟩|⟨_,c2,h2,z⟩
  ·rcases o2 with o2|o2<;>(rw[k] at o2;cases o2)
  ·rw[J4] at h2;cases h2
   obtain⟨o,ho,hd⟩:=z
   exact⟨o,hk _ _ ho,hd⟩
 cell:=fun x c e=>by
  obtain⟨v,o,ho,hd⟩:=I.cell x c (S.sub x c e)
  exact⟨v,o,hk _ _ ho,hd⟩
 free:=I.CA.fresh (Nat.le_refl _)
 Dt:=fun x c e=>I.Dt x c (S.sub x c e)
 pin:=fun p hp=>absurd (show p∈([]:List (Addr×Obj)) from hp) (by simp)
 CA:=I.CA.kept hk
 len:=by
  unfold stC
  show _=(Fr.map (·.1)++Tg).length
  simp
end
def Hz (X:Cx)(ifs:List Expr)(t:TT):Prop:=
 ∀ (pins:List (Addr×Obj)) (s:Shared) (σ:St) (H:Hp) (Q:Bool->Hp->Prop),Inv X pins σ H s->t σ H Q->
  wpAny (model X.prog X.w) X.A (forIn ifs true fun c r=>if r=true then do let ok <- isTrue c X.env (eval c X.env);pure (ForInStep.yield ok) else pure (ForInStep.yield r)) (TP X pins σ Q) X.xe s
theorem dS {M:Model}{A:Around}{E:Value->Shared->Prop}{s:Shared}{env:Env}{Q:Bool->Shared->Prop}(h:Q false s):∀ ifs:List Expr,
  wpAny M A (forIn ifs false fun c r=>if r=true then do let ok <- isTrue c env (eval c env);pure (ForInStep.yield ok) else pure (ForInStep.yield r)) Q E s
 | []=>by
  rw[List.forIn_nil]
  exact wpAny_pure h
 | c::cs=>by
  rw[List.forIn_cons]
  rw[if_neg Bool.false_ne_true]
  exact wpAny_bind (wpAny_pure (dS h cs))
theorem rH {X:Cx}:Hz X [] (fun _ H Q=>Q true H):=fun pins s σ H Q I q=>by
 rw[List.forIn_nil]
 exact wpAny_pure ⟨H,I,q⟩
theorem m4 {X:Cx}{c:Expr}{cs:List Expr}{t u:TT}(hc:PT X c t)(hr:Hz X cs u):Hz X (c::cs) (ym t u):=fun pins s σ H Q I q=>by
 rw[List.forIn_cons,if_pos rfl]
 refine wpAny_bind (wpAny_bind (CF (hc pins s σ H _ I q) fun b s1 ⟨H1,I1,q1⟩=>wpAny_pure ?_))
 cases b with
 | true=>exact hr pins s1 σ H1 Q I1 q1
 | false=>exact dS ⟨H1,I1,q1⟩ cs
def m7 (wi:TI)(start:St->St)(g:TG)(tt:TT)(te:TE):TE:=fun σ H Q=>wi σ H fun J H1=>∀ D,H1 D=none->∃ W:Nat->Nat->St->Hp->Prop,(∃ m,W 0 m (start σ) (upd H1 D (.lst [])))/\
 ∀ i m CB H',W i m CB H'->(J.stop i H'/\Q (.ref D) H')∨(J.go i H'/\∀ x H2,J.Ht i H' x H2->g x CB H2 fun E9 H3=>tt E9 H3 fun b H4=>
  if b=true then te E9 H4 fun v H5=>∃ ys,H5 D=some (.lst ys)/\ys.length < sizeLine/\∃ m',m' < m/\W (i+1) m' E9 (upd H5 D (.lst (ys++[v])))
  else ∃ m',m' < m/\W (i+1) m' E9 H4)
section
variable {X:Cx}{scope:Scope}{cl:List (Str×Addr)}{Fr:List (Str×Nat)}{Tg:List Str}{elt tg iter:Expr}{ifs:List Expr}{wi:TI}{g:TG}{tt:TT}{te:TE}{pos:Pos}
theorem gu (scope:Scope)(pos:Pos)(it acc:Value)(env:Env) :
  compTurn (.ListComp elt [⟨tg,iter,ifs,0⟩] scope pos) 0 it acc env=(do
   standAt iter.pos
   match <- pyNext it with
   | none=>pure (.done .next)
   | some v=>
    letOwnedTupleGo tg it v
    assign tg env v
    let ok <- forIn ifs true fun c r=>if r=true then do let ok <- isTrue c env (eval c env);pure (ForInStep.yield ok) else pure (ForInStep.yield r)
    if ok=true then
     (do let _ <- call (.builtin "list.append") [acc,<- eval elt env])
    again (.compLoop (.ListComp elt [⟨tg,iter,ifs,0⟩] scope pos) 0 it acc env)):=by rfl
theorem ei {XE:Addr->Shared->Hp->List Addr->Value->Shared->Prop}(hc:X.calm=true)(S:DZ X scope cl Fr Tg)
  (hg:∀ C s H fp,PG (FU X scope cl (Fr.map (·.1)++Tg) C s H fp (XE C s H fp)) tg g) (ht:∀ C s H fp,Hz (FU X scope cl (Fr.map (·.1)++Tg) C s H fp (XE C s H fp)) ifs tt)
  (he:∀ C s H fp,PE (FU X scope cl (Fr.map (·.1)++Tg) C s H fp (XE C s H fp)) elt te)
  {pins:List (Addr×Obj)}{σ:St}{H2:Hp}{s2:Shared}{it:Addr}{fp:List Addr}{tn:Nat->Heap->Prop}{J:It}{Q:VK} (I2:Inv X pins σ H2 s2) (T:Turn X.prog X.w X.K tg J fp it tn) (G6:tn 0 s2.heap)
  (f2:∀ b∈fp,cQ X pins H2 b)
  (q:∀ D,H2 D=none->∃ W:Nat->Nat->St->Hp->Prop,(∃ m,W 0 m (stC Fr Tg σ) (upd H2 D (.lst [])))/\
   ∀ i m CB H',W i m CB H'->(J.stop i H'/\Q (.ref D) H')∨(J.go i H'/\∀ x H2,J.Ht i H' x H2->g x CB H2 fun E9 H3=>tt E9 H3 fun b H4=>
    if b=true then te E9 H4 fun v H5=>∃ ys,H5 D=some (.lst ys)/\ys.length < sizeLine/\∃ m',m' < m/\W (i+1) m' E9 (upd H5 D (.lst (ys++[v])))
    else ∃ m',m' < m/\W (i+1) m' E9 H4))
  {E:Value->Shared->Prop}{RR:Value->Env->Result->Shared->Prop}
  (hR:∀ D C s' H',(∃ m,s'.heap.Ns C m)->Inv X pins σ H' s'->cQ X pins H' C->Q (.ref D) H'->∀ V:Env,V.locals=C->V.frame=X.env.frame->RR (.ref D) V (.ok .next) s')
  (hX:∀ D C s3 H3,(∀ s5 HA H5,Inv (FU X scope cl (Fr.map (·.1)++Tg) C s3 H3 fp (XE C s3 H3 fp)) [] HA H5 s5->(∃ m,s5.heap.Ns C m)/\Inv X pins σ H5 s5/\cQ X pins H5 C)->∀ e s',XE C s3 H3 fp e s'->
   notedBy (model X.prog X.w) X.A (compEnvC scope cl C X.env) (fun x Gg=>∀ V:Env,V.locals=C->V.frame=X.env.frame->RR (.ref D) V (.error x) Gg) e s') :
  wpAny (model X.prog X.w) X.A (newList []) (fun acc HB=>wpAny (model X.prog X.w) X.A (newFunctionEnv scope X.env.globals cl [] X.env.qual none .none (some X.env)) (fun K1 M1=>
   codeAny (model X.prog X.w) X.A (.compStart (.ListComp elt [⟨tg,iter,ifs,0⟩] scope pos) 0 (.ref it) acc {K1 with scope:=relabel scope X.env}) (RR acc K1) M1) E HB) E s2:=by
 have QJ:∀ b∈fp,b < s2.heap.objs.size:=fun b hb=>by
  obtain⟨o,e,_⟩:=T.obj _ _ G6 b hb
  exact Heap.lt_size e
 -- IT Ih
 refine wpAny_newObj_type ?_
 have I3:Inv X pins σ (upd H2 s2.heap.objs.size (.lst [])) {s2 with heap:=s2.heap.push {cls:=.type "list",data:=.seq ([]:List Value).toArray},toks:=s2.toks}:=I2.IZ (ys:=[]) (its:=[]) .nil (Nat.zero_le _)
 generalize hD:s2.heap.objs.size=D at I3 ⊢
 have QK:H2 D=none:=by rw[<- hD];exact I2.fresh
 generalize Ox:({s2 with heap:=s2.heap.push {cls:=.type "list",data:=.seq ([]:List Value).toArray},toks:=s2.toks}:Shared)=s3 at I3
 have k3:∀ b o,s2.heap.get? b=some o->s3.heap.get? b=some o:=fun b o e=>by rw[<- Ox];exact Heap.get?_push_of_some _ e
 have QL:s3.heap.objs.size=D+1:=by rw[<- Ox,<- hD];exact Heap.size_push ..
 have K2:∀ b∈fp,b < D:=fun b hb=>by rw[<- hD];exact QJ b hb
 have M3:∀ b∈fp,b < s3.heap.objs.size:=fun b hb=>by rw[QL];exact Nat.lt_succ_of_lt (K2 b hb)
 have f3:∀ b∈fp,cQ X pins (upd H2 D (.lst [])) b:=fun b hb=>by
  obtain⟨a1,a2⟩:=f2 b hb
  refine⟨?_,a2⟩
  rw[aj (Nat.ne_of_lt (K2 b hb))]
  exact a1
 obtain⟨W,⟨m0,w0⟩,turn⟩:=q D QK
 refine wpAny_newFunctionEnv S.ES (by intro y hy;simp at hy) (fun h4 Ja Jc=>codeAny_mono (R:=fun r s'=>∀ V:Env,V.locals=s3.heap.objs.size->V.frame=X.env.frame->RR (.ref D) V r s') ?_ fun r s' z=>z _ rfl rfl) S.kind
 have k4:∀ b o,s3.heap.get? b=some o->h4.get? b=some o:=fun b o e=>
  Jc.extBut b o (Nat.ne_of_lt (Heap.lt_size e)) (Heap.get?_push_of_some _ e)
 have Oy:tn 0 h4:=T.keep _ _ _ G6 fun b hb o e=>k4 b o (k3 b o e)
 have I4:=lX (fp:=fp) (h':=h4) (tk:=s3.toks+([]:List (Str×Value)).length) S I3 f3 M3 (by simpa using Ja) k4 (XE s3.heap.objs.size s3 (upd H2 D (.lst [])) fp)
 generalize hC:s3.heap.objs.size=C at I4 Ja Jc ⊢
 have M4:=hX D C s3 (upd H2 D (.lst []))
 generalize hZ:XE C s3 (upd H2 D (.lst [])) fp=Z at I4 M4
 generalize hY:FU X scope cl (Fr.map (·.1)++Tg) C s3 (upd H2 D (.lst [])) fp Z=Y at I4 M4
 have yP:Y.prog=X.prog:=by rw[<- hY];rfl
 have yw:Y.w=X.w:=by rw[<- hY];rfl
 have yK:Y.K=X.K:=by rw[<- hY];rfl
 have yA:Y.A=X.A:=by rw[<- hY];rfl
 have yc:Y.calm=true:=by rw[<- hY];exact hc
 have yx:Y.xe=Z:=by rw[<- hY];rfl
 have ye:Y.env=compEnvC scope cl C X.env:=by rw[<- hY];rfl
 have K3:Y.ex=fp:=by rw[<- hY];rfl
 have QM:Y.pn=[]:=by rw[<- hY];rfl
 have QN:Y.fs=Dr X.stack:=by rw[<- hY];rfl
 have yH:Y.EK=upd H2 D (.lst []):=by rw[<- hY];rfl
 have Ii:Y.C1=s3:=by rw[<- hY];rfl
 have QO:PG Y tg g:=by rw[<- hY,<- hZ];exact hg _ _ _ _
 have E5:Hz Y ifs tt:=by rw[<- hY,<- hZ];exact ht _ _ _ _
 have QP:PE Y elt te:=by rw[<- hY,<- hZ];exact he _ _ _ _
 have FA:∀ {H':Hp},(∀ b∈fp,H' b=none)->∀ b∈fp,cQ Y [] H' b:=fun hn b hb=>by
  have M5:=I4.ok
  refine⟨hn b hb,(M5.KH b (by rw[K3];exact hb)).1,M5.Ge b (by rw[K3];exact hb),.inl (by rw[K3];exact hb),(M5.KH b (by rw[K3];exact hb)).2,fun p hp=>absurd hp (by rw[QM];simp)⟩
 have QQ:∀ b∈fp,(upd H2 D (.lst [])) b=none:=fun b hb=>(f3 b hb).1
 -- back to IT frame
 have back:∀ (s5:Shared) (HA:St) (H5:Hp),Inv Y [] HA H5 s5->(∃ m,s5.heap.Ns C m)/\Inv X pins σ H5 s5/\cQ X pins H5 C:=by
  intro s5 HA H5 I5
  have M6:∃ m,s5.heap.Ns C m:=by
   obtain⟨m,hn,_⟩:=I5.loc
   rw[ye] at hn
   exact⟨m,hn⟩
  have QR:Un (Dr X.stack) fp (upd H2 D (.lst [])) H5 s3.heap s5.heap:=by
   have u:=I5.base
   rw[QN,K3,yH,Ii] at u
   exact u
  have QS:s5.os=s3.os:=by have:=I5.os;rw[Ii] at this;exact this
  have M7:C0 X.prog X.w H5 s5.heap:=by have:=I5.CA;rw[yP,yw] at this;exact this
  have Gw:∀ b∈fp,(b∈X.ex∨X.C1.heap.objs.size<=b)/\b≠X.env.locals/\(∀ x c,X.env.cells.lookup x=some c->c≠b)/\∀ p∈X.pn++pins,p.1≠b:=fun b hb=>by
   obtain⟨_,a1,_,a3,a4,a5⟩:=f3 b hb
   exact⟨a3,a1,a4,a5⟩
  have K4:H5 C=none:=by
   have:=I5.free
   rw[ye] at this
   exact this
  exact⟨M6,I3.Ib QS QR M7 I5.bare Gw,I3.Gf (Nat.le_of_eq hC) K4⟩
 have nz:∀ {α:Type}{t:Sem α}{Q:α->Shared->Prop}{s:Shared},wpAny (model X.prog X.w) X.A t Q Z s->wpAny (model X.prog X.w) X.A t Q (notedBy (model X.prog X.w) X.A (compEnvC scope cl C X.env) fun x Gg=>∀ V:Env,V.locals=C->V.frame=X.env.frame->RR (.ref D) V (.error x) Gg) s:=fun h=>wpAny_mono h (fun _ _ z=>z) fun e s' z=>M4 back e s' z
 have loop:∀ (s5:Shared) (HA:St) (H5:Hp) (i m:Nat),Inv Y [] HA H5 s5->tn i s5.heap->(∀ b∈fp,H5 b=none)->W i m HA H5->
   codeAny (model X.prog X.w) X.A (.compLoop (.ListComp elt [⟨tg,iter,ifs,0⟩] scope pos) 0 (.ref it) (.ref D) (compEnvC scope cl C X.env)) (fun r s'=>∀ V:Env,V.locals=C->V.frame=X.env.frame->RR (.ref D) V r s') s5:=by
  intro s5 HA H5 i m I5 KQ MP w5
  refine codeAny_loop rfl (fun n s'=>∃ i CB H',Inv Y [] CB H' s'/\tn i s'.heap/\(∀ b∈fp,H' b=none)/\W i n CB H') ?_ m ⟨i,HA,H5,I5,KQ,MP,w5⟩
  rintro n s6 ⟨i,IV,H6,I6,Oz,OA,w6⟩
  show wpAny _ X.A ((compTurn (.ListComp elt [⟨tg,iter,ifs,0⟩] scope pos) 0 (.ref it) (.ref D) (compEnvC scope cl C X.env)).onRaise (fun x=>do noteFrame x (compEnvC scope cl C X.env);theTreesLotGoes x)) _ _ s6
  refine wpAny_noted ?_
  rw[gu]
  refine wpAny_bind (wpAny_standAt (wpAny_bind ?_))
  have nx:∀ {α:Type}{t:Sem α}{Q:α->Shared->Prop}{E':Value->Shared->Prop}{s:Shared},wpAny (model X.prog X.w) X.A t Q (fun _ _=>False) s->wpAny (model X.prog X.w) X.A t Q E' s:=fun h=>wpAny_mono h (fun _ _ z=>z) fun _ _ z=>z.elim
  rcases turn i n IV H6 w6 with ⟨stop,qn⟩|⟨go,step⟩
  ·have h:=T.done Y yP yw yK yc i [] s6 IV H6 (fun _ _=>False) I6 (FA OA) Oz stop
   rw[yA] at h
   refine nx (CF h fun r s7 ⟨hr,I7⟩=>?_)
   subst hr
   refine wpAny_pure ?_
   obtain⟨b1,b2,b3⟩:=back s7 IV H6 I7
   exact hR D C s7 H6 b1 b2 b3 qn
  ·have h:=T.item Y yP yw yK yc i [] s6 IV H6 (fun _ _=>False) I6 (FA OA) Oz go
   rw[yA] at h
   refine nx (CF h fun r s7 ⟨u,hr,h7⟩=>?_)
   subst hr
   refine wpAny_bind (nx (CF h7 fun _ s8 ⟨x,H8,I8,r8,y8,M8,QT⟩=>?_))
   have QU:=I8.pinned (FA QT) (T.obj _ _ M8)
   have h9:=QO _ s8 IV H8 x u _ QU r8 (step x H8 y8)
   rw[yP,yw,yA,yx,ye] at h9
   refine wpAny_bind (nz (CF h9 fun _ s9 ⟨M9,H9,I9,q9⟩=>?_))
   have Ij:=E5 _ s9 M9 H9 _ I9 q9
   rw[yP,yw,yA,yx,ye] at Ij
   refine wpAny_bind (nz (CF Ij fun ok QV ⟨QW,OB,J8⟩=>?_))
   have again:∀ {CB:St}{H':Hp}{s':Shared},Inv Y ([]++dB fp s8.heap) CB H' s'->(∃ m',m' < n/\W (i+1) m' CB H')->∃ m,m < n/\∃ i CB H',Inv Y [] CB H' s'/\tn i s'.heap/\(∀ b∈fp,H' b=none)/\W i m CB H':=fun {CB H' s'} I' ⟨m',hm,w'⟩=>by
    refine⟨m',hm,i+1,CB,H',I'.DM,T.keep _ _ _ M8 fun b hb o e=>(I'.pin (b,o) (List.mem_append_right _ (List.mem_append_right _ (cn hb e)))).1,fun b hb=>?_,w'⟩
    obtain⟨o,e,d⟩:=T.obj _ _ M8 b hb
    exact(I'.pin (b,o) (List.mem_append_right _ (List.mem_append_right _ (cn hb e)))).2.1
   cases ok with
   | false=>
    rw[if_neg Bool.false_ne_true] at J8
    refine wpAny_bind (wpAny_pure (wpAny_pure ⟨rfl,again OB J8⟩))
   | true=>
    rw[if_pos rfl] at J8
    have J9:=QP _ QV M9 QW _ OB J8
    rw[yP,yw,yA,yx,ye] at J9
    refine wpAny_bind (wpAny_bind (nz (CF J9 fun y QX ⟨v,OC,QY,QZ,ys,ey,zy,Q0⟩=>?_)))
    have K5:=fJ (X:=Y) ([]++dB fp s8.heap) QX M9 OC (.ref D) [v] (.ref D) [y] (fun v' H'=>v'=.CD/\H'=upd OC D (.lst (ys++[v]))) QY rfl (.cons QZ .nil) ⟨D,ys,v,rfl,rfl,ey,zy,rfl,rfl⟩
    rw[yP,yw,yA,yx] at K5
    refine wpAny_bind (nz (CF K5 fun z T4 ⟨T5,T6,Q1,T7,OD,M'⟩=>?_))
    subst M'
    exact wpAny_pure (wpAny_pure ⟨rfl,again Q1 Q0⟩)
 have start:=loop {s3 with heap:=h4,toks:=s3.toks+([]:List (Str×Value)).length} (stC Fr Tg σ) (upd H2 D (.lst [])) 0 m0 I4 Oy QQ w0
 have e5:∀ (s':Shared),s' = {s3 with heap:=h4,toks:=s3.toks+([]:List (Str×Value)).length}->codeAny (model X.prog X.w) X.A (.compLoop (.ListComp elt [⟨tg,iter,ifs,0⟩] scope pos) 0 (.ref it) (.ref D) (compEnvC scope cl C X.env)) (fun r s'=>∀ V:Env,V.locals=C->V.frame=X.env.frame->RR (.ref D) V r s') s':=by
  rintro _ rfl
  exact start
 exact codeAny_compStart_list (e5 _ rfl) (T.self _ _ _ _ _ Oy (e5 _ rfl))
theorem jT (hc:X.calm=true)(S:DZ X scope cl Fr Tg)(hi:PI X tg iter wi)
  (hg:∀ C s H fp,PG (FU X scope cl (Fr.map (·.1)++Tg) C s H fp) tg g) (ht:∀ C s H fp,Hz (FU X scope cl (Fr.map (·.1)++Tg) C s H fp) ifs tt)
  (he:∀ C s H fp,PE (FU X scope cl (Fr.map (·.1)++Tg) C s H fp) elt te) (hs:∀ x,foldedSetIterable iter X.env x=pure x:=by intro _;rfl) :
  PE X (.ListComp elt [⟨tg,iter,ifs,0⟩] scope pos) (m7 wi (stC Fr Tg) g tt te):=by
 intro pins s σ H Q I h
 rw[eval_ListComp]
 refine wpAny_comprehension_free (use:=none) rfl hs S.K0 S.kind S.loc (CF (hi pins s σ H _ I h) fun xv s1 h1=>CF h1 fun LZ s2 h2=>?_)
 obtain⟨it,fp,tn,J,H2,rfl,I2,T,G6,f2,q⟩:=h2
 refine ei (XE:=fun _ _ _ _ _ _=>False) (RR:=fun acc V=>compPost (model X.prog X.w) X.A X.xe none (EP X pins σ Q) acc V.locals) hc S hg ht he I2 T G6 f2 q ?_ fun _ _ _ _ _ _ _ z=>z.elim
 intro D C s' H' ⟨m,hn⟩ I' F' q' V hV _
 subst hV
 obtain⟨f0,f1,f2,f3,f4,f5⟩:=F'
 exact⟨m,hn,fun h' sb=>⟨.ref D,H',I'.turned (t':=s'.toks) (fun b o hb e=>(sb.2 b hb).trans e) f0 f1 f3 f4 f5,rfl,q'⟩⟩
theorem rJ {y:Str}{py spos:Pos}{i:Nat}(hc:X.calm=true)(hN:X.N.Nodup)(Q2:X.N[i]? = some y)(hy:X.env.kindOf y=some .local)(S:DZ X scope cl Fr Tg)(hi:PI X tg iter wi)
  (hg:∀ C s H fp,PG (FU X scope cl (Fr.map (·.1)++Tg) C s H fp) tg g) (ht:∀ C s H fp,Hz (FU X scope cl (Fr.map (·.1)++Tg) C s H fp) ifs tt)
  (he:∀ C s H fp,PE (FU X scope cl (Fr.map (·.1)++Tg) C s H fp) elt te)
  (K6:swapsWith (.ListComp elt [⟨tg,iter,ifs,0⟩] scope pos) (some (.Name y py)) spos.line X.env=pure true) (hs:∀ x,foldedSetIterable iter X.env x=pure x:=by intro _;rfl) :
  PS X (.Assign [.Name y py] (.ListComp elt [⟨tg,iter,ifs,0⟩] scope pos) spos) (fun D σ H=>m7 wi (stC Fr Tg) g tt te σ H fun v H'=>D.nx (σ.set i (some v)) H'):=by
 intro pins s σ H D I h
 rw[exec_Assign_Name_used _ _ _ _ K6]
 refine wpAny_bind (wpAny_standAt (wpAny_bind ?_))
 show wpAny _ X.A (do let _ <- comprehension (.ListComp elt [⟨tg,iter,ifs,0⟩] scope pos) scope X.env _ (newList []) false (eval iter X.env) (some (assign (.Name y py) X.env))) _ _ s
 refine wpAny_bind (CF (wpAny_comprehension_free (use:=some (assign (.Name y py) X.env)) (Q:=fun _ s'=>SP X pins D .next s') rfl hs S.K0 S.kind S.loc
  (CF (hi pins s σ H _ I h) fun xv s1 h1=>CF h1 fun LZ s2 h2=>?_)) fun _ s' hq=>wpAny_pure (wpAny_pure hq))
 obtain⟨it,fp,tn,J,H2,rfl,I2,T,G6,f2,q⟩:=h2
 refine ei (Q:=fun v H'=>D.nx (σ.set i (some v)) H') (XE:=fun _ _ _ _ _ _=>False) (RR:=fun acc V=>compPost (model X.prog X.w) X.A X.xe (some (assign (.Name y py) X.env)) (fun _ s'=>SP X pins D .next s') acc V.locals) hc S hg ht he I2 T G6 f2 q ?_ fun _ _ _ _ _ _ _ z=>z.elim
 intro D' C s' H' ⟨m,hn⟩ I' F' q' V hV _
 subst hV
 obtain⟨f0,f1,f2,f3,f4,f5⟩:=F'
 show wpAny _ X.A (assign (.Name y py) X.env (.ref D')) _ _ _
 refine wpAny_assign_Name (fC I' hN Q2 (.inl hy) (show RelV (.ref D') (.ref D') from rfl) (fun Gg Q3 ⟨a,sb,ha⟩=>?_) (.inr hy))
 have Q4:V.locals≠a:=by
  rcases ha with rfl|ha
  ·exact f1
  ·exact fun z=>f4 y a ha z.symm
 refine⟨m,hn.sameBut sb Q4,fun h' Q5=>⟨_,H',Q3.turned (t':=Gg.toks) (fun b o hb e=>(Q5.2 b hb).trans e) f0 f1 f3 f4 f5,q'⟩⟩
end
open PySem.SeqAt
section
variable {prog:Program}{w:World}{A:Around}{E:Value->Shared->Prop}{s:Shared}
theorem jq:typeLookup (.type "list_reverseiterator") "__len__" = pure none:=by rw[typeLookup_type,builtinLookup_eq_fast];kernel_rfl
theorem m8:typeLookup (.type "list_reverseiterator") "__length_hint__" = pure (some (.builtin "list_reverseiterator.__length_hint__")):=by rw[typeLookup_type,builtinLookup_eq_fast];kernel_rfl
theorem ej {I l:Addr}{i:Int}{Q:Bool->Shared->Prop}(hit:s.heap.IsRevIter I l i)(h:Q false s):wpAny (model prog w) A (Builtin.List.listLengthHint (.ref I)) Q E s:=by
 unfold Builtin.List.listLengthHint
 refine wpAny_bind (wpAny_specialOf hit.typeIs jq ?_)
 show wpAny _ A (specialOf (Value.ref I) (Str.ofString "__length_hint__") >>= _) _ _ _
 refine wpAny_bind (wpAny_specialOf hit.typeIs m8 ?_)
 generalize G8:("list_reverseiterator.__length_hint__" : String)=Q6
 wp_delta
 rw[show splitId Q6=some ("list_reverseiterator","__length_hint__") from by subst G8;decide +kernel]
 subst G8
 refine wpAny_bind (wpAny_isInstance (T:="list_reverseiterator") (b:=true) hit.typeIs (by rw[isSubtype_type];kernel_rfl) ?_)
 refine wpAny_ite_split (fun Gh=>absurd Gh (by decide)) (fun _=>?_)
 refine wpAny_ite_split (fun _=>?_) (fun Gh=>absurd (by decide +kernel) Gh)
 refine wpAny_ite_split (fun Gh=>absurd Gh (by decide +kernel)) (fun _=>?_)
 exact wpAny_pure h
theorem dG {R:Result->Shared->Prop}(hh:A.handled=none)(I l S:Addr)(items:Array Value)(Ez:l≠I)(res:Value)(c₀:Nat)(hit:s.heap.IsRevIter I l ((items.size:Int) - 1))(hl:s.heap.IsList l items)(OE:S≠I)(Q7:S≠l)
  (hS:s.heap.get? S=some {cls:=.type "list",data:=.seq #[] c₀})
  (hR:∀ h' tk Dj c',(∀ b o,b≠S->b≠I->s.heap.get? b=some o->h'.get? b=some o)->h'.get? S=some {cls:=.type "list",dict:=none,data:=.seq Dj c',slots:=#[]}->
   ItemsOf (fun i v=>items[items.size - 1 - i]? = some v) Dj items.size->R (.ok (.ret res)) {s with heap:=h',toks:=tk}) (hn:items.size<=sizeLine) :
  wpAny (model prog w) A.in1 (Builtin.List.listExtendWith (.ref S) (.ref I) res)
   (fun fin s'=>match fin with|.done f=>R (.ok f) s'|.again c'=>c'.quiet=true/\codeAny (model prog w) A c' R s') (fun e s'=>R (.error e) s') s:=by
 have Q8:S∉[I,l]:=fun hm=>by
  rcases List.mem_cons.mp hm with e|hm
  ·exact OE e
  ·exact Q7 (List.mem_singleton.mp hm)
 unfold Builtin.List.listExtendWith
 refine wpAny_bind (wpAny_typeOf hit.typeIs ?_)
 have h1:Builtin.List.listSameRef (.ref S) (.ref I)=false:=by simp[Builtin.List.listSameRef,OE]
 have h2:(Value.type "list_reverseiterator" == Value.type "list")=false:=by decide
 have h3:(Value.type "list_reverseiterator" == Value.type "tuple")=false:=by decide
 simp only[h1,h2,h3,Bool.or_false,Bool.false_eq_true,if_false]
 refine wpAny_bind (wpAny_pyIter_revIter hit ?_)
 refine wpAny_bind (wpAny_holding (ej hit ?_))
 refine wpAny_ite_split (fun Gh=>absurd Gh (by decide)) (fun _=>?_)
 have W:=(Walks.listRev (prog:=prog) (w:=w) (A:=A.in1) hh I l Ez items).toS
 refine wpAny_pure ⟨plainId_quiet F.plain_extend_loop _,codeAny_extend_loopS W hn S Q8 res items.size 0 _ #[] c₀ rfl (Nat.zero_le _) ⟨Nat.zero_le _,by simpa using hit,hl⟩ hS (ItemsOf.nil _) fun s' Dj c' hm Jd D9=>?_⟩
 rw[Moved.eq_with hm]
 refine hR s'.heap s'.toks Dj c' (fun b o hb Fu e=>hm.heap b o (fun Je=>?_) e) Jd D9
 rcases List.mem_cons.mp Je with e'|Je
 ·exact hb e'
 ·exact Fu (List.mem_singleton.mp Je)
theorem fw {Q:Value->Shared->Prop}(hh:A.handled=none)(I l:Addr)(items:Array Value)(Ez:l≠I)(hit:s.heap.IsRevIter I l ((items.size:Int) - 1))(hl:s.heap.IsList l items)
  (hQ:∀ h' tk Dj c',(∀ b o,b≠I->s.heap.get? b=some o->h'.get? b=some o)->
   h'.get? s.heap.objs.size=some {cls:=.type "list",dict:=none,data:=.seq Dj c',slots:=#[]}->ItemsOf (fun i v=>items[items.size - 1 - i]? = some v) Dj items.size->Q (.ref s.heap.objs.size) {s with heap:=h',toks:=tk}) (hn:items.size<=sizeLine) :
  wpAny (model prog w) A (call (.type "list") [.ref I]) Q E s:=by
 have ltI:I < s.heap.objs.size:=by obtain⟨o,e,_⟩:=hit;exact Heap.lt_size e
 have L8:l < s.heap.objs.size:=by obtain⟨o,e,_⟩:=hl;exact Heap.lt_size e
 refine callType_codes (Q₁:=fun obj CC=>obj=.ref s.heap.objs.size/\CC = {s with heap:=s.heap.push {cls:=.type "list",data:=.seq #[]}}) F.called_list (F.typeCall_list_1 _) F.entry_list_init
  (code_list_new _ ⟨rfl,rfl⟩) fun obj CC Gi=>?_
 obtain⟨rfl,rfl⟩:=Gi
 have hS:(s.heap.push {cls:=.type "list",data:=.seq #[]}).get? s.heap.objs.size=some {cls:=.type "list",data:=.seq #[]}:=Heap.get?_push_size _ rfl
 refine⟨⟨_,hS,rfl⟩,F.args_list_init_2 _ _,?_⟩
 show wpAny _ _ (do let old <- Builtin.List.listItems (.ref s.heap.objs.size);Builtin.List.listUpdate (.ref s.heap.objs.size) (fun _=>#[]);letGo old.toList.reverse;Builtin.List.listExtendWith (.ref s.heap.objs.size) (.ref I) .none) _ _ _
 refine wpAny_bind ?_
 unfold Builtin.List.listItems
 refine wpAny_bind (wpAny_seqItems hS rfl (wpAny_pure ?_))
 show wpAny _ _ (updateSeq s.heap.objs.size (fun _=>#[]) >>= fun _=>letGo (#[]:Array Value).toList.reverse >>= fun _=>Builtin.List.listExtendWith (.ref s.heap.objs.size) (.ref I) .none) _ _ _
 refine wpAny_bind (wpAny_updateSeq hS rfl ?_)
 have K7:=Heap.get?_update_self (Obj.mapSeq (fun _=>(#[]:Array Value))) hS rfl
 have C7:∀ b o,b≠s.heap.objs.size->s.heap.get? b=some o->((s.heap.push {cls:=.type "list",data:=.seq #[]}).update s.heap.objs.size (Obj.mapSeq (fun _=>(#[]:Array Value)))).get? b=some o:=
  fun b o hb e=>(Heap.get?_update_other _ _ (Ne.symm hb)).trans (Heap.get?_push_of_some _ e)
 refine wpAny_bind (wpAny_letGo ?_)
 refine dG (A:=A.in1) hh I l _ items Ez .none _ (hit.at fun o e=>C7 I o (Nat.ne_of_lt ltI) e) (hl.at fun o e=>C7 l o (Nat.ne_of_lt L8) e) (Nat.ne_of_gt ltI) (Nat.ne_of_gt L8) K7 (fun h' tk Dj c' hk Jd D9=>?_) hn
 exact⟨rfl,hQ h' tk Dj c' (fun b o hb e=>hk b o (Nat.ne_of_lt (Heap.lt_size e)) hb (C7 b o (Nat.ne_of_lt (Heap.lt_size e)) e)) Jd D9⟩
end
section
variable {X:Cx}{e:Expr}{t:TE}{p p' pos pos':Pos}
theorem Vals.rev:∀ {xs:List V}{us:List Value},Vals xs us->Vals xs.reverse us.reverse
 | [],[],_=>.nil
 | x::xs,u::us,.cons r rs=>by
  rw[List.reverse_cons,List.reverse_cons]
  exact(Vals.rev rs).append (.cons r .nil)
theorem rK (hc:X.calm=true)(g1:Gl X "list") (m1:X.mg "list" = none) (g2:Gl X "reversed") (m2:X.mg "reversed" = none) (he:PE X e t) (CS:∀ es,starEach (e::es) X.env=(false,eval e X.env)::starEach es X.env) :
  PE X (.Call (.Name "list" p) [.Call (.Name "reversed" p') [e] [] pos'] [] pos) (fun σ H Q=>t σ H fun v H1=>∃ l ys,v=.ref l/\DC X.K H1 l ys/\∀ q,H1 q=none->Q (.ref q) (upd H1 q (.lst ys.reverse))):=by
 intro pins s σ H Q I h
 refine wpAny_Call_Name_kw (bO (u:=.type "list") I g1 m1 (by decide +kernel) ?_ (by decide) (by decide))
 refine PyProof.Rows.callWith_type1 ?_ rfl rfl
 show wpAny _ _ (spliced ((false,eval (.Call (.Name "reversed" p') [e] [] pos') X.env)::backTo pos (starEach [] X.env))) _ _ s
 have key:wpAny (model X.prog X.w) X.A (eval (.Call (.Name "reversed" p') [e] [] pos') X.env) (fun u s1=>∃ s0 l ys its H1,Inv X pins σ H1 s0/\Vals ys its/\s0.heap.IsList l its.toArray/\ys.length<=sizeLine/\u=.ref s0.heap.objs.size/\s1 = {s0 with heap:=s0.heap.push (revObj l ((its.toArray.size:Int) - 1))}/\∀ q,H1 q=none->Q (.ref q) (upd H1 q (.lst ys.reverse))) X.xe s:=by
  refine wpAny_Call_Name_kw (bO (u:=.type "reversed") I g2 m2 (by decide +kernel) ?_ (by decide) (by decide))
  refine PyProof.Rows.callWith_type1 ?_ (CS []) rfl
  rw[CS []]
  show wpAny _ _ (spliced ((false,eval e X.env)::backTo pos' (starEach [] X.env))) _ _ s
  refine Calls.spliced_cons (CF (he pins s σ H _ I h) fun u s1 ⟨x,H1,I1,r1,l,ys,ex,hq,q1⟩=>?_)
  subst ex
  cases r1
  refine Calls.spliced_nil ?_
  obtain⟨its,r',pl,hz⟩:=I1.list hq
  exact call_reversed_list pl.isList ⟨s1,l,ys,its,H1,I1,r',pl.isList,hz,rfl,rfl,q1⟩
 refine Calls.spliced_cons (CF key fun u s1 ⟨s0,l,ys,its,H1,I1,rv,hl,hz,eu,es,q1⟩=>?_)
 subst eu es
 refine Calls.spliced_nil ?_
 have hlen:=rv.length
 have L8:l < s0.heap.objs.size:=by obtain⟨o,e,_⟩:=hl;exact Heap.lt_size e
 have hit:(s0.heap.push (revObj l ((its.toArray.size:Int) - 1))).IsRevIter s0.heap.objs.size l ((its.toArray.size:Int) - 1):=⟨_,Heap.get?_push_size _ rfl,rfl,rfl⟩
 have Na:(s0.heap.push (revObj l ((its.toArray.size:Int) - 1))).IsList l its.toArray:=hl.at fun o e=>Heap.get?_push_of_some _ e
 have hsz:(s0.heap.push (revObj l ((its.toArray.size:Int) - 1))).objs.size=s0.heap.objs.size+1:=Heap.size_push ..
 refine fw (s:={s0 with heap:=s0.heap.push (revObj l ((its.toArray.size:Int) - 1))}) (show X.A.handled=none from I.ok.hd hc) s0.heap.objs.size l its.toArray (Nat.ne_of_lt L8) hit Na (fun h' tk Dj c' kp e D9=>?_) (by simp only[List.size_toArray]<;>omega)
 have ha:Dj=(its.reverse).toArray:=by
  apply Array.ext
  ·rw[D9.1];simp
  ·intro i h1 h2
   have:=D9.2 i Dj[i] (Array.getElem?_eq_getElem h1)
   rw[D9.1] at h1
   have h3:i < its.length:=by simpa using h1
   simp only[List.size_toArray,List.getElem?_toArray] at this
   rw[List.getElem?_eq_getElem (by omega)] at this
   have:=Option.some.inj this
   rw[<- this]
   simp[List.getElem_reverse]
 subst ha
 exact⟨.ref _,_,I1.laid (t':=tk) (fun b o e=>kp b o (Nat.ne_of_lt (Heap.lt_size e)) (Heap.get?_push_of_some _ e)) (by show s0.heap.objs.size<=(s0.heap.push _).objs.size;rw[hsz];exact Nat.le_succ _) (show aP X.prog X.w _ h' _ (.lst ys.reverse) from ⟨by simpa using hz,its.reverse,c',rv.rev,e⟩),rfl,q1 _ (I1.CA.fresh (by show s0.heap.objs.size<=(s0.heap.push _).objs.size;rw[hsz];exact Nat.le_succ _))⟩
end
section
variable {X:Cx}
theorem iw {x:Str}{n:Int}(h0 : -16000<=n)(h1:n<=16000)(hx:x.length<=1000):MulOk x n:=by
 refine⟨?_,fun hn _=>?_,fun hn _=>?_⟩
 ·rw[Bool.or_eq_false_iff]
  exact⟨decide_eq_false (by omega),decide_eq_false (by omega)⟩
 ·have:(1000:Int)<=(2 ^ 63 - 1) / n:=Int.le_ediv_of_mul_le (by omega) (by omega)
  omega
 ·have:x.length*n.toNat<=1000*16000:=Nat.mul_le_mul hx (by omega)
  unfold Builtin.Str.tooLong
  exact decide_eq_false (by rw[sizeLine_eq];omega)
theorem jr:Fb X (binaryOp .Mult) (fun x y H Q=>∃ i j,x=.str i/\y=.int j/\-16000<=j/\j<=16000/\i.length<=1000/\Q (.str (Txt.mul i j)) H):=by
 intro pins s σ H x y v u Q I rx ry h
 obtain⟨i,j,rfl,rfl,h0,h1,hz,q⟩:=h
 obtain⟨t,rfl⟩:=rx
 obtain⟨t',rfl⟩:=ry
 exact SB.mul (iw h0 h1 hz) fun t' tk=>⟨.str (Txt.mul i j),H,I.tok _,⟨_,rfl⟩,q⟩
noncomputable def cU (z:Str):List V:=z.cps.toList.map fun c=>.str ⟨#[c]⟩
theorem jt {z:Str}{Dj:Array Value}(D9:ItemsOf (SignAt z) Dj z.cps.size):Vals (cU z) Dj.toList:=by
 have hl:Dj.toList.length=z.cps.toList.length:=by rw[Array.length_toList,Array.length_toList,D9.1]
 have key:∀ (cs:List Nat) (vs:List Value),vs.length=cs.length->(∀ (i:Nat) (v:Value),vs[i]? = some v->∃ c u,cs[i]? = some c/\v=Value.str ⟨#[c]⟩ u)->Vals (cs.map fun c=>V.str ⟨#[c]⟩) vs:=by
  intro cs
  induction cs with
  | nil=>
   intro vs hl _
   cases vs with
   | nil=>exact .nil
   | cons _ _=>cases hl
  | cons c cs ih=>
   intro vs hl hv
   cases vs with
   | nil=>cases hl
   | cons v vs=>
    obtain⟨c',u,e1,e2⟩:=hv 0 v rfl
    have L7:c=c':=by simpa using e1
    subst L7 e2
    exact .cons ⟨u,rfl⟩ (ih vs (by simpa using hl) fun i w hw=>by simpa using hv (i+1) w (by simpa using hw))
 refine key _ _ hl fun i v hv=>?_
 obtain⟨c,u,e1,e2⟩:=D9.2 i v (by rw[<- Array.getElem?_toList];exact hv)
 exact⟨c,u,by rw[Array.getElem?_toList];exact e1,e2⟩
theorem cR (hc:X.calm=true):cy X (.type "list") (fun xs H Q=>∃ z:Str,xs=[.str z]/\z.length<=sizeLine/\∀ l,H l=none->Q (.ref l) (upd H l (.lst (cU z)))):=by
 intro pins s σ H xs us Q I r h
 obtain⟨z,rfl,hz,q⟩:=h
 obtain⟨u,rfl,t,rfl⟩:=vals1 r
 refine call_list_str (show X.A.handled=none from I.ok.hd hc) z t (fun h' tk Dj c' kp e D9=>?_) hz
 have rv:=jt D9
 exact⟨.ref _,_,I.laid (t':=tk) kp (Nat.le_refl _) (show aP X.prog X.w _ h' _ (.lst (cU z)) from ⟨by unfold cU;simpa[Str.length] using hz,Dj.toList,c',rv,by simpa using e⟩),rfl,q _ (I.CA.fresh (Nat.le_refl _))⟩
end
open PySem.W
section
variable {κ:Type} [DecidableEq κ]
noncomputable def dH (kvs:List (κ×V))(k:κ):Option V:=(kvs.find? fun kv=>decide (kv.1=k)).map (·.2)
noncomputable def putK (kvs:List (κ×V))(k:κ)(v:V):List (κ×V):=
 if (kvs.any fun kv=>decide (kv.1=k))=true then kvs.map (fun kv=>if kv.1=k then (kv.1,v) else kv) else kvs++[(k,v)]
theorem ez {p:κ×V}{r:List (κ×V)}{k:κ}(e:p.1=k):dH (p::r) k=some p.2:=by simp[dH,List.find?_cons,e]
theorem eA {p:κ×V}{r:List (κ×V)}{k:κ}(e:¬ p.1=k):dH (p::r) k=dH r k:=by simp[dH,List.find?_cons,e]
theorem ix (k:κ):∀ kvs:List (κ×V),(kvs.any fun kv=>decide (kv.1=k))=(dH kvs k).isSome
 | []=>rfl
 | p::r=>by
  rw[List.any_cons]
  by_cases e:p.1=k
  ·simp only[ez e,decide_eq_true e,Bool.true_or,Option.isSome_some]
  ·rw[eA e,decide_eq_false e,Bool.false_or];exact ix k r
theorem cD (kvs:List (κ×V))(k:κ)(v:V):(putK kvs k v).length<=kvs.length+1:=by
 unfold putK
 split
 ·rw[List.length_map];omega
 ·rw[List.length_append,List.length_cons,List.length_nil];omega
theorem ft.Dd {o:Option V}{u:Option Value}(r:ft o u):o.isSome=u.isSome:=by
 cases o with
 | none=>cases u with
  | none=>rfl
  | some _=>exact(show False from r).elim
 | some _=>cases u with
  | none=>exact(show False from r).elim
  | some _=>rfl
theorem KV.val {kvs:List (κ×V)}{vs:List (κ×Value)}(r:KV kvs vs)(k:κ):ft (dH kvs k) (valueAt vs k):=by
 unfold KV at r
 induction r with
 | nil=>exact True.intro
 | @cons p q ps qs h t ih=>
  obtain⟨h1,h2⟩:=h
  by_cases e:p.1=k
  ·have e':q.1=k:=h1.symm.trans e
   have b:valueAt (q::qs) k=some q.2:=by simp[valueAt,List.find?_cons,e']
   rw[ez e,b];exact h2
  ·have e':¬ q.1=k:=fun z=>e (h1.trans z)
   have b:valueAt (q::qs) k=valueAt qs k:=by simp[valueAt,List.find?_cons,e']
   rw[eA e,b];exact ih
theorem KV.any {kvs:List (κ×V)}{vs:List (κ×Value)}(r:KV kvs vs)(k:κ):(kvs.any fun kv=>decide (kv.1=k))=vs.any fun kv=>decide (kv.1=k):=by
 unfold KV at r
 induction r with
 | nil=>rfl
 | cons h t ih=>rw[List.any_cons,List.any_cons,ih,h.1]
theorem KV.Jf {kvs:List (κ×V)}{vs:List (κ×Value)}(r:KV kvs vs)(k:κ){y:V}{u:Value}(ry:RelV y u) :
  KV (kvs.map fun kv=>if kv.1=k then (kv.1,y) else kv) (vs.map fun kv=>if kv.1=k then (kv.1,u) else kv):=by
 unfold KV at r ⊢
 induction r with
 | nil=>exact .nil
 | @cons p q ps qs h t ih=>
  rw[List.map_cons,List.map_cons]
  refine .cons ?_ ih
  obtain⟨h1,h2⟩:=h
  by_cases e:p.1=k
  ·rw[if_pos e,if_pos (h1.symm.trans e)];exact⟨h1,ry⟩
  ·rw[if_neg e,if_neg (fun z=>e (h1.trans z))];exact⟨h1,h2⟩
theorem KV.put {kvs:List (κ×V)}{vs:List (κ×Value)}(r:KV kvs vs)(k:κ){y:V}{u:Value}(ry:RelV y u):KV (putK kvs k y) (stored vs k u):=by
 unfold putK stored
 rw[r.any k]
 by_cases e:(vs.any fun kv=>decide (kv.1=k))=true
 ·rw[if_pos e,if_pos e];exact r.Jf k ry
 ·rw[if_neg e,if_neg e];exact Paired.snoc r ⟨rfl,ry⟩
theorem KV.length {kvs:List (κ×V)}{vs:List (κ×Value)}(r:KV kvs vs):kvs.length=vs.length:=Paired.length r
end
theorem fL {P:Program}{w:World}{k:Key}{u:Value}(r:RelV (kV k) u):(aE P w).is k u=true:=by
 cases k with
 | inl i=>obtain⟨t,e⟩:=(show ∃ t,u=Value.int i t from r);subst e;exact ib P w i t
 | inr x=>obtain⟨t,e⟩:=(show ∃ t,u=Value.str x t from r);subst e;exact ic P w x t
theorem fM {P:Program}{w:World}:∀ {ks:List Key}{us:List Value},Vals (ks.map kV) us->ItemsAre (aE P w) ks us
 | [],_,r=>by rw[List.map_nil] at r;cases r;exact .nil
 | k::ks,_,r=>by
  rw[List.map_cons] at r
  cases r with
  | cons h t=>exact .cons (fL h) (fM t)
abbrev KT (H:Hp):List (List Key×V)->List (List Key×Addr×Value)->Prop:=Paired fun p q=>p.1=q.1/\H q.2.1=some (.tup (p.1.map kV))/\RelV p.2 q.2.2
theorem KT.val {H:Hp}{kvs:List (List Key×V)}{xs:List (List Key×Addr×Value)}(r:KT H kvs xs)(k:List Key):ft (dH kvs k) ((atKey xs k).map (·.2)):=by
 induction r with
 | nil=>exact True.intro
 | @cons p q ps qs h t ih=>
  obtain⟨h1,_,h2⟩:=h
  by_cases e:p.1=k
  ·have e':q.1=k:=h1.symm.trans e
   have b:atKey (q::qs) k=some q.2:=by simp[atKey,List.find?_cons,e']
   rw[ez e,b];exact h2
  ·have e':¬ q.1=k:=fun z=>e (h1.trans z)
   have b:atKey (q::qs) k=atKey qs k:=by simp[atKey,List.find?_cons,e']
   rw[eA e,b];exact ih
theorem KT.Jf {H:Hp}{kvs:List (List Key×V)}{xs:List (List Key×Addr×Value)}(r:KT H kvs xs)(k:List Key){y:V}{u:Value}(ry:RelV y u) :
  KT H (kvs.map fun kv=>if kv.1=k then (kv.1,y) else kv) (xs.map (putAt k u)):=by
 induction r with
 | nil=>exact .nil
 | @cons p q ps qs h t ih=>
  rw[List.map_cons,List.map_cons]
  refine .cons ?_ ih
  obtain⟨h1,h2,h3⟩:=h
  unfold putAt
  by_cases e:p.1=k
  ·rw[if_pos e,if_pos (h1.symm.trans e)];exact⟨h1,h2,ry⟩
  ·rw[if_neg e,if_neg (fun z=>e (h1.trans z))];exact⟨h1,h2,h3⟩
theorem KT.put {H:Hp}{kvs:List (List Key×V)}{xs:List (List Key×Addr×Value)}(r:KT H kvs xs)(k:List Key){b:Addr}{y:V}{u:Value}(hb:H b=some (.tup (k.map kV)))(ry:RelV y u) :
  KT H (putK kvs k y) (storedH xs k b u):=by
 have e:(kvs.any fun kv=>decide (kv.1=k))=(atKey xs k).isSome:=by
  rw[ix,(r.val k).Dd,Option.isSome_map]
 unfold putK storedH
 rw[e]
 by_cases q:(atKey xs k).isSome=true
 ·rw[if_pos q,if_pos q];exact r.Jf k ry
 ·rw[if_neg q,if_neg q];exact Paired.snoc r ⟨rfl,hb,ry⟩
theorem KT.keeps {H H':Hp}{kvs:List (List Key×V)}{xs:List (List Key×Addr×Value)}(r:KT H kvs xs)(ht:∀ b ys,H b=some (.tup ys)->H' b=some (.tup ys)):KT H' kvs xs:=
 Paired.IK r fun _ _ z=>⟨z.1,ht _ _ z.2.1,z.2.2⟩
section
variable {P:Program}{w:World}{H:Hp}{h:Heap}{a:Addr}
theorem tP {u:HO}(ok:C0 P w H h)(e:Rd H a u):aP P w H h a u:=e.ok ok
theorem c7 {kvs:List (Key×V)}(ok:C0 P w H h)(e:Rd H a (.dK kvs)):kvs.length<=sizeLine/\(a == sysModules)=false/\∃ vs,KV kvs vs/\h.DictOf (aE P w) a vs:=
 show aP P w H h a (.dK kvs) from tP ok e
theorem tQ {kvs:List (Key×V)}(ok:C0 P w H h)(e:H a=some (.dK kvs)):kvs.length<=sizeLine/\(a == sysModules)=false/\∃ vs,KV kvs vs/\h.DictOf (aE P w) a vs:=c7 ok (.inl e)
theorem eB {ks:List Key}(ok:C0 P w H h)(e:H a=some (.tup (ks.map kV))):(tupleKind (aE P w)).is h ks a:=by
 obtain⟨_,its,r,o,h1,h2,n,h3⟩:=(show aP P w H h a (.tup (ks.map kV)) from ok a _ e)
 exact⟨o,its.toArray,n,h1,h2,h3,by simpa using fM r⟩
theorem fN {kvs:List (List Key×V)}(ok:C0 P w H h)(e:Rd H a (.dT kvs)):kvs.length<=sizeLine/\(a == sysModules)=false/\
  ∃ xs,KT H kvs xs/\h.DictOfH (tupleKind (aE P w)) a xs:=by
 obtain⟨z,y,xs,r,o,es,ep,h1,h2,h3,h4,h5⟩:=(show aP P w H h a (.dT kvs) from tP ok e)
 refine⟨z,y,xs,r,o,es,ep,h1,h2,h3,h4,fun x hx=>?_,h5⟩
 have all:∀ {l:List (List Key×V)}{m:List (List Key×Addr×Value)},KT H l m->∀ x∈m,(tupleKind (aE P w)).is h x.1 x.2.1:=by
  intro l m q
  induction q with
  | nil=>intro x hx;exact nomatch hx
  | @cons p q ps qs hq t ih=>
   intro x hx
   rcases List.mem_cons.mp hx with e|hx
   ·subst e
    exact eB ok (by rw[<- hq.1];exact hq.2.1)
   ·exact ih x hx
 exact all r x hx
theorem yL {kvs:List (List Key×V)}(ok:C0 P w H h)(e:H a=some (.dT kvs)):kvs.length<=sizeLine/\(a == sysModules)=false/\
  ∃ xs,KT H kvs xs/\h.DictOfH (tupleKind (aE P w)) a xs:=fN ok (.inl e)
end
def gv (H:Hp)(a:Addr)(y:V)(r:Option V):Prop:=
 (∃ kvs k,Rd H a (.dK kvs)/\y=kV k/\r=dH kvs k)∨∃ kvs k b,Rd H a (.dT kvs)/\y=.ref b/\H b=some (.tup (k.map kV))/\r=dH kvs k
def yM (H:Hp)(a:Addr)(y v:V)(H':Hp):Prop:=
 (∃ kvs k,H a=some (.dK kvs)/\y=kV k/\kvs.length < sizeLine/\H'=upd H a (.dK (putK kvs k v)))∨
 ∃ kvs k b,H a=some (.dT kvs)/\y=.ref b/\H b=some (.tup (k.map kV))/\kvs.length < sizeLine/\H'=upd H a (.dT (putK kvs k v))
section
variable {X:Cx}{pins:List (Addr×Obj)}{σ:St}{H:Hp}{s:Shared}{a:Addr}{y v:V}{u r:Value}{o:Option V}{A:Around}{E:Value->Shared->Prop}
theorem Inv.big (I:Inv X pins σ H s):sysModules < s.heap.objs.size:=by
 have h:mainGlobals < s.heap.objs.size:=(I.mod.glob.keeps I.bk).lt
 exact Nat.lt_trans (by decide) h
theorem lY {Q:Value->Shared->Prop}(hu:A.units+1 < cLine)(I:Inv X pins σ H s)(g:gv H a y (some v))(ry:RelV y u)(h:∀ w' s',Inv X pins σ H s'->RelV v w'->Q w' s') :
  wpAny (model X.prog X.w) A (getItem (.ref a) u) Q E s:=by
 rcases g with ⟨kvs,k,e,ey,l⟩|⟨kvs,k,b,e,ey,eb,l⟩
 ·subst ey
  obtain⟨z,hd,vs,rel,dd⟩:=c7 I.CA e
  obtain⟨w',hw,Hw⟩:=ft.some_of (v:=v) (o:=valueAt vs k) (by rw[l];exact rel.val k)
  exact wpAny_getItem_of (fL ry) dd.mapOf hw (h w' _ (I.tok _) Hw)
 ·subst ey
  cases (show u=Value.ref b from ry)
  obtain⟨z,hd,xs,rel,dd⟩:=fN I.CA e
  obtain⟨w',hw,Hw⟩:=ft.some_of (v:=v) (o:=(atKey xs k).map (·.2)) (by rw[l];exact rel.val k)
  obtain⟨p,hp,Q9⟩:=Option.map_eq_some_iff.mp hw
  refine wpAny_getItem_heap (tupleKind_room_in1 hu) (eB I.CA eb) dd hp ?_
  rw[Q9]
  exact h w' _ (I.tok _) Hw
theorem BQ {Q:Value->Shared->Prop}(hu:A.units+1 < cLine)(I:Inv X pins σ H s)(g:gv H a y o)(ry:RelV y u)(h:∀ s',Inv X pins σ H s'->Q (.bool o.isSome) s') :
  wpAny (model X.prog X.w) A (compareOp .In u (.ref a)) Q E s:=by
 rcases g with ⟨kvs,k,e,ey,l⟩|⟨kvs,k,b,e,ey,eb,l⟩
 ·subst ey
  obtain⟨z,hd,vs,rel,dd⟩:=c7 I.CA e
  refine wpAny_in_of (fL ry) hd dd.mapOf ?_
  rw[<- (rel.val k).Dd,<- l]
  exact h _ (I.tok _)
 ·subst ey
  cases (show u=Value.ref b from ry)
  obtain⟨z,hd,xs,rel,dd⟩:=fN I.CA e
  refine wpAny_in_heap (tupleKind_room_in1 hu) (eB I.CA eb) hd dd ?_
  have q:=(rel.val k).Dd
  rw[Option.isSome_map] at q
  rw[<- q,<- l]
  exact h _ (I.tok _)
theorem rL {Q:Value->Shared->Prop}(hu:A.units+1 < cLine)(I:Inv X pins σ H s)(g:gv H a y o)(ry:RelV y u)(h:∀ s',Inv X pins σ H s'->Q (.bool (!o.isSome)) s') :
  wpAny (model X.prog X.w) A (compareOp .NotIn u (.ref a)) Q E s:=by
 rcases g with ⟨kvs,k,e,ey,l⟩|⟨kvs,k,b,e,ey,eb,l⟩
 ·subst ey
  obtain⟨z,hd,vs,rel,dd⟩:=c7 I.CA e
  refine wpAny_notIn_of (fL ry) hd dd.mapOf ?_
  rw[<- (rel.val k).Dd,<- l]
  exact h _ (I.tok _)
 ·subst ey
  cases (show u=Value.ref b from ry)
  obtain⟨z,hd,xs,rel,dd⟩:=fN I.CA e
  refine wpAny_notIn_heap (tupleKind_room_in1 hu) (eB I.CA eb) hd dd ?_
  have q:=(rel.val k).Dd
  rw[Option.isSome_map] at q
  rw[<- q,<- l]
  exact h _ (I.tok _)
theorem gw {h':Heap}{t':Nat}{ob:HO}(I:Inv X pins σ H s)(mu:KC (H a))(hs:Heap.SameBut a s.heap h')(he:∃ q,h'.get? a=some q)(new:aP X.prog X.w (upd H a ob) h' a ob) :
  Inv X pins σ (upd H a ob) {s with heap:=h',toks:=t'}:=
 I.write (x:=a) (e:=a) mu (.inl rfl) (fun b q hb z=>(hs.2 b hb).trans z) he new
theorem ju {P:Program}{w:World}{H':Hp}{h':Heap}{kvs:List (Key×V)}{vs:List (Key×Value)}(z:kvs.length<=sizeLine)(hd:(a == sysModules)=false)(rel:KV kvs vs)(dd:h'.DictOf (aE P w) a vs) :
  aP P w H' h' a (.dK kvs):=⟨z,hd,vs,rel,dd⟩
theorem lZ {H':Hp}{Q:Unit->Shared->Prop}(hu:A.units+1 < cLine)(I:Inv X pins σ H s)(g:yM H a y v H')(ry:RelV y u)(rv:RelV v r)(h:∀ s',Inv X pins σ H' s'->Q () s') :
  wpAny (model X.prog X.w) A (setItem (.ref a) u r) Q E s:=by
 rcases g with ⟨kvs,k,e,ey,l,eH⟩|⟨kvs,k,b,e,ey,eb,l,eH⟩
 ·subst ey eH
  obtain⟨z,hd,vs,rel,dd⟩:=tQ I.CA e
  have hz:vs.length<=sizeLine:=by rw[<- rel.length];exact z
  have hl:(putK kvs k v).length<=sizeLine:=by have:=cD kvs k v;omega
  refine wpAny_setItem_pairs (hsz:=hz) (fL ry) dd fun h' L9 hs=>h _ ?_
  have he:∃ q,h'.get? a=some q:=let ⟨q,_,_,hq,_⟩:=L9;⟨q,hq⟩
  exact gw I (by rw[e];exact True.intro) hs he (ju hl hd (rel.put k rv) L9)
 ·subst ey eH
  cases (show u=Value.ref b from ry)
  obtain⟨z,hd,xs,rel,dd⟩:=yL I.CA e
  have hz:xs.length<=sizeLine:=by rw[<- Paired.length rel];exact z
  have hl:(putK kvs k v).length<=sizeLine:=by have:=cD kvs k v;omega
  refine wpAny_setItem_heap (hsz:=hz) (tupleKind_room_in1 hu) (eB I.CA eb) dd fun h' L9 hs=>h _ ?_
  obtain⟨q,es,ep,hq,h2,h3,h4,_,h5⟩:=L9
  refine gw I (by rw[e];exact True.intro) hs ⟨q,hq⟩ ⟨hl,hd,_,(rel.put k eb rv).keeps fun c ys ec=>?_,q,es,ep,hq,h2,h3,h4,h5⟩
  rw[aj (yk ec e (fun z=>nomatch z))]
  exact ec
end
def yN (i:Expr):Prop:=∀ ov iv,subscripted i false ov iv=operate [ov,iv] (getItem ov iv)
theorem rM {prog:Program}{w:World}{A:Around}{E:Value->Shared->Prop}{s:Shared}{env:Env}{value slice:Expr}{pos:Pos}{T id:String}{Q:Value->Shared->Prop}
  (hl:typeLookup (.type T) "__getitem__" = pure (some (.builtin id))) (hs:yN slice)
  (h:wpAny (model prog w) A (eval value env) (fun o CC=>wpAny (model prog w) A (eval slice env) (fun i E8=>E8.TypeIs o T/\wpAny (model prog w) A (getItem o i) Q E E8) E CC) E s) :
  wpAny (model prog w) A (eval (.Subscript value slice pos) env) Q E s:=by
 refine Subscript_ (wpAny_mono h (fun o CC Gi=>wpAny_mono Gi (fun i E8 FD=>?_) fun _ _ x=>x) fun _ _ x=>x)
 obtain⟨hT,FD⟩:=FD
 unfold subscriptTail
 refine wpAny_bind ?_
 rw[getitemInPython_of_ne hT.not_modules]
 refine wpAny_bind (wpAny_specialOf hT hl ?_)
 have fin:wpAny (model prog w) A (subscripted slice false o i) (fun r HB=>wpAny (model prog w) A (letTemporaryGo value o r >>= fun _=>pure r) Q E HB) E E8:=by
  rw[hs o i]
  exact wpAny_operating (wpAny_mono FD (fun r HB Nb=>wpAny_bind (wpAny_letTemporaryGo (wpAny_pure Nb))) fun _ _ x=>x)
 first
  | exact wpAny_pure (wpAny_bind fin)
  | exact wpAny_bind (wpAny_pure (wpAny_bind fin))
  | exact wpAny_bind fin
theorem iy {X:Cx}{pins:List (Addr×Obj)}{σ:St}{H:Hp}{s:Shared}{a:Addr}{y:V}{o:Option V}(I:Inv X pins σ H s)(g:gv H a y o):s.TypeIs (.ref a) "dict":=by
 rcases g with ⟨kvs,k,e,_,_⟩|⟨kvs,k,b,e,_,_,_⟩
 ·obtain⟨_,_,vs,_,dd⟩:=c7 I.CA e
  exact dd.typeIs
 ·obtain⟨_,_,xs,_,dd⟩:=fN I.CA e
  exact dd.typeIs
def yO (td ty:TE):TE:=fun σ H Q=>td σ H fun x H1=>ty σ H1 fun y H2=>∃ a v,x=.ref a/\gv H2 a y (some v)/\Q v H2
def BR (ty td:TE):TE:=fun σ H Q=>ty σ H fun y H1=>td σ H1 fun x H2=>∃ a o,x=.ref a/\gv H2 a y o/\Q (.bl o.isSome) H2
def rN (ty td:TE):TE:=fun σ H Q=>ty σ H fun y H1=>td σ H1 fun x H2=>∃ a o,x=.ref a/\gv H2 a y o/\Q (.bl (!o.isSome)) H2
def yQ (td ty tv:TE):TS:=fun D σ H=>tv σ H fun v H1=>td σ H1 fun x H2=>ty σ H2 fun y H3=>∃ a H4,x=.ref a/\yM H3 a y v H4/\D.nx σ H4
section
variable {X:Cx}{o i e value:Expr}{pos pos' Ra:Pos}{td ty tv:TE}
theorem rO (hu:X.A.units+1 < cLine)(ho:PE X o td)(hi:PE X i ty)(hs:yN i):PE X (.Subscript o i pos) (yO td ty):=by
 intro pins s σ H Q I h
 refine rM PySem.F.slot_dict_getitem.lookup hs (CF (ho pins s σ H _ I h) fun u s1 ⟨x,H1,I1,rx,q1⟩=>CF (hi pins s1 σ H1 _ I1 q1) fun iv s2 ⟨y,H2,I2,ry,a,v,ex,g,q2⟩=>?_)
 subst ex
 obtain rfl:u=Value.ref a:=rx
 exact⟨iy I2 g,lY hu I2 g ry fun w' s3 I3 Hw=>⟨v,H2,I3,Hw,q2⟩⟩
theorem m9 (hu:X.A.units+1 < cLine)(hi:PE X i ty)(ho:PE X o td):PC X .In i o (BR ty td):=by
 intro pins s σ H Q I h
 refine CF (hi pins s σ H _ I h) fun iv s1 ⟨y,H1,I1,ry,q1⟩=>CF (ho pins s1 σ H1 _ I1 q1) fun u s2 ⟨x,H2,I2,rx,a,ov,ex,g,q2⟩=>?_
 subst ex
 obtain rfl:u=Value.ref a:=rx
 exact BQ hu I2 g ry fun s3 I3=>⟨.bl ov.isSome,H2,I3,rfl,q2⟩
theorem fO (hu:X.A.units+1 < cLine)(hi:PE X i ty)(ho:PE X o td):PC X .NotIn i o (rN ty td):=by
 intro pins s σ H Q I h
 refine CF (hi pins s σ H _ I h) fun iv s1 ⟨y,H1,I1,ry,q1⟩=>CF (ho pins s1 σ H1 _ I1 q1) fun u s2 ⟨x,H2,I2,rx,a,ov,ex,g,q2⟩=>?_
 subst ex
 obtain rfl:u=Value.ref a:=rx
 exact rL hu I2 g ry fun s3 I3=>⟨.bl (!ov.isSome),H2,I3,rfl,q2⟩
theorem rP (hu:X.A.units+1 < cLine)(ho:PE X o td)(hi:PE X i ty)(hv:PE X value tv)(hs:swapsWith value (some (.Subscript o i pos')) pos.line X.env=pure false) :
  PS X (.Assign [.Subscript o i pos'] value pos) (yQ td ty tv):=by
 intro pins s σ H D I h
 refine wpAny_Assign_Subscript (CF (hv pins s σ H _ I h) fun r s1 ⟨v,H1,I1,rv,q1⟩=>CF (ho pins s1 σ H1 _ I1 q1) fun u s2 ⟨x,H2,I2,rx,q2⟩=>CF (hi pins s2 σ H2 _ I2 q2) fun iv s3 ⟨y,H3,I3,ry,a,H4,ex,g,q3⟩=>?_) hs
 subst ex
 obtain rfl:u=Value.ref a:=rx
 exact lZ hu I3 g ry rv fun s4 I4=>⟨σ,H4,I4,q3⟩
end
theorem nc {P:Program}{w:World}{H:Hp}(h:Heap)(hb:sysModules < h.objs.size):aP P w H (h.push {cls:=.type "dict",data:=.dict #[]}) h.objs.size (.dK []):=
 ⟨Nat.zero_le _,beq_eq_false_iff_ne.mpr (Ne.symm (Nat.ne_of_lt hb)),[],.nil,Heap.DictOf.new h⟩
def wB:TE:=fun _ H Q=>∀ p,H p=none->Q (.ref p) (upd H p (.dK []))
section
variable {X:Cx}{pos:Pos}
theorem iz:PE X (.Dict [] [] pos) wB:=fun pins s σ H Q I h=>
 wpAny_Dict_empty ⟨.ref s.heap.objs.size,_,I.laid (a:=s.heap.objs.size) (o:=.dK []) (t':=s.toks) (fun _ _ q=>Heap.get?_push_of_some _ q) (Nat.le_refl _) (nc s.heap I.big),rfl,h _ (I.CA.fresh (Nat.le_refl _))⟩
end
noncomputable def bP (kvs more:List (Key×V)):List (Key×V):=more.foldl (fun acc kv=>putK acc kv.1 kv.2) kvs
theorem KV.merge:∀ {more:List (Key×V)}{rs:List (Key×Value)}{kvs:List (Key×V)}{vs:List (Key×Value)},KV more rs->KV kvs vs->KV (bP kvs more) (merged vs rs):=by
 intro more rs kvs vs r
 unfold KV at r
 induction r generalizing kvs vs with
 | nil=>intro q;exact q
 | @cons p q ps qs h t ih=>
  intro r0
  have e:KV (putK kvs p.1 p.2) (stored vs q.1 q.2):=by
   have:=r0.put p.1 h.2
   rw[<- h.1];exact this
  exact ih e
theorem bY:∀ (more kvs:List (Key×V)),(bP kvs more).length<=kvs.length+more.length
 | [],kvs=>by show kvs.length<=kvs.length+0;omega
 | p::r,kvs=>by
  have h1:=bY r (putK kvs p.1 p.2)
  have h2:=cD kvs p.1 p.2
  show (bP (putK kvs p.1 p.2) r).length<=_
  rw[List.length_cons];omega
def OF (H:Hp)(a:Addr):Prop:=(∃ kvs,Rd H a (.dK kvs))∨∃ kvs,Rd H a (.dT kvs)
theorem ng {X:Cx}{pins:List (Addr×Obj)}{σ:St}{H:Hp}{s:Shared}{a:Addr}(I:Inv X pins σ H s)(d:OF H a) :
  s.TypeIs (.ref a) "dict"/\(∀ b,Value.ref a=.ref b->∃ ob,s.heap.get? b=some ob/\ob.dict=none)/\(a == sysModules)=false:=by
 rcases d with ⟨kvs,e⟩|⟨kvs,e⟩
 ·obtain⟨_,hd,vs,_,dd⟩:=c7 I.CA e
  refine⟨dd.typeIs,fun b q=>?_,hd⟩
  cases q
  obtain⟨ob,_,_,h1,h2,_⟩:=dd
  exact⟨ob,h1,h2.2.1⟩
 ·obtain⟨_,hd,xs,_,dd⟩:=fN I.CA e
  refine⟨dd.typeIs,fun b q=>?_,hd⟩
  cases q
  obtain⟨ob,_,_,h1,h2,_⟩:=dd
  exact⟨ob,h1,h2.2.1⟩
open PySem.Builtin PySem.Builtin.Str
section
variable {X:Cx}
theorem rQ {x:Str}{e:Expr}{j:Nat}{p q pos:Pos}{t:TE}(hx:x.length<=1000)(h:PE X e t) :
  PE X (.JoinedStr [.Constant (.str x) j p,.FormattedValue e 114 none q] pos) (fun σ H Q=>t σ H fun v H'=>∃ z,v=.str z/\x.length+(reprText z).length<=sizeLine/\Q (.str (x++reprText z)) H'):=by
 intro pins s σ H Q I hq
 have hs:sizeLine=16777216:=sizeLine_eq
 refine JoinedStr_many (joinParts_cons (CF (d6 (X:=X) (x:=x) (j:=j) (pos:=p) pins s σ H (fun v H'=>v=.str x/\H'=H) I ⟨rfl,rfl⟩) fun v s1 ⟨y,H1,I1,r1,e1,e2⟩=>?_))
 subst e1 e2
 obtain⟨t1,rfl⟩:=r1
 have ex:Str.empty++x=x:=Str.empty_append x
 refine⟨by rw[ex];omega,?_⟩
 rw[ex]
 refine joinParts_cons (wpAny_FormattedValue_repr (CF (h pins s1 σ _ _ I1 hq) fun v s2 ⟨y,H2,I2,r2,z,e2,hz,q2⟩=>?_))
 subst e2
 obtain⟨t2,rfl⟩:=r2
 refine pyReprObj_str ?_ (by omega)
 refine formatField_str (fun t' tk=>⟨by rw[strLen_append];exact hz,?_⟩) (by omega)
 exact joinParts_nil ⟨.str _,H2,(I2.tok _).tok _,⟨_,rfl⟩,q2⟩ (by rw[strLen_append];exact hz)
theorem rR {x w:Str}{e:Expr}{j j':Nat}{p q r pos:Pos}{t:TE}(hx:x.length<=1000)(h:PE X e t) :
  PE X (.JoinedStr [.Constant (.str x) j p,.FormattedValue e 114 none q,.Constant (.str w) j' r] pos) (fun σ H Q=>t σ H fun v H'=>∃ z,v=.str z/\x.length+(reprText z).length+w.length<=sizeLine/\Q (.str (x++reprText z++w)) H'):=by
 intro pins s σ H Q I hq
 have hs:sizeLine=16777216:=sizeLine_eq
 refine JoinedStr_many (joinParts_cons (CF (d6 (X:=X) (x:=x) (j:=j) (pos:=p) pins s σ H (fun v H'=>v=.str x/\H'=H) I ⟨rfl,rfl⟩) fun v s1 ⟨y,H1,I1,r1,e1,e2⟩=>?_))
 subst e1 e2
 obtain⟨t1,rfl⟩:=r1
 have ex:Str.empty++x=x:=Str.empty_append x
 refine⟨by rw[ex];omega,?_⟩
 rw[ex]
 refine joinParts_cons (wpAny_FormattedValue_repr (CF (h pins s1 σ _ _ I1 hq) fun v s2 ⟨y,H2,I2,r2,z,e2,hz,q2⟩=>?_))
 subst e2
 obtain⟨t2,rfl⟩:=r2
 refine pyReprObj_str ?_ (by omega)
 refine formatField_str (fun t' tk=>⟨by rw[strLen_append];omega,?_⟩) (by omega)
 refine joinParts_cons (CF (d6 (X:=X) (x:=w) (j:=j') (pos:=r) pins _ σ H2 (fun v H'=>v=.str w/\H'=H2) ((I2.tok _).tok _) ⟨rfl,rfl⟩) fun v s3 ⟨y,H3,I3,r3,e3,e4⟩=>?_)
 subst e3 e4
 obtain⟨t3,rfl⟩:=r3
 refine⟨by rw[strLen_append,strLen_append];omega,?_⟩
 exact joinParts_nil ⟨.str _,_,I3.tok _,⟨_,rfl⟩,q2⟩ (by rw[strLen_append,strLen_append];omega)
end
end L2
namespace L2.Zp
open PySem
inductive Kq where
 | l|t
def Sq (k:Kq)(h:Heap)(a:Addr)(xs:Array Value):Prop:=match k with
 | .l=>h.IsList a xs
 | .t=>h.IsTuple a xs
def It (k:Kq)(h:Heap)(i a:Addr)(n:Nat):Prop:=match k with
 | .l=>h.IsListIter i a n
 | .t=>h.IsTupleIter i a n
theorem Sq.to {k:Kq}{h h':Heap}{a:Addr}{xs:Array Value}(q:Sq k h a xs)(e:∀ o,h.get? a=some o->h'.get? a=some o):Sq k h' a xs:=by
 cases k with
 | l=>obtain⟨o,ho,r⟩:=q;exact⟨o,e o ho,r⟩
 | t=>obtain⟨o,ho,r⟩:=q;exact⟨o,e o ho,r⟩
theorem It.to {k:Kq}{h h':Heap}{i a:Addr}{n:Nat}(q:It k h i a n)(e:∀ o,h.get? i=some o->h'.get? i=some o):It k h' i a n:=by
 cases k with
 | l=>obtain⟨o,ho,r⟩:=q;exact⟨o,e o ho,r⟩
 | t=>obtain⟨o,ho,r⟩:=q;exact⟨o,e o ho,r⟩
theorem It.lt {k:Kq}{h:Heap}{i a:Addr}{n:Nat}(q:It k h i a n):i < h.objs.size:=by
 cases k with
 | l=>obtain⟨o,ho,_⟩:=q;exact Heap.lt_size ho
 | t=>obtain⟨o,ho,_⟩:=q;exact Heap.lt_size ho
section
variable {prog:Program}{w:World}{A:Around}{E:Value->Shared->Prop}{s:Shared}
theorem nh {i a:Addr}{n:Nat}{xs:Array Value}{x:Value}{Q:Value->Shared->Prop}(c:s.heap.IsTupleIter i a n)(q:s.heap.IsTuple a xs)(hx:xs[n]? = some x)
  (k:∀ h',h'.IsTupleIter i a (n+1)->Heap.SameBut i s.heap h'->Q x {s with heap:=h'}):wpAny (model prog w) A (Builtin.SmallTypes.nextOf (.ref i)) Q E s:=by
 have ty:=c.typeIs
 obtain⟨oi,gi,ci,di⟩:=c
 obtain⟨oa,ga,_,na,da⟩:=q
 unfold Builtin.SmallTypes.nextOf
 refine wpAny_bind (wpAny_callSpecial?_slot (name:=Str.ofString "__next__") ty F.slot_tuple_iterator_next (wpAny_call_entry F.slot_tuple_iterator_next ty F.entry_tuple_iterator_next ?_ (F.args_tuple_iterator_next_1 _)))
 show wpAny _ _ (field (.ref i) 0 >>= _) _ _ s
 refine wpAny_bind (wpAny_field gi di (x:=.ref a) rfl ?_)
 show wpAny _ _ (if (Value.ref a == Value.none)=true then _ else _) _ _ s
 rw[if_neg (by intro z;cases z)]
 show wpAny _ _ (field (.ref i) 1 >>= _) _ _ s
 refine wpAny_bind (wpAny_field gi di (x:=.int n 0) rfl ?_)
 show wpAny _ _ (seqItems? (.ref a) >>= _) _ _ s
 refine wpAny_bind (wpAny_seqItems ga da ?_)
 simp only[Int.toNat_natCast,hx]
 refine wpAny_bind (wpAny_setField gi di (by simp) (wpAny_pure ⟨x,rfl,wpAny_pure (k _ ⟨_,Heap.get?_update_self _ gi (Obj.isFreed_of_fields (Obj.data_mapFields di _)),(Obj.cls_mapFields ..).trans ci,?_⟩ (Heap.SameBut.update ..))⟩))
 rw[Obj.data_mapFields di]
 simp[rawInt]
theorem rS {i a:Addr}{n:Nat}{xs:Array Value}{Q:Value->Shared->Prop}(hh:A.handled=none)(c:s.heap.IsTupleIter i a n)(q:s.heap.IsTuple a xs)(hx:xs[n]? = none)
  (k:∀ h' e,Heap.ExtBut i s.heap h'->(∃ o,h'.get? e=some o/\o.cls=.type "StopIteration")->E (.ref e) {s with heap:=h'}):wpAny (model prog w) A (Builtin.SmallTypes.nextOf (.ref i)) Q E s:=by
 have ty:=c.typeIs
 obtain⟨oi,gi,ci,di⟩:=c
 obtain⟨oa,ga,_,na,da⟩:=q
 unfold Builtin.SmallTypes.nextOf
 refine wpAny_bind (wpAny_callSpecial?_slot (name:=Str.ofString "__next__") ty F.slot_tuple_iterator_next (wpAny_call_entry F.slot_tuple_iterator_next ty F.entry_tuple_iterator_next ?_ (F.args_tuple_iterator_next_1 _)))
 show wpAny _ _ (field (.ref i) 0 >>= _) _ _ s
 refine wpAny_bind (wpAny_field gi di (x:=.ref a) rfl ?_)
 show wpAny _ _ (if (Value.ref a == Value.none)=true then _ else _) _ _ s
 rw[if_neg (by intro z;cases z)]
 show wpAny _ _ (field (.ref i) 1 >>= _) _ _ s
 refine wpAny_bind (wpAny_field gi di (x:=.int n 0) rfl ?_)
 show wpAny _ _ (seqItems? (.ref a) >>= _) _ _ s
 refine wpAny_bind (wpAny_seqItems ga da ?_)
 simp only[Int.toNat_natCast,hx]
 refine wpAny_bind (wpAny_rule (wpAny_bind (wpAny_setField gi di (by simp) (wpAny_bind ?_))))
 simp only[newExc,newTuple]
 refine wpAny_bind (wpAny_newObj_type (wpAny_bind (m:=firstArgMember _ _) (wpAny_of_eq (a:=Value.none) (by first|rfl|(simp only[firstArgMember];rfl)) (wpAny_newObj_type ?_ (by size_fits)))) (by size_fits))
 simp only[raiseNew]
 refine wpAny_bind (wpAny_handled ?_)
 first|rw[show A.in1.handled=none from hh]|rw[hh]
 exact wpAny_bind (wpAny_pure (wpAny_throw (k _ _ (((Heap.SameBut.update ..).extBut.push _).push _) ⟨_,Heap.get?_push_size _ rfl,rfl⟩)))
theorem gx {k:Kq}{i a:Addr}{n:Nat}{xs:Array Value}{x:Value}{Q:Value->Shared->Prop}(c:It k s.heap i a n)(q:Sq k s.heap a xs)(hx:xs[n]? = some x)
  (f:∀ h',It k h' i a (n+1)->Heap.SameBut i s.heap h'->Q x {s with heap:=h'}):wpAny (model prog w) A (Builtin.SmallTypes.nextOf (.ref i)) Q E s:=by
 cases k with
 | l=>exact wpAny_nextOf_list_item c q hx f
 | t=>exact nh c q hx f
theorem ni {k:Kq}{i a:Addr}{n:Nat}{xs:Array Value}{Q:Value->Shared->Prop}(hh:A.handled=none)(c:It k s.heap i a n)(q:Sq k s.heap a xs)(hx:xs[n]? = none)
  (f:∀ h' e,Heap.ExtBut i s.heap h'->(∃ o,h'.get? e=some o/\o.cls=.type "StopIteration")->E (.ref e) {s with heap:=h'}):wpAny (model prog w) A (Builtin.SmallTypes.nextOf (.ref i)) Q E s:=by
 cases k with
 | l=>exact wpAny_nextOf_list_end hh c q hx f
 | t=>exact rS hh c q hx f
end
section
variable {prog:Program}{w:World}{A:Around}{E:Value->Shared->Prop}{s:Shared}
def Kept (z TO i j:Addr)(h h':Heap):Prop:=∀ c o,c≠z->c≠TO->c≠i->c≠j->h.get? c=some o->h'.get? c=some o
theorem l0 {p q:Kq}{z TI TO i j l m:Addr}{n n':Nat}{xs ys:Array Value}{x y a b:Value}{Q:Value->Shared->Prop}(D:ZipApart z TI TO i j l m)(hz:IsZip s.heap z TI TO .none)(hI:IsPair s.heap TI (.ref i) (.ref j))(hO:IsPair s.heap TO a b)
  (ci:It p s.heap i l n) (cj:It q s.heap j m n') (sl:Sq p s.heap l xs) (sm:Sq q s.heap m ys) (hx:xs[n]? = some x) (hy:ys[n']? = some y)
  (k:∀ h',IsZip h' z TI TO (rawInt s.heap.objs.size)->IsPair h' TO x y->It p h' i l (n+1)->It q h' j m (n' + 1)->IsPair h' s.heap.objs.size x y->h'.objs.size=s.heap.objs.size+1->Kept z TO i j s.heap h'->Q (.ref s.heap.objs.size) {s with heap:=h'}) :
  wpAny (model prog w) A (Builtin.«zip.__next__» ⟨[.ref z],[]⟩) (fun fin s'=>∃ v,fin=.done (.ret v)/\Q v s') E s:=by
 show wpAny _ _ (field (.ref z) 2 >>= _) _ _ _
 refine wpAny_bind (wpAny_field hz rfl (x:=.bool false) rfl ?_)
 show wpAny _ _ (field (.ref z) 3 >>= _) _ _ _
 refine wpAny_bind (wpAny_field hz rfl (x:=.ref TI) rfl (wpAny_bind (wpAny_seqItems hI rfl ?_)))
 show wpAny _ _ (Builtin.SmallTypes.ownedTupleIsFree (.ref z) >>= _) _ _ _
 refine wpAny_bind ?_
 unfold Builtin.SmallTypes.ownedTupleIsFree
 refine wpAny_bind (wpAny_field hz rfl (x:=.none) rfl (wpAny_pure ?_))
 simp only[if_true]
 refine wpAny_bind (wpAny_rule (wpAny_bind (wpAny_field hz rfl (x:=.ref TO) rfl (wpAny_bind (wpAny_setField_rec hz (by simp) fun h1 z1 e1=>?_)))))
 have L':IsZip h1 z TI TO .ellipsis:=z1
 refine wpAny_bind ?_
 simp only[List.zipIdx_cons,List.zipIdx_nil,List.forIn_cons,List.forIn_nil]
 refine wpAny_bind (wpAny_bind (wpAny_onRaise ?_))
 show wpAny _ _ (Builtin.SmallTypes.nextOf (.ref i) >>= _) _ _ _
 refine wpAny_bind (gx (ci.to fun o e=>e1.extBut _ _ D.i1z e) (sl.to fun o e=>e1.extBut _ _ D.l1z e) hx fun h2 OG e2=>wpAny_pure ?_)
 have O2:IsPair h2 TO a b:=e2.extBut _ _ D.TOi1 (e1.extBut _ _ D.TOz hO)
 refine wpAny_bind (wpAny_seqItems O2 rfl (wpAny_bind (wpAny_updateSeq_pair O2 fun h3 O3 e3=>?_)))
 have Rb:IsPair h3 TO x b:=O3
 refine wpAny_bind (wpAny_letGo (wpAny_pure (wpAny_bind (wpAny_bind (wpAny_onRaise ?_)))))
 show wpAny _ _ (Builtin.SmallTypes.nextOf (.ref j) >>= _) _ _ _
 refine wpAny_bind (gx (cj.to fun o e=>e3.extBut _ _ D.TOi2.symm (e2.extBut _ _ D.i12.symm (e1.extBut _ _ D.i2z e))) (sm.to fun o e=>e3.extBut _ _ D.l2TO (e2.extBut _ _ D.l2i1 (e1.extBut _ _ D.l2z e))) hy fun h4 Rc e4=>wpAny_pure ?_)
 have O4:IsPair h4 TO x b:=e4.extBut _ _ D.TOi2 Rb
 refine wpAny_bind (wpAny_seqItems O4 rfl (wpAny_bind (wpAny_updateSeq_pair O4 fun h5 O5 e5=>?_)))
 have OH:IsPair h5 TO x y:=O5
 refine wpAny_bind (wpAny_letGo (wpAny_pure (wpAny_pure (wpAny_bind (wpAny_seqItems OH rfl (wpAny_bind (wpAny_newTuple ?_)))))))
 have sz:h5.objs.size=s.heap.objs.size:=by rw[e5.1,e4.1,e3.1,e2.1,e1.1]
 have z5:IsZip h5 z TI TO .ellipsis:=e5.extBut _ _ D.TOz.symm (e4.extBut _ _ D.i2z.symm (e3.extBut _ _ D.TOz.symm (e2.extBut _ _ D.i1z.symm L')))
 have k5:Kept z TO i j s.heap h5:=fun c o c1 c2 c3 c4 e=>e5.extBut _ _ c2 (e4.extBut _ _ c4 (e3.extBut _ _ c2 (e2.extBut _ _ c3 (e1.extBut _ _ c1 e))))
 have Rf:It p h5 i l (n+1):=OG.to fun o e=>e5.extBut _ _ D.TOi1.symm (e4.extBut _ _ D.i12 (e3.extBut _ _ D.TOi1.symm e))
 have Rg:It q h5 j m (n' + 1):=Rc.to fun o e=>e5.extBut _ _ D.TOi2.symm e
 have lz:z < h5.objs.size:=Heap.lt_size z5
 show wpAny _ _ (Builtin.SmallTypes.ownedTupleHandOut (.ref z) (.ref h5.objs.size) >>= _) _ _ _
 refine wpAny_bind ?_
 unfold Builtin.SmallTypes.ownedTupleHandOut
 have z6:IsZip (h5.push {cls:=.type "tuple",data:=.seq #[x,y]}) z TI TO .ellipsis:=Heap.get?_push_of_some _ z5
 refine wpAny_bind (wpAny_setField_rec z6 (by simp) fun h7 z7 e7=>wpAny_setField_rec (show IsZip h7 z TI TO (rawInt h5.objs.size) from z7) (by simp) fun h8 z8 e8=>?_)
 have OI:IsZip h8 z TI TO (rawInt h5.objs.size):=z8
 have up:∀ c o,c≠z->h5.get? c=some o->h8.get? c=some o:=fun c o c1 e=>e8.extBut _ _ c1 (e7.extBut _ _ c1 (Heap.get?_push_of_some _ e))
 have t8:IsPair h8 h5.objs.size x y:=e8.extBut _ _ (Nat.ne_of_gt lz) (e7.extBut _ _ (Nat.ne_of_gt lz) (Heap.get?_push_size _ rfl))
 have s8:h8.objs.size=h5.objs.size+1:=by rw[e8.1,e7.1,Heap.size_push]
 rw[sz] at OI t8 s8
 refine wpAny_pure ⟨_,rfl,?_⟩
 show Q (.ref h5.objs.size) _
 rw[sz]
 exact k h8 OI (up _ _ D.TOz OH) (Rf.to fun o e=>up _ o D.i1z e) (Rg.to fun o e=>up _ o D.i2z e) t8 s8 fun c o c1 c2 c3 c4 e=>up c o c1 (k5 c o c1 c2 c3 c4 e)
theorem l5 {p q:Kq}{z TI TO i j l m:Addr}{n n':Nat}{xs ys:Array Value}{a b:Value}{Q:PySem.Fin->Shared->Prop}(hh:A.handled=none)(D:ZipApart z TI TO i j l m)(hz:IsZip s.heap z TI TO .none)(hI:IsPair s.heap TI (.ref i) (.ref j))(hO:IsPair s.heap TO a b)
  (ci:It p s.heap i l n) (cj:It q s.heap j m n') (sl:Sq p s.heap l xs) (sm:Sq q s.heap m ys) (Jg:xs[n]? = none∨ys[n']? = none)
  (k:∀ h' e,Kept z TO i j s.heap h'->(∃ o,h'.get? e=some o/\o.cls=.type "StopIteration")->E (.ref e) {s with heap:=h'}) :
  wpAny (model prog w) A (Builtin.«zip.__next__» ⟨[.ref z],[]⟩) Q E s:=by
 show wpAny _ _ (field (.ref z) 2 >>= _) _ _ _
 refine wpAny_bind (wpAny_field hz rfl (x:=.bool false) rfl ?_)
 show wpAny _ _ (field (.ref z) 3 >>= _) _ _ _
 refine wpAny_bind (wpAny_field hz rfl (x:=.ref TI) rfl (wpAny_bind (wpAny_seqItems hI rfl ?_)))
 show wpAny _ _ (Builtin.SmallTypes.ownedTupleIsFree (.ref z) >>= _) _ _ _
 refine wpAny_bind ?_
 unfold Builtin.SmallTypes.ownedTupleIsFree
 refine wpAny_bind (wpAny_field hz rfl (x:=.none) rfl (wpAny_pure ?_))
 simp only[if_true]
 refine wpAny_bind (wpAny_rule (wpAny_bind (wpAny_field hz rfl (x:=.ref TO) rfl (wpAny_bind (wpAny_setField_rec hz (by simp) fun h1 z1 e1=>?_)))))
 have L':IsZip h1 z TI TO .ellipsis:=z1
 refine wpAny_bind ?_
 simp only[List.zipIdx_cons,List.zipIdx_nil,List.forIn_cons,List.forIn_nil]
 refine wpAny_bind (wpAny_bind (wpAny_onRaise ?_))
 show wpAny _ _ (Builtin.SmallTypes.nextOf (.ref i) >>= _) _ _ _
 cases hx:xs[n]? with
 | none=>
  refine wpAny_bind (ni hh (ci.to fun o e=>e1.extBut _ _ D.i1z e) (sl.to fun o e=>e1.extBut _ _ D.l1z e) hx fun h2 e e2 he=>?_)
  obtain⟨oe,g,c⟩:=he
  have z2:IsZip h2 z TI TO .ellipsis:=e2 _ _ D.i1z.symm L'
  have ne:e≠z:=fun v=>by rw[v,z2] at g;cases g;simp at c
  exact wpAny_setField_rec z2 (by simp) fun h3 _ e3=>k h3 e (fun d o c1 _ c3 _ v=>e3.extBut _ _ c1 (e2 _ _ c3 (e1.extBut _ _ c1 v))) ⟨oe,e3.extBut _ _ ne g,c⟩
 | some x=>
  have hy:ys[n']? = none:=by
   rcases Jg with v|v
   ·rw[hx] at v;cases v
   ·exact v
  refine wpAny_bind (gx (ci.to fun o e=>e1.extBut _ _ D.i1z e) (sl.to fun o e=>e1.extBut _ _ D.l1z e) hx fun h2 OG e2=>wpAny_pure ?_)
  have O2:IsPair h2 TO a b:=e2.extBut _ _ D.TOi1 (e1.extBut _ _ D.TOz hO)
  refine wpAny_bind (wpAny_seqItems O2 rfl (wpAny_bind (wpAny_updateSeq_pair O2 fun h3 O3 e3=>wpAny_bind (wpAny_letGo (wpAny_pure (wpAny_bind (wpAny_bind (wpAny_onRaise ?_))))))))
  show wpAny _ _ (Builtin.SmallTypes.nextOf (.ref j) >>= _) _ _ _
  refine wpAny_bind (ni hh (cj.to fun o e=>e3.extBut _ _ D.TOi2.symm (e2.extBut _ _ D.i12.symm (e1.extBut _ _ D.i2z e))) (sm.to fun o e=>e3.extBut _ _ D.l2TO (e2.extBut _ _ D.l2i1 (e1.extBut _ _ D.l2z e))) hy fun h4 e e4 he=>?_)
  obtain⟨oe,g,c⟩:=he
  have z4:IsZip h4 z TI TO .ellipsis:=e4 _ _ D.i2z.symm (e3.extBut _ _ D.TOz.symm (e2.extBut _ _ D.i1z.symm L'))
  have ne:e≠z:=fun v=>by rw[v,z4] at g;cases g;simp at c
  exact wpAny_setField_rec z4 (by simp) fun h5 _ e5=>k h5 e (fun d o c1 c2 c3 c4 v=>e5.extBut _ _ c1 (e4 _ _ c4 (e3.extBut _ _ c2 (e2.extBut _ _ c3 (e1.extBut _ _ c1 v))))) ⟨oe,e5.extBut _ _ ne g,c⟩
end
noncomputable def J':Kq->Addr->Obj
 | .l,a=>{cls:=.type "list_iterator",data:=.fields #[.ref a,.int 0 0]}
 | .t,a=>{cls:=.type "tuple_iterator",data:=.fields #[.ref a,.int 0 0]}
noncomputable def Hi (p:Kq)(h:Heap)(l:Addr):Heap:=h.push (J' p l)
noncomputable def Hj (p q:Kq)(h:Heap)(l m:Addr):Heap:=(Hi p h l).push (J' q m)
noncomputable def HI (p q:Kq)(h:Heap)(l m:Addr):Heap:=(Hj p q h l m).push {cls:=.type "tuple",data:=.seq #[.ref h.objs.size,.ref (Hi p h l).objs.size]}
noncomputable def HO (p q:Kq)(h:Heap)(l m:Addr):Heap:=(HI p q h l m).push {cls:=.type "tuple",data:=.seq #[.none,.none]}
noncomputable def HZ (p q:Kq)(h:Heap)(l m:Addr):Heap:=(HO p q h l m).push {cls:=.type "zip",data:=.fields #[.none,.bool false,.bool false,.ref (Hj p q h l m).objs.size,.ref (HI p q h l m).objs.size]}
theorem wC (l m:Addr)(xs ys:Array Value):Meets (Builtin.«zip.__new__» ⟨[.type "zip",.ref l,.ref m],[]⟩) (fun _ R s=>Sq .l s.heap l xs/\Sq .l s.heap m ys/\R (.ok (.ret (.ref (HO .l .l s.heap l m).objs.size))) {s with heap:=HZ .l .l s.heap l m}):=
 .of_wp fun prog w A R s h=>by
  obtain⟨hp,g,d,tk,os⟩:=s
  obtain⟨q1,q2,h⟩:=h
  have sub:=sub_zip
  have a1:Heap.IsList (Shared.heap ⟨hp,g,d,tk,os⟩) l xs:=q1
  have a2:Heap.IsList (Shared.heap ⟨hp.push {cls:=.type "list_iterator",data:=.fields #[.ref l,.int 0 0]},g,d,tk,os⟩) m ys:=Heap.IsList.push (show hp.IsList m ys from q2) _
  wp_walk using wpAny_pyIter_list a1,wpAny_pyIter_list a2
  exact⟨_,rfl,h⟩
theorem wD (l m:Addr)(xs ys:Array Value):Meets (Builtin.«zip.__new__» ⟨[.type "zip",.ref l,.ref m],[]⟩) (fun _ R s=>Sq .l s.heap l xs/\Sq .t s.heap m ys/\R (.ok (.ret (.ref (HO .l .t s.heap l m).objs.size))) {s with heap:=HZ .l .t s.heap l m}):=
 .of_wp fun prog w A R s h=>by
  obtain⟨hp,g,d,tk,os⟩:=s
  obtain⟨q1,q2,h⟩:=h
  have sub:=sub_zip
  have a1:Heap.IsList (Shared.heap ⟨hp,g,d,tk,os⟩) l xs:=q1
  have a2:Heap.IsTuple (Shared.heap ⟨hp.push {cls:=.type "list_iterator",data:=.fields #[.ref l,.int 0 0]},g,d,tk,os⟩) m ys:=Heap.IsTuple.push (show hp.IsTuple m ys from q2) _
  wp_walk using wpAny_pyIter_list a1,wpAny_pyIter_tuple a2
  exact⟨_,rfl,h⟩
theorem wF (l m:Addr)(xs ys:Array Value):Meets (Builtin.«zip.__new__» ⟨[.type "zip",.ref l,.ref m],[]⟩) (fun _ R s=>Sq .t s.heap l xs/\Sq .l s.heap m ys/\R (.ok (.ret (.ref (HO .t .l s.heap l m).objs.size))) {s with heap:=HZ .t .l s.heap l m}):=
 .of_wp fun prog w A R s h=>by
  obtain⟨hp,g,d,tk,os⟩:=s
  obtain⟨q1,q2,h⟩:=h
  have sub:=sub_zip
  have a1:Heap.IsTuple (Shared.heap ⟨hp,g,d,tk,os⟩) l xs:=q1
  have a2:Heap.IsList (Shared.heap ⟨hp.push {cls:=.type "tuple_iterator",data:=.fields #[.ref l,.int 0 0]},g,d,tk,os⟩) m ys:=Heap.IsList.push (show hp.IsList m ys from q2) _
  wp_walk using wpAny_pyIter_tuple a1,wpAny_pyIter_list a2
  exact⟨_,rfl,h⟩
theorem wG (l m:Addr)(xs ys:Array Value):Meets (Builtin.«zip.__new__» ⟨[.type "zip",.ref l,.ref m],[]⟩) (fun _ R s=>Sq .t s.heap l xs/\Sq .t s.heap m ys/\R (.ok (.ret (.ref (HO .t .t s.heap l m).objs.size))) {s with heap:=HZ .t .t s.heap l m}):=
 .of_wp fun prog w A R s h=>by
  obtain⟨hp,g,d,tk,os⟩:=s
  obtain⟨q1,q2,h⟩:=h
  have sub:=sub_zip
  have a1:Heap.IsTuple (Shared.heap ⟨hp,g,d,tk,os⟩) l xs:=q1
  have a2:Heap.IsTuple (Shared.heap ⟨hp.push {cls:=.type "tuple_iterator",data:=.fields #[.ref l,.int 0 0]},g,d,tk,os⟩) m ys:=Heap.IsTuple.push (show hp.IsTuple m ys from q2) _
  wp_walk using wpAny_pyIter_tuple a1,wpAny_pyIter_tuple a2
  exact⟨_,rfl,h⟩
theorem wH (p q:Kq)(l m:Addr)(xs ys:Array Value):Meets (Builtin.«zip.__new__» ⟨[.type "zip",.ref l,.ref m],[]⟩) (fun _ R s=>Sq p s.heap l xs/\Sq q s.heap m ys/\R (.ok (.ret (.ref (HO p q s.heap l m).objs.size))) {s with heap:=HZ p q s.heap l m}):=by
 cases p<;>cases q
 ·exact wC l m xs ys
 ·exact wD l m xs ys
 ·exact wF l m xs ys
 ·exact wG l m xs ys
theorem nj {k:Kq}{h h':Heap}{i a:Addr}(e:h'.get? i=some (J' k a)):It k h' i a 0:=by
 cases k with
 | l=>exact⟨_,e,rfl,rfl⟩
 | t=>exact⟨_,e,rfl,rfl⟩
theorem iA (k:Kq)(a:Addr):(J' k a).isFreed=false:=by cases k<;>rfl
section
variable {prog:Program}{w:World}{A:Around}{E:Value->Shared->Prop}{s:Shared}
theorem GK {p q:Kq}{l m:Addr}{xs ys:Array Value}{Q:Value->Shared->Prop}(h1:Sq p s.heap l xs)(h2:Sq q s.heap m ys)
  (k:∀ h',IsZip h' (s.heap.objs.size+4) (s.heap.objs.size+2) (s.heap.objs.size+3) .none->IsPair h' (s.heap.objs.size+2) (.ref s.heap.objs.size) (.ref (s.heap.objs.size+1))->IsPair h' (s.heap.objs.size+3) .none .none->
   It p h' s.heap.objs.size l 0->It q h' (s.heap.objs.size+1) m 0->h'.objs.size=s.heap.objs.size+5->(∀ c o,s.heap.get? c=some o->h'.get? c=some o)->Q (.ref (s.heap.objs.size+4)) {s with heap:=h'}) :
  wpAny (model prog w) A (call (.type "zip") [.ref l,.ref m]) Q E s:=by
 refine callType_new F.called_zip (by decide) (F.typeCall_zip_2 _ _) (F.newCall_zip_2 _ _) (fun obj=>F.args_object_init_3 obj _ _) F.entry_zip_new (wH p q l m xs ys) ⟨h1,h2,?_⟩
 have n1:(Hi p s.heap l).objs.size=s.heap.objs.size+1:=Heap.size_push ..
 have n2:(Hj p q s.heap l m).objs.size=s.heap.objs.size+2:=(Heap.size_push ..).trans (by rw[n1])
 have n3:(HI p q s.heap l m).objs.size=s.heap.objs.size+3:=(Heap.size_push ..).trans (by rw[n2])
 have n4:(HO p q s.heap l m).objs.size=s.heap.objs.size+4:=(Heap.size_push ..).trans (by rw[n3])
 have n5:(HZ p q s.heap l m).objs.size=s.heap.objs.size+5:=(Heap.size_push ..).trans (by rw[n4])
 have OJ:∀ c o,(HO p q s.heap l m).get? c=some o->(HZ p q s.heap l m).get? c=some o:=fun c o e=>Heap.get?_push_of_some _ e
 have OK:∀ c o,(HI p q s.heap l m).get? c=some o->(HZ p q s.heap l m).get? c=some o:=fun c o e=>OJ c o (Heap.get?_push_of_some _ e)
 have OL:∀ c o,(Hj p q s.heap l m).get? c=some o->(HZ p q s.heap l m).get? c=some o:=fun c o e=>OK c o (Heap.get?_push_of_some _ e)
 have OM:∀ c o,(Hi p s.heap l).get? c=some o->(HZ p q s.heap l m).get? c=some o:=fun c o e=>OL c o (Heap.get?_push_of_some _ e)
 have g5:(HZ p q s.heap l m).get? (HO p q s.heap l m).objs.size=some _:=Heap.get?_push_size _ rfl
 have g4:(HZ p q s.heap l m).get? (HI p q s.heap l m).objs.size=some {cls:=.type "tuple",data:=.seq #[.none,.none]}:=OJ _ _ (Heap.get?_push_size _ rfl)
 have g3:(HZ p q s.heap l m).get? (Hj p q s.heap l m).objs.size=some {cls:=.type "tuple",data:=.seq #[.ref s.heap.objs.size,.ref (Hi p s.heap l).objs.size]}:=OK _ _ (Heap.get?_push_size _ rfl)
 have g2:(HZ p q s.heap l m).get? (Hi p s.heap l).objs.size=some (J' q m):=OL _ _ (Heap.get?_push_size _ (iA q m))
 have g1:(HZ p q s.heap l m).get? s.heap.objs.size=some (J' p l):=OM _ _ (Heap.get?_push_size _ (iA p l))
 rw[n2,n3,n4] at g5
 rw[n3] at g4
 rw[n1,n2] at g3
 rw[n1] at g2
 show _/\_
 rw[n4]
 exact⟨⟨_,g5,rfl⟩,k _ g5 g3 g4 (nj (h:=s.heap) g1) (nj (h:=s.heap) g2) n5 fun c o e=>OM c o (Heap.get?_push_of_some _ e)⟩
end
section
variable {prog:Program}{w:World}{A:Around}{E:Value->Shared->Prop}{s:Shared}
theorem HC {p q:Kq}{z TI TO i j l m:Addr}{n n':Nat}{xs ys:Array Value}{x y a b:Value}{Q:Option Value->Shared->Prop}(D:ZipApart z TI TO i j l m)(hz:IsZip s.heap z TI TO .none)(hI:IsPair s.heap TI (.ref i) (.ref j))(hO:IsPair s.heap TO a b)
  (ci:It p s.heap i l n) (cj:It q s.heap j m n') (sl:Sq p s.heap l xs) (sm:Sq q s.heap m ys) (hx:xs[n]? = some x) (hy:ys[n']? = some y)
  (k:∀ h',IsZip h' z TI TO (rawInt s.heap.objs.size)->IsPair h' TO x y->It p h' i l (n+1)->It q h' j m (n' + 1)->IsPair h' s.heap.objs.size x y->h'.objs.size=s.heap.objs.size+1->Kept z TO i j s.heap h'->Q (some (.ref s.heap.objs.size)) {s with heap:=h'}) :
  wpAny (model prog w) A (pyNext (.ref z)) Q E s:=by
 have ty:s.TypeIs (.ref z) "zip":=⟨_,hz,rfl⟩
 unfold pyNext
 refine wpAny_bind (wpAny_attempt (wpAny_callSpecial?_slot (name:=Str.ofString "__next__") ty F.slot_zip_next (wpAny_call_entry F.slot_zip_next ty F.entry_zip_next ?_ (F.args_zip_next_1 _))))
 exact l0 D hz hI hO ci cj sl sm hx hy fun h' a1 a2 a3 a4 a5 a6 a7=>wpAny_pure (k h' a1 a2 a3 a4 a5 a6 a7)
theorem HD {p q:Kq}{z TI TO i j l m:Addr}{n n':Nat}{xs ys:Array Value}{a b:Value}{Q:Option Value->Shared->Prop}(hh:A.handled=none)(D:ZipApart z TI TO i j l m)(hz:IsZip s.heap z TI TO .none)(hI:IsPair s.heap TI (.ref i) (.ref j))(hO:IsPair s.heap TO a b)
  (ci:It p s.heap i l n) (cj:It q s.heap j m n') (sl:Sq p s.heap l xs) (sm:Sq q s.heap m ys) (Jg:xs[n]? = none∨ys[n']? = none)
  (k:∀ h',Kept z TO i j s.heap h'->Q none {s with heap:=h'}):wpAny (model prog w) A (pyNext (.ref z)) Q E s:=by
 have ty:s.TypeIs (.ref z) "zip":=⟨_,hz,rfl⟩
 unfold pyNext
 refine wpAny_bind (wpAny_attempt (wpAny_callSpecial?_slot (name:=Str.ofString "__next__") ty F.slot_zip_next (wpAny_call_entry F.slot_zip_next ty F.entry_zip_next (l5 hh D hz hI hO ci cj sl sm Jg fun h' e hk he=>?_) (F.args_zip_next_1 _))))
 obtain⟨o,g,c⟩:=he
 exact wpAny_bind (wpAny_isInstance (T:="StopIteration") (b:=true) ⟨o,g,c⟩ isSubtype_stop (wpAny_pure (k _ hk)))
end
end L2.Zp
namespace L2
open PySem PySem.Spec PyProof.Rows
def Gx (K:PySem.W.Frag)(H:Hp)(k:Zp.Kq)(a:Addr)(xs:List V):Prop:=match k with
 | .l=>DC K H a xs
 | .t=>DL K H a xs
section
variable {X:Cx}{pins:List (Addr×Obj)}{σ:St}{H:Hp}{s:Shared}{h':Heap}{k:Zp.Kq}{a:Addr}{xs ys:List V}
theorem Inv.Ka (I:Inv X pins σ H s)(h:Gx X.K H k a xs):∃ its:List Value,Vals xs its/\Zp.Sq k s.heap a its.toArray:=by
 cases k with
 | l=>obtain⟨its,rv,p,hz⟩:=I.list h;exact⟨its,rv,p.isList⟩
 | t=>obtain⟨its,rv,p,hz⟩:=I.tuple h;exact⟨its,rv,p⟩
theorem Inv.FV (I:Inv X pins σ H s)(h:Gx X.K H k a xs)(h':Gx X.K H k a ys):xs=ys:=by
 cases k with
 | l=>exact I.C9 h h'
 | t=>exact I.DX h h'
theorem Inv.turns {t':Nat}{ch:List Addr}(I:Inv X pins σ H s)(k:∀ b o,b∉ch->s.heap.get? b=some o->h'.get? b=some o)(hf:∀ b∈ch,cQ X pins H b):Inv X pins σ H {s with heap:=h',toks:=t'}:=by
 have HY:∀ b u,H b=some u->b∉ch:=fun b u e z=>by rw[(hf b z).1] at e;cases e
 refine I.step (g':=s.gens) (d':=s.drawn) (ch:=ch) (fun b hb=>?_) (fun b o _ _ hc e _=>k b o hc e) (fun b o _ _ hc e _=>⟨o.slots,k b o hc e⟩) (fun _ _ _ _ n=>n)
  (fun b o hc e=>⟨o,k b o hc e⟩) (fun _ _ e=>e) (fun _ _ _ e=>e) (fun b ps e=>⟨#[],by rw[e];simp⟩) (fun m hm=>?_) (fun b u e=>?_) I.bare
 ·obtain⟨f0,f1,f2,f3,f4,f5⟩:=hf b hb
  exact⟨f3,f1,f4,f5⟩
 ·obtain⟨o,es,ep,ho,r⟩:=hm
  exact⟨o,es,ep,k _ o (fun z=>(hf _ z).2.1 rfl) ho,r⟩
 ·refine(I.CA b u e).D8 (fun c v hc q=>k c v ?_ q) (fun _ q=>q) fun _ _ q=>q
  rcases hc with z|z
  ·rw[z];exact HY b u e
  ·exact HY c _ z
theorem Inv.Jh {t':Nat}{ch:List Addr}{T:Addr}{ho:HO}(I:Inv X pins σ H s)(k:∀ b o,b∉ch->s.heap.get? b=some o->h'.get? b=some o)(hf:∀ b∈ch,cQ X pins H b)(hp:s.heap.objs.size<=T)(new:aP X.prog X.w (upd H T ho) h' T ho):Inv X pins σ (upd H T ho) {s with heap:=h',toks:=t'}:=by
 have HY:∀ b u,H b=some u->b∉ch:=fun b u e z=>by rw[(hf b z).1] at e;cases e
 have hn:H T=none:=I.CA.fresh hp
 refine I.step (g':=s.gens) (d':=s.drawn) (ch:=ch) (fun b hb=>?_) (fun b o _ _ hc e _=>k b o hc e) (fun b o _ _ hc e _=>⟨o.slots,k b o hc e⟩) (fun b o _ e n=>by rw[aj (Nat.ne_of_lt (Nat.lt_of_lt_of_le (Heap.lt_size e) hp))];exact n)
  (fun b o hc e=>⟨o,k b o hc e⟩) (fun b xs q=>by rw[aj (aA q hn)];exact q) (fun b u xs q=>by rw[aj (aA q hn)];exact q) (fun b ps q=>⟨#[],by rw[aj (aA q hn),q];simp⟩) (fun m hm=>?_) (fun b u e=>?_) I.bare
 ·obtain⟨f0,f1,f2,f3,f4,f5⟩:=hf b hb
  exact⟨f3,f1,f4,f5⟩
 ·obtain⟨o,es,ep,ho,r⟩:=hm
  exact⟨o,es,ep,k _ o (fun z=>(hf _ z).2.1 rfl) ho,r⟩
 ·by_cases hb:b=T
  ·subst hb;rw[ar] at e;cases e;exact new
  ·rw[aj hb] at e
   refine(I.CA b u e).D8 (fun c v hc q=>k c v ?_ q) (fun c q=>by rw[aj (aA q hn)];exact q) fun c xs q=>by rw[aj (aA q hn)];exact q
   rcases hc with z|z
   ·rw[z];exact HY b u e
   ·exact HY c _ z
end
noncomputable def Nc (K:PySem.W.Frag)(p q:Zp.Kq)(l m:Addr):It:=
 ⟨fun i H=>∃ xs ys x y,Gx K H p l xs/\Gx K H q m ys/\xs[i]? = some x/\ys[i]? = some y,
  fun i H v H'=>∃ T a b,v=.ref T/\H T=none/\H'=upd H T (.tup [a,b])/\∀ xs ys,Gx K H p l xs->Gx K H q m ys->xs[i]? = some a/\ys[i]? = some b,
  fun i H=>∃ xs ys,Gx K H p l xs/\Gx K H q m ys/\(xs.length<=i∨ys.length<=i)⟩
theorem Zp.It.obj {k:Zp.Kq}{h:Heap}{i a:Addr}{n:Nat}(c:Zp.It k h i a n):∃ o,h.get? i=some o/\∀ v,o.data≠.cell v:=by
 cases k with
 | l=>obtain⟨o,e,c,d⟩:=c;exact⟨o,e,fun v z=>by rw[d] at z;cases z⟩
 | t=>obtain⟨o,e,c,d⟩:=c;exact⟨o,e,fun v z=>by rw[d] at z;cases z⟩
theorem nk {P:Program}{w:World}{K:PySem.W.Frag}{es:List Expr}{c:Nat}{pos:Pos}(p q:Zp.Kq)(z TI TO i j l m:Addr)(D:ZipApart z TI TO i j l m) :
  Turn P w K (.Tuple es c pos) (Nc K p q l m) [z,TI,TO,i,j] z (fun n h=>IsZip h z TI TO .none/\IsPair h TI (.ref i) (.ref j)/\(∃ a b,IsPair h TO a b)/\Zp.It p h i l n/\Zp.It q h j m n) where
 mem:=by simp
 obj:=fun n h st b hb=>by
  obtain⟨hz,hI,⟨a,b',hO⟩,ci,cj⟩:=st
  simp only[List.mem_cons,List.not_mem_nil,or_false] at hb
  rcases hb with rfl|rfl|rfl|rfl|rfl
  ·exact⟨_,hz,fun v z=>by cases z⟩
  ·exact⟨_,hI,fun v z=>by cases z⟩
  ·exact⟨_,hO,fun v z=>by cases z⟩
  ·exact ci.obj
  ·exact cj.obj
 keep:=fun n h h' st k=>by
  obtain⟨hz,hI,⟨a,b',hO⟩,ci,cj⟩:=st
  exact⟨k z (by simp) _ hz,k TI (by simp) _ hI,⟨a,b',k TO (by simp) _ hO⟩,ci.to fun o e=>k i (by simp) o e,cj.to fun o e=>k j (by simp) o e⟩
 item:=by
  intro X hP hw hK hc n pins s σ H E I hf st hg
  subst hP hw hK
  obtain⟨hz,hI,⟨a,b',hO⟩,ci,cj⟩:=st
  obtain⟨xs,ys,x,y,Ma,Mb,hx,hy⟩:=hg
  obtain⟨HE,HF,p1⟩:=I.Ka Ma
  obtain⟨Dx,Fg,p2⟩:=I.Ka Mb
  obtain⟨u1,Nd,K8⟩:=HF.get hx
  obtain⟨u2,Rh,Nf⟩:=Fg.get hy
  refine Zp.HC D hz hI hO ci cj p1 p2 (x:=u1) (y:=u2) (by simpa using Nd) (by simpa using Rh) fun h1 a1 a2 a3 a4 a5 a6 hk=>?_
  refine⟨_,rfl,?_⟩
  have lz:z < s.heap.objs.size:=Heap.lt_size hz
  have Ri:s.heap.objs.size≠z:=Nat.ne_of_gt lz
  refine wpAny_letOwnedTupleGo_zip (s:={s with heap:=h1}) a1 fun h2 Rj FR=>?_
  have kk:∀ b o,b∉[z,TI,TO,i,j]->s.heap.get? b=some o->h2.get? b=some o:=fun b o hb e=>by
   simp only[List.mem_cons,List.not_mem_nil,or_false,not_or] at hb
   exact FR.extBut _ _ hb.1 (hk b o hb.1 hb.2.2.1 hb.2.2.2.1 hb.2.2.2.2 e)
  have hT:IsPair h2 s.heap.objs.size u1 u2:=FR.extBut _ _ Ri a5
  have I2:Inv X pins σ (upd H s.heap.objs.size (.tup [x,y])) {s with heap:=h2}:=I.Jh (t':=s.toks) kk hf (Nat.le_refl _) ⟨by show 2<=sizeLine;decide,[u1,u2],.cons K8 (.cons Nf .nil),⟨_,hT,rfl,_,rfl⟩⟩
  refine⟨.ref s.heap.objs.size,_,I2,rfl,⟨_,x,y,rfl,I.CA.fresh (Nat.le_refl _),rfl,fun Rk T8 g1 g2=>by rw[I.FV g1 Ma,I.FV g2 Mb];exact⟨hx,hy⟩⟩,⟨Rj,FR.extBut _ _ D.TIz (hk _ _ D.TIz D.TITO D.TIi1 D.TIi2 hI),⟨_,_,FR.extBut _ _ D.TOz a2⟩,a3.to fun o e=>FR.extBut _ _ D.i1z e,a4.to fun o e=>FR.extBut _ _ D.i2z e⟩,fun b hb=>?_⟩
  have Fu:b < s.heap.objs.size:=by
   simp only[List.mem_cons,List.not_mem_nil,or_false] at hb
   rcases hb with rfl|rfl|rfl|rfl|rfl
   ·exact lz
   ·exact Heap.lt_size hI
   ·exact Heap.lt_size hO
   ·exact ci.lt
   ·exact cj.lt
  rw[aj (Nat.ne_of_lt Fu)]
  exact(hf b hb).1
 done:=by
  intro X hP hw hK hc n pins s σ H E I hf st hg
  subst hP hw hK
  obtain⟨hz,hI,⟨a,b',hO⟩,ci,cj⟩:=st
  obtain⟨xs,ys,Ma,Mb,hx⟩:=hg
  obtain⟨HE,HF,p1⟩:=I.Ka Ma
  obtain⟨Dx,Fg,p2⟩:=I.Ka Mb
  have l1:=HF.length
  have l2:=Fg.length
  refine Zp.HD (I.ok.hd hc) D hz hI hO ci cj p1 p2 (by
   rcases hx with hx|hx
   ·exact .inl (Array.getElem?_eq_none (by simp;omega))
   ·exact .inr (Array.getElem?_eq_none (by simp;omega))) fun h1 hk=>⟨rfl,I.turns (t':=s.toks) (ch:=[z,TI,TO,i,j]) (fun b o hb e=>?_) hf⟩
  simp only[List.mem_cons,List.not_mem_nil,or_false,not_or] at hb
  exact hk b o hb.1 hb.2.2.1 hb.2.2.2.1 hb.2.2.2.2 e
 self:=fun _ _ _ _ _ st h=>wpAny_pyIter_zip st.1 h
def BS (K:PySem.W.Frag)(ta:TA):TI:=fun σ H R=>ta σ H fun vs H1=>∃ p q l m xs ys,vs=[.ref l,.ref m]/\Gx K H1 p l xs/\Gx K H1 q m ys/\R (Nc K p q l m) H1
theorem Zp.Sq.lt {k:Zp.Kq}{h:Heap}{a:Addr}{xs:Array Value}(q:Zp.Sq k h a xs):a < h.objs.size:=by
 cases k with
 | l=>obtain⟨o,e,_⟩:=q;exact Heap.lt_size e
 | t=>obtain⟨o,e,_⟩:=q;exact Heap.lt_size e
theorem nq (N l m:Nat)(hl:l < N)(hm:m < N):ZipApart (N+4) (N+2) (N+3) N (N+1) l m:=by
 constructor<;>(intro e;have e':(_:Nat)=(_:Nat):=e;omega)
theorem wI {X:Cx}{a b:Expr}{ta:TA}{es:List Expr}{c:Nat}{p tp pos:Pos}(hg:Gl X "zip") (hm:X.mg "zip" = none) (ha:PA X [a,b] ta) (hs:starEach [a,b] X.env=[(false,eval a X.env),(false,eval b X.env)]) (FR:starEach [b] X.env=[(false,eval b X.env)]) :
  PI X (.Tuple es c tp) (.Call (.Name "zip" p) [a,b] [] pos) (BS X.K ta):=by
 intro pins s σ H R I h
 refine Call_ (bO I hg hm boot_zip (PyProof.Rows.callWith_type1 (CF (ha pos pins s σ H _ I h) fun us s1 ⟨vs,H1,I1,r1,q1⟩=>?_) (by rw[hs,FR]) (by rw[FR];rfl)))
 obtain⟨k1,k2,l,m,xs,ys,e,g1,g2,q⟩:=q1
 subst e
 cases r1 with
 | cons r rr=>
  cases rr with
  | cons r' rr=>
   cases rr
   cases r
   cases r'
   obtain⟨HE,HF,p1⟩:=I1.Ka g1
   obtain⟨Dx,Fg,p2⟩:=I1.Ka g2
   have l1:=p1.lt
   have l2:=p2.lt
   refine Zp.GK p1 p2 fun h2 b1 b2 b3 b4 b5 b6 b7=>?_
   refine wpAny_pyIter_zip (s:={s1 with heap:=h2}) b1 ?_
   refine⟨s1.heap.objs.size+4,[s1.heap.objs.size+4,s1.heap.objs.size+2,s1.heap.objs.size+3,s1.heap.objs.size,s1.heap.objs.size+1],_,_,H1,rfl,I1.kept (t':=s1.toks) b7,nk k1 k2 _ _ _ _ _ l m (nq _ l m l1 l2),⟨b1,b2,⟨_,_,b3⟩,b4,b5⟩,fun b hb=>?_,q⟩
   have Fu:s1.heap.objs.size<=b:=by
    simp only[List.mem_cons,List.not_mem_nil,or_false] at hb
    rcases hb with rfl|rfl|rfl|rfl|rfl
    ·exact Nat.le_add_right _ _
    ·exact Nat.le_add_right _ _
    ·exact Nat.le_add_right _ _
    ·exact Nat.le_refl _
    ·exact Nat.le_add_right _ _
   exact I1.Gf Fu (I1.CA.fresh Fu)
end L2
namespace L2.Se
open PySem
open PyProof.Rows
section
variable {prog:Program}{w:World}{A:Around}{E:Value->Shared->Prop}{s:Shared}
instance:Inhabited Str:=⟨⟨#[]⟩⟩
end
end L2.Se
namespace L2.Sv
open PySem PyProof.Rows
noncomputable def Rl (σ:List Str)(v:Str):List Str:=if σ.any (· == v) then σ else σ++[v]
end L2.Sv
namespace L2
open PySem PySem.Spec PyProof.Rows PySem.SeqAt
noncomputable def dd (ns:List Int):List Int:=ns.foldl step_dedup []
noncomputable def yR (x:Str):List Str->List Str
 | []=>[x]
 | y::r=>if ltCps y.cps.toList x.cps.toList=true then y::yR x r else x::y::r
noncomputable def tR:List Str->List Str
 | []=>[]
 | x::r=>yR x (tR r)
noncomputable def Ro (ns:List Str):List Str:=ns.foldl Sv.Rl []
end L2
namespace L2.Sx
open PySem PyProof.Rows
noncomputable def dd (σ:List Str)(v:Str):List Str:=if σ.any (· == v) then σ else σ++[v]
theorem wJ (σ:List Str)(v k:Str):(dd σ v).any (· == k)=(σ.any (· == k)||decide (k=v)):=by
 unfold dd
 by_cases h:σ.any (· == v)=true
 ·rw[if_pos h]
  by_cases e:k=v
  ·subst e;rw[h];simp
  ·rw[decide_eq_false e,Bool.or_false]
 ·rw[if_neg h,List.any_append]
  by_cases e:k=v
  ·subst e;simp
  ·have hb:(v == k)=false:=by simpa using fun z:v=k=>e z.symm
   simp[hb,e]
theorem nt (σ:List Str)(v:Str):(dd σ v).length=if σ.any (· == v)=true then σ.length else σ.length+1:=by
 unfold dd
 by_cases h:σ.any (· == v)=true
 ·rw[if_pos h,if_pos h]
 ·rw[if_neg h,if_neg h,List.length_append];rfl
theorem tU:∀ (l σ:List Str),(l.foldl dd σ).length<=σ.length+l.length
 | [],σ=>Nat.le_refl _
 | v::l,σ=>by
  have h:=tU l (dd σ v)
  have h2:=nt σ v
  rw[List.foldl_cons,List.length_cons]
  split at h2<;>omega
section
variable {prog:Program}{w:World}{A:Around}{E:Value->Shared->Prop}{s:Shared}{R:Result->Shared->Prop}{I:Addr}{fp wr:List Addr}{G:Array GenState->Array GenState->Prop}{n:Nat}{P:Nat->Value->Prop}{St:Nat->Shared->Prop}
def D3 (prog:Program)(w:World)(h:Heap)(a:Addr)(σ:List Str):Prop:=h.SetOf (PySem.strKind prog w) a (fun k=>σ.any (· == k)) σ.length
theorem D3.moved {h h':Heap}{a:Addr}{σ:List Str}(hS:D3 prog w h a σ)(k:∀ o,h.get? a=some o->h'.get? a=some o):D3 prog w h' a σ:=by
 obtain⟨o,es,ep,t,ho,D⟩:=hS
 exact⟨o,es,ep,t,k o ho,D⟩
theorem ON (x:Str)(t:Tok):(PySem.strKind prog w).is x (.str x t)=true:=by
 show (x == x)=true
 simp
theorem loop (W:WalksS prog w A.in1 I fp wr G n P St)(a:Addr)(ha:a∉fp){ns:List Str}(hv:∀ i v,P i v->∃ t,v=.str (ns.getD i ⟨#[]⟩) t)(hn:ns.length=n)(hb:n+1 < scanBound) :
  ∀ (k i:Nat) (s:Shared),n - i=k->i<=n->St i s->D3 prog w s.heap a ((ns.take i).foldl dd [])->
   (∀ s',Moved (a::wr) G s s'->D3 prog w s'.heap a (ns.foldl dd [])->R (.ok (.ret .none)) s')->
   codeAny (model prog w) A (.builtin "set.update.loop" ⟨[.ref a,.ref I],[]⟩) R s:=by
 have K9:a∉wr:=fun z=>ha (W.sub _ z)
 have sub:∀ b∈wr,b∈a::wr:=fun b z=>List.mem_cons_of_mem _ z
 intro k
 induction k with
 | zero=>
  intro i s hk hi CS hS hR
  have e:i=n:=by omega
  subst e
  rw[<- hn,List.take_length] at hS
  refine codeAny_builtin F.entry_set_update_loop ?_
  rw[Around.under_plainId F.plain_set_update_loop _]
  show wpAny _ A.in1 (pyNext (.ref I) >>= _) _ _ s
  exact wpAny_bind (W.done s _ _ CS fun s' hm=>show wpAny _ A.in1 (ret Value.none) _ _ s' from wpAny_pure (hR s' (hm.mono sub) (hS.moved fun o e=>hm.heap a o K9 e)))
 | succ k ih=>
  intro i s hk hi CS hS hR
  have Dk:i < n:=by omega
  refine codeAny_builtin F.entry_set_update_loop ?_
  rw[Around.under_plainId F.plain_set_update_loop _]
  show wpAny _ A.in1 (pyNext (.ref I) >>= _) _ _ s
  refine wpAny_bind (W.item i s _ _ Dk CS fun v s' hP CJ hm=>?_)
  obtain⟨t,rfl⟩:=hv i v hP
  have Ng:D3 prog w s'.heap a ((ns.take i).foldl dd []):=hS.moved fun o e=>hm.heap a o K9 e
  show wpAny _ A.in1 (holding [Value.str (ns.getD i ⟨#[]⟩) t] (setAdd a (.str (ns.getD i ⟨#[]⟩) t)) >>= _) _ _ s'
  unfold setAdd
  refine wpAny_bind (wpAny_holding (wpAny_holding (wpAny_bind ((PySem.strKind prog w).pyHash (ON _ _) ?_))))
  have hlen:=tU (ns.take i) []
  rw[List.length_take,List.length_nil] at hlen
  refine wpAny_setAddHashed_of (knd:=PySem.strKind prog w) (s:={s' with toks:=s'.toks+1}) (ON _ _) rfl Ng (by omega) fun h' Jc Rp=>?_
  have et:(ns.take (i+1)).foldl dd []=dd ((ns.take i).foldl dd []) (ns.getD i ⟨#[]⟩):=by
   have Kb:i < ns.length:=by omega
   rw[List.take_succ,List.foldl_append,List.getElem?_eq_getElem Kb,List.getD_eq_getElem?_getD,List.getElem?_eq_getElem Kb]
   rfl
  have Rq:D3 prog w h' a ((ns.take (i+1)).foldl dd []):=by
   unfold D3
   rw[et]
   exact SetOf_congr Rp (fun k'=>by rw[wJ]) (by rw[nt])
  refine wpAny_pure ⟨plainId_quiet F.plain_set_update_loop _,ih (i+1) _ (by omega) Dk (W.frame _ s' _ _ CJ (Nat.le_succ _) fun b hb o e=>?_) Rq fun Gg GL Ji=>?_⟩
  ·rw[Jc.2 b fun z=>ha (z ▸ hb)];exact e
  ·refine hR Gg (Moved.trans W.gtrans ((hm.mono sub).then_heap (Nat.le_succ _) fun b o hb e=>?_) GL) Ji
   rw[Jc.2 b fun z=>hb (z ▸ List.mem_cons_self)];exact e
noncomputable abbrev oN (led:Bool):Obj:={cls:=.type "set",dict:=none,data:=.set #[] 0 (.fresh 0 0 led)}
theorem GN {l:Addr}{items:Array Value}{ns:List Str}{Q:Value->Shared->Prop}(hh:A.handled=none)(hl:s.heap.IsList l items)(hi:∀ (i:Nat)(v:Value),items[i]? = some v->∃ t,v=Value.str (ns.getD i ⟨#[]⟩) t)(hlen:ns.length=items.size)(hb:items.size+1 < scanBound)
  (h:∀ (h':Heap) (tk:Nat),D3 prog w h' s.heap.objs.size (ns.foldl dd [])->(∀ b o,b < s.heap.objs.size->s.heap.get? b=some o->h'.get? b=some o)->Q (.ref s.heap.objs.size) {s with heap:=h',toks:=tk}) :
  wpAny (model prog w) A (call (.type "set") [.ref l]) Q E s:=by
 obtain⟨c,tl,mro⟩:=F.called_set.mro
 have made:=F.called_set.made
 have sub:=F.called_set.sub
 refine wpAny_call (codeAny_of_tree (show wpAny _ _ (callAny (.type "set") _) _ _ _ from wpAny_pure ⟨Code.quiet_builtin _ (by decide +kernel),codeAny_builtin F.entry_type_call ?_⟩))
 rw[Around.under_plain (weight_type_call_type "set" [.ref l] []) rfl]
 have n1:=F.called_set.notType
 have n2:=F.called_set.canCreate
 have n3:=F.typeCall_set_1 (.ref l)
 repeat (any_goals (first|assumption|wp_step))
 refine codeAny_mono (code_set_new_1 (.ref l) (E:=E) (Q₁:=fun obj s1=>∃ led,obj=.ref s.heap.objs.size/\s1 = {s with heap:=s.heap.push (oN led)}) fun led=>⟨led,rfl,rfl⟩) fun r s1 hr=>?_
 cases r with
 | error e=>exact hr
 | ok fl=>
  cases fl with
  | ret obj=>
   obtain⟨led,rfl,rfl⟩:=hr
   have gS:(s.heap.push (oN led)).get? s.heap.objs.size=some (oN led):=Heap.get?_push_size _ rfl
   have hT:Shared.TypeIs {s with heap:=s.heap.push (oN led)} (.ref s.heap.objs.size) "set":=⟨_,gS,rfl⟩
   have i1:=F.called_set.init.lookup
   have i2:=F.called_set.init.bind (.ref s.heap.objs.size)
   repeat (any_goals (first|assumption|wp_step))
   refine codeAny_mono (codeAny_call_builtin (R:=wants (fun r s2=>r=.none/\∃ h' tk,s2 = {s with heap:=h',toks:=tk}/\D3 prog w h' s.heap.objs.size (ns.foldl dd [])/\
     (∀ b o,b < s.heap.objs.size->s.heap.get? b=some o->h'.get? b=some o)) E) F.called_set.init.plain F.entry_set_init (check_set_init_1 hT ?_)) fun r2 s2 Mc=>?_
   ·obtain⟨ol,OP,La,nl,OQ⟩:=hl
    obtain⟨Rr,Lb,OR,Jj⟩:=ol
    simp only at La OQ
    subst La;subst OQ
    have Nh:(s.heap.push (oN led)).get? l=some {cls:=.type "list",dict:=Lb,data:=.seq items nl,slots:=Jj}:=Heap.get?_push_of_some _ OP
    have w1:=F.sub_list_set
    have w2:=F.sub_list_frozenset
    have w3:(Value.type "list" == Value.type "dict")=false:=by decide
    have Jk:(s.heap.push (oN led)).IsList l items:=⟨_,Nh,rfl,nl,rfl⟩
    unfold Builtin.«set.__init__» noKeywords Builtin.Frozenset.updateFrom
    generalize Rt:pyIter=PI
    wp_walk
    subst Rt
    refine wpAny_pyIter_list Jk (wpAny_bind (wpAny_runValue ?_))
    have lS:l < s.heap.objs.size:=Heap.lt_size OP
    have nI:l≠(s.heap.push (oN led)).objs.size:=by rw[Heap.size_push];exact Nat.ne_of_lt (Nat.lt_succ_of_lt lS)
    have aS:s.heap.objs.size∉[(s.heap.push (oN led)).objs.size,l]:=by
     rw[Heap.size_push]
     intro z
     rcases List.mem_cons.mp z with z|z
     ·exact Nat.ne_of_lt (Nat.lt_succ_self _) z
     ·exact Nat.ne_of_gt lS (List.mem_singleton.mp z)
    have f0:D3 prog w (s.heap.push (oN led)) s.heap.objs.size []:=SetOf_congr ((setObjOf_fresh (knd:=PySem.strKind prog w) led).setOf gS (by unfold scanBound;omega)) (fun _=>rfl) rfl
    refine loop ((Walks.list (show A.in1.in1.in1.handled=none by simp[hh]) _ l nI items).toS) s.heap.objs.size aS (ns:=ns) hi hlen hb (items.size - 0) 0 _ (by omega) (Nat.zero_le _)
     ⟨⟨_,Heap.get?_push_size _ rfl,rfl,rfl⟩,(Jk.push _)⟩ (f0.moved fun o e=>Heap.get?_push_of_some _ e) ?_
    intro s' hm Jd
    obtain⟨h',g',d',Kc,KR⟩:=s'
    have eg:g'=s.gens:=hm.gens
    have ed:d'=s.drawn:=hm.drawn
    have eo:KR=s.os:=hm.os
    subst eg ed eo
    show wpAny _ _ _ _ _ _
    refine wpAny_pure (show wpAny _ _ (ret Value.none) _ _ _ from wpAny_pure ⟨rfl,h',Kc,rfl,Jd,fun b o hb e=>?_⟩)
    refine hm.heap b o (fun z=>?_) (Heap.get?_push_of_some _ (Heap.get?_push_of_some _ e))
    rcases List.mem_cons.mp z with z|z
    ·exact Nat.ne_of_lt hb z
    ·have:=List.mem_singleton.mp z
     rw[Heap.size_push] at this
     exact Nat.ne_of_lt (Nat.lt_succ_of_lt hb) this
   ·cases r2 with
    | error e=>exact Mc
    | ok Ru=>
     cases Ru with
     | ret r=>
      obtain⟨rfl,h',tk,rfl,Jd,Ni⟩:=Mc
      repeat (any_goals (first|assumption|wp_step))
      exact h _ _ Jd Ni
     | _=>exact Mc.elim
  | _=>exact hr.elim
theorem Du {a:Addr}{σ:List Str}{Q:Value->Shared->Prop}(hS:D3 prog w s.heap a σ)(h:∀ t tk,Q (.int σ.length t) {s with toks:=tk}):wpAny (model prog w) A (call (.builtin "len") [.ref a]) Q E s:=by
 obtain⟨o,es,ep,t,ho,hex,hd,_,_,hb,hf,hn⟩:=hS
 refine call_len_set ho hex hd hf (by unfold scanBound at hb;omega) ?_
 rw[hn]
 exact h _ _
end
end L2.Sx
namespace L2
open PySem PySem.Spec PyProof.Rows
section
variable {X:Cx}{e:Expr}{p p' pos pos':Pos}{t:TE}
theorem rT {ns:List Str}:∀ {us:List Value},Vals (ns.map V.str) us->∀ (i:Nat) (v:Value),us[i]? = some v->∃ t,v=Value.str (ns.getD i ⟨#[]⟩) t:=by
 induction ns with
 | nil=>intro us r i v h;cases r;simp at h
 | cons n ns ih=>
  intro us r i v h
  cases r with
  | cons r rs=>
   obtain⟨t,rfl⟩:=r
   cases i with
   | zero=>exact⟨t,by simpa using h.symm⟩
   | succ j=>simpa using ih rs j v (by simpa using h)
theorem rV (hc:X.calm=true)(g1:Gl X "len") (m1:X.mg "len" = none) (g2:Gl X "set") (m2:X.mg "set" = none) (he:PE X e t) (CS:∀ es,starEach (e::es) X.env=(false,eval e X.env)::starEach es X.env) :
  PE X (.Call (.Name "len" p) [.Call (.Name "set" p') [e] [] pos'] [] pos) (fun σ H Q=>t σ H fun v H1=>∃ (l:Addr) (ns:List Str),v=.ref l/\DC X.K H1 l (ns.map V.str)/\ns.length < 1000/\Q (.int ((ns.foldl Sx.dd []).length:Nat)) H1):=by
 intro pins s σ H Q I h
 refine wpAny_Call_Name_kw (bO (u:=.builtin "len") I g1 m1 (by decide +kernel) ?_ (by decide) (by decide))
 refine PyProof.Rows.callWith_builtin1 ?_ rfl rfl
 show wpAny _ _ (spliced ((false,eval (.Call (.Name "set" p') [e] [] pos') X.env)::backTo pos (starEach [] X.env))) _ _ s
 have key:wpAny (model X.prog X.w) X.A (eval (.Call (.Name "set" p') [e] [] pos') X.env) (fun u s1=>∃ (a:Addr) (ns:List Str) (H1:Hp),u=.ref a/\Inv X pins σ H1 s1/\Sx.D3 X.prog X.w s1.heap a (ns.foldl Sx.dd [])/\Q (.int ((ns.foldl Sx.dd []).length:Nat)) H1) X.xe s:=by
  refine wpAny_Call_Name_kw (bO (u:=.type "set") I g2 m2 (by decide +kernel) ?_ (by decide) (by decide))
  refine PyProof.Rows.callWith_type1 ?_ (CS []) rfl
  rw[CS []]
  show wpAny _ _ (spliced ((false,eval e X.env)::backTo pos' (starEach [] X.env))) _ _ s
  refine Calls.spliced_cons (CF (he pins s σ H _ I h) fun u s1 ⟨x,H1,I1,r1,l,ns,ex,hq,hn,q1⟩=>?_)
  subst ex
  cases r1
  refine Calls.spliced_nil ?_
  obtain⟨its,r',pl,hz⟩:=I1.list hq
  have hl:=r'.length
  rw[List.length_map] at hl
  refine Sx.GN (I1.ok.hd hc) pl.isList (fun i v hv=>rT r' i v (by simpa using hv)) (by rw[List.size_toArray];exact hl) (by rw[List.size_toArray];unfold scanBound;omega) fun h' tk hS hk=>⟨_,ns,H1,rfl,I1.kept (t':=tk) fun b o e=>hk b o (Heap.lt_size e) e,hS,q1⟩
 refine Calls.spliced_cons (CF key fun u s1 ⟨a,ns,H1,eu,I1,hS,q1⟩=>?_)
 subst eu
 refine Calls.spliced_nil ?_
 exact Sx.Du hS fun t tk=>⟨.int _,H1,I1.tok _,⟨_,rfl⟩,q1⟩
end
section
variable {X:Cx}
def jU:V->List V->Hp->VK->Prop:=fun x vs H Q=>∃ d o kvs more,x=.ref d/\vs=[.ref o]/\d≠o/\H d=some (.dK kvs)/\Rd H o (.dK more)/\kvs.length+more.length<=sizeLine/\Q .CD (upd H d (.dK (bP kvs more)))
theorem l6:Ot X "dict.update" jU:=by
 intro pins s σ H x vs v us Q I rx rv h
 obtain⟨d,o,kvs,more,rfl,rfl,Ez,hd,ho,hz,q⟩:=h
 cases rx
 obtain⟨u,rfl,ru⟩:=rv.one
 cases ru
 obtain⟨z1,s1,v1,r1,D1⟩:=tQ I.CA hd
 obtain⟨z2,s2,v2,r2,D2⟩:=c7 I.CA ho
 have e1:=r1.length
 have e2:=r2.length
 refine call_meetsIn F.slot_dict_update D1.typeIs F.entry_dict_update (F.args_dict_update_2 _ _) (meets_dict_update (aE X.prog X.w) d o Ez s2) ⟨v1,v2,D1,D2,by rw[<- e1,<- e2];exact hz,fun h' OS T9 sb=>?_⟩
 have he:∃ q,h'.get? d=some q:=let ⟨q,_,_,hq,_⟩:=OS;⟨q,hq⟩
 have hl:=bY more kvs
 exact⟨.CD,_,gw (t':=s.toks) I (by rw[hd];exact True.intro) sb he (ju (by omega) s1 (r2.merge r1) OS),rfl,q⟩
end
end L2
namespace L2.Dp
open PySem PyProof.Rows
section
variable {prog:Program}{w:World}{A:Around}{E:Value->Shared->Prop}{s:Shared}
theorem l7:typeLookup (.type "list") "keys" = pure none:=by rw[typeLookup_type,builtinLookup_eq_fast];kernel_rfl
theorem l8 {a:Addr}{o:Obj}{xs:Array Value}{k:Nat}{Q:Option Value->Shared->Prop}(hx:s.heap.get? a=some o)(hc:o.cls=.type "list") (Lc:o.data=.seq xs k) (hd:o.dict=none) (hA:A.handled=none)
  (h:∀ h' tk,(∀ b o,s.heap.get? b=some o->h'.get? b=some o)->Q none {s with heap:=h',toks:=tk}):wpAny (model prog w) A (getAttr? (.ref a) "keys") Q E s:=by
 obtain⟨c,Cu,dat,sl⟩:=o
 simp only at hc Lc hd
 subst hc Lc hd
 obtain⟨hp,g,d,tk,os⟩:=s
 have hT:∀ Kc,(⟨hp,g,d,Kc,os⟩:Shared).TypeIs (.ref a) "list":=fun _=>⟨_,hx,rfl⟩
 have f1:=sub_AttributeError
 have f3:=F.slot_list_getattribute.lookup
 have f4:=F.slot_list_getattribute.bind (.ref a)
 have f5:=am_list_getattr_none
 unfold getAttr? getAttrBy? getAttrBy
 repeat (any_goals (first|assumption|exact hT _|((with_reducible show wpAny _ _ (call (Value.builtin "list.__getattribute__") _ _) _ _ _);refine call_meets F.slot_list_getattribute (hT _) am_entry_list_getattribute (F.args_list_getattribute_2 _ _) (meets_getattribute_miss_list a xs k sl "keys" _ l7 (by decide) (by size_fits)) ⟨hx,hA,fun h' Kc e DP=>?_⟩)|wp_step))
 obtain⟨t',u',he⟩:=DP.there
 show wpAny _ _ (getattributeRaised _ _ _ _ _ _ _) _ _ _
 unfold getattributeRaised
 repeat (any_goals (first|assumption|wp_step))
 exact h _ _ DP.of.keeps
theorem eD:entryFor table "dict.update.loop" = some Builtin.«dict.update.loop»:=entryFor_of_tree (by kernel_rfl)
theorem cu:plainId "dict.update.loop" = true:=by decide +kernel
variable {K:Type} [DecidableEq K]{knd:KeyKind prog w K}{I:Addr}{fp wr:List Addr}{G:Array GenState->Array GenState->Prop}{n:Nat}{P:Nat->Value->Prop}{St:Nat->Shared->Prop}{R:Result->Shared->Prop}
def DE (knd:KeyKind prog w K)(h:Heap)(b:Addr)(p:K×Value):Prop:=∃ (key:Value) (od:Option Addr) (m:Nat) (sl:Array (Option Value)),h.get? b=some {cls:=.type "tuple",dict:=od,data:=.seq #[key,p.2] m,slots:=sl}/\knd.is p.1 key=true
theorem DE.keep {h h':Heap}{b:Addr}{p:K×Value}(x:DE knd h b p)(k:∀ o,h.get? b=some o->h'.get? b=some o):DE knd h' b p:=by
 obtain⟨key,od,m,sl,e,hk⟩:=x
 exact⟨key,od,m,sl,k _ e,hk⟩
theorem loop (W:WalksS prog w A.in1 I fp wr G n P St)(d:Addr)(hd:d∉fp){bs:List Addr}{kvs:List (K×Value)}(hv:∀ i v,P i v->∃ b,v=.ref b/\bs[i]? = some b)(hn:kvs.length=n)(hb:n<=sizeLine)(nb:∀ b∈bs,b≠d/\b∉wr) :
  ∀ (k i:Nat) (s:Shared),n - i=k->i<=n->St i s->s.heap.DictOf knd d (merged [] (kvs.take i))->(∀ (j:Nat) (b:Addr) (p:K×Value),bs[j]? = some b->kvs[j]? = some p->DE knd s.heap b p)->
   (∀ s',Moved (d::wr) G s s'->s'.heap.DictOf knd d (merged [] kvs)->R (.ok (.ret .none)) s')->
   codeAny (model prog w) A (.builtin "dict.update.loop" ⟨[.ref d,.ref I,rawInt i,.none],[]⟩) R s:=by
 have K9:d∉wr:=fun z=>hd (W.sub _ z)
 have sub:∀ b∈wr,b∈d::wr:=fun b z=>List.mem_cons_of_mem _ z
 intro k
 induction k with
 | zero=>
  intro i s hk hi CS hS hT hR
  have e:i=n:=by omega
  subst e
  rw[<- hn,List.take_length] at hS
  refine codeAny_builtin eD ?_
  rw[Around.under_plainId cu _]
  show wpAny _ A.in1 (pyNext (.ref I) >>= _) _ _ s
  refine wpAny_bind (W.done s _ _ CS fun s' hm=>?_)
  show wpAny _ A.in1 (Builtin.Dict.addKeywords d [] >>= fun _=>ret Value.none) _ _ s'
  obtain⟨o,es,ep,ho,r⟩:=hS
  exact wpAny_bind (wpAny_pure (wpAny_pure (hR s' (hm.mono sub) ⟨o,es,ep,hm.heap d o K9 ho,r⟩)))
 | succ k ih=>
  intro i s hk hi CS hS hT hR
  have Dk:i < n:=by omega
  refine codeAny_builtin eD ?_
  rw[Around.under_plainId cu _]
  show wpAny _ A.in1 (pyNext (.ref I) >>= _) _ _ s
  refine wpAny_bind (W.item i s _ _ Dk CS fun v s' hP CJ hm=>?_)
  obtain⟨b,rfl,Rv⟩:=hv i v hP
  have OT:kvs[i]? = some kvs[i]:=List.getElem?_eq_getElem (by omega)
  have Ik:∀ (j:Nat) (b:Addr) (p:K×Value),bs[j]? = some b->kvs[j]? = some p->DE knd s'.heap b p:=fun j b p h1 h2=>(hT j b p h1 h2).keep fun o e=>hm.heap b o (nb b (List.mem_of_getElem? h1)).2 e
  obtain⟨key,od,m,sl,hg,Nj⟩:=Ik i b _ Rv OT
  have Ng:s'.heap.DictOf knd d (merged [] (kvs.take i)):=by
   obtain⟨o,es,ep,ho,r⟩:=hS
   exact⟨o,es,ep,hm.heap d o K9 ho,r⟩
  have hlen:=merged_length_le [] (kvs.take i)
  rw[List.length_take,List.length_nil] at hlen
  have et:=merged_take_succ [] kvs i _ OT
  generalize Rx:dictSet=DS
  obtain⟨hp,gg,dd,tk,os⟩:=s'
  have Ry:(⟨hp,gg,dd,tk,os⟩:Shared).TypeIs (.ref b) "tuple":=⟨_,hg,rfl⟩
  have T':(Value.type "tuple" == Value.type "list")=false:=by decide
  show wpAny _ A.in1 ((holding [Value.ref b] ((Builtin.Dict.pairItems (.ref b)).tryCatch _ >>= _)) >>= _) _ _ _
  refine wpAny_bind (wpAny_holding (wpAny_bind (wpAny_tryCatch ?_)))
  unfold Builtin.Dict.pairItems
  refine wpAny_bind (wpAny_typeOf Ry ?_)
  rw[if_pos (by decide)]
  repeat (any_goals (first|assumption|wp_step))
  subst Rx
  refine wpAny_dictSet_pairs (s:=⟨hp,gg,dd,tk,os⟩) Nj Ng (fun h' hD Jc=>?_) (by omega)
  have Fh:∀ b' o,b'≠d->hp.get? b'=some o->h'.get? b'=some o:=fun b' o Fu e=>by rw[Jc.2 b' Fu];exact e
  refine wpAny_pure ⟨plainId_quiet cu _,?_⟩
  refine ih (i+1) _ (by omega) Dk (W.frame _ ⟨hp,gg,dd,tk,os⟩ _ _ CJ (Nat.le_succ _) fun b' Fu o e=>Fh b' o (fun z=>hd (z ▸ Fu)) e) (by rw[et];exact hD) (fun j b' p h1 h2=>(Ik j b' p h1 h2).keep fun o e=>Fh b' o (nb b' (List.mem_of_getElem? h1)).1 e) fun Gg GL Ji=>?_
  exact hR Gg (Moved.trans W.gtrans ((hm.mono sub).then_heap (Nat.le_succ _) fun b' o Fu e=>Fh b' o (fun z=>Fu (z ▸ List.mem_cons_self)) e) GL) Ji
theorem Gj {l:Addr}{its:Array Value}{lm:Nat}{OU:Array (Option Value)}{bs:List Addr}{kvs:List (K×Value)}{Q:Value->Shared->Prop}(hh:A.handled=none)(hl:s.heap.get? l=some {cls:=.type "list",dict:=none,data:=.seq its lm,slots:=OU}) (hi:∀ (i:Nat) (v:Value),its[i]? = some v->∃ b,v=Value.ref b/\bs[i]? = some b)
  (hlen:kvs.length=its.size) (hb:its.size<=sizeLine) (hT:∀ (j:Nat) (b:Addr) (p:K×Value),bs[j]? = some b->kvs[j]? = some p->DE knd s.heap b p) (OV:∀ b∈bs,b < s.heap.objs.size)
  (h:∀ (h':Heap) (tk:Nat),h'.DictOf knd s.heap.objs.size (merged [] kvs)->(∀ b o,b < s.heap.objs.size->s.heap.get? b=some o->h'.get? b=some o)->Q (.ref s.heap.objs.size) {s with heap:=h',toks:=tk}) :
  wpAny (model prog w) A (call (.type "dict") [.ref l]) Q E s:=by
 refine callType_codes (Q₁:=fun obj CC=>obj=.ref s.heap.objs.size/\CC = {s with heap:=s.heap.push {cls:=.type "dict",data:=.dict #[]}}) F.kt_called_dict (F.kt_typeCall_dict_1 _) F.entry_dict_init (kt_code_dict_new _ ⟨rfl,rfl⟩) ?_
 rintro obj CC ⟨rfl,rfl⟩
 have Jl:(s.heap.push {cls:=.type "dict",data:=.dict #[]}).DictOf knd s.heap.objs.size []:=Heap.DictOf.new s.heap
 have Jk:(s.heap.push {cls:=.type "dict",data:=.dict #[]}).get? l=some {cls:=.type "list",dict:=none,data:=.seq its lm,slots:=OU}:=Heap.get?_push_of_some _ hl
 have OW:l < s.heap.objs.size:=Heap.lt_size hl
 refine⟨Jl.typeIs,F.args_dict_init_2 _ _,?_⟩
 unfold Builtin.«dict.__init__»
 refine wpAny_bind ?_
 unfold Builtin.Dict.selfAndRest
 refine wpAny_bind (wpAny_notOrdered_dict Jl.typeIs ?_)
 show wpAny _ _ (pure (s.heap.objs.size,[Value.ref l])) _ _ _
 refine wpAny_pure ?_
 show wpAny _ _ (Builtin.Dict.updateFrom "dict.__init__" s.heap.objs.size (.ref l) [] .none) _ _ _
 unfold Builtin.Dict.updateFrom
 have Rz:Shared.TypeIs {s with heap:=s.heap.push {cls:=.type "dict",data:=.dict #[]}} (.ref l) "list":=⟨_,Jk,rfl⟩
 refine wpAny_bind (wpAny_typeOf Rz ?_)
 rw[if_pos (by decide)]
 refine wpAny_bind (l8 Jk rfl rfl rfl (by simp[hh]) fun h1 Ua Md=>?_)
 simp only[Option.isNone_none,if_true]
 have GO:h1.IsList l its:=⟨_,Md _ _ Jk,rfl,lm,rfl⟩
 have sz:s.heap.objs.size < h1.objs.size:=Heap.lt_size (Md _ _ (Heap.get?_push_size _ rfl))
 refine wpAny_bind (wpAny_rule ?_)
 refine wpAny_bind (wpAny_pyIter_list GO (wpAny_pure ⟨plainId_quiet cu _,?_⟩))
 have nI:l≠h1.objs.size:=Nat.ne_of_lt (Nat.lt_trans OW sz)
 have Il:∀ b o,s.heap.get? b=some o->h1.get? b=some o:=fun b o e=>Md b o (Heap.get?_push_of_some _ e)
 refine loop (A:=A.in1) (n:=its.size) (bs:=bs) (kvs:=kvs) ((Walks.list (show A.in1.in1.handled=none by simp[hh]) h1.objs.size l nI its).toS) s.heap.objs.size (fun z=>?_) hi hlen hb (fun b hb=>⟨Nat.ne_of_lt (OV b hb),fun z=>?_⟩) (its.size - 0) 0 _ (by omega) (Nat.zero_le _) ⟨⟨_,Heap.get?_push_size _ rfl,rfl,rfl⟩,GO.push _⟩ ?_ (fun j b p e1 e2=>(hT j b p e1 e2).keep fun o e=>Heap.get?_push_of_some _ (Il b o e)) fun s' hm hD=>?_
 ·rcases List.mem_cons.mp z with z|z
  ·exact Nat.ne_of_lt sz z
  ·exact Nat.ne_of_gt OW (List.mem_singleton.mp z)
 ·exact Nat.ne_of_lt (Nat.lt_trans (OV b hb) sz) (List.mem_singleton.mp z)
 ·obtain⟨o,es,ep,ho,r⟩:=Jl
  exact⟨o,es,ep,Heap.get?_push_of_some _ (Md _ _ ho),r⟩
 ·obtain⟨h',g',d',Kc,KR⟩:=s'
  have eg:g'=s.gens:=hm.gens
  have ed:d'=s.drawn:=hm.drawn
  have eo:KR=s.os:=hm.os
  subst eg ed eo
  refine⟨rfl,h h' Kc hD fun b o hb e=>?_⟩
  refine hm.heap b o (fun z=>?_) (Heap.get?_push_of_some _ (Il b o e))
  rcases List.mem_cons.mp z with z|z
  ·exact Nat.ne_of_lt hb z
  ·exact Nat.ne_of_lt (Nat.lt_trans hb sz) (List.mem_singleton.mp z)
end
end L2.Dp
namespace L2
open PySem PySem.Spec PyProof.Rows
inductive EA (K:PySem.W.Frag)(H:Hp):List Addr->List (Key×V)->Prop where
 | nil:EA K H [] []
 | cons {a:Addr}{k:Key}{v:V}{as:List Addr}{kvs:List (Key×V)}:DL K H a [kV k,v]->EA K H as kvs->EA K H (a::as) ((k,v)::kvs)
section
variable {X:Cx}
theorem nu {pins:List (Addr×Obj)}{σ:St}{H:Hp}{s:Shared}(I:Inv X pins σ H s):∀ {as:List Addr}{kvs:List (Key×V)},EA X.K H as kvs->∃ rs:List (Key×Value),KV kvs rs/\rs.length=as.length/\(∀ b∈as,b < s.heap.objs.size)/\
  ∀ (j:Nat) (b:Addr) (p:Key×Value),as[j]? = some b->rs[j]? = some p->Dp.DE (aE X.prog X.w) s.heap b p
 | _,_,.nil=>⟨[],.nil,rfl,(fun b h=>by cases h),fun j b p h=>by cases h⟩
 | _,_,.cons (a:=a) (k:=k) (v:=v) h1 h2=>by
  obtain⟨rs,r1,r2,r3,r4⟩:=nu I h2
  obtain⟨its,rv,tp,_⟩:=I.tuple h1
  obtain⟨o,ho,hc,m,hd⟩:=tp
  obtain⟨u1,u2,rfl,K8,Nf⟩:∃ u1 u2,its=[u1,u2]/\RelV (kV k) u1/\RelV v u2:=by
   cases rv with
   | cons a1 rv=>
    cases rv with
    | cons a2 rv=>cases rv;exact⟨_,_,rfl,a1,a2⟩
  refine⟨(k,u2)::rs,.cons ⟨rfl,Nf⟩ r1,by rw[List.length_cons,List.length_cons,r2],fun b hb=>?_,fun j b p e1 e2=>?_⟩
  ·rcases List.mem_cons.mp hb with rfl|hb
   ·exact Heap.lt_size ho
   ·exact r3 b hb
  ·cases j with
   | zero=>
    cases e1
    cases e2
    obtain⟨c,Cu,dat,sl⟩:=o
    simp only at hc hd
    subst hc hd
    exact⟨u1,Cu,m,sl,ho,fL K8⟩
   | succ j=>exact r4 j b p e1 e2
theorem fP:∀ {as:List Addr}{us:List Value},Vals (as.map V.ref) us->us=as.map Value.ref
 | [],_,.nil=>rfl
 | a::as,_,.cons r rs=>by
  rw[fP rs]
  obtain rfl:_=Value.ref a:=r
  rfl
theorem jv (hc:X.calm=true):cy X (.type "dict") (fun xs H Q=>∃ (p:Addr) (as:List Addr) (kvs:List (Key×V)),xs=[.ref p]/\DC X.K H p (as.map V.ref)/\EA X.K H as kvs/\∀ a,H a=none->Q (.ref a) (upd H a (.dK (bP [] kvs)))):=by
 intro pins s σ H xs us Q I r h
 obtain⟨p,as,kvs,rfl,hq,hp,q⟩:=h
 obtain⟨u,rfl,rx⟩:=r.one
 cases rx
 obtain⟨its,rv,pl,hz⟩:=I.list hq
 obtain⟨o,m,ho,La,OX,OY⟩:=pl
 have e:=fP rv
 subst e
 obtain⟨rs,r1,r2,r3,r4⟩:=nu I hp
 obtain⟨c,Cu,dat,sl⟩:=o
 simp only at La OX OY
 subst La OX OY
 rw[List.length_map] at hz
 have hl:=bY kvs []
 have Ub:=r1.length
 rw[List.length_nil] at hl
 refine Dp.Gj (knd:=aE X.prog X.w) (bs:=as) (kvs:=rs) (I.ok.hd hc) ho (fun i v hv=>?_) (by rw[List.size_toArray,List.length_map];exact r2) (by rw[List.size_toArray,List.length_map];exact hz) r4 r3 fun h' tk hD hk=>?_
 ·have hv:(as.map Value.ref)[i]? = some v:=by simpa using hv
  rw[List.getElem?_map] at hv
  obtain⟨b,hb,rfl⟩:=Option.map_eq_some_iff.mp hv
  exact⟨b,rfl,hb⟩
 ·exact⟨.ref _,_,I.laid (a:=s.heap.objs.size) (o:=.dK (bP [] kvs)) (t':=tk) (fun b u e=>hk b u (Heap.lt_size e) e) (Nat.le_refl _) (ju (by omega) (beq_eq_false_iff_ne.mpr (Ne.symm (Nat.ne_of_lt I.big))) (KV.merge r1 .nil) hD),rfl,q _ (I.CA.fresh (Nat.le_refl _))⟩
theorem dU:∀ ns:List Int,preSum (fun i=>ns.getD i 0) ns.length=ns.sum
 | []=>rfl
 | n::ns=>by
  rw[List.length_cons,PySem.W.kdu_shift,List.sum_cons,<- dU ns]
  rfl
theorem nv {pins:List (Addr×Obj)}{σ:St}{H:Hp}{s:Shared}{A:Around}{E:Value->Shared->Prop}{a:Addr}{kvs:List (Key×V)}{Q:Value->Shared->Prop}(I:Inv X pins σ H s)(e:Rd H a (.dK kvs))
  (h:∀ v s',Inv X pins σ H s'->s'.heap.IsValuesView v a->Q (.ref v) s'):wpAny (model X.prog X.w) A (call (.builtin "dict.values") [.ref a]) Q E s:=by
 obtain⟨z,hd,vs,rel,dd⟩:=c7 I.CA e
 refine call_meetsIn F.slot_dict_values dd.typeIs F.entry_dict_values (F.args_dict_values_1 _) (meets_dict_values (aE X.prog X.w) a hd) ⟨⟨_,dd⟩,?_⟩
 exact h _ _ (I.kept (t':=s.toks) fun b o q=>Heap.get?_push_of_some _ q) ⟨_,Heap.get?_push_size _ rfl,rfl,rfl⟩
theorem yS {pins:List (Addr×Obj)}{σ:St}{H:Hp}{s:Shared}{A:Around}{E:Value->Shared->Prop}{a v:Addr}{kvs:List (Key×V)}{ns:List Int}{Q:Value->Shared->Prop}(hh:A.handled=none)(I:Inv X pins σ H s)(e:Rd H a (.dK kvs))(en:kvs.map (·.2)=ns.map V.int)(hv:s.heap.IsValuesView v a)
  (h:∀ t s',Inv X pins σ H s'->Q (.int ns.sum t) s'):wpAny (model X.prog X.w) A (call (.builtin "sum") [.ref v]) Q E s:=by
 obtain⟨z,hd,vs,rel,dd⟩:=c7 I.CA e
 obtain⟨ep,Jm⟩:=dd.dictAt
 have hlen:vs.length=ns.length:=by
  rw[<- rel.length,<- List.length_map (f:=V.int),<- en,List.length_map]
 refine call_sum_walkG (wpAny_pyIter_values (kvs:=vs) (ep:=ep) hv Jm ?_)
 refine⟨s.heap.objs.size,_,_,vs.length,_,_,fun i=>ns.getD i 0,rfl,Walks.dictValues (knd:=aE X.prog X.w) (show A.in1.handled=none by simp[hh]) s.heap.objs.size a (Nat.ne_of_lt Jm.lt_size) vs ep,⟨⟨_,Heap.get?_push_size _ rfl,rfl,rfl⟩,Jm.push _⟩,fun b hb=>?_,fun i u hu=>?_,fun h' tk t' hk=>?_⟩
 ·show b < (s.heap.push _).objs.size
  rw[Heap.size_push]
  rcases List.mem_cons.mp hb with e|hb
  ·rw[e];exact Nat.lt_succ_self _
  ·rw[List.mem_singleton.mp hb];exact Nat.lt_succ_of_lt Jm.lt_size
 ·obtain⟨k,hx⟩:=hu
  have:∀ {kvs:List (Key×V)}{vs:List (Key×Value)}{ns:List Int}{i:Nat},KV kvs vs->kvs.map (·.2)=ns.map V.int->vs[i]? = some (k,u)->∃ t,u=.int (ns.getD i 0) t:=by
   intro kvs vs ns i r
   unfold KV at r
   induction r generalizing ns i with
   | nil=>intro _ h;simp at h
   | @cons p q ps qs h t ih=>
    intro en hx
    cases ns with
    | nil=>cases en
    | cons n ns=>
     rw[List.map_cons,List.map_cons,List.cons.injEq] at en
     cases i with
     | zero=>
      rw[List.getElem?_cons_zero] at hx
      cases hx
      have h2:=h.2
      rw[en.1] at h2
      obtain⟨t,h2⟩:=h2
      exact⟨t,h2⟩
     | succ i=>
      have hx:qs[i]? = some (k,u):=hx
      exact ih (ns:=ns) (i:=i) en.2 hx
  exact this rel en hx
 ·rw[hlen,dU]
  exact h t' _ (I.kept (t':=tk) fun b o q=>hk b o (fun z=>by
   have:=List.mem_singleton.mp z
   exact Nat.ne_of_lt (Heap.lt_size q) this) (Heap.get?_push_of_some _ q))
theorem rW {o:Expr}{p pos apos Cw:Pos}{td:TE}(hc:X.calm=true)(g1:Gl X "sum") (m1:X.mg "sum" = none) (ho:PE X o td) (DO:attributeBase o "values" X.env (eval o X.env)=eval o X.env) (Fe:(apos.endLine == Cw.line)=true) :
  PE X (.Call (.Name "sum" p) [.Call (.Attribute o "values" apos) [] [] Cw] [] pos) (fun σ H Q=>td σ H fun x H1=>∃ (a:Addr) (kvs:List (Key×V)) (ns:List Int),x=.ref a/\Rd H1 a (.dK kvs)/\kvs.map (·.2)=ns.map V.int/\Q (.int ns.sum) H1):=by
 intro pins s σ H Q I h
 refine wpAny_Call_Name_kw (bO (u:=.builtin "sum") I g1 m1 (by decide +kernel) ?_ (by decide) (by decide))
 refine PyProof.Rows.callWith_builtin1 ?_ rfl rfl
 show wpAny _ _ (spliced ((false,eval (.Call (.Attribute o "values" apos) [] [] Cw) X.env)::backTo pos (starEach [] X.env))) _ _ s
 have key:wpAny (model X.prog X.w) X.A (eval (.Call (.Attribute o "values" apos) [] [] Cw) X.env) (fun u s1=>∃ (a v:Addr) (kvs:List (Key×V)) (ns:List Int) (H1:Hp),u=.ref v/\Inv X pins σ H1 s1/\Rd H1 a (.dK kvs)/\kvs.map (·.2)=ns.map V.int/\s1.heap.IsValuesView v a/\Q (.int ns.sum) H1) X.xe s:=by
  refine wpAny_Call_method0_late DO Fe (CF (ho pins s σ H _ I h) fun u s1 ⟨x,H1,I1,r1,a,kvs,ns,ex,rd,en,q1⟩=>?_)
  subst ex
  obtain rfl:u=Value.ref a:=r1
  obtain⟨t1,t2,_⟩:=ng I1 (.inl ⟨kvs,rd⟩)
  exact⟨"dict","dict.values",PySem.F.plainAttrs_dict,PySem.F.slot_dict_values,PySem.F.type_dict_values,t1,t2,Calls.callWith_builtin rfl (PySem.evalArgs_none (nv I1 rd fun v s2 I2 hv=>⟨a,v,kvs,ns,H1,rfl,I2,rd,en,hv,q1⟩))⟩
 refine Calls.spliced_cons (CF key fun u s1 ⟨a,v,kvs,ns,H1,eu,I1,rd,en,hv,q1⟩=>?_)
 subst eu
 refine Calls.spliced_nil ?_
 exact yS (I1.ok.hd hc) I1 rd en hv fun t s2 I2=>⟨.int _,H1,I2,⟨_,rfl⟩,q1⟩
theorem rX {o e:Expr}{apos Cw:Pos}{td te:TE}(ho:PE X o td)(he:PE X e te)(DO:attributeBase o "update" X.env (eval o X.env)=eval o X.env) (Fe:(apos.endLine == Cw.line)=true) (CS:starEach [e] X.env=[(false,eval e X.env)]) :
  PE X (.Call (.Attribute o "update" apos) [e] [] Cw) (fun σ H Q=>td σ H fun x H1=>∃ a,x=.ref a/\OF H1 a/\te σ H1 fun y H2=>jU x [y] H2 Q):=by
 intro pins s σ H Q I h
 have Nk:backTo Cw (starEach [e] X.env)=[(false,eval e X.env)]:=by rw[CS];rfl
 refine wpAny_Call_method1_late DO Fe Nk (CF (ho pins s σ H _ I h) fun u s1 ⟨x,H1,I1,r1,a,ex,d,q1⟩=>?_)
 subst ex
 obtain rfl:u=Value.ref a:=r1
 obtain⟨t1,t2,_⟩:=ng I1 d
 refine⟨"dict","dict.update",PySem.F.plainAttrs_dict,PySem.F.slot_dict_update,PySem.F.type_dict_update,t1,t2,?_⟩
 refine Calls.callWith_builtin rfl (Calls.evalArgs_plain (Calls.spliced_cons (CF (he pins s1 σ H1 _ I1 q1) fun fv s2 ⟨y,H2,I2,ry,q2⟩=>Calls.spliced_nil ?_)))
 exact l6 pins s2 σ H2 (.ref a) [y] (.ref a) [fv] Q I2 rfl (.cons ry .nil) q2
end
inductive D where
 | CD|bl (b:Bool)|int (i:Int)|str (x:Str)|tup (ds:List D)|lst (own:Bool) (ds:List D)|exc (c:Str)|Cu (own:Bool) (ks:List Key) (ds:List D)
 deriving Inhabited
mutual
noncomputable def er:D->D
 | .tup ds=>.tup (Cy ds)
 | .lst _ ds=>.lst false (Cy ds)
 | .Cu _ ks ds=>.Cu false ks (Cy ds)
 | .CD=>.CD
 | .bl b=>.bl b
 | .int i=>.int i
 | .str x=>.str x
 | .exc c=>.exc c
noncomputable def Cy:List D->List D
 | []=>[]
 | d::ds=>er d::Cy ds
end
mutual
noncomputable def aw:D->Bool
 | .tup ds=>ak ds
 | .lst _ _=>false
 | .Cu _ _ _=>false
 | .CD=>true
 | .bl _=>true
 | .int _=>true
 | .str _=>true
 | .exc _=>true
noncomputable def ak:List D->Bool
 | []=>true
 | d::ds=>aw d&&ak ds
end
theorem bT:∀ ds:List D,Cy ds=ds.map er
 | []=>rfl
 | d::ds=>by rw[Cy,bT ds];rfl
theorem aX:∀ ds:List D,ak ds=ds.all aw
 | []=>rfl
 | d::ds=>by rw[ak,aX ds];rfl
theorem br (ds:List D):(Cy ds).length=ds.length:=by rw[bT,List.length_map]
mutual
theorem ny:∀ {d:D},aw d=true->er d=d
 | .CD,_=>rfl
 | .bl _,_=>rfl
 | .int _,_=>rfl
 | .str _,_=>rfl
 | .exc _,_=>rfl
 | .tup ds,h=>by rw[er,bt (ds:=ds) h]
 | .lst o ds,h=>by cases (show false=true from h)
 | .Cu o ks ds,h=>by cases (show false=true from h)
theorem bt:∀ {ds:List D},ak ds=true->Cy ds=ds
 | [],_=>rfl
 | d::ds,h=>by
  have h':(aw d&&ak ds)=true:=h
  rw[Bool.and_eq_true] at h'
  rw[Cy,ny h'.1,bt h'.2]
end
inductive Exc where
 | stuck|exc (c:Str)
noncomputable abbrev Res (α:Type):=Except Exc α
noncomputable abbrev Cq {α:Type}:Res α:=.error .stuck
noncomputable def Ci {α β:Type}(x:Res α)(f:α->Res β):Res β:=match x with
 | .ok a=>f a
 | .error e=>.error e
noncomputable def Co {α:Type}(c:Bool)(x:Res α):Res α:=if c=true then x else Cq
def Ck {α:Type}(ex:Str->Prop)(x:Res α)(k:α->Prop):Prop:=match x with
 | .ok a=>k a
 | .error (.exc c)=>ex c
 | .error .stuck=>False
theorem Ck.Ci {α β:Type}{ex:Str->Prop}{x:Res α}{f:α->Res β}{k:β->Prop}(h:Ck ex (Ci x f) k):Ck ex x fun a=>Ck ex (f a) k:=by
 cases x with
 | ok a=>exact h
 | error e=>cases e<;>exact h
theorem Ck.Co {α:Type}{ex:Str->Prop}{c:Bool}{x:Res α}{k:α->Prop}(h:Ck ex (Co c x) k):c=true/\Ck ex x k:=by
 unfold L2.Co at h
 cases c with
 | true=>exact⟨rfl,h⟩
 | false=>exact False.elim h
theorem Ck.mono {α:Type}{ex:Str->Prop}{x:Res α}{k k':α->Prop}(h:Ck ex x k)(m:∀ a,k a->k' a):Ck ex x k':=by
 cases x with
 | ok a=>exact m a h
 | error e=>cases e<;>exact h
theorem Ck.mk {α β:Type}{ex:Str->Prop}{x:Res α}{f:α->Res β}{k:β->Prop}(h:Ck ex x fun a=>Ck ex (f a) k):Ck ex (L2.Ci x f) k:=by
 cases x with
 | ok a=>exact h
 | error e=>cases e<;>exact h
theorem Ck.eq {α:Type}{ex:Str->Prop}{x:Res α}{k:α->Prop}(h:Ck ex x k):Ck ex x fun a=>x=.ok a/\k a:=by
 cases x with
 | ok a=>exact⟨rfl,h⟩
 | error e=>cases e<;>exact h
theorem Ck.ok {α:Type}{ex:Str->Prop}{a:α}{k:α->Prop}(h:Ck ex (.ok a:Res α) k):k a:=h
theorem Ck.no {α:Type}{ex:Str->Prop}{k:α->Prop}(h:Ck ex (Cq:Res α) k):False:=h
inductive LD where
 | l (xs:List V)|d (kvs:List (Key×V))
noncomputable abbrev LD.o:LD->HO
 | .l xs=>.lst xs
 | .d kvs=>.dK kvs
theorem KL.sq {K:PySem.W.Frag}{H:Hp}{a:Addr}{xs:List V}(h:KL K a xs):DC K H a xs:=by
 obtain⟨its,n,h1,h2,h3⟩:=h
 exact .inr ⟨_,its.toArray,n,h1,rfl,rfl,rfl,by simpa using h2,by simpa using h3⟩
theorem Inv.ls {X:Cx}{pins:List (Addr×Obj)}{σ:St}{H:Hp}{s:Shared}{a:Addr}{xs:List V}(I:Inv X pins σ H s)(h:Ls X.K H a xs) :
  xs.length<=sizeLine/\∃ (its:List Value) (n:Nat),Vals xs its/\s.heap.get? a=some {cls:=.type "list",data:=.seq its.toArray n}:=by
 rcases h with h|⟨its,n,h1,h2,h3⟩
 ·obtain⟨z,its,n,r,e⟩:=h.ok I.CA
  exact⟨z,its,n,r,e⟩
 ·exact⟨by rw[h3.length];exact h2,its,n,h3,I.EL _ _ h1⟩
noncomputable def nameIn (K:PySem.W.Frag)(C:Addr):Option Str:=match K.lookup C with
 | some ⟨_,_,.cls cd,_⟩=>some cd.name
 | _=>none
noncomputable def XU:HO:=.ext fun _=>True
def XO (K:PySem.W.Frag)(H:Hp)(a:Addr)(c:Str):Prop:=∃ (C:Addr) (o:Obj) (vs:Array Value),PySem.W.nsIn K mainGlobals c=some (some (.ref C))/\nameIn K C=some c/\H a=some (.CK o XU)/\o.cls=.ref C/\o.data=.fields vs
noncomputable def C8 (K:PySem.W.Frag)(H:Hp)(a:Addr):List V ⊕ Str->Prop
 | .inl xs=>DL K H a xs
 | .inr c=>XO K H a c
mutual
inductive Cm (K:PySem.W.Frag)(S:Addr->Prop)(H:Hp):V->D->Prop where
 | CD:Cm K S H .CD .CD
 | bl (b:Bool):Cm K S H (.bl b) (.bl b)
 | int (i:Int):Cm K S H (.int i) (.int i)
 | str (x:Str):Cm K S H (.str x) (.str x)
 | exc {a:Addr}{c:Str}:C8 K H a (.inr c)->Cm K S H (.ref a) (.exc c)
 | tup {a:Addr}{xs:List V}{ds:List D}:DL K H a xs->Cj K S H xs ds->Cm K S H (.ref a) (.tup ds)
 | lst {a:Addr}{xs:List V}{o:Bool}{ds:List D}:S a->Rd H a (.lst xs)->Cj K S H xs ds->Cm K S H (.ref a) (.lst o ds)
 | lstK {a:Addr}{xs:List V}{o:Bool}{ds:List D}:KL K a xs->Cj K S H xs ds->Cm K S H (.ref a) (.lst o ds)
 | Cu {a:Addr}{kvs:List (Key×V)}{o:Bool}{ks:List Key}{ds:List D}:S a->Rd H a (.dK kvs)->kvs.map (·.1)=ks->Cj K S H (kvs.map (·.2)) ds->Cm K S H (.ref a) (.Cu o ks ds)
inductive Cj (K:PySem.W.Frag)(S:Addr->Prop)(H:Hp):List V->List D->Prop where
 | nil:Cj K S H [] []
 | cons {v:V}{d:D}{vs:List V}{ds:List D}:Cm K S H v d->Cj K S H vs ds->Cj K S H (v::vs) (d::ds)
end
mutual
inductive Cz (K:PySem.W.Frag)(F:Addr->Prop)(H:Hp):V->D->List Addr->Prop where
 | CD:Cz K F H .CD .CD []
 | bl (b:Bool):Cz K F H (.bl b) (.bl b) []
 | int (i:Int):Cz K F H (.int i) (.int i) []
 | str (x:Str):Cz K F H (.str x) (.str x) []
 | exc {a:Addr}{c:Str}:C8 K H a (.inr c)->Cz K F H (.ref a) (.exc c) []
 | tup {a:Addr}{xs:List V}{ds:List D}{f:List Addr}:DL K H a xs->Cp K F H xs ds f->Cz K F H (.ref a) (.tup ds) f
 | Gk {a:Addr}{xs:List V}{ds:List D}:F a->Rd H a (.lst xs)->Cp K F H xs ds []->Cz K F H (.ref a) (.lst false ds) []
 | lstK {a:Addr}{xs:List V}{ds:List D}:KL K a xs->Cp K F H xs ds []->Cz K F H (.ref a) (.lst false ds) []
 | Ea {a:Addr}{xs:List V}{ds:List D}{f:List Addr}:¬ F a->H a=some (.lst xs)->Cp K F H xs ds f->Cz K F H (.ref a) (.lst true ds) (a::f)
 | GP {a:Addr}{kvs:List (Key×V)}{ks:List Key}{ds:List D}:F a->Rd H a (.dK kvs)->kvs.map (·.1)=ks->Cp K F H (kvs.map (·.2)) ds []->Cz K F H (.ref a) (.Cu false ks ds) []
 | ET {a:Addr}{kvs:List (Key×V)}{ks:List Key}{ds:List D}{f:List Addr}:¬ F a->H a=some (.dK kvs)->kvs.map (·.1)=ks->Cp K F H (kvs.map (·.2)) ds f->Cz K F H (.ref a) (.Cu true ks ds) (a::f)
inductive Cp (K:PySem.W.Frag)(F:Addr->Prop)(H:Hp):List V->List D->List Addr->Prop where
 | nil:Cp K F H [] [] []
 | cons {v:V}{d:D}{f:List Addr}{vs:List V}{ds:List D}{g:List Addr}:Cz K F H v d f->Cp K F H vs ds g->Cp K F H (v::vs) (d::ds) (f++g)
end
theorem aq.rd {H H':Hp}{a:Addr}{u:HO}(e:aq H H')(h:Rd H a u):Rd H' a u:=by
 rcases h with h|⟨o,h⟩
 ·exact .inl (e _ _ h)
 ·exact .inr ⟨o,e _ _ h⟩
theorem aq.DH {K:PySem.W.Frag}{H H':Hp}{a:Addr}{xs:List V ⊕ Str}(e:aq H H')(h:C8 K H a xs):C8 K H' a xs:=by
 cases xs with
 | inl xs=>
  rcases h with h|h
  ·exact .inl (e.rd h)
  ·exact .inr h
 | inr c=>
  obtain⟨C,o,vs,h0,h1,h2,h3⟩:=h
  exact⟨C,o,vs,h0,h1,e _ _ h2,h3⟩
theorem C8.upd {K:PySem.W.Frag}{H:Hp}{a l:Addr}{xs:List V ⊕ Str}{ys zs:List V}(hl:H l=some (.lst ys))(h:C8 K H a xs):C8 K (upd H l (.lst zs)) a xs:=by
 cases xs with
 | inl xs=>
  rcases h with h|h
  ·have:a≠l:=by
    rintro rfl
    rcases h with h|⟨o,h⟩<;>(rw[hl] at h;cases h)
   refine .inl ?_
   unfold Rd
   rw[aj this]
   exact h
  ·exact .inr h
 | inr c=>
  obtain⟨C,o,vs,h0,h1,h2,h3⟩:=h
  have:a≠l:=by
   rintro rfl
   rw[hl] at h2;cases h2
  exact⟨C,o,vs,h0,h1,by rw[aj this];exact h2,h3⟩
theorem Rd.some {H:Hp}{a:Addr}{u:HO}(h:Rd H a u):H a≠none:=by
 rcases h with h|⟨o,h⟩<;>(rw[h];simp)
section
variable {K:PySem.W.Frag}{S S' F F':Addr->Prop}{H H':Hp}
theorem Cm.step (hl:∀ a (u:LD),S a->Rd H a u.o->S' a/\Rd H' a u.o)(ht:∀ a xs,C8 K H a xs->C8 K H' a xs){v:V}{d:D}(h:Cm K S H v d):Cm K S' H' v d:=
 Cm.rec (motive_1:=fun v d _=>Cm K S' H' v d) (motive_2:=fun v d _=>Cj K S' H' v d) .CD .bl .int .str (fun h=>.exc (ht _ (.inr _) h)) (fun h1 _ i=>.tup (ht _ (.inl _) h1) i)
  (fun h0 h1 _ i=>.lst (hl _ (.l _) h0 h1).1 (hl _ (.l _) h0 h1).2 i) (fun h1 _ i=>.lstK h1 i) (fun h0 h1 h2 _ i=>.Cu (hl _ (.d _) h0 h1).1 (hl _ (.d _) h0 h1).2 h2 i) .nil (fun _ _ i j=>.cons i j) h
theorem Cj.step (hl:∀ a (u:LD),S a->Rd H a u.o->S' a/\Rd H' a u.o)(ht:∀ a xs,C8 K H a xs->C8 K H' a xs){v:List V}{d:List D}(h:Cj K S H v d):Cj K S' H' v d:=
 Cj.rec (motive_1:=fun v d _=>Cm K S' H' v d) (motive_2:=fun v d _=>Cj K S' H' v d) .CD .bl .int .str (fun h=>.exc (ht _ (.inr _) h)) (fun h1 _ i=>.tup (ht _ (.inl _) h1) i)
  (fun h0 h1 _ i=>.lst (hl _ (.l _) h0 h1).1 (hl _ (.l _) h0 h1).2 i) (fun h1 _ i=>.lstK h1 i) (fun h0 h1 h2 _ i=>.Cu (hl _ (.d _) h0 h1).1 (hl _ (.d _) h0 h1).2 h2 i) .nil (fun _ _ i j=>.cons i j) h
theorem Cm.mono {v:V}{d:D}(h:Cm K S H v d)(hS:∀ a,S a->S' a)(e:aq H H'):Cm K S' H' v d:=h.step (fun a xs s r=>⟨hS a s,e.rd r⟩) fun a xs s=>e.DH s
theorem Cj.mono {v:List V}{d:List D}(h:Cj K S H v d)(hS:∀ a,S a->S' a)(e:aq H H'):Cj K S' H' v d:=h.step (fun a xs s r=>⟨hS a s,e.rd r⟩) fun a xs s=>e.DH s
theorem Cj.Fi {v:List V}{d:List D}(h:Cj K S H v d):Cj K (fun a=>S a/\H a≠none) H v d:=h.step (fun a xs s r=>⟨⟨s,r.some⟩,r⟩) fun a xs s=>s
theorem Cm.frozen {v:V}{d:D}(h:Cm K F H v d):Cz K F H v (L2.er d) []:=
 Cm.rec (motive_1:=fun v d _=>Cz K F H v (L2.er d) []) (motive_2:=fun v d _=>Cp K F H v (L2.Cy d) []) .CD .bl .int .str (fun h=>.exc h) (fun h1 _ i=>.tup h1 i) (fun h0 h1 _ i=>.Gk h0 h1 i) (fun h1 _ i=>.lstK h1 i) (fun h0 h1 h2 _ i=>.GP h0 h1 h2 i) .nil (fun _ _ i j=>.cons (f:=[]) (g:=[]) i j) h
theorem Cj.frozen {v:List V}{d:List D}(h:Cj K F H v d):Cp K F H v (L2.Cy d) []:=
 Cj.rec (motive_1:=fun v d _=>Cz K F H v (L2.er d) []) (motive_2:=fun v d _=>Cp K F H v (L2.Cy d) []) .CD .bl .int .str (fun h=>.exc h) (fun h1 _ i=>.tup h1 i) (fun h0 h1 _ i=>.Gk h0 h1 i) (fun h1 _ i=>.lstK h1 i) (fun h0 h1 h2 _ i=>.GP h0 h1 h2 i) .nil (fun _ _ i j=>.cons (f:=[]) (g:=[]) i j) h
theorem rY {a b:Bool}(h:(a&&b)=true):a=true/\b=true:=by rwa [Bool.and_eq_true] at h
theorem Cm.free {v:V}{d:D}(n:aw d=true)(h:Cm K S H v d):Cz K F H v d []:=
 Cm.rec (motive_1:=fun v d _=>aw d=true->Cz K F H v d []) (motive_2:=fun v d _=>ak d=true->Cp K F H v d []) (fun _=>.CD) (fun b _=>.bl b) (fun b _=>.int b) (fun b _=>.str b) (fun h _=>.exc h) (fun h1 _ i n=>.tup h1 (i n)) (fun _ _ _ _ n=>nomatch n) (fun _ _ _ n=>nomatch n) (fun _ _ _ _ _ n=>nomatch n) (fun _=>.nil) (fun _ _ i j n=>.cons (f:=[]) (g:=[]) (i (rY n).1) (j (rY n).2)) h n
theorem Cj.free {v:List V}{d:List D}(n:ak d=true)(h:Cj K S H v d):Cp K F H v d []:=
 Cj.rec (motive_1:=fun v d _=>aw d=true->Cz K F H v d []) (motive_2:=fun v d _=>ak d=true->Cp K F H v d []) (fun _=>.CD) (fun b _=>.bl b) (fun b _=>.int b) (fun b _=>.str b) (fun h _=>.exc h) (fun h1 _ i n=>.tup h1 (i n)) (fun _ _ _ _ n=>nomatch n) (fun _ _ _ n=>nomatch n) (fun _ _ _ _ _ n=>nomatch n) (fun _=>.nil) (fun _ _ i j n=>.cons (f:=[]) (g:=[]) (i (rY n).1) (j (rY n).2)) h n
theorem bu {p:Addr->Prop}:∀ a∈([]:List Addr),p a:=fun _ h=>nomatch h
theorem Cz.read {v:V}{d:D}{f:List Addr}(hF:∀ a,F a->S a)(hf:∀ a∈f,S a)(h:Cz K F H v d f):Cm K S H v d:=
 Cz.rec (motive_1:=fun v d f _=>(∀ a∈f,S a)->Cm K S H v d) (motive_2:=fun v d f _=>(∀ a∈f,S a)->Cj K S H v d) (fun _=>.CD) (fun b _=>.bl b) (fun b _=>.int b) (fun b _=>.str b) (fun h _=>.exc h) (fun h1 _ i hf=>.tup h1 (i hf))
  (fun h0 h1 _ i _=>.lst (hF _ h0) h1 (i bu)) (fun h1 _ i _=>.lstK h1 (i bu)) (fun _ h1 _ i hf=>.lst (hf _ (.head _)) (.inl h1) (i fun b hb=>hf b (.tail _ hb))) (fun h0 h1 h2 _ i _=>.Cu (hF _ h0) h1 h2 (i bu)) (fun _ h1 h2 _ i hf=>.Cu (hf _ (.head _)) (.inl h1) h2 (i fun b hb=>hf b (.tail _ hb))) (fun _=>.nil)
  (fun _ _ i j hf=>.cons (i fun a ha=>hf a (List.mem_append_left _ ha)) (j fun a ha=>hf a (List.mem_append_right _ ha))) h hf
theorem Cp.read {v:List V}{d:List D}{f:List Addr}(hF:∀ a,F a->S a)(hf:∀ a∈f,S a)(h:Cp K F H v d f):Cj K S H v d:=
 Cp.rec (motive_1:=fun v d f _=>(∀ a∈f,S a)->Cm K S H v d) (motive_2:=fun v d f _=>(∀ a∈f,S a)->Cj K S H v d) (fun _=>.CD) (fun b _=>.bl b) (fun b _=>.int b) (fun b _=>.str b) (fun h _=>.exc h) (fun h1 _ i hf=>.tup h1 (i hf))
  (fun h0 h1 _ i _=>.lst (hF _ h0) h1 (i bu)) (fun h1 _ i _=>.lstK h1 (i bu)) (fun _ h1 _ i hf=>.lst (hf _ (.head _)) (.inl h1) (i fun b hb=>hf b (.tail _ hb))) (fun h0 h1 h2 _ i _=>.Cu (hF _ h0) h1 h2 (i bu)) (fun _ h1 h2 _ i hf=>.Cu (hf _ (.head _)) (.inl h1) h2 (i fun b hb=>hf b (.tail _ hb))) (fun _=>.nil)
  (fun _ _ i j hf=>.cons (i fun a ha=>hf a (List.mem_append_left _ ha)) (j fun a ha=>hf a (List.mem_append_right _ ha))) h hf
theorem bU {α:Type}{x:Option α}{y:α}(h:x=some y):x≠none:=fun e=>nomatch h.symm.trans e
theorem Cz.step (hl:∀ a (u:LD),F a->Rd H a u.o->F' a/\Rd H' a u.o)(ht:∀ a xs,C8 K H a xs->C8 K H' a xs){v:V}{d:D}{f:List Addr}(k:∀ a∈f,¬ F a->H a≠none->¬ F' a/\H' a=H a)
  (h:Cz K F H v d f):Cz K F' H' v d f:=
 Cz.rec (motive_1:=fun v d f _=>(∀ a∈f,¬ F a->H a≠none->¬ F' a/\H' a=H a)->Cz K F' H' v d f) (motive_2:=fun v d f _=>(∀ a∈f,¬ F a->H a≠none->¬ F' a/\H' a=H a)->Cp K F' H' v d f) (fun _=>.CD) (fun b _=>.bl b) (fun b _=>.int b) (fun b _=>.str b)
  (fun h _=>.exc (ht _ (.inr _) h)) (fun h1 _ i k=>.tup (ht _ (.inl _) h1) (i k)) (fun h0 h1 _ i _=>.Gk (hl _ (.l _) h0 h1).1 (hl _ (.l _) h0 h1).2 (i bu)) (fun h1 _ i _=>.lstK h1 (i bu))
  (fun h0 h1 _ i k=>.Ea (k _ (.head _) h0 (bU h1)).1 ((k _ (.head _) h0 (bU h1)).2.trans h1) (i fun b hb=>k b (.tail _ hb))) (fun h0 h1 h2 _ i _=>.GP (hl _ (.d _) h0 h1).1 (hl _ (.d _) h0 h1).2 h2 (i bu)) (fun h0 h1 h2 _ i k=>.ET (k _ (.head _) h0 (bU h1)).1 ((k _ (.head _) h0 (bU h1)).2.trans h1) h2 (i fun b hb=>k b (.tail _ hb))) (fun _=>.nil)
  (fun _ _ i j k=>.cons (i fun a ha=>k a (List.mem_append_left _ ha)) (j fun a ha=>k a (List.mem_append_right _ ha))) h k
theorem Cp.step (hl:∀ a (u:LD),F a->Rd H a u.o->F' a/\Rd H' a u.o)(ht:∀ a xs,C8 K H a xs->C8 K H' a xs){v:List V}{d:List D}{f:List Addr}(k:∀ a∈f,¬ F a->H a≠none->¬ F' a/\H' a=H a)
  (h:Cp K F H v d f):Cp K F' H' v d f:=
 Cp.rec (motive_1:=fun v d f _=>(∀ a∈f,¬ F a->H a≠none->¬ F' a/\H' a=H a)->Cz K F' H' v d f) (motive_2:=fun v d f _=>(∀ a∈f,¬ F a->H a≠none->¬ F' a/\H' a=H a)->Cp K F' H' v d f) (fun _=>.CD) (fun b _=>.bl b) (fun b _=>.int b) (fun b _=>.str b)
  (fun h _=>.exc (ht _ (.inr _) h)) (fun h1 _ i k=>.tup (ht _ (.inl _) h1) (i k)) (fun h0 h1 _ i _=>.Gk (hl _ (.l _) h0 h1).1 (hl _ (.l _) h0 h1).2 (i bu)) (fun h1 _ i _=>.lstK h1 (i bu))
  (fun h0 h1 _ i k=>.Ea (k _ (.head _) h0 (bU h1)).1 ((k _ (.head _) h0 (bU h1)).2.trans h1) (i fun b hb=>k b (.tail _ hb))) (fun h0 h1 h2 _ i _=>.GP (hl _ (.d _) h0 h1).1 (hl _ (.d _) h0 h1).2 h2 (i bu)) (fun h0 h1 h2 _ i k=>.ET (k _ (.head _) h0 (bU h1)).1 ((k _ (.head _) h0 (bU h1)).2.trans h1) h2 (i fun b hb=>k b (.tail _ hb))) (fun _=>.nil)
  (fun _ _ i j k=>.cons (i fun a ha=>k a (List.mem_append_left _ ha)) (j fun a ha=>k a (List.mem_append_right _ ha))) h k
theorem rZ {p:Addr->Prop}{x:Addr}{f:List Addr}(h:p x)(i:∀ a∈f,p a):∀ a∈x::f,p a:=by
 intro b hb
 rcases List.mem_cons.mp hb with rfl|hb
 ·exact h
 ·exact i b hb
theorem yT {p:Addr->Prop}{f g:List Addr}(h:∀ a∈f,p a)(i:∀ a∈g,p a):∀ a∈f++g,p a:=fun b hb=>(List.mem_append.mp hb).elim (h b) (i b)
theorem Cz.own {v:V}{d:D}{f:List Addr}(h:Cz K F H v d f):∀ a∈f,¬ F a/\∃ u,H a=some u:=
 Cz.rec (motive_1:=fun _ _ f _=>∀ a∈f,¬ F a/\∃ u,H a=some u) (motive_2:=fun _ _ f _=>∀ a∈f,¬ F a/\∃ u,H a=some u) bu (fun _=>bu) (fun _=>bu) (fun _=>bu) (fun _=>bu) (fun _ _ i=>i) (fun _ _ _ _=>bu) (fun _ _ _=>bu)
  (fun h0 h1 _ i=>rZ ⟨h0,_,h1⟩ i) (fun _ _ _ _ _=>bu) (fun h0 h1 _ _ i=>rZ ⟨h0,_,h1⟩ i) bu (fun _ _ i j=>yT i j) h
theorem Cp.own {v:List V}{d:List D}{f:List Addr}(h:Cp K F H v d f):∀ a∈f,¬ F a/\∃ u,H a=some u:=
 Cp.rec (motive_1:=fun _ _ f _=>∀ a∈f,¬ F a/\∃ u,H a=some u) (motive_2:=fun _ _ f _=>∀ a∈f,¬ F a/\∃ u,H a=some u) bu (fun _=>bu) (fun _=>bu) (fun _=>bu) (fun _=>bu) (fun _ _ i=>i) (fun _ _ _ _=>bu) (fun _ _ _=>bu)
  (fun h0 h1 _ i=>rZ ⟨h0,_,h1⟩ i) (fun _ _ _ _ _=>bu) (fun h0 h1 _ _ i=>rZ ⟨h0,_,h1⟩ i) bu (fun _ _ i j=>yT i j) h
theorem Cj.ind {P:List V->List D->Prop}(n:P [] [])(c:∀ v d vs ds,Cm K S H v d->Cj K S H vs ds->P vs ds->P (v::vs) (d::ds)){vs:List V}{ds:List D}(h:Cj K S H vs ds):P vs ds:=
 Cj.rec (motive_1:=fun _ _ _=>True) (motive_2:=fun v d _=>P v d) trivial (fun _=>trivial) (fun _=>trivial) (fun _=>trivial) (fun _=>trivial) (fun _ _ _=>trivial) (fun _ _ _ _=>trivial) (fun _ _ _=>trivial) (fun _ _ _ _ _=>trivial) n (fun a b _ j=>c _ _ _ _ a b j) h
theorem Cp.ind {P:List V->List D->List Addr->Prop}(n:P [] [] [])(c:∀ v d f vs ds g,Cz K F H v d f->Cp K F H vs ds g->P vs ds g->P (v::vs) (d::ds) (f++g)){vs:List V}{ds:List D}{f:List Addr}(h:Cp K F H vs ds f):P vs ds f:=
 Cp.rec (motive_1:=fun _ _ _ _=>True) (motive_2:=fun v d f _=>P v d f) trivial (fun _=>trivial) (fun _=>trivial) (fun _=>trivial) (fun _=>trivial) (fun _ _ _=>trivial) (fun _ _ _ _=>trivial) (fun _ _ _=>trivial) (fun _ _ _ _=>trivial) (fun _ _ _ _ _=>trivial) (fun _ _ _ _ _=>trivial) n (fun a b _ j=>c _ _ _ _ _ _ a b j) h
theorem Cj.length {vs:List V}{ds:List D}(h:Cj K S H vs ds):vs.length=ds.length:=
 Cj.ind (P:=fun v d=>v.length=d.length) rfl (fun _ _ _ _ _ _ j=>congrArg (· + 1) j) h
theorem Cj.get {i:Nat}{vs:List V}{ds:List D}{d:D}(h:Cj K S H vs ds)(e:ds[i]? = some d):∃ v,vs[i]? = some v/\Cm K S H v d:=
 Cj.ind (P:=fun vs ds=>∀ i d,ds[i]? = some d->∃ v,vs[i]? = some v/\Cm K S H v d) (fun i d e=>nomatch (show none=some d from e)) (fun v d _ _ a _ j i d e=>by
  cases i with
  | zero=>exact⟨_,rfl,Option.some.inj e ▸ a⟩
  | succ i=>exact j i d e) h i d e
theorem Cj.Jn {i:Nat}{vs:List V}{ds:List D}{v:V}(h:Cj K S H vs ds)(e:vs[i]? = some v):∃ d,ds[i]? = some d/\Cm K S H v d:=
 Cj.ind (P:=fun vs ds=>∀ i v,vs[i]? = some v->∃ d,ds[i]? = some d/\Cm K S H v d) (fun i d e=>nomatch (show none=some d from e)) (fun v d _ _ a _ j i d e=>by
  cases i with
  | zero=>exact⟨_,rfl,Option.some.inj e ▸ a⟩
  | succ i=>exact j i d e) h i v e
theorem Cj.append {vs ws:List V}{ds es:List D}(h:Cj K S H vs ds)(h':Cj K S H ws es):Cj K S H (vs++ws) (ds++es):=
 Cj.ind (P:=fun v d=>Cj K S H (v++ws) (d++es)) h' (fun _ _ _ _ a _ j=>.cons a j) h
theorem Cj.take {vs:List V}{ds:List D}(n:Nat)(h:Cj K S H vs ds):Cj K S H (vs.take n) (ds.take n):=
 Cj.ind (P:=fun v d=>∀ n,Cj K S H (v.take n) (d.take n)) (fun n=>by cases n<;>exact .nil) (fun _ _ _ _ a _ j n=>by
  cases n with
  | zero=>exact .nil
  | succ n=>exact .cons a (j n)) h n
theorem Cj.drop {vs:List V}{ds:List D}(n:Nat)(h:Cj K S H vs ds):Cj K S H (vs.drop n) (ds.drop n):=
 Cj.ind (P:=fun v d=>∀ n,Cj K S H (v.drop n) (d.drop n)) (fun n=>by cases n<;>exact .nil) (fun _ _ _ _ a b j n=>by
  cases n with
  | zero=>exact .cons a b
  | succ n=>exact j n) h n
theorem Cp.length {vs:List V}{ds:List D}{f:List Addr}(h:Cp K F H vs ds f):vs.length=ds.length:=
 Cp.ind (P:=fun v d _=>v.length=d.length) rfl (fun _ _ _ _ _ _ _ _ j=>congrArg (· + 1) j) h
theorem Cp.append {vs ws:List V}{ds es:List D}{f g:List Addr}(h:Cp K F H vs ds f)(h':Cp K F H ws es g):Cp K F H (vs++ws) (ds++es) (f++g):=
 Cp.ind (P:=fun v d f=>Cp K F H (v++ws) (d++es) (f++g)) h' (fun _ _ _ _ _ _ a _ j=>by
  rw[List.append_assoc]
  exact .cons a j) h
theorem Cm.C5 {v:V}{o:Bool}{ds:List D}(h:Cm K S H v (.lst o ds)):∃ a xs,v=.ref a/\DC K H a xs/\Cj K S H xs ds:=by
 cases h with
 | lst h0 h1 h2=>exact⟨_,_,rfl,.inl h1,h2⟩
 | lstK h1 h2=>exact⟨_,_,rfl,h1.sq,h2⟩
theorem Cm.Gn {v:V}{o:Bool}{ds:List D}(h:Cm K S H v (.lst o ds)):∃ a xs,v=.ref a/\Ls K H a xs/\Cj K S H xs ds:=by
 cases h with
 | lst h0 h1 h2=>exact⟨_,_,rfl,.inl h1,h2⟩
 | lstK h1 h2=>exact⟨_,_,rfl,.inr h1,h2⟩
theorem Cm.Dg {v:V}{ds:List D}(h:Cm K S H v (.tup ds)):∃ a xs,v=.ref a/\DL K H a xs/\Cj K S H xs ds:=by
 cases h with
 | tup h1 h2=>exact⟨_,_,rfl,h1,h2⟩
theorem Cm.CG {v:V}{i:Int}(h:Cm K S H v (.int i)):v=.int i:=by cases h;rfl
theorem Cm.HG {v:V}{i:Bool}(h:Cm K S H v (.bl i)):v=.bl i:=by cases h;rfl
theorem Cm.CW {v:V}{i:Str}(h:Cm K S H v (.str i)):v=.str i:=by cases h;rfl
theorem Cm.Ew {v:V}(h:Cm K S H v .CD):v=.CD:=by cases h;rfl
theorem Cj.ints {vs:List V}{ns:List Int}(h:Cj K S H vs (ns.map .int)):vs=ns.map .int:=
 Cj.ind (P:=fun v d=>∀ ns:List Int,d=ns.map .int->v=ns.map .int) (fun ns e=>by
  cases ns with
  | nil=>rfl
  | cons n ns=>exact nomatch e) (fun _ _ _ _ a _ j ns e=>by
  cases ns with
  | nil=>exact nomatch e
  | cons n ns=>
   obtain⟨h1,h2⟩:=List.cons.inj e
   subst h1
   rw[j ns h2,a.CG]
   rfl) h ns rfl
theorem Cj.strs {vs:List V}{ns:List Str}(h:Cj K S H vs (ns.map .str)):vs=ns.map .str:=
 Cj.ind (P:=fun v d=>∀ ns:List Str,d=ns.map .str->v=ns.map .str) (fun ns e=>by
  cases ns with
  | nil=>rfl
  | cons n ns=>exact nomatch e) (fun _ _ _ _ a _ j ns e=>by
  cases ns with
  | nil=>exact nomatch e
  | cons n ns=>
   obtain⟨h1,h2⟩:=List.cons.inj e
   subst h1
   rw[j ns h2,a.CW]
   rfl) h ns rfl
theorem Cj.ofInts:∀ (ns:List Int),Cj K S H (ns.map .int) (ns.map .int)
 | []=>.nil
 | n::ns=>.cons (.int n) (Cj.ofInts ns)
end
theorem aq.upd {H:Hp}{a:Addr}{o:HO}(h:H a=none):aq H (upd H a o):=fun b u e=>by
 rw[aj (aA e h)]
 exact e
inductive GQ where
 | add|sub|mul|fdiv|mod|pow
 deriving DecidableEq
inductive Gy where
 | eq|ne|lt|le|gt|ge|Me|Ld|Im|OZ
 deriving DecidableEq
inductive Kd where
 | str|int|bool|list|tuple
 deriving DecidableEq
inductive Bi where
 | len|sum|min2|max2|HJ|sorted|list|tuple|ord|int|all|any|str|set|abs
 deriving DecidableEq
inductive Mt where
 | join|index|starts
 deriving DecidableEq
inductive Tg where
 | nm (i:Nat)|tp (ts:List Tg)
structure Gm where
 N:List Str
 kd:List NameKind
 gl:List Nat
 df:Bool
 cm:Bool:=true
 rs:Bool:=true
 tr:Bool:=false
 io:Option Nat:=none
mutual
inductive IR where
 | c (d:D)
 | g (n:Nat) (d:D)
 | v (i:Nat)
 | bin (op:GQ) (a b:IR)
 | neg (a:IR)
 | cmp (op:Gy) (a b:IR)
 | chain (op Mf:Gy) (a b c:IR)
 | DQ (a b:IR)
 | Fj (a b:IR)
 | EU (a:IR)
 | ite (t a b:IR)
 | tup (es:List IR)
 | lst (es:List IR)
 | idx (a i:IR)
 | sl (a:IR) (lo hi:Option IR)
 | call (f:Nat) (es:List IR)
 | bi (f:Bi) (es:List IR)
 | D4
 | C2 (a k:IR)
 | G9 (n:Bool) (k a:IR)
 | Io (a:IR) (k:Kd)
 | Mg (a:IR) (ns:List Nat) (tb:List (Str×Bool))
 | D5 (a:IR)
 | sset (a:IR)
 | ER (a:IR)
 | Fm (a:IR)
 | FW (a k e:IR)
 | Gz (x:Str) (a:IR) (y:Option Str)
 | Ha (m:Mt) (o:IR) (es:List IR)
 | comp (G:Gm) (fr:List Nat) (tg:Tg) (src:Sr) (ifs:List IR) (elt:IR)
inductive Sr where
 | C4 (n:IR)|DB (a b:IR)|val (e:IR)|zip (a b:IR)
end
inductive IS where
 | asg (tg:Tg) (e:IR)
 | par (i j:Nat) (a b:IR)
 | En (i:Nat) (k e:IR)
 | app (i:Nat) (e:IR)
 | Le (i:Nat) (k:Nat) (e:IR)
 | DI (i:Nat) (k e:IR)
 | ext (i:Nat) (e:IR)
 | ins (i:Nat) (k e:IR)
 | O0 (i:Nat)
 | pop (j i:Nat)
 | O1 (j f:Nat) (es:List IR) (i:Nat)
 | EV (j g:Nat) (a:IR) (f:Nat) (es:List IR) (i:Nat)
 | Jo (j:Nat) (e:IR)
 | FE (i j:Nat)
 | O6 (i:Nat)
 | exp (e:IR)
 | ret (e:IR)
 | HK
 | Dl (t:IR) (a b:List IS)
 | CM (tg:Tg) (src:Sr) (body:List IS)
 | GS (t:IR) (body:List IS)
 | brk|cnt|pass
 | never
 | Dy (n:Nat) (c:Str) (w:Str)
 | C6 (n:Nat) (c:Str) (e:IR)
 | Lf (i f:Nat) (es:List IR) (n:Nat) (cs:List Str) (k:Nat) (h:List IS)
 | Lg (body:List IS) (n:Nat) (cs:List Str) (i:Nat) (h:List IS)
noncomputable abbrev Ev:=List (Option D)
inductive Fl where
 | nx (τ:Ev)|rt (d:D)|bk (τ:Ev)|ct (τ:Ev)
noncomputable def cE {α:Type}(xs:List α)(lo hi:Option Int):List α:=(xs.drop (HT.Ey xs.length 0 lo)).take (HT.Ey xs.length xs.length hi - HT.Ey xs.length 0 lo)
noncomputable def a8 (n:Nat):Bool:=decide (n<=sizeLine)
noncomputable def cF (n:Nat):Bool:=decide (n < sizeLine)
noncomputable def D6:GQ->D->D->Res D
 | .add,.int a,.int b=>.ok (.int (a+b))
 | .add,.str a,.str b=>Co (a8 (a.length+b.length)) (.ok (.str (a++b)))
 | .add,.lst _ a,.lst _ b=>Co (a8 (a.length+b.length)) (.ok (.lst true (a++b)))
 | .sub,.int a,.int b=>.ok (.int (a - b))
 | .mul,.int a,.int b=>Co (decide (-(2 ^ 64) < a/\a < 2 ^ 64)||decide (-(2 ^ 64) < b/\b < 2 ^ 64)) (.ok (.int (a*b)))
 | .mul,.str a,.int b=>Co (decide (-16000<=b/\b<=16000/\a.length<=1000)) (.ok (.str (Txt.mul a b)))
 | .mul,.lst _ a,.int b=>Co (decide (0<=b/\b<=16000/\a.length<=1000)) (.ok (.lst true (List.flatten (List.replicate b.toNat a))))
 | .fdiv,.int a,.int b=>Co (decide (0 < b/\b < 1073741824)) (.ok (.int (a / b)))
 | .mod,.int a,.int b=>Co (decide (0 < b)) (.ok (.int (a % b)))
 | .pow,.int a,.int b=>Co (decide (0<=b/\b<=1000000/\a.natAbs < 2 ^ 64)) (.ok (.int (a ^ b.toNat)))
 | _,_,_=>Cq
noncomputable def bg:D->D->Res D
 | .lst _ ds,.int i=>match DW ds i with
  | some d=>.ok d
  | none=>Cq
 | .tup ds,.int i=>match DW ds i with
  | some d=>.ok d
  | none=>Cq
 | .str z,.int i=>Co (a8 z.length) (match DW z.cps.toList i with
  | some c=>.ok (.str ⟨#[c]⟩)
  | none=>Cq)
 | _,_=>Cq
noncomputable def fx:D->Option Int->Option Int->Res D
 | .lst _ ds,lo,hi=>.ok (.lst true (cE ds lo hi))
 | .str z,lo,hi=>Co (a8 z.length) (.ok (.str (Txt.slice z lo hi)))
 | _,_,_=>Cq
noncomputable def aR:D->Res Bool
 | .CD=>.ok false
 | .bl b=>.ok b
 | .int i=>.ok (i != 0)
 | .str x=>Co (a8 x.length) (.ok ((x.length:Int) != 0))
 | .tup ds=>.ok (!ds.isEmpty)
 | .lst _ ds=>.ok (!ds.isEmpty)
 | .exc _=>Cq
 | .Cu _ _ _=>Cq
noncomputable def bD (f:D->D->Res Bool):List D->List D->Res Bool
 | [],[]=>.ok true
 | a::r,b::t=>Ci (f a b) fun x=>Ci (bD f r t) fun y=>.ok (x&&y)
 | _,_=>.ok false
noncomputable def CY:Nat->D->D->Res Bool
 | 0,_,_=>Cq
 | _+1,.exc _,_=>Cq
 | _+1,_,.exc _=>Cq
 | _+1,.Cu _ _ _,_=>Cq
 | _+1,_,.Cu _ _ _=>Cq
 | _+1,.CD,.CD=>.ok true
 | _+1,.CD,_=>.ok false
 | _+1,.bl a,.bl b=>.ok (a == b)
 | _+1,.bl a,.int b=>.ok ((if a then 1 else 0) == b)
 | _+1,.bl _,_=>.ok false
 | _+1,.int a,.bl b=>.ok (a == (if b then 1 else 0))
 | _+1,.int a,.int b=>.ok (a == b)
 | _+1,.int _,_=>.ok false
 | _+1,.str a,.str b=>.ok (a == b)
 | _+1,.str _,_=>.ok false
 | n+1,.tup a,.tup b=>bD (CY n) a b
 | _+1,.tup _,_=>.ok false
 | n+1,.lst _ a,.lst _ b=>bD (CY n) a b
 | _+1,.lst _ _,_=>.ok false
noncomputable def Eb (d:D):List D->Res Bool
 | []=>.ok false
 | e::r=>Ci (CY 40 e d) fun x=>Ci (Eb d r) fun y=>.ok (x||y)
noncomputable def yU (x y:Str):Bool:=!(Builtin.Str.occurrences x y 0 x.length 1).isEmpty
noncomputable def fQ:D->Bool
 | .CD=>true
 | _=>false
noncomputable def iB:D->Bool
 | .exc _=>false
 | .Cu _ _ _=>false
 | _=>true
noncomputable def FG:Gy->D->D->Res Bool
 | .eq,a,b=>CY 40 a b
 | .ne,a,b=>Ci (CY 40 a b) fun r=>.ok !r
 | .lt,.int a,.int b=>.ok (decide (a < b))
 | .le,.int a,.int b=>.ok (decide (a<=b))
 | .gt,.int a,.int b=>.ok (decide (b < a))
 | .Ld,.str y,.str x=>.ok (!yU x y)
 | .Me,a,.lst _ ds=>Eb a ds
 | .Ld,a,.lst _ ds=>Ci (Eb a ds) fun r=>.ok !r
 | .Me,a,.tup ds=>Eb a ds
 | .Ld,a,.tup ds=>Ci (Eb a ds) fun r=>.ok !r
 | .Im,a,.CD=>.ok (fQ a)
 | _,_,_=>Cq
noncomputable def bc:List D->Option (List Int)
 | []=>some []
 | .int i::r=>(bc r).map (i::·)
 | _::_=>none
noncomputable def bw:List D->Option (List Str)
 | []=>some []
 | .str i::r=>(bw r).map (i::·)
 | _::_=>none
noncomputable def fy:Kd->D->Bool
 | .str,.str _=>true
 | .int,.int _=>true
 | .int,.bl _=>true
 | .bool,.bl _=>true
 | .list,.lst _ _=>true
 | .tuple,.tup _=>true
 | _,_=>false
noncomputable def BU (tb:List (Str×Bool)):D->Res D
 | .exc c=>match tb.lookup c with
  | some b=>.ok (.bl b)
  | none=>Cq
 | _=>Cq
noncomputable def cG (x:Str):List D:=x.cps.toList.map fun c=>.str ⟨#[c]⟩
noncomputable def cv:Bi->List D->Res D
 | .len,[.str x]=>Co (a8 x.length) (.ok (.int x.length))
 | .len,[.tup ds]=>.ok (.int ds.length)
 | .len,[.lst _ ds]=>.ok (.int ds.length)
 | .min2,[.int a,.int b]=>.ok (.int (if b < a then b else a))
 | .max2,[.int a,.int b]=>.ok (.int (if b > a then b else a))
 | .list,[.lst _ ds]=>.ok (.lst true ds)
 | .list,[.tup ds]=>.ok (.lst true ds)
 | .list,[.str x]=>Co (a8 x.length) (.ok (.lst true (cG x)))
 | .sum,[.lst _ ds]=>match bc ds with
  | some ns=>Co (decide (ns.length<=1000000)) (.ok (.int ns.sum))
  | none=>Cq
 | _,_=>Cq
noncomputable def nA:D->Bool
 | .CD=>true
 | .bl _=>true
 | .int _=>true
 | .str _=>true
 | _=>false
noncomputable def aC (ds:List D):Bool:=ds.all nA
noncomputable def cz:D->Option Key
 | .int i=>some (.inl i)
 | .str x=>some (.inr x)
 | _=>none
noncomputable def look:List Key->List D->Key->Option D
 | k::ks,d::ds,q=>if k=q then some d else look ks ds q
 | _,_,_=>none
noncomputable def iC (ks:List Key)(q:Key):Bool:=ks.any fun k=>decide (k=q)
noncomputable def bM (ks:List Key)(q:Key):List Key:=if iC ks q=true then ks else ks++[q]
noncomputable def bx (ks:List Key)(ds:List D)(q:Key)(d:D):List D:=if iC ks q=true then List.zipWith (fun k e=>if k=q then d else e) ks ds else ds++[d]
noncomputable def iD:D->D->Res D
 | .Cu _ ks ds,y=>match cz y with
  | some q=>(match look ks ds q with
   | some d=>.ok d
   | none=>Cq)
  | none=>Cq
 | _,_=>Cq
noncomputable def iE (n:Bool):D->D->Res D
 | .Cu _ ks ds,y=>match cz y with
  | some q=>.ok (.bl (n != (look ks ds q).isSome))
  | none=>Cq
 | _,_=>Cq
noncomputable def wK:D->Bool
 | .Cu _ _ _=>true
 | _=>false
noncomputable def wL:D->D->D->Res D
 | .Cu _ ks ds,y,z=>match cz y with
  | some q=>.ok ((look ks ds q).getD z)
  | none=>Cq
 | _,_,_=>Cq
noncomputable def jV:D->Res D
 | .Cu _ _ ds=>match bc ds with
  | some ns=>.ok (.int ns.sum)
  | none=>Cq
 | _=>Cq
noncomputable def jW:D->Res D
 | .lst _ ds=>match bw ds with
  | some ns=>Co (decide (ns.length < 1000)) (.ok (.int ((ns.foldl Sx.dd []).length:Nat)))
  | none=>Cq
 | _=>Cq
noncomputable def c8:List D->Option (List (Key×D))
 | []=>some []
 | .tup [k,v]::r=>match cz k,c8 r with
  | some q,some ps=>some ((q,v)::ps)
  | _,_=>none
 | _::_=>none
noncomputable def Ec:List (Key×D)->List Key->List D->List Key×List D
 | [],ks,ds=>(ks,ds)
 | (q,d)::r,ks,ds=>Ec r (bM ks q) (bx ks ds q d)
noncomputable def l9 (j:Nat)(τ:List (Option D)):D->Res (List (Option D))
 | .lst _ ds=>match c8 ds with
  | some ps=>Co (aC (ps.map (·.2))) (.ok (τ.set j (some (.Cu true (Ec ps [] []).1 (Ec ps [] []).2))))
  | none=>Cq
 | _=>Cq
noncomputable def nB (i:Nat)(τ:List (Option D)):Option D->Option D->Res (List (Option D))
 | some (.Cu true ks ds),some (.Cu _ GU GV)=>Co (aC ds&&aC GV&&a8 (ks.length+GU.length)) (.ok (τ.set i (some (.Cu true (Ec (GU.zip GV) ks ds).1 (Ec (GU.zip GV) ks ds).2))))
 | _,_=>Cq
noncomputable def cV:D->Bool
 | .str _=>true
 | _=>false
noncomputable def eE:Mt->D->List D->Res D
 | .join,.str x,[.lst _ ds]=>match bw ds with
  | some ys=>Co (decide ((ys.map (·.length)).sum+ys.length*x.length<=16777216)) (.ok (.str (Txt.join x ys)))
  | none=>Cq
 | _,_,_=>Cq
noncomputable def eF:D->Res (List D)
 | .lst _ ds=>.ok ds
 | .tup ds=>.ok ds
 | .str x=>Co (a8 x.length) (.ok (cG x))
 | _=>Cq
noncomputable def jw:D->Res (List D)
 | .lst _ ds=>.ok ds
 | .tup ds=>.ok ds
 | _=>Cq
noncomputable def ma (ds es:List D):List D:=List.zipWith (fun a b=>.tup [a,b]) ds es
noncomputable def yV (x y:D):Res (List D):=Ci (jw x) fun ds=>Ci (jw y) fun es=>.ok (ma ds es)
noncomputable def bb (a b:Int):List D:=(List.range (b - a).toNat).map fun k=>.int (a+(k:Nat))
noncomputable def r6:D->Res D
 | .lst _ ds=>.ok (.lst true ds.reverse)
 | _=>Cq
noncomputable def yW:D->Res D
 | .lst _ ds=>match bc ds with
  | some ns=>Co (decide (ns.length < 64)) (.ok (.lst true ((PySem.W.sortI (dd ns)).map .int)))
  | none=>match bw ds with
   | some ns=>Co (decide (ns.length < 64)) (.ok (.lst true ((tR (Ro ns)).map .str)))
   | none=>Cq
 | _=>Cq
noncomputable def nC (x:Str)(y:Option Str):D->Res D
 | .str z=>Co (a8 (x.length+(reprText z).length+(y.getD Str.empty).length)) (.ok (.str (x++reprText z++y.getD Str.empty)))
 | _=>Cq
noncomputable def aV (i:Int):Bool:=decide (-(2 ^ 62)<=i/\i < 2 ^ 62)
noncomputable def aW {α β:Type}(f:α->Res (Option β)):List α->Res (List β)
 | []=>.ok []
 | x::xs=>Ci (f x) fun
  | some d=>Ci (aW f xs) fun r=>.ok (d::r)
  | none=>aW f xs
noncomputable def Ed {α:Type}:Res α->Res α
 | .error _=>Cq
 | .ok a=>.ok a
mutual
noncomputable def bK:Tg->D->Ev->Res Ev
 | .nm i,d,τ=>.ok (τ.set i (some d))
 | .tp ts,.tup ds,τ=>Co (decide (ds.length=ts.length)) (c9 ts ds τ)
 | .tp ts,.lst _ ds,τ=>Co (decide (ds.length=ts.length)) (c9 ts ds τ)
 | .tp _,_,_=>Cq
noncomputable def c9:List Tg->List D->Ev->Res Ev
 | t::ts,d::ds,τ=>Ci (bK t d τ) fun Cr=>c9 ts ds Cr
 | [],[],τ=>.ok τ
 | _,_,_=>Cq
end
noncomputable def ai (τ:Ev)(i:Nat):Option D:=(τ[i]?).join
mutual
noncomputable def vars:IR->List Nat
 | .c _=>[]
 | .g _ _=>[]
 | .v i=>[i]
 | .bin _ a b=>vars a++vars b
 | .neg a=>vars a
 | .cmp _ a b=>vars a++vars b
 | .chain _ _ a b c=>vars a++vars b++vars c
 | .DQ a b=>vars a++vars b
 | .Fj a b=>vars a++vars b
 | .EU a=>vars a
 | .ite t a b=>vars t++vars a++vars b
 | .tup es=>ao es
 | .lst es=>ao es
 | .idx a i=>vars a++vars i
 | .sl a lo hi=>vars a++nD lo++nD hi
 | .call _ es=>ao es
 | .bi _ es=>ao es
 | .D4=>[]
 | .C2 a k=>vars a++vars k
 | .G9 _ k a=>vars k++vars a
 | .Io a _=>vars a
 | .Mg a _ _=>vars a
 | .D5 a=>vars a
 | .sset a=>vars a
 | .ER a=>vars a
 | .Fm a=>vars a
 | .FW a k e=>vars a++vars k++vars e
 | .Gz _ a _=>vars a
 | .Ha _ o es=>vars o++ao es
 | .comp _ fr _ src _ _=>fr++dg src
noncomputable def ao:List IR->List Nat
 | []=>[]
 | e::es=>vars e++ao es
noncomputable def nD:Option IR->List Nat
 | none=>[]
 | some e=>vars e
noncomputable def dg:Sr->List Nat
 | .C4 n=>vars n
 | .DB a b=>vars a++vars b
 | .val e=>vars e
 | .zip a b=>vars a++vars b
end
mutual
noncomputable def Cn (cl:Nat->List D->Res D):IR->Ev->Res D
 | .c d,_=>.ok d
 | .g _ d,_=>.ok d
 | .v i,τ=>match ai τ i with
  | some d=>.ok d
  | none=>Cq
 | .bin op a b,τ=>Ci (Cn cl a τ) fun x=>Ci (Cn cl b τ) fun y=>D6 op x y
 | .neg a,τ=>Ci (Cn cl a τ) fun
  | .int i=>.ok (.int (-i))
  | _=>Cq
 | .cmp op a b,τ=>Ci (Cn cl a τ) fun x=>Ci (Cn cl b τ) fun y=>Ci (FG op x y) fun r=>.ok (.bl r)
 | .chain op Mf a b c,τ=>Ci (Cn cl a τ) fun x=>Ci (Cn cl b τ) fun y=>Ci (FG op x y) fun r=>
  if r=true then Ci (Cn cl c τ) fun z=>Ci (FG Mf y z) fun r'=>.ok (.bl r') else .ok (.bl false)
 | .DQ a b,τ=>Ci (Cn cl a τ) fun x=>Ci (aR x) fun r=>if r=true then Cn cl b τ else .ok x
 | .Fj a b,τ=>Ci (Cn cl a τ) fun x=>Ci (aR x) fun r=>if r=true then .ok x else Cn cl b τ
 | .EU a,τ=>Ci (Cn cl a τ) fun x=>Ci (aR x) fun r=>.ok (.bl !r)
 | .ite t a b,τ=>Ci (Cn cl t τ) fun x=>Ci (aR x) fun r=>if r=true then Cn cl a τ else Cn cl b τ
 | .tup es,τ=>Ci (aG cl es τ) fun ds=>Co (a8 ds.length) (.ok (.tup ds))
 | .lst es,τ=>Ci (aG cl es τ) fun ds=>Co (a8 ds.length) (.ok (.lst true ds))
 | .idx a i,τ=>Ci (Cn cl a τ) fun x=>Ci (Cn cl i τ) fun y=>bg x y
 | .sl a lo hi,τ=>Ci (Cn cl a τ) fun x=>Ci (gy cl lo τ) fun l=>Ci (gy cl hi τ) fun h=>fx x l h
 | .call f es,τ=>Ci (aG cl es τ) fun ds=>cl f (Cy ds)
 | .bi f es,τ=>Ci (aG cl es τ) fun ds=>cv f ds
 | .D4,_=>.ok (.Cu true [] [])
 | .C2 a k,τ=>Ci (Cn cl a τ) fun x=>Ci (Cn cl k τ) fun y=>iD x y
 | .G9 n k a,τ=>Ci (Cn cl k τ) fun y=>Ci (Cn cl a τ) fun x=>iE n x y
 | .Io a k,τ=>Ci (Cn cl a τ) fun x=>Co (iB x) (.ok (.bl (fy k x)))
 | .Mg a _ tb,τ=>Ci (Cn cl a τ) (BU tb)
 | .D5 a,τ=>Ci (Cn cl a τ) r6
 | .sset a,τ=>Ci (Cn cl a τ) yW
 | .ER a,τ=>Ci (Cn cl a τ) jW
 | .Fm a,τ=>Ci (Cn cl a τ) jV
 | .FW a k e,τ=>Ci (Cn cl a τ) fun x=>Co (wK x) (Ci (Cn cl k τ) fun y=>Ci (Cn cl e τ) fun z=>wL x y z)
 | .Gz x a y,τ=>Ci (Cn cl a τ) (nC x y)
 | .Ha m o es,τ=>Ci (Cn cl o τ) fun x=>Co (cV x) (Ci (aG cl es τ) fun ds=>eE m x ds)
 | .comp G fr tg src ifs elt,τ=>Ci (cH cl src τ) fun its=>Co (cF its.length) (Ci (Ed (aW (fun x=>Ci (bK tg x (fr.map (ai τ)++List.replicate (G.N.length - fr.length) none)) fun Ip=>
   Ci (cW cl ifs Ip) fun r=>if r=true then Ci (Cn cl elt Ip) fun d=>.ok (some d) else .ok none) its)) fun ds=>.ok (.lst true ds))
noncomputable def aG (cl:Nat->List D->Res D):List IR->Ev->Res (List D)
 | [],_=>.ok []
 | e::es,τ=>Ci (Cn cl e τ) fun d=>Ci (aG cl es τ) fun ds=>.ok (d::ds)
noncomputable def gy (cl:Nat->List D->Res D):Option IR->Ev->Res (Option Int)
 | none,_=>.ok none
 | some e,τ=>Ci (Cn cl e τ) fun
  | .int i=>.ok (some i)
  | _=>Cq
noncomputable def cW (cl:Nat->List D->Res D):List IR->Ev->Res Bool
 | [],_=>.ok true
 | e::es,τ=>Ci (Ci (Cn cl e τ) aR) fun r=>if r=true then cW cl es τ else .ok false
noncomputable def cH (cl:Nat->List D->Res D):Sr->Ev->Res (List D)
 | .C4 n,τ=>Ci (Cn cl n τ) fun
  | .int i=>Co (aV i) (.ok (bb 0 i))
  | _=>Cq
 | .DB a b,τ=>Ci (Cn cl a τ) fun x=>Ci (Cn cl b τ) fun y=>match x,y with
  | .int i,.int j=>Co (aV i&&aV j) (.ok (bb i j))
  | _,_=>Cq
 | .val e,τ=>Ci (Cn cl e τ) eF
 | .zip a b,τ=>Ci (Cn cl a τ) fun x=>Ci (Cn cl b τ) fun y=>yV x y
end
noncomputable def Lh (cl:Nat->List D->Res D)(t:IR)(τ:Ev):Res Bool:=Ci (Cn cl t τ) aR
noncomputable def dI (is:List Nat):Nat->Ev->Ev
 | _,[]=>[]
 | k,o::τ=>(if is.contains k then o.map er else o)::dI is (k+1) τ
noncomputable abbrev CK (is:List Nat)(τ:Ev):Ev:=dI is 0 τ
noncomputable def aU : IR->Bool
 | .bin .add _ _=>true
 | .bin .mul _ _=>true
 | .sl _ _ _=>true
 | .bi .list _=>true
 | .comp _ _ _ _ _ _=>true
 | _=>false
noncomputable def aN (e:IR)(d:D)(τ:Ev):D×Ev:=
 if aw d=true then (d,τ)
 else match aU e,d with
  | true,.lst _ ds=>if ak ds=true then (.lst true ds,τ) else (.lst true (Cy ds),CK (vars e) τ)
  | _,_=>(er d,CK (vars e) τ)
mutual
noncomputable def De (cl:Nat->List D->Res D)(mv:Bool):IR->Ev->Res (D×Ev)
 | .v i,τ=>match ai τ i with
  | some d=>if mv=true then .ok (d,τ.set i none) else .ok (er d,τ.set i (some (er d)))
  | none=>Cq
 | .tup es,τ=>Ci (eG cl mv es τ) fun p=>Co (a8 p.1.length) (.ok (.tup p.1,p.2))
 | .lst es,τ=>Ci (eG cl mv es τ) fun p=>Co (a8 p.1.length) (.ok (.lst true p.1,p.2))
 | .D4,τ=>.ok (.Cu true [] [],τ)
 | .ite t a b,τ=>Ci (Lh cl t τ) fun r=>if r=true then De cl mv a τ else De cl mv b τ
 | .call f es,τ=>Ci (aG cl es τ) fun ds=>Ci (cl f (Cy ds)) fun d=>if aw d=true then .ok (d,τ) else .ok (d,CK (ao es) τ)
 | e,τ=>Ci (Cn cl e τ) fun d=>.ok (aN e d τ)
noncomputable def eG (cl:Nat->List D->Res D)(mv:Bool):List IR->Ev->Res (List D×Ev)
 | [],τ=>.ok ([],τ)
 | e::es,τ=>Ci (De cl mv e τ) fun p=>Ci (eG cl mv es p.2) fun q=>.ok (p.1::q.1,q.2)
end
noncomputable def forM (body:D->Ev->Res Fl):List D->Ev->Res Fl
 | [],τ=>.ok (.nx τ)
 | x::xs,τ=>Ci (body x τ) fun
  | .nx Cr=>forM body xs Cr
  | .ct Cr=>forM body xs Cr
  | .bk Cr=>.ok (.nx Cr)
  | .rt d=>.ok (.rt d)
noncomputable def jx (test:Ev->Res Bool)(body:Ev->Res Fl):Nat->Ev->Res Fl
 | 0,_=>Cq
 | n+1,τ=>Ci (test τ) fun r=>if r=true then Ci (body τ) fun
  | .nx Cr=>jx test body n Cr
  | .ct Cr=>jx test body n Cr
  | .bk Cr=>.ok (.nx Cr)
  | .rt d=>.ok (.rt d)
  else .ok (.nx τ)
noncomputable def iF (cl:Nat->List D->Res D)(s:Sr)(τ:Ev):Res (List D×Ev):=Ci (cH cl s τ) fun its=>match s with
 | .C4 _=>.ok (its,τ)
 | .DB _ _=>.ok (its,τ)
 | s=>.ok (Cy its,CK (dg s) τ)
noncomputable def BV (j i:Nat)(τ:Ev):D->Res Fl
 | .tup [d,.Cu false ks vs]=>Co (aC vs) (.ok (.nx ((τ.set i (some (.Cu true ks vs))).set j (some d))))
 | _=>Cq
noncomputable def fR (cl:Nat->List D->Res D)(j g i:Nat)(x:D)(τ:Ev):D->Res Fl
 | .tup [d,.Cu false ks vs]=>Co (aC vs) (Ci (Ed (cl g [er x,er d])) fun r=>.ok (.nx ((τ.set i (some (.Cu true ks vs))).set j (some r))))
 | _=>Cq
noncomputable def yX:Nat:=1000000
mutual
noncomputable def Dm (cl:Nat->List D->Res D):IS->Ev->Res Fl
 | .asg tg e,τ=>Ci (De cl false e τ) fun p=>Ci (bK tg p.1 p.2) fun Cr=>.ok (.nx Cr)
 | .par i j a b,τ=>Ci (eG cl false [a,b] τ) fun p=>match p.1 with
  | [x,y]=>.ok (.nx ((p.2.set i (some x)).set j (some y)))
  | _=>Cq
 | .En i k e,τ=>Ci (De cl false e τ) fun p=>match ai p.2 i with
  | some (.lst true ds)=>Ci (Cn cl k p.2) fun
   | .int z=>(match E4 ds.length z with
    | some j=>.ok (.nx (p.2.set i (some (.lst true (ds.set j p.1)))))
    | none=>Cq)
   | _=>Cq
  | _=>Cq
 | .app i e,τ=>match ai τ i with
  | some (.lst _ _)=>Ci (De cl false e τ) fun p=>(match ai p.2 i with
   | some (.lst true ds)=>Co (cF ds.length) (.ok (.nx (p.2.set i (some (.lst true (ds++[p.1]))))))
   | _=>Cq)
  | _=>Cq
 | .DI i k e,τ=>Ci (Cn cl e τ) fun d=>match ai τ i with
  | some (.Cu true ks ds)=>Ci (Cn cl k τ) fun y=>(match cz y with
   | some q=>Co (aw d&&ak ds&&cF ks.length) (.ok (.nx (τ.set i (some (.Cu true (bM ks q) (bx ks ds q d))))))
   | none=>Cq)
  | _=>Cq
 | .ext i e,τ=>match ai τ i with
  | some (.lst _ _)=>Ci (De cl false e τ) fun p=>(match p.1,ai p.2 i with
   | .lst _ es,some (.lst true ds)=>Co (a8 (ds.length+es.length)) (.ok (.nx (p.2.set i (some (.lst true (ds++es))))))
   | _,_=>Cq)
  | _=>Cq
 | .ins i k e,τ=>match ai τ i with
  | some (.lst _ _)=>Ci (Cn cl k τ) fun y=>Ci (De cl false e τ) fun p=>(match y,ai p.2 i with
   | .int z,some (.lst true ds)=>Co (decide (0<=z/\z.toNat<=ds.length)&&cF ds.length) (.ok (.nx (p.2.set i (some (.lst true (ds.take z.toNat++p.1::ds.drop z.toNat))))))
   | _,_=>Cq)
  | _=>Cq
 | .Le _ _ _,_=>Cq
 | .O0 i,τ=>match ai τ i with
  | some (.lst true ds)=>.ok (.nx (τ.set i (some (.lst true ds.reverse))))
  | _=>Cq
 | .pop j i,τ=>match ai τ i with
  | some (.lst true (.str x::ds))=>.ok (.nx ((τ.set i (some (.lst true ds))).set j (some (.str x))))
  | _=>Cq
 | .Jo j e,τ=>Ci (Cn cl e τ) fun d=>Ci (l9 j τ d) fun Cr=>.ok (.nx Cr)
 | .FE i j,τ=>Ci (nB i τ (ai τ i) (ai τ j)) fun Cr=>.ok (.nx Cr)
 | .O1 j f es i,τ=>match ai τ i with
  | some (.Cu true ks vs)=>Co (aC vs) (Ci (aG cl es τ) fun ds=>Ci (Ed (cl f (Cy ds++[.Cu false ks vs]))) (BV j i (CK (ao es) τ)))
  | _=>Cq
 | .EV j g a f es i,τ=>match ai τ i with
  | some (.Cu true ks vs)=>Co (aC vs) (Ci (Cn cl a τ) fun x=>Ci (aG cl es τ) fun ds=>Ci (Ed (cl f (Cy ds++[.Cu false ks vs]))) (fR cl j g i x (CK (vars a++ao es) τ)))
  | _=>Cq
 | .O6 i,τ=>match ai τ i with
  | some (.lst true _)=>.ok (.nx (τ.set i (some (.lst true []))))
  | _=>Cq
 | .exp e,τ=>Ci (Cn cl e τ) fun _=>.ok (.nx τ)
 | .ret e,τ=>Ci (De cl true e τ) fun p=>.ok (.rt p.1)
 | .HK,_=>.ok (.rt .CD)
 | .Dl t a b,τ=>Ci (Lh cl t τ) fun r=>if r=true then aD cl a τ else aD cl b τ
 | .CM tg s body,τ=>Ci (iF cl s τ) fun p=>forM (fun x τ=>Ci (bK tg x τ) fun Cr=>aD cl body Cr) p.1 p.2
 | .GS t body,τ=>jx (Lh cl t) (aD cl body) yX τ
 | .brk,τ=>.ok (.bk τ)
 | .cnt,τ=>.ok (.ct τ)
 | .pass,τ=>.ok (.nx τ)
 | .never,_=>Cq
 | .Dy _ c _,_=>.error (.exc c)
 | .C6 _ c e,τ=>Ci (Ed (Cn cl e τ)) fun _=>.error (.exc c)
 | .Lf i f es _ cs k h,τ=>Ci (Ed (aG cl es τ)) fun ds=>match cl f (Cy ds) with
  | .ok d=>if aw d=true then .ok (.nx (τ.set i (some d))) else .ok (.nx ((CK (ao es) τ).set i (some d)))
  | .error (.exc c)=>Co (cs.contains c) (Ci (Ed (aD cl h (τ.set k (some (.exc c))))) fun
   | .nx Cr=>.ok (.nx (Cr.set k none))
   | _=>Cq)
  | .error .stuck=>Cq
 | .Lg body _ cs i h,τ=>match aD cl body τ with
  | .ok (.nx Cr)=>.ok (.nx Cr)
  | .error (.exc c)=>Co (cs.contains c) (Ci (Ed (aD cl h ((List.replicate τ.length none).set i (some (.exc c))))) fun
   | .nx Cr=>.ok (.nx (Cr.set i none))
   | _=>Cq)
  | _=>Cq
noncomputable def aD (cl:Nat->List D->Res D):List IS->Ev->Res Fl
 | [],τ=>.ok (.nx τ)
 | s::r,τ=>Ci (Dm cl s τ) fun
  | .nx Cr=>aD cl r Cr
  | .ct Cr=>.ok (.ct Cr)
  | .bk Cr=>.ok (.bk Cr)
  | .rt d=>.ok (.rt d)
end
structure Fn where
 np:Nat
 G:Gm
 body:List IS
 io:Option IR:=none
noncomputable def cA (cl:Nat->List D->Res D)(fn:Fn)(ds:List D):Res D:=
 Co (decide (ds.length=fn.np)) (Ci (aD cl fn.body (ds.map some++List.replicate (fn.G.N.length - fn.np) none)) fun
  | .nx _=>.ok .CD
  | .rt d=>.ok d
  | _=>Cq)
noncomputable def BW:D->D
 | .Cu _ ks vs=>.Cu true ks vs
 | d=>d
noncomputable def md:List D->List D
 | []=>[]
 | [d]=>[BW d]
 | d::ds=>d::md ds
noncomputable def Li (p:Nat)(q:D×Ev):Res D:=match ai q.2 p with
 | some (.Cu true ks vs)=>Co (aC vs) (.ok (.tup [q.1,.Cu false ks vs]))
 | _=>Cq
noncomputable def cB (cl:Nat->List D->Res D)(fn:Fn)(e:IR)(ds:List D):Res D:=
 Co (decide (ds.length=fn.np)) (Ci (aD cl fn.body ((md ds).map some++List.replicate (fn.G.N.length - fn.np) none)) fun
  | .nx τ=>Ci (De cl true e τ) (Li (fn.np - 1))
  | _=>Cq)
noncomputable abbrev Tb:=Nat->Option Fn
noncomputable def af (T:Tb):Nat->Nat->List D->Res D
 | 0,_,_=>Cq
 | n+1,f,ds=>match T f with
  | some fn=>(match fn.io with
   | none=>cA (af T n) fn ds
   | some e=>cB (af T n) fn e ds)
  | none=>Cq
theorem yY {cl:Nat->List D->Res D}{i:Nat}{τ:Ev}:Cn cl (.v i) τ=(match ai τ i with|some d=>.ok d|none=>Cq):=rfl
theorem yZ {cl:Nat->List D->Res D}{i:Nat}{τ:Ev}{mv:Bool}:De cl mv (.v i) τ=(match ai τ i with|some d=>if mv=true then .ok (d,τ.set i none) else .ok (er d,τ.set i (some (er d)))|none=>Cq):=rfl
open PySem.SeqAt
section
variable {X:Cx}{pins:List (Addr×Obj)}{σ:St}{H:Hp}{S:Addr->Prop}{s:Shared}
theorem Inv.DR (I:Inv X pins σ H s){a:Addr}{xs ys:List V}(h1:DC X.K H a xs)(h2:DL X.K H a ys):False:=by
 obtain⟨its,_,⟨o,n,e,c,_⟩,_⟩:=I.list h1
 obtain⟨its',_,⟨o',e',c',_⟩,_⟩:=I.tuple h2
 rw[e] at e';cases e'
 rw[c] at c'
 injection c' with c'
 exact absurd c' (by decide)
theorem Inv.Eo (I:Inv X pins σ H s){a:Addr}{c:Str}(h:C8 X.K H a (.inr c)):∃ C o vs,PySem.W.nsIn X.K mainGlobals c=some (some (.ref C))/\nameIn X.K C=some c/\s.heap.get? a=some o/\o.cls=.ref C/\o.data=.fields vs:=by
 obtain⟨C,o,vs,h0,h1,h2,h3,h4⟩:=h
 exact⟨C,o,vs,h0,h1,(I.CA a _ h2).1,h3,h4⟩
theorem Inv.HL (I:Inv X pins σ H s){a:Addr}{c c':Str}(h:C8 X.K H a (.inr c))(k:C8 X.K H a (.inr c')):c=c':=by
 obtain⟨C,o,vs,_,n1,e,c1,_⟩:=I.Eo h
 obtain⟨C',o',Uc,_,n2,e',c2,_⟩:=I.Eo k
 rw[e] at e';cases e'
 rw[c1] at c2;cases c2
 rw[n1] at n2;cases n2
 rfl
theorem Inv.FX (I:Inv X pins σ H s){a:Addr}{c:Str}{xs:List V}(h:C8 X.K H a (.inr c))(k:DL X.K H a xs):False:=by
 obtain⟨C,o,vs,_,_,e,c1,_⟩:=I.Eo h
 obtain⟨its',_,⟨o',e',c',_⟩,_⟩:=I.tuple k
 rw[e] at e';cases e'
 rw[c1] at c';cases c'
theorem Inv.Ef (I:Inv X pins σ H s){a:Addr}{c:Str}{xs:List V}(h:C8 X.K H a (.inr c))(k:DC X.K H a xs):False:=by
 obtain⟨C,o,vs,_,_,e,c1,_⟩:=I.Eo h
 obtain⟨its',_,⟨o',n,e',c',_⟩,_⟩:=I.list k
 rw[e] at e';cases e'
 rw[c1] at c';cases c'
theorem Inv.FH (I:Inv X pins σ H s){a:Addr}{kvs:List (Key×V)}(h:Rd H a (.dK kvs)):∃ o es ep,s.heap.get? a=some o/\o.data=.dict es ep:=by
 obtain⟨_,_,vs,_,o,es,ep,e,c,d,_⟩:=h.ok I.CA
 exact⟨o,es,ep,e,d⟩
theorem Inv.FY (I:Inv X pins σ H s){a:Addr}{kvs:List (Key×V)}{xs:List V}(h:Rd H a (.dK kvs))(k:DL X.K H a xs):False:=by
 obtain⟨o,es,ep,e,d⟩:=I.FH h
 obtain⟨its',_,⟨o',e',c',n,d'⟩,_⟩:=I.tuple k
 rw[e] at e';cases e'
 rw[d] at d';cases d'
theorem Inv.Eg (I:Inv X pins σ H s){a:Addr}{kvs:List (Key×V)}{xs:List V}(h:Rd H a (.dK kvs))(k:DC X.K H a xs):False:=by
 obtain⟨o,es,ep,e,d⟩:=I.FH h
 obtain⟨its',_,⟨o',n,e',c',n',d'⟩,_⟩:=I.list k
 rw[e] at e';cases e'
 rw[d] at d';cases d'
theorem Inv.FZ (I:Inv X pins σ H s){a:Addr}{c:Str}{kvs:List (Key×V)}(h:C8 X.K H a (.inr c))(k:Rd H a (.dK kvs)):False:=by
 obtain⟨C,o,vs,_,_,e,c1,d1⟩:=I.Eo h
 obtain⟨o',es,ep,e',d⟩:=I.FH k
 rw[e] at e';cases e'
 rw[d] at d1;cases d1
theorem Rd.dk {H:Hp}{a:Addr}{u v:List (Key×V)}(h:Rd H a (.dK u))(k:Rd H a (.dK v)):u=v:=by
 rcases h with h|⟨o,h⟩<;>rcases k with k|⟨o',k⟩<;>(rw[h] at k;cases k;try rfl)
mutual
theorem Cm.one (I:Inv X pins σ H s):∀ {v:V}{d e:D},Cm X.K S H v d->Cm X.K S H v e->er d=er e
 | _,_,_,.CD,h=>by cases h;rfl
 | _,_,_,.bl b,h=>by cases h;rfl
 | _,_,_,.int i,h=>by cases h;rfl
 | _,_,_,.str x,h=>by cases h;rfl
 | _,_,_,.exc h0,h=>by
  cases h with
  | exc k1=>exact congrArg D.exc (I.HL h0 k1)
  | tup k1 k2=>exact(I.FX h0 k1).elim
  | lst k0 k1 k2=>exact(I.Ef h0 (.inl k1)).elim
  | lstK k1 k2=>exact(I.Ef h0 k1.sq).elim
  | Cu k0 k1 k2 k3=>exact(I.FZ h0 k1).elim
 | _,_,_,.tup h1 h2,h=>by
  cases h with
  | exc k1=>exact(I.FX k1 h1).elim
  | tup k1 k2=>
   have e:=I.DX h1 k1
   subst e
   rw[er,er,Cj.one I h2 k2]
  | lst k0 k1 k2=>exact(I.DR (.inl k1) h1).elim
  | lstK k1 k2=>exact(I.DR k1.sq h1).elim
  | Cu k0 k1 k2 k3=>exact(I.FY k1 h1).elim
 | _,_,_,.lst h0 h1 h2,h=>by
  cases h with
  | exc k1=>exact(I.Ef k1 (.inl h1)).elim
  | tup k1 k2=>exact(I.DR (.inl h1) k1).elim
  | lst k0 k1 k2=>
   have e:=I.C9 (.inl h1) (.inl k1)
   subst e
   rw[er,er,Cj.one I h2 k2]
  | lstK k1 k2=>
   have e:=I.C9 (.inl h1) k1.sq
   subst e
   rw[er,er,Cj.one I h2 k2]
  | Cu k0 k1 k2 k3=>exact(I.Eg k1 (.inl h1)).elim
 | _,_,_,.lstK h1 h2,h=>by
  cases h with
  | exc k1=>exact(I.Ef k1 h1.sq).elim
  | tup k1 k2=>exact(I.DR h1.sq k1).elim
  | lst k0 k1 k2=>
   have e:=I.C9 h1.sq (.inl k1)
   subst e
   rw[er,er,Cj.one I h2 k2]
  | lstK k1 k2=>
   have e:=I.C9 h1.sq k1.sq
   subst e
   rw[er,er,Cj.one I h2 k2]
  | Cu k0 k1 k2 k3=>exact(I.Eg k1 h1.sq).elim
 | _,_,_,.Cu h0 h1 h2 h3,h=>by
  cases h with
  | exc k1=>exact(I.FZ k1 h1).elim
  | tup k1 k2=>exact(I.FY h1 k1).elim
  | lst k0 k1 k2=>exact(I.Eg h1 (.inl k1)).elim
  | lstK k1 k2=>exact(I.Eg h1 k1.sq).elim
  | Cu k0 k1 k2 k3=>
   have e:=Rd.dk h1 k1
   subst e
   rw[er,er,Cj.one I h3 k3,<- h2,<- k2]
theorem Cj.one (I:Inv X pins σ H s):∀ {vs:List V}{ds es:List D},Cj X.K S H vs ds->Cj X.K S H vs es->Cy ds=Cy es
 | _,_,_,.nil,h=>by cases h;rfl
 | _,_,_,.cons h1 h2,h=>by
  cases h with
  | cons k1 k2=>rw[Cy,Cy,Cm.one I h1 k1,Cj.one I h2 k2]
end
end
theorem bL {α β:Type}{x:Res α}{f:α->Res β}{b:β}(h:Ci x f=.ok b):∃ a,x=.ok a/\f a=.ok b:=by
 cases x with
 | error e=>cases h
 | ok a=>exact⟨a,rfl,h⟩
theorem gA {α:Type}{c:Bool}{x:Res α}{b:α}(h:Co c x=.ok b):c=true/\x=.ok b:=by
 unfold Co at h
 cases c with
 | true=>exact⟨rfl,h⟩
 | false=>cases h
theorem bZ {f:D->D->Res Bool}(hf:∀ d e r,f d e=.ok r->er d=er e->r=true):∀ {ds es:List D}{r:Bool},bD f ds es=.ok r->Cy ds=Cy es->r=true
 | [],[],r,h,_=>by cases h;rfl
 | [],_::_,_,_,h=>by rw[Cy,Cy] at h;cases h
 | _::_,[],_,_,h=>by rw[Cy,Cy] at h;cases h
 | a::ds,b::es,r,h,h'=>by
  rw[Cy,Cy] at h'
  injection h' with e1 e2
  obtain⟨x,hx,h⟩:=bL (show Ci (f a b) (fun x=>Ci (bD f ds es) fun y=>.ok (x&&y))=.ok r from h)
  obtain⟨y,hy,h⟩:=bL h
  cases h
  rw[hf a b x hx e1,bZ hf hy e2]
  rfl
theorem dh:∀ (n:Nat) (d e:D) (r:Bool),CY n d e=.ok r->er d=er e->r=true
 | 0,_,_,_,h,_=>by cases h
 | n+1,d,e,r,h,h'=>by
  cases d with
  | tup ds=>
   cases e with
   | tup es=>
    rw[er,er] at h'
    injection h' with e1
    exact bZ (dh n) h e1
   | CD=>rw[er,er] at h';cases h'
   | bl _=>rw[er,er] at h';cases h'
   | int _=>rw[er,er] at h';cases h'
   | str _=>rw[er,er] at h';cases h'
   | lst _ _=>rw[er,er] at h';cases h'
   | exc _=>cases h
   | Cu _ _ _=>cases h
  | lst o ds=>
   cases e with
   | lst o' es=>
    rw[er,er] at h'
    injection h' with _ e1
    exact bZ (dh n) h e1
   | CD=>rw[er,er] at h';cases h'
   | bl _=>rw[er,er] at h';cases h'
   | int _=>rw[er,er] at h';cases h'
   | str _=>rw[er,er] at h';cases h'
   | tup _=>rw[er,er] at h';cases h'
   | exc _=>cases h
   | Cu _ _ _=>cases h
  | exc _=>cases h
  | Cu _ _ _=>cases e<;>cases h
  | CD=>cases e<;>first|(cases h;done)|(cases h;rfl)|(exfalso;simp[er] at h')
  | bl b=>cases e<;>first|(simp only[er,D.bl.injEq] at h';subst h';cases h;simp)|(exfalso;simp[er] at h')
  | int b=>cases e<;>first|(simp only[er,D.int.injEq] at h';subst h';cases h;simp)|(exfalso;simp[er] at h')
  | str b=>cases e<;>first|(simp only[er,D.str.injEq] at h';subst h';cases h;simp)|(exfalso;simp[er] at h')
theorem iG {f:D->D->Res Bool}:∀ {ds es:List D}{r:Bool},bD f ds es=.ok r->ds.length≠es.length->r=false
 | [],[],_,_,h=>absurd rfl h
 | [],_::_,_,h,_=>by cases h;rfl
 | _::_,[],_,h,_=>by cases h;rfl
 | a::ds,b::es,r,h,n=>by
  obtain⟨x,hx,h⟩:=bL (show Ci (f a b) (fun x=>Ci (bD f ds es) fun y=>.ok (x&&y))=.ok r from h)
  obtain⟨y,hy,h⟩:=bL h
  cases h
  rw[iG hy (fun z=>n (by rw[List.length_cons,List.length_cons,z]))]
  simp
theorem jX {f:D->D->Res Bool}:∀ {ds es:List D}{r:Bool},bD f ds es=.ok r->ds.length=es.length->
  ∃ e:Nat->Bool,(∀ j a b,ds[j]? = some a->es[j]? = some b->f a b=.ok (e j))/\r=(List.range ds.length).all e
 | [],[],r,h,_=>by cases h;exact⟨fun _=>true,fun j a b h=>by simp at h,rfl⟩
 | [],_::_,_,_,h=>by cases h
 | _::_,[],_,_,h=>by cases h
 | a::ds,b::es,r,h,n=>by
  obtain⟨x,hx,h⟩:=bL (show Ci (f a b) (fun x=>Ci (bD f ds es) fun y=>.ok (x&&y))=.ok r from h)
  obtain⟨y,hy,h⟩:=bL h
  cases h
  obtain⟨e,h1,h2⟩:=jX hy (by simpa using n)
  refine⟨fun j=>match j with|0=>x|k+1=>e k,fun j a' b' e1 e2=>?_,?_⟩
  ·cases j with
   | zero=>simp at e1 e2;subst e1 e2;exact hx
   | succ k=>exact h1 k a' b' (by simpa using e1) (by simpa using e2)
  ·rw[h2,List.length_cons,List.range_succ_eq_map,List.all_cons,List.all_map]
   rfl
section
variable {X:Cx}{pins:List (Addr×Obj)}{σ:St}{H:Hp}{S:Addr->Prop}{s:Shared}
structure Iq (A:Around)(s:Shared)(v u:Value)(r:Bool):Prop where
 eq:EqAt A s v u r
 rc:RcAt A s v u r
 ne:RcNeAt A s v u (!r)
theorem iH (n:Nat)(A:Around)(ih:∀ (x y:V)(v u:Value)(d e:D)(r:Bool),Cm X.K S H x d->Cm X.K S H y e->RelV x v->RelV y u->CY n d e=.ok r->EqAt A.in1 s v u r)
  {xs ys:List V}{ds es:List D}{its its':List Value}{r:Bool} (rv:Vals xs its) (Mh:Vals ys its') (h2:Cj X.K S H xs ds) (k2:Cj X.K S H ys es) (hr:bD (CY n) ds es=.ok r) :
  ∃ e:Nat->Bool,(∀ j (q1:j < its.toArray.size) (q2:j < its'.toArray.size),EqAt A.in1 s its.toArray[j] its'.toArray[j] (e j))/\r=((List.range (min its.toArray.size its'.toArray.size)).all e&&its.toArray.size == its'.toArray.size):=by
 have l1:=h2.length
 have l2:=k2.length
 have l3:=rv.length
 have l4:=Mh.length
 have pair:∀ j (j1:j < its.toArray.size) (j2:j < its'.toArray.size) (b:Bool) (d1:j < ds.length) (d2:j < es.length),CY n ds[j] es[j]=.ok b->EqAt A.in1 s its.toArray[j] its'.toArray[j] b:=by
  intro j j1 j2 b d1 d2 hb
  obtain⟨x',e1,m1⟩:=h2.get (i:=j) (d:=ds[j]) (by simp)
  obtain⟨y',e2,m2⟩:=k2.get (i:=j) (d:=es[j]) (by simp)
  obtain⟨v',ev,HF⟩:=rv.get e1
  obtain⟨u',eu,K8⟩:=Mh.get e2
  have hv:its.toArray[j]=v':=by
   have:=(List.getElem?_eq_some_iff.mp ev).2
   simpa using this
  have Mi:its'.toArray[j]=u':=by
   have:=(List.getElem?_eq_some_iff.mp eu).2
   simpa using this
  rw[hv,Mi]
  exact ih x' y' v' u' _ _ _ m1 m2 HF K8 hb
 have z1:its.toArray.size=ds.length:=by simp;omega
 have z2:its'.toArray.size=es.length:=by simp;omega
 by_cases hl:ds.length=es.length
 ·obtain⟨e,q1,q2⟩:=jX hr hl
  refine⟨e,fun j j1 j2=>pair j j1 j2 _ (by omega) (by omega) (q1 j _ _ (by simp) (by simp)),?_⟩
  rw[q2,z1,z2,hl]
  simp
 ·have Ir:=iG hr hl
  have each:∀ (ds es:List D) (r:Bool),bD (CY n) ds es=.ok r->∀ j (q1:j < ds.length) (q2:j < es.length),∃ b,CY n ds[j] es[j]=.ok b:=by
   intro ds
   induction ds with
   | nil=>intro es r _ j q1;simp at q1
   | cons a ds ih=>
    intro es r h j q1 q2
    cases es with
    | nil=>simp at q2
    | cons b es=>
     obtain⟨x,hx,h⟩:=bL (show Ci (CY n a b) (fun x=>Ci (bD (CY n) ds es) fun y=>.ok (x&&y))=.ok r from h)
     obtain⟨y,hy,h⟩:=bL h
     cases j with
     | zero=>exact⟨x,hx⟩
     | succ k=>exact ih es y hy k (by simpa using q1) (by simpa using q2)
  refine⟨fun j=>if q:j < ds.length/\j < es.length then ((match CY n (ds[j]'q.1) (es[j]'q.2) with|.ok b=>b|.error _=>false)) else false,fun j j1 j2=>?_,?_⟩
  ·have d1:j < ds.length:=by omega
   have d2:j < es.length:=by omega
   obtain⟨b,hb⟩:=each ds es r hr j d1 d2
   have q:=pair j j1 j2 b d1 d2 hb
   show EqAt A.in1 s its.toArray[j] its'.toArray[j] (dite _ _ _)
   rw[dif_pos (show j < ds.length/\j < es.length from ⟨d1,d2⟩),hb]
   exact q
  ·rw[Ir]
   have:(its.toArray.size == its'.toArray.size)=false:=by
    rw[beq_eq_false_iff_ne,z1,z2]
    exact hl
   rw[this,Bool.and_false]
theorem nE (I:Inv X pins σ H s)(n:Nat)(A:Around)(ih:∀ (x y:V)(v u:Value)(d e:D)(r:Bool),Cm X.K S H x d->Cm X.K S H y e->RelV x v->RelV y u->CY n d e=.ok r->EqAt A.in1 s v u r)
  {a b:Addr}{o o':Bool}{xs ys:List V}{ds es:List D}{r:Bool} (ha:DC X.K H a xs) (hb:DC X.K H b ys) (h2:Cj X.K S H xs ds) (k2:Cj X.K S H ys es)
  (m1:Cm X.K S H (.ref a) (.lst o ds)) (m2:Cm X.K S H (.ref b) (.lst o' es)) (hr:bD (CY n) ds es=.ok r) (CQ:A.units < cLine):Iq A s (.ref a) (.ref b) r:=by
 obtain⟨its,rv,p,_⟩:=I.list ha
 obtain⟨its',Mh,p',_⟩:=I.list hb
 obtain⟨e,he,Ke⟩:=iH n A ih rv Mh h2 k2 hr
 have both:RcAt A s (.ref a) (.ref b) r/\RcNeAt A s (.ref a) (.ref b) (!r):=by
  by_cases hl:its.toArray.size=its'.toArray.size
  ·have Jp:r=(List.range its.toArray.size).all e:=by
    rw[Ke,<- hl,Nat.min_self]
    simp
   rw[Jp]
   exact⟨.lists p.isList p'.isList hl CQ he,.lists p.isList p'.isList hl CQ he⟩
  ·have Ez:(its.toArray.size != its'.toArray.size)=true:=by simpa using hl
   have Jp:r=false:=by
    rw[Ke]
    have:(its.toArray.size == its'.toArray.size)=false:=by rw[beq_eq_false_iff_ne];exact hl
    rw[this,Bool.and_false]
   rw[Jp]
   exact⟨.lists_lengths p.isList p'.isList Ez CQ,.lists_lengths p.isList p'.isList Ez CQ⟩
 refine⟨?_,both.1,both.2⟩
 by_cases Gh:a=b
 ·subst Gh
  have hd:=Cm.one I m1 m2
  rw[er,er] at hd
  injection hd with _ hd
  rw[bZ (dh n) hr hd]
  exact .same _
 ·exact .of_refs Gh both.1
set_option maxHeartbeats 4000000 in
theorem gB (I:Inv X pins σ H s):∀ (n:Nat) (A:Around) (x y:V) (v u:Value) (d e:D) (r:Bool),Cm X.K S H x d->Cm X.K S H y e->RelV x v->RelV y u->CY n d e=.ok r->
  A.units+n < cLine->Iq A s v u r
 | 0,_,_,_,_,_,_,_,_,_,_,_,_,h,_=>by cases h
 | n+1,A,x,y,v,u,d,e,r,hx,hy,rx,ry,h,hu=>by
  have CQ:A.units < cLine:=by omega
  have Nd:A.in1.units+n < cLine:=by show A.units+1+n < cLine;omega
  have ih:∀ (x y:V) (v u:Value) (d e:D) (r:Bool),Cm X.K S H x d->Cm X.K S H y e->RelV x v->RelV y u->CY n d e=.ok r->EqAt A.in1 s v u r:=
   fun x y v u d e r a1 a2 a3 a4 a5=>(gB I n A.in1 x y v u d e r a1 a2 a3 a4 a5 Nd).eq
  cases d with
  | CD=>
   cases hx.Ew;cases rx
   cases e with
   | CD=>cases hy.Ew;cases ry;cases h;exact⟨.same _,.none_none,.none_none⟩
   | bl b'=>cases hy.HG;cases ry;cases h;exact⟨.none_bool _,.none_bool _,.none_bool _⟩
   | int i'=>cases hy.CG;obtain⟨t2,rfl⟩:=ry;cases h;exact⟨.none_int _ _,.none_int _ _,.none_int _ _⟩
   | str z'=>cases hy.CW;obtain⟨t2,rfl⟩:=ry;cases h;exact⟨.none_str _ _,.none_str _ _,.none_str _ _⟩
   | tup es=>obtain⟨a2,GW,rfl,q2,m2⟩:=hy.Dg;cases ry;obtain⟨Dx,Fg,p2,_⟩:=I.tuple q2;cases h;exact⟨.none_tuple p2 CQ,.none_tuple p2 CQ,.none_tuple p2 CQ⟩
   | lst o' es=>obtain⟨a2,GW,rfl,q2,m2⟩:=hy.C5;cases ry;obtain⟨Dx,Fg,p2,_⟩:=I.list q2;cases h;exact⟨.none_list p2.isList CQ,.none_list p2.isList CQ,.none_list p2.isList CQ⟩
   | exc _=>cases h
   | Cu _ _ _=>cases h
  | bl b=>
   cases hx.HG;cases rx
   cases e with
   | CD=>cases hy.Ew;cases ry;cases h;exact⟨.bool_none _,.bool_none _,.bool_none _⟩
   | bl b'=>cases hy.HG;cases ry;cases h;exact⟨.bool_bool _ _,.bool_bool _ _,.bool_bool _ _⟩
   | int i'=>cases hy.CG;obtain⟨t2,rfl⟩:=ry;cases h;exact⟨.bool_int _ _ _,.bool_int _ _ _,.bool_int _ _ _⟩
   | str z'=>cases hy.CW;obtain⟨t2,rfl⟩:=ry;cases h;exact⟨.bool_str _ _ _,.bool_str _ _ _,.bool_str _ _ _⟩
   | tup es=>obtain⟨a2,GW,rfl,q2,m2⟩:=hy.Dg;cases ry;obtain⟨Dx,Fg,p2,_⟩:=I.tuple q2;cases h;exact⟨.bool_tuple _ p2 CQ,.bool_tuple _ p2 CQ,.bool_tuple _ p2 CQ⟩
   | lst o' es=>obtain⟨a2,GW,rfl,q2,m2⟩:=hy.C5;cases ry;obtain⟨Dx,Fg,p2,_⟩:=I.list q2;cases h;exact⟨.bool_list _ p2.isList CQ,.bool_list _ p2.isList CQ,.bool_list _ p2.isList CQ⟩
   | exc _=>cases h
   | Cu _ _ _=>cases h
  | int i=>
   cases hx.CG;obtain⟨t1,rfl⟩:=rx
   cases e with
   | CD=>cases hy.Ew;cases ry;cases h;exact⟨.int_none _ _,.int_none _ _,.int_none _ _⟩
   | bl b'=>cases hy.HG;cases ry;cases h;exact⟨.int_bool _ _ _,.int_bool _ _ _,.int_bool _ _ _⟩
   | int i'=>cases hy.CG;obtain⟨t2,rfl⟩:=ry;cases h;exact⟨.int_int _ _ _ _,.int_int _ _ _ _,.int_int _ _ _ _⟩
   | str z'=>cases hy.CW;obtain⟨t2,rfl⟩:=ry;cases h;exact⟨.int_str _ _ _ _,.int_str _ _ _ _,.int_str _ _ _ _⟩
   | tup es=>obtain⟨a2,GW,rfl,q2,m2⟩:=hy.Dg;cases ry;obtain⟨Dx,Fg,p2,_⟩:=I.tuple q2;cases h;exact⟨.int_tuple _ _ p2 CQ,.int_tuple _ _ p2 CQ,.int_tuple _ _ p2 CQ⟩
   | lst o' es=>obtain⟨a2,GW,rfl,q2,m2⟩:=hy.C5;cases ry;obtain⟨Dx,Fg,p2,_⟩:=I.list q2;cases h;exact⟨.int_list _ _ p2.isList CQ,.int_list _ _ p2.isList CQ,.int_list _ _ p2.isList CQ⟩
   | exc _=>cases h
   | Cu _ _ _=>cases h
  | str z=>
   cases hx.CW;obtain⟨t1,rfl⟩:=rx
   cases e with
   | CD=>cases hy.Ew;cases ry;cases h;exact⟨.str_none _ _,.str_none _ _,.str_none _ _⟩
   | bl b'=>cases hy.HG;cases ry;cases h;exact⟨.str_bool _ _ _,.str_bool _ _ _,.str_bool _ _ _⟩
   | int i'=>cases hy.CG;obtain⟨t2,rfl⟩:=ry;cases h;exact⟨.str_int _ _ _ _,.str_int _ _ _ _,.str_int _ _ _ _⟩
   | str z'=>cases hy.CW;obtain⟨t2,rfl⟩:=ry;cases h;exact⟨.str_str _ _ _ _,.str_str _ _ _ _,.str_str _ _ _ _⟩
   | tup es=>obtain⟨a2,GW,rfl,q2,m2⟩:=hy.Dg;cases ry;obtain⟨Dx,Fg,p2,_⟩:=I.tuple q2;cases h;exact⟨.str_tuple _ _ p2 CQ,.str_tuple _ _ p2 CQ,.str_tuple _ _ p2 CQ⟩
   | lst o' es=>obtain⟨a2,GW,rfl,q2,m2⟩:=hy.C5;cases ry;obtain⟨Dx,Fg,p2,_⟩:=I.list q2;cases h;exact⟨.str_list _ _ p2.isList CQ,.str_list _ _ p2.isList CQ,.str_list _ _ p2.isList CQ⟩
   | exc _=>cases h
   | Cu _ _ _=>cases h
  | tup ds=>
   obtain⟨a1,RB,rfl,q1,m1⟩:=hx.Dg;cases rx;obtain⟨HE,HF,p1,_⟩:=I.tuple q1
   cases e with
   | CD=>cases hy.Ew;cases ry;cases h;exact⟨.tuple_none p1 CQ,.tuple_none p1 CQ,.tuple_none p1 CQ⟩
   | bl b'=>cases hy.HG;cases ry;cases h;exact⟨.tuple_bool _ p1 CQ,.tuple_bool _ p1 CQ,.tuple_bool _ p1 CQ⟩
   | int i'=>cases hy.CG;obtain⟨t2,rfl⟩:=ry;cases h;exact⟨.tuple_int _ _ p1 CQ,.tuple_int _ _ p1 CQ,.tuple_int _ _ p1 CQ⟩
   | str z'=>cases hy.CW;obtain⟨t2,rfl⟩:=ry;cases h;exact⟨.tuple_str _ _ p1 CQ,.tuple_str _ _ p1 CQ,.tuple_str _ _ p1 CQ⟩
   | tup es=>
    have DP:=hx
    have Hb:=hy
    obtain⟨a2,GW,rfl,q2,m2⟩:=hy.Dg;cases ry;obtain⟨Dx,Fg,p2,_⟩:=I.tuple q2
    have hr:bD (CY n) ds es=.ok r:=h
    obtain⟨e,he,Ke⟩:=iH n A ih HF Fg m1 m2 hr
    refine⟨?_,?_,?_⟩
    ·by_cases Gh:a1=a2
     ·subst Gh
      have hd:=Cm.one I DP Hb
      rw[er,er] at hd
      injection hd with hd
      rw[bZ (dh n) hr hd]
      exact .same _
     ·rw[Ke]
      exact .of_refs Gh (.tuples p1 p2 CQ he)
    ·rw[Ke]
     exact .tuples p1 p2 CQ he
    ·rw[Ke]
     exact .tuples p1 p2 CQ he
   | lst o' es=>obtain⟨a2,GW,rfl,q2,m2⟩:=hy.C5;cases ry;obtain⟨Dx,Fg,p2,_⟩:=I.list q2;cases h;exact⟨.tuple_list p1 p2.isList CQ,.tuple_list p1 p2.isList CQ,.tuple_list p1 p2.isList CQ⟩
   | exc _=>cases h
   | Cu _ _ _=>cases h
  | lst o ds=>
   obtain⟨a1,RB,rfl,q1,m1⟩:=hx.C5;cases rx;obtain⟨HE,HF,p1,_⟩:=I.list q1
   cases e with
   | CD=>cases hy.Ew;cases ry;cases h;exact⟨.list_none p1.isList CQ,.list_none p1.isList CQ,.list_none p1.isList CQ⟩
   | bl b'=>cases hy.HG;cases ry;cases h;exact⟨.list_bool _ p1.isList CQ,.list_bool _ p1.isList CQ,.list_bool _ p1.isList CQ⟩
   | int i'=>cases hy.CG;obtain⟨t2,rfl⟩:=ry;cases h;exact⟨.list_int _ _ p1.isList CQ,.list_int _ _ p1.isList CQ,.list_int _ _ p1.isList CQ⟩
   | str z'=>cases hy.CW;obtain⟨t2,rfl⟩:=ry;cases h;exact⟨.list_str _ _ p1.isList CQ,.list_str _ _ p1.isList CQ,.list_str _ _ p1.isList CQ⟩
   | tup es=>obtain⟨a2,GW,rfl,q2,m2⟩:=hy.Dg;cases ry;obtain⟨Dx,Fg,p2,_⟩:=I.tuple q2;cases h;exact⟨.list_tuple p1.isList p2 CQ,.list_tuple p1.isList p2 CQ,.list_tuple p1.isList p2 CQ⟩
   | lst o' es=>
    have DP:=hx
    have Hb:=hy
    obtain⟨a2,GW,rfl,q2,m2⟩:=hy.C5;cases ry;obtain⟨Dx,Fg,p2,_⟩:=I.list q2
    exact nE I n A ih q1 q2 m1 m2 DP Hb h CQ
   | exc _=>cases h
   | Cu _ _ _=>cases h
  | exc _=>cases h
  | Cu _ _ _=>cases e<;>cases h
end
abbrev nw (S:Addr->Prop)(H:Hp):Addr->Prop:=fun a=>S a∨H a=none
abbrev Kk (K:PySem.W.Frag)(S:Addr->Prop)(H:Hp)(Q:VK):D->Prop:=fun d=>∀ w H',aq H H'->Cm K (nw S H) H' w d->Q w H'
theorem Cm.nw {K:PySem.W.Frag}{S:Addr->Prop}{H:Hp}{v:V}{d:D}(h:Cm K S H v d):Cm K (nw S H) H v d:=h.mono (fun _=>.inl) (.refl _)
theorem BX {K:PySem.W.Frag}{S:Addr->Prop}{H:Hp}{p:Addr}{vs:List V}{ds:List D}(hp:H p=none)(h:Cj K S H vs ds):Cm K (nw S H) (upd H p (.tup vs)) (.ref p) (.tup ds):=
 .tup (.inl (.inl ar)) (h.mono (fun _=>.inl) (.upd hp))
theorem iI {K:PySem.W.Frag}{S:Addr->Prop}{H:Hp}{p:Addr}{vs:List V}{ds:List D}{o:Bool}(hp:H p=none)(h:Cj K S H vs ds):Cm K (nw S H) (upd H p (.lst vs)) (.ref p) (.lst o ds):=
 .lst (.inr hp) (.inl ar) (h.mono (fun _=>.inl) (.upd hp))
noncomputable def HM:GQ->Operator
 | .add=>.Add|.sub=>.Sub|.mul=>.Mult|.fdiv=>.FloorDiv|.mod=>.Mod|.pow=>.Pow
noncomputable def Jq:Gy->CmpOp
 | .eq=>.Eq|.ne=>.NotEq|.lt=>.Lt|.le=>.LtE|.gt=>.Gt|.ge=>.GtE|.Me=>.In|.Ld=>.NotIn|.Im=>.Is|.OZ=>.IsNot
noncomputable def BY (K:PySem.W.Frag)(ex:Str->Prop)(op:GQ):R2:=fun x y H Q=>∃ S d e,Cm K S H x d/\Cm K S H y e/\Ck ex (D6 op d e) (Kk K S H Q)
noncomputable def BZ (K:PySem.W.Frag)(ex:Str->Prop)(op:Gy):R2:=fun x y H Q=>∃ S d e,Cm K S H x d/\Cm K S H y e/\Ck ex (FG op d e) fun r=>Q (.bl r) H
section
variable {X:Cx}{ex:Str->Prop}
theorem aT {n:Nat}(h:a8 n=true):n<=sizeLine:=of_decide_eq_true h
theorem gC {n:Nat}(h:cF n=true):n < sizeLine:=of_decide_eq_true h
theorem jY:Fb X (binaryOp .Add) (fun x y H Q=>∃ l b xs zs,x=.ref l/\y=.ref b/\Ls X.K H l xs/\Ls X.K H b zs/\xs.length+zs.length<=sizeLine/\∀ p,H p=none->Q (.ref p) (upd H p (.lst (xs++zs)))):=by
 intro pins s σ H x y v u Q I rx ry h
 obtain⟨l,b,xs,zs,rfl,rfl,hH,hB,hz,q⟩:=h
 cases rx
 cases ry
 obtain⟨hl,its,n,r,e⟩:=I.ls hH
 obtain⟨GO,Dx,n2,r2,e'⟩:=I.ls hB
 have e1:=r.length
 have e2:=r2.length
 refine PySem.P.add_list e e' ?_ (by rw[List.size_toArray,List.size_toArray];omega)
 have ea:its.toArray++Dx.toArray=(its++Dx).toArray:=by simp
 rw[ea]
 exact⟨.ref _,_,I.IZ (t':=s.toks) (r.append r2) (by rw[List.length_append];omega),rfl,q _ I.fresh⟩
theorem nG {vs:List V}{its:List Value}(r:Vals vs its):∀ k:Nat,Vals (List.replicate k vs).flatten (List.replicate k its).flatten:=r.rep
theorem jZ:Fb X (binaryOp .Mult) (fun x y H Q=>∃ l k xs,x=.ref l/\y=.int k/\Ls X.K H l xs/\0<=k/\k<=16000/\xs.length<=1000/\∀ p,H p=none->Q (.ref p) (upd H p (.lst (List.replicate k.toNat xs).flatten))):=by
 intro pins s σ H x y v u Q I rx ry h
 obtain⟨l,k,xs,rfl,rfl,hH,h1,h2,hx,q⟩:=h
 cases rx
 obtain⟨t,rfl⟩:=ry
 obtain⟨hl,its,n,r,e⟩:=I.ls hH
 have el:=r.length
 have hz:xs.length*k.toNat<=1000*16000:=Nat.mul_le_mul hx (by omega)
 have big:1000*16000<=sizeLine:=by decide
 have hsz:its.toArray.size*k.toNat<=sizeLine:=by rw[List.size_toArray,<- el];omega
 have c1:¬ its.toArray.size*k.toNat > (2 ^ 63 - 1) / 8:=by
  have:(sizeLine:Nat)<=(2 ^ 63 - 1) / 8:=by decide
  omega
 have c2:¬ (!Builtin.List.listFitsIndex k)=true:=by
  rw[fitsIndex_both (by omega) (by omega)]
  exact Bool.false_ne_true
 have c3:¬ Builtin.List.listTooLong (its.toArray.size*k.toNat)=true:=by
  rw[mY hsz]
  exact Bool.false_ne_true
 have f0:∀ m:Nat,List.foldl (fun a b=>a++b) #[] (List.replicate m its.toArray)=(List.replicate m its).flatten.toArray:=fun m=>by
  have z:=foldl_rep its m []
  rw[List.nil_append] at z
  exact z
 have f1:List.foldl (fun a b=>a++b) #[] (List.replicate (if its.toArray.isEmpty=true then 0 else k.toNat) its.toArray)=(List.replicate k.toNat its).flatten.toArray:=by
  rw[f0]
  cases its with
  | nil=>simp
  | cons _ _=>rw[if_neg (by simp)]
 refine wpAny_binaryOp_repeat_ref (T:="list") (U:="int") (by decide) ⟨_,e,rfl⟩ (fun s'=>typeIs_int s' k t) noFill_list_mul F.fills_int_mul F.slot_int_rmul repeat_list F.slot_int_index.lookup (call_meets F.slot_int_rmul (typeIs_int s k t) F.entry_int_rmul (F.args_int_rmul_2 _ _) (int___rmul___int_list k t l its.toArray n) ⟨e,rfl,⟨_,e,rfl⟩,call_meets F.slot_list_mul ⟨_,e,rfl⟩ F.entry_list_mul (F.args_list_mul_2 _ _) (AutoListH.list___mul___list_int_3 l its.toArray n k t c2 c1 c3) ⟨e,?_⟩⟩)
 rw[f1]
 exact⟨.ref _,_,I.IZ (t':=s.toks) (nG r k.toNat) (by rw[len_rep,Nat.mul_comm];omega),rfl,q _ I.fresh⟩
theorem Cj.rep {K:PySem.W.Frag}{S:Addr->Prop}{H:Hp}{vs:List V}{ds:List D}(m:Cj K S H vs ds):∀ k:Nat,Cj K S H (List.replicate k vs).flatten (List.replicate k ds).flatten
 | 0=>.nil
 | k+1=>by
  rw[List.replicate_succ,List.replicate_succ,List.flatten_cons,List.flatten_cons]
  exact m.append (Cj.rep m k)
theorem wM (op:GQ):Fb X (binaryOp (HM op)) (BY X.K ex op):=by
 intro pins s σ H x y v u Q I rx ry h
 obtain⟨S,d,e,hx,hy,h⟩:=h
 have stuck:∀ {P:Prop},D6 op d e=Cq->P:=fun z=>by rw[z] at h;exact h.no.elim
 cases op with
 | add=>
  cases d with
  | int a=>
   cases e with
   | int b=>cases hx.CG;cases hy.CG;exact we pins s σ H _ _ v u Q I rx ry ⟨a,b,rfl,rfl,h.ok _ _ (.refl _) (.int _)⟩
   | _=>exact stuck rfl
  | str a=>
   cases e with
   | str b=>
    cases hx.CW;cases hy.CW
    obtain⟨g,h⟩:=Ck.Co h
    exact jn pins s σ H _ _ v u Q I rx ry ⟨a,b,rfl,rfl,aT g,h.ok _ _ (.refl _) (.str _)⟩
   | _=>exact stuck rfl
  | lst o a=>
   cases e with
   | lst o' b=>
    obtain⟨p,xs,rfl,q1,m1⟩:=hx.Gn
    obtain⟨p',ys,rfl,q2,m2⟩:=hy.Gn
    obtain⟨g,h⟩:=Ck.Co h
    have g':=aT g
    have l1:=m1.length
    have l2:=m2.length
    exact jY pins s σ H _ _ v u Q I rx ry ⟨p,p',xs,ys,rfl,rfl,q1,q2,by omega,fun z hz=>h.ok _ _ (.upd hz) (iI hz (m1.append m2))⟩
   | _=>exact stuck rfl
  | _=>exact stuck rfl
 | sub=>
  cases d with
  | int a=>
   cases e with
   | int b=>cases hx.CG;cases hy.CG;exact wg pins s σ H _ _ v u Q I rx ry ⟨a,b,rfl,rfl,h.ok _ _ (.refl _) (.int _)⟩
   | _=>exact stuck rfl
  | _=>exact stuck rfl
 | mul=>
  cases d with
  | int a=>
   cases e with
   | int b=>
    cases hx.CG;cases hy.CG
    obtain⟨g,h⟩:=Ck.Co h
    rw[Bool.or_eq_true] at g
    exact wj pins s σ H _ _ v u Q I rx ry ⟨a,b,rfl,rfl,g.elim (fun z=>.inl (of_decide_eq_true z)) (fun z=>.inr (of_decide_eq_true z)),h.ok _ _ (.refl _) (.int _)⟩
   | _=>exact stuck rfl
  | str a=>
   cases e with
   | int b=>
    cases hx.CW;cases hy.CG
    obtain⟨g,h⟩:=Ck.Co h
    have g':=of_decide_eq_true g
    exact jr pins s σ H _ _ v u Q I rx ry ⟨a,b,rfl,rfl,g'.1,g'.2.1,g'.2.2,h.ok _ _ (.refl _) (.str _)⟩
   | _=>exact stuck rfl
  | lst o a=>
   cases e with
   | int b=>
    obtain⟨p,xs,rfl,q1,m1⟩:=hx.Gn
    cases hy.CG
    obtain⟨g,h⟩:=Ck.Co h
    have g':=of_decide_eq_true g
    have l1:=m1.length
    exact jZ pins s σ H _ _ v u Q I rx ry ⟨p,b,xs,rfl,rfl,q1,g'.1,g'.2.1,by rw[l1];exact g'.2.2,fun z hz=>h.ok _ _ (.upd hz) (iI hz (m1.rep _))⟩
   | _=>exact stuck rfl
  | _=>exact stuck rfl
 | fdiv=>
  cases d with
  | int a=>
   cases e with
   | int b=>
    cases hx.CG;cases hy.CG
    obtain⟨g,h⟩:=Ck.Co h
    exact rp pins s σ H _ _ v u Q I rx ry ⟨a,b,rfl,rfl,show 0 < b/\b < 1073741824 from of_decide_eq_true g,h.ok _ _ (.refl _) (.int _)⟩
   | _=>exact stuck rfl
  | _=>exact stuck rfl
 | mod=>
  cases d with
  | int a=>
   cases e with
   | int b=>
    cases hx.CG;cases hy.CG
    obtain⟨g,h⟩:=Ck.Co h
    exact wk pins s σ H _ _ v u Q I rx ry ⟨a,b,rfl,rfl,of_decide_eq_true g,h.ok _ _ (.refl _) (.int _)⟩
   | _=>exact stuck rfl
  | _=>exact stuck rfl
 | pow=>
  cases d with
  | int a=>
   cases e with
   | int b=>
    cases hx.CG;cases hy.CG
    obtain⟨g,h⟩:=Ck.Co h
    exact wm pins s σ H _ _ v u Q I rx ry ⟨a,b,rfl,rfl,show 0<=b/\b<=1000000/\a.natAbs < 2 ^ 64 from of_decide_eq_true g,h.ok _ _ (.refl _) (.int _)⟩
   | _=>exact stuck rfl
  | _=>exact stuck rfl
theorem Ck.CY {ex:Str->Prop}:∀ {n:Nat}{d e:D}{k:Bool->Prop},Ck ex (L2.CY n d e) k->∃ r,L2.CY n d e=.ok r/\k r:=by
 have no:∀ (n:Nat) (d e:D) (c:Str),L2.CY n d e≠.error (.exc c):=by
  intro n
  have Nl:∀ (f:D->D->Res Bool),(∀ d e c,f d e≠.error (.exc c))->∀ (ds es:List D) (c:Str),bD f ds es≠.error (.exc c):=by
   intro f hf ds
   induction ds with
   | nil=>intro es c h;cases es<;>cases h
   | cons a ds ih=>
    intro es c h
    cases es with
    | nil=>cases h
    | cons b es=>
     have h':L2.Ci (f a b) (fun x=>L2.Ci (bD f ds es) fun y=>.ok (x&&y))=.error (.exc c):=h
     cases q:f a b with
     | error z=>rw[q] at h';exact hf a b c (by rw[q];exact h')
     | ok x=>
      rw[q] at h'
      have h2:L2.Ci (bD f ds es) (fun y=>.ok (x&&y))=.error (.exc c):=h'
      cases q2:bD f ds es with
      | error z=>rw[q2] at h2;exact ih es c (by rw[q2];exact h2)
      | ok y=>rw[q2] at h2;cases h2
  induction n with
  | zero=>intro d e c h;cases h
  | succ n ih=>
   intro d e c h
   cases d<;>cases e<;>first|cases h|exact Nl _ ih _ _ _ h
 intro n d e k h
 cases q:L2.CY n d e with
 | ok r=>rw[q] at h;exact⟨r,rfl,h⟩
 | error z=>
  rw[q] at h
  cases z with
  | stuck=>exact h.no.elim
  | exc c=>exact absurd q (no n d e c)
theorem Ck.Eb {ex:Str->Prop}{d:D}:∀ {ds:List D}{k:Bool->Prop},Ck ex (L2.Eb d ds) k->∃ f:Nat->Bool,(∀ i e,ds[i]? = some e->L2.CY 40 e d=.ok (f i))/\k ((List.range ds.length).any f)
 | [],k,h=>⟨fun _=>false,fun i e z=>by simp at z,h⟩
 | e::r,k,h=>by
  obtain⟨x,Od,h1⟩:=Ck.CY (Ck.Ci h)
  obtain⟨f,h2,h3⟩:=Ck.Eb (Ck.Ci h1)
  refine⟨fun i=>match i with|0=>x|j+1=>f j,fun i e' z=>?_,?_⟩
  ·cases i with
   | zero=>simp at z;subst z;exact Od
   | succ j=>exact h2 j e' (by simpa using z)
  ·rw[List.length_cons,List.range_succ_eq_map,List.any_cons,List.any_map]
   exact h3
theorem jy {A:Around}{s:Shared}{v:Value}(its:List Value)(f:Nat->Bool)(h:∀ i u,its[i]? = some u->EqAt A s u v (f i)) :
  ∃ e:Value->Bool,(∀ y,y∈its.toArray->EqAt A s y v (e y))/\its.toArray.any e=(List.range its.length).any f:=by
 classical
 refine⟨fun y=>decide (∃ i,its[i]? = some y/\f i=true),fun y hy=>?_,?_⟩
 ·have Hb:y∈its:=by simpa using hy
  obtain⟨j,hj⟩:=List.getElem?_of_mem Hb
  show EqAt A s y v (decide (∃ i,its[i]? = some y/\f i=true))
  by_cases q:∃ i,its[i]? = some y/\f i=true
  ·rw[decide_eq_true q]
   obtain⟨i,hi,fi⟩:=q
   have:=h i y hi
   rw[fi] at this
   exact this
  ·rw[decide_eq_false q]
   have:=h j y hj
   have fj:f j=false:=by
    cases z:f j with
    | false=>rfl
    | true=>exact absurd ⟨j,hj,z⟩ q
   rw[fj] at this
   exact this
 ·rw[Bool.eq_iff_iff]
  simp only[List.any_toArray,List.any_eq_true,List.mem_range,decide_eq_true_eq]
  constructor
  ·rintro ⟨y,hy,i,hi,fi⟩
   exact⟨i,(List.getElem?_eq_some_iff.mp hi).1,fi⟩
  ·rintro ⟨i,hi,fi⟩
   exact⟨its[i],List.getElem_mem hi,i,by simp[hi],fi⟩
theorem cL (hu:X.A.units+42 < cLine){pins:List (Addr×Obj)}{s:Shared}{σ:St}{H:Hp}{S:Addr->Prop}{x:V}{v:Value}{d:D}{k:Bool->Prop}(I:Inv X pins σ H s)(rx:RelV x v)(hx:Cm X.K S H x d)
  {xs:List V}{its:List Value}{ds:List D} (rv:Vals xs its) (m:Cj X.K S H xs ds) (h:Ck ex (Eb d ds) k) :
  ∃ e:Value->Bool,(∀ y,y∈its.toArray->EqAt X.A.in1 s y v (e y))/\k (its.toArray.any e):=by
 obtain⟨f,h1,h2⟩:=Ck.Eb h
 have l1:=rv.length
 have l2:=m.length
 obtain⟨e,h3,h4⟩:=jy (A:=X.A.in1) (s:=s) (v:=v) its f fun i u hi=>by
  have Dk:i < its.length:=(List.getElem?_eq_some_iff.mp hi).1
  obtain⟨y,hy,my⟩:=m.get (i:=i) (d:=ds[i]'(by omega)) (by simp)
  obtain⟨u',Mi,ru⟩:=rv.get hy
  rw[hi] at Mi;cases Mi
  exact(gB I 40 X.A.in1 y x u v _ d _ my hx ru rx (h1 i _ (by simp)) (by show X.A.units+1+40 < cLine;omega)).eq
 refine⟨e,h3,?_⟩
 rw[h4,show its.length=ds.length by omega]
 exact h2
theorem nH (hu:X.A.units+42 < cLine)(op:Gy):Fb X (compareOp (Jq op)) (BZ X.K ex op):=by
 intro pins s σ H x y v u Q I rx ry h
 obtain⟨S,d,e,hx,hy,h⟩:=h
 have stuck:∀ {P:Prop},FG op d e=Cq->P:=fun z=>by rw[z] at h;exact h.no.elim
 have fin:∀ {b:Bool},Q (.bl b) H->EP X pins σ Q (.bool b) s:=fun q=>⟨.bl _,H,I,rfl,q⟩
 cases op with
 | eq=>
  obtain⟨r,h1,h2⟩:=Ck.CY h
  exact(gB I 40 X.A x y v u d e r hx hy rx ry h1 (by omega)).rc _ _ _ _ (fin h2)
 | ne=>
  obtain⟨r,h1,h2⟩:=Ck.CY (Ck.Ci h)
  exact(gB I 40 X.A x y v u d e r hx hy rx ry h1 (by omega)).ne _ _ _ _ (fin h2.ok)
 | lt=>
  cases d with
  | int a=>
   cases e with
   | int b=>cases hx.CG;cases hy.CG;obtain⟨t,rfl⟩:=rx;obtain⟨t',rfl⟩:=ry;exact lt_int (fin h.ok)
   | _=>exact stuck rfl
  | _=>exact stuck rfl
 | le=>
  cases d with
  | int a=>
   cases e with
   | int b=>cases hx.CG;cases hy.CG;obtain⟨t,rfl⟩:=rx;obtain⟨t',rfl⟩:=ry;exact le_int (fin h.ok)
   | _=>exact stuck rfl
  | _=>exact stuck rfl
 | gt=>
  cases d with
  | int a=>
   cases e with
   | int b=>cases hx.CG;cases hy.CG;obtain⟨t,rfl⟩:=rx;obtain⟨t',rfl⟩:=ry;exact gt_int (fin h.ok)
   | _=>exact stuck rfl
  | _=>exact stuck rfl
 | ge=>cases d<;>cases e<;>exact stuck rfl
 | Me=>
  cases e with
  | str b=>cases d<;>exact stuck rfl
  | lst o ds=>
   obtain⟨a,xs,rfl,q1,m1⟩:=hy.C5
   cases ry
   obtain⟨its,rv,pl,_⟩:=I.list q1
   obtain⟨e,h1,h2⟩:=cL (ex:=ex) hu I rx hx rv m1 (by cases d<;>exact h)
   exact in_listAt e pl.isList h1 (fin h2)
  | tup ds=>
   obtain⟨a,xs,rfl,q1,m1⟩:=hy.Dg
   cases ry
   obtain⟨its,rv,pl,_⟩:=I.tuple q1
   obtain⟨e,h1,h2⟩:=cL (ex:=ex) hu I rx hx rv m1 (by cases d<;>exact h)
   exact in_tupleAt e pl h1 (fin h2)
  | CD=>cases d<;>exact stuck rfl
  | bl _=>cases d<;>exact stuck rfl
  | int _=>cases d<;>exact stuck rfl
  | exc _=>cases d<;>exact stuck rfl
  | Cu _ _ _=>cases d<;>exact stuck rfl
 | Ld=>
  cases e with
  | str b=>
   cases d with
   | str a=>cases hx.CW;cases hy.CW;obtain⟨t,rfl⟩:=rx;obtain⟨t',rfl⟩:=ry;exact notIn_str (fin h.ok)
   | _=>exact stuck rfl
  | lst o ds=>
   obtain⟨a,xs,rfl,q1,m1⟩:=hy.C5
   cases ry
   obtain⟨its,rv,pl,_⟩:=I.list q1
   obtain⟨e,h1,h2⟩:=cL (ex:=ex) (k:=fun r=>Q (.bl !r) H) hu I rx hx rv m1 ((Ck.Ci (show Ck ex (Ci (Eb d ds) fun r=>.ok !r) (fun r=>Q (.bl r) H) by cases d<;>exact h)).mono fun _ z=>z)
   exact notIn_listAt e pl.isList h1 (fin h2)
  | tup ds=>
   obtain⟨a,xs,rfl,q1,m1⟩:=hy.Dg
   cases ry
   obtain⟨its,rv,pl,_⟩:=I.tuple q1
   obtain⟨e,h1,h2⟩:=cL (ex:=ex) (k:=fun r=>Q (.bl !r) H) hu I rx hx rv m1 ((Ck.Ci (show Ck ex (Ci (Eb d ds) fun r=>.ok !r) (fun r=>Q (.bl r) H) by cases d<;>exact h)).mono fun _ z=>z)
   exact notIn_tupleAt e pl h1 (fin h2)
  | CD=>cases d<;>exact stuck rfl
  | bl _=>cases d<;>exact stuck rfl
  | int _=>cases d<;>exact stuck rfl
  | exc _=>cases d<;>exact stuck rfl
  | Cu _ _ _=>cases d<;>exact stuck rfl
 | Im=>
  cases e with
  | CD=>
   cases hy.Ew;cases ry
   have ev:fQ d=(v == Value.none):=by
    cases hx with
    | CD=>cases rx;rfl
    | bl b=>cases rx;rfl
    | int i=>obtain⟨t,rfl⟩:=rx;rfl
    | str z=>obtain⟨t,rfl⟩:=rx;rfl
    | tup _ _=>cases rx;rfl
    | lst _ _ _=>cases rx;rfl
    | lstK _ _=>cases rx;rfl
    | exc _=>cases rx;rfl
    | Cu _ _ _ _=>cases rx;rfl
   have h':Q (.bl (fQ d)) H:=by cases d<;>exact h
   rw[ev] at h'
   exact is_none_gen (fin h')
  | _=>cases d<;>exact stuck rfl
 | OZ=>cases d<;>cases e<;>exact stuck rfl
theorem dZ {pins:List (Addr×Obj)}{s:Shared}{σ:St}{H:Hp}{S:Addr->Prop}{x:V}{v:Value}{d:D}{Q:Bool->Hp->Prop}(I:Inv X pins σ H s)(rx:RelV x v)(hx:Cm X.K S H x d)(h:Ck ex (aR d) fun b=>Q b H) :
  wpAny (model X.prog X.w) X.A (truthy v) (TP X pins σ Q) X.xe s:=by
 refine wq pins s σ H x v Q I rx ?_
 cases d with
 | exc c=>exact h.no.elim
 | Cu _ _ _=>exact h.no.elim
 | CD=>cases hx.Ew;exact⟨false,rfl,h⟩
 | bl b=>cases hx.HG;exact⟨b,rfl,h⟩
 | int i=>cases hx.CG;exact⟨_,rfl,h⟩
 | str z=>
  cases hx.CW
  obtain⟨g,h⟩:=Ck.Co h
  exact⟨_,⟨aT g,rfl⟩,h⟩
 | tup ds=>
  obtain⟨a,xs,rfl,q,m⟩:=hx.Dg
  refine⟨!ds.isEmpty,.inr (.inl ⟨xs,q,?_⟩),h⟩
  have:=m.length
  cases xs<;>cases ds<;>simp_all
 | lst o ds=>
  obtain⟨a,xs,rfl,q,m⟩:=hx.C5
  refine⟨!ds.isEmpty,.inl ⟨xs,q,?_⟩,h⟩
  have:=m.length
  cases xs<;>cases ds<;>simp_all
theorem j0 {K:PySem.W.Frag}{S:Addr->Prop}{H:Hp}{vs:List V}{ds:List D}{i:Int}{d:D}(m:Cj K S H vs ds)(h:DW ds i=some d):∃ v,DW vs i=some v/\Cm K S H v d:=by
 unfold DW at h ⊢
 rw[m.length]
 cases q:E4 ds.length i with
 | none=>rw[q] at h;cases h
 | some j=>rw[q] at h;exact m.get h
noncomputable def B1 (K:PySem.W.Frag)(ex:Str->Prop):R2:=fun x y H Q=>∃ S d e,Cm K S H x d/\Cm K S H y e/\Ck ex (bg d e) (Kk K S H Q)
theorem r9:G7 X (B1 X.K ex):=by
 intro value slice pins s σ H x y v u Q I rx ry h hs
 obtain⟨S,d,e,hx,hy,h⟩:=h
 refine wx value slice pins s σ H x y v u Q I rx ry ?_ hs
 have stuck:∀ {P:Prop},bg d e=Cq->P:=fun z=>by rw[z] at h;exact h.no.elim
 cases e with
 | int i=>
  cases hy.CG
  cases d with
  | lst o ds=>
   obtain⟨a,xs,rfl,q,m⟩:=hx.C5
   have h':Ck ex (match DW ds i with|some d=>.ok d|none=>Cq) (Kk X.K S H Q):=h
   cases z:DW ds i with
   | none=>rw[z] at h';exact h'.no.elim
   | some d=>
    rw[z] at h'
    obtain⟨w,ew,mw⟩:=j0 m z
    exact .inl ⟨a,xs,i,w,rfl,rfl,q,ew,h'.ok _ _ (.refl _) mw.nw⟩
  | tup ds=>
   obtain⟨a,xs,rfl,q,m⟩:=hx.Dg
   have h':Ck ex (match DW ds i with|some d=>.ok d|none=>Cq) (Kk X.K S H Q):=h
   cases z:DW ds i with
   | none=>rw[z] at h';exact h'.no.elim
   | some d=>
    rw[z] at h'
    obtain⟨w,ew,mw⟩:=j0 m z
    exact .inr (.inl ⟨a,xs,i,w,rfl,rfl,q,ew,h'.ok _ _ (.refl _) mw.nw⟩)
  | str z=>
   cases hx.CW
   obtain⟨g,h⟩:=Ck.Co h
   cases q:DW z.cps.toList i with
   | none=>rw[q] at h;exact h.no.elim
   | some c=>
    rw[q] at h
    exact .inr (.inr ⟨z,i,c,rfl,rfl,aT g,q,h.ok _ _ (.refl _) (.str _)⟩)
  | _=>exact stuck rfl
 | _=>cases d<;>exact stuck rfl
def B2 (K:PySem.W.Frag)(ex:Str->Prop):V->Option Int->Option Int->Hp->VK->Prop:=fun x lo hi H Q=>∃ S d,Cm K S H x d/\Ck ex (fx d lo hi) (Kk K S H Q)
theorem wN:L4 X (fun x lo hi H Q=>∃ z,x=.str z/\z.length<=sizeLine/\Q (.str (Txt.slice z lo hi)) H):=by
 intro pins s σ H x v vl vu lo hi sl Q I rx hs pl pu h
 obtain⟨z,rfl,hz,q⟩:=h
 obtain⟨t,rfl⟩:=rx
 refine⟨"str",_,F.slot_str_getitem.lookup,typeIs_str s z t,?_⟩
 have fin:∀ (l u:Option (Int×Tok)),vl=partValue l->vu=partValue u->l.map (·.1)=lo->u.map (·.1)=hi->wpAny (model X.prog X.w) X.A (getItem (.str z t) (.ref sl)) (EP X pins σ Q) X.xe s:=by
  intro l u e1 e2 e3 e4
  subst e1 e2 e3 e4
  refine wpAny_getItem_str_slice (l:=l) (u:=u) (st:=none) hs rfl ?_
  exact post_val_or_str ⟨Nat.le_trans (Txt.slice_le z _ _) hz,fun t' k=>⟨.str _,H,I.tok _,⟨_,rfl⟩,q⟩⟩
 cases pl with
 | none=>
  cases pu with
  | none=>exact fin none none rfl rfl rfl rfl
  | int j t'=>exact fin none (some (j,t')) rfl rfl rfl rfl
 | int i t'=>
  cases pu with
  | none=>exact fin (some (i,t')) none rfl rfl rfl rfl
  | int j RC=>exact fin (some (i,t')) (some (j,RC)) rfl rfl rfl rfl
end
open PySem.W
section
variable {prog:Program}{w:World}{A:Around}{E:Value->Shared->Prop}{K:Frag}{x C:Addr}{hh:Heap}{g:Array GenState}{d:Drawn}{t:Nat}{os:OsState}
structure ExcAt (K:Frag)(C:Addr):Prop where
 ga:findIn K (.ref C) "__getattribute__" = some (some (.builtin "BaseException.__getattribute__"))
 no:findIn K (.ref C) "__getattr__" = some none
 cl:findIn K (.ref C) "__class__" = some (some (.builtin "object.__class__"))
 be:mroIn K C (.type "BaseException")=some true
 ob:mroIn K C (.type "object")=some true
 is:(clsIn K C).isSome=true
open Builtin Builtin.ObjectAttr Builtin.Getset_descriptor in
end
section
variable {X:Cx}{ex:Str->Prop}
theorem j5 {K:PySem.W.Frag}{S:Addr->Prop}{H:Hp}{vs:List V}{ds:List D}(lo hi:Option Int)(m:Cj K S H vs ds):Cj K S H (lU vs lo hi) (cE ds lo hi):=by
 unfold lU cE
 rw[m.length]
 exact(m.drop _).take _
theorem sa:L4 X (B2 X.K ex):=by
 intro pins s σ H x v vl vu lo hi sl Q I rx hs pl pu h
 obtain⟨S,d,hx,h⟩:=h
 cases d with
 | lst o ds=>
  obtain⟨a,xs,rfl,q,m⟩:=hx.C5
  exact jR pins s σ H _ v vl vu lo hi sl Q I rx hs pl pu ⟨a,xs,rfl,q,fun p hp=>h.ok _ _ (.upd hp) (iI hp (j5 lo hi m))⟩
 | str z=>
  cases hx.CW
  obtain⟨g,h⟩:=Ck.Co h
  exact wN pins s σ H _ v vl vu lo hi sl Q I rx hs pl pu ⟨z,rfl,aT g,h.ok _ _ (.refl _) (.str _)⟩
 | _=>exact h.no.elim
theorem iJ {ns:List Int}{us:List Value}(r:Vals (ns.map V.int) us):IntsAre us ns:=intsAre_of r
theorem iK {ns:List Str}:∀ {us:List Value},Vals (ns.map V.str) us->StrsAre us ns:=by
 induction ns with
 | nil=>intro us r;rw[List.map_nil] at r;cases r;exact .nil
 | cons n ns ih=>
  intro us r
  rw[List.map_cons] at r
  cases r with
  | cons r1 r2=>
   obtain⟨t,e⟩:=r1
   subst e
   exact .cons n t (ih r2)
theorem cX:∀ {ds:List D}{ns:List Int},bc ds=some ns->ds=ns.map .int
 | [],ns,h=>by cases h;rfl
 | .int i::r,ns,h=>by
  have h':(bc r).map (i::·)=some ns:=h
  cases q:bc r with
  | none=>rw[q] at h';cases h'
  | some ms=>
   rw[q] at h'
   cases h'
   rw[cX q]
   rfl
 | .CD::_,_,h=>by cases h
 | .bl _::_,_,h=>by cases h
 | .str _::_,_,h=>by cases h
 | .tup _::_,_,h=>by cases h
 | .lst _ _::_,_,h=>by cases h
theorem cY:∀ {ds:List D}{ns:List Str},bw ds=some ns->ds=ns.map .str
 | [],ns,h=>by cases h;rfl
 | .str i::r,ns,h=>by
  have h':(bw r).map (i::·)=some ns:=h
  cases q:bw r with
  | none=>rw[q] at h';cases h'
  | some ms=>
   rw[q] at h'
   cases h'
   rw[cY q]
   rfl
 | .CD::_,_,h=>by cases h
 | .bl _::_,_,h=>by cases h
 | .int _::_,_,h=>by cases h
 | .tup _::_,_,h=>by cases h
 | .lst _ _::_,_,h=>by cases h
theorem me (hc:X.calm=true):cy X (.builtin "sum") (fun xs H Q=>∃ (p:Addr) (ns:List Int),xs=[.ref p]/\DC X.K H p (ns.map V.int)/\Q (.int ns.sum) H):=by
 intro pins s σ H xs us Q I r h
 obtain⟨p,ns,rfl,hq,q⟩:=h
 obtain⟨u,rfl,rx⟩:=vals1 r
 cases rx
 obtain⟨its,rv,pl,hz⟩:=I.list hq
 have hi:=iJ rv
 refine call_sum_walkG (wpAny_pyIter_list pl.isList ?_)
 have Dk:p < s.heap.objs.size:=by
  obtain⟨o,e,_⟩:=pl.isList
  exact Heap.lt_size e
 refine⟨s.heap.objs.size,_,_,_,_,_,fun i=>ns.getD i 0,rfl,Walks.list (A:=X.A.in1) (show X.A.in1.handled=none from I.ok.hd hc) s.heap.objs.size p (Nat.ne_of_lt Dk) its.toArray,⟨⟨_,Heap.get?_push_size _ rfl,rfl,rfl⟩,?_⟩,?_,?_,?_⟩
 ·obtain⟨o,e,c,n,d⟩:=pl.isList
  exact⟨o,Heap.get?_push_of_some _ e,c,n,d⟩
 ·intro b hb
  have:b=s.heap.objs.size∨b=p:=by simpa using hb
  have hs:(s.heap.push {cls:=.type "list_iterator",data:=.fields #[.ref p,.int 0 0]}).objs.size=s.heap.objs.size+1:=Heap.size_push ..
  show b < (s.heap.push _).objs.size
  rw[Heap.size_push]
  rcases this with rfl|rfl
  ·exact Nat.lt_succ_self _
  ·exact Nat.lt_succ_of_lt Dk
 ·intro i v hv
  have RE:its[i]? = some v:=by simpa using hv
  have key:∀ {us:List Value}{ns:List Int},IntsAre us ns->∀ i v,us[i]? = some v->∃ t,v=Value.int (ns.getD i 0) t:=by
   intro us ns hI
   induction hI with
   | nil=>intro i v z;simp at z
   | cons n t _ ih=>
    intro i v z
    cases i with
    | zero=>simp at z;exact⟨t,by rw[<- z];simp⟩
    | succ j=>simpa using ih j v (by simpa using z)
  exact key hi i v RE
 ·intro h' tk t' kp
  refine⟨.int ns.sum,H,?_,⟨t',?_⟩,q⟩
  ·refine I.kept (t':=tk) fun b o e=>kp b o ?_ (Heap.get?_push_of_some _ e)
   intro hm
   have hb:b=s.heap.objs.size:=by simpa using hm
   subst hb
   exact absurd (Heap.lt_size e) (Nat.lt_irrefl _)
  ·have hl:=rv.length
   rw[List.length_map] at hl
   rw[preSum_getD,show its.toArray.size=ns.length by simp[hl],List.take_length]
noncomputable def cw:Bi->Str
 | .len=>"len" | .sum=>"sum" | .min2=>"min" | .max2=>"max" | .HJ=>"max" | .sorted=>"sorted" | .list=>"list" | .tuple=>"tuple" | .ord=>"ord" | .int=>"int" | .all=>"all" | .any=>"any" | .str=>"str" | .set=>"set" | .abs=>"abs"
noncomputable def y7:Bi->Bool
 | .list=>true|.tuple=>true|.int=>true|.str=>true|.set=>true
 | _=>false
noncomputable def y9:Bi->String
 | .len=>"len" | .sum=>"sum" | .min2=>"min" | .max2=>"max" | .HJ=>"max" | .sorted=>"sorted" | .list=>"list" | .tuple=>"tuple" | .ord=>"ord" | .int=>"int" | .all=>"all" | .any=>"any" | .str=>"str" | .set=>"set" | .abs=>"abs"
noncomputable def nJ (f:Bi):Value:=if y7 f=true then .type (y9 f) else .builtin (y9 f)
theorem j6 (f:Bi):bootBuiltins (cw f)=some (nJ f):=by cases f<;>decide +kernel
def O7 (K:PySem.W.Frag)(ex:Str->Prop)(f:Bi):List V->Hp->VK->Prop:=fun xs H Q=>∃ S ds,Cj K S H xs ds/\Ck ex (cv f ds) (Kk K S H Q)
theorem Cj.Jr {K:PySem.W.Frag}{S:Addr->Prop}{H:Hp}{xs:List V}{d:D}(h:Cj K S H xs [d]):∃ x,xs=[x]/\Cm K S H x d:=by
 cases h with
 | cons h1 h2=>cases h2;exact⟨_,rfl,h1⟩
theorem Cj.Nm {K:PySem.W.Frag}{S:Addr->Prop}{H:Hp}{xs:List V}{d e:D}(h:Cj K S H xs [d,e]):∃ x y,xs=[x,y]/\Cm K S H x d/\Cm K S H y e:=by
 cases h with
 | cons h1 h2=>
  cases h2 with
  | cons h3 h4=>cases h4;exact⟨_,_,rfl,h1,h3⟩
theorem fS {K:PySem.W.Frag}{S:Addr->Prop}{H:Hp}(z:Str):Cj K S H (cU z) (cG z):=by
 unfold cU cG
 induction z.cps.toList with
 | nil=>exact .nil
 | cons c cs ih=>exact .cons (.str _) ih
theorem sd (hc:X.calm=true)(f:Bi):cy X (nJ f) (O7 X.K ex f):=by
 intro pins s σ H xs us Q I r h
 obtain⟨S,ds,hx,h⟩:=h
 have stuck:∀ {P:Prop},cv f ds=Cq->P:=fun z=>by rw[z] at h;exact h.no.elim
 have one:∀ {d e:D}{r':List D},ds=d::e::r'->¬ (f=.min2∨f=.max2)->cv f ds=Cq:=by
  intro d e r' z nf
  subst z
  cases f<;>first|rfl|(exfalso;exact nf (.inl rfl))|(exfalso;exact nf (.inr rfl))|(cases d<;>rfl)
 have two:∀ {d e g:D}{r':List D},ds=d::e::g::r'->cv f ds=Cq:=by
  intro d e g r' z
  subst z
  cases f<;>first|rfl|(cases d<;>rfl)|(cases d<;>cases e<;>rfl)
 have nil:ds=[]->cv f ds=Cq:=by
  intro z
  subst z
  cases f<;>rfl
 match ds,hx with
 | [],hx=>exact stuck (nil rfl)
 | d::e::g::r',hx=>exact stuck (two rfl)
 | [d,e],hx=>
  by_cases nf:f=.min2∨f=.max2
  ·obtain⟨x,y,rfl,hd,he⟩:=hx.Nm
   rcases nf with rfl|rfl
   ·cases d with
    | int a=>
     cases e with
     | int b=>cases hd.CG;cases he.CG;exact lQ hc pins s σ H _ us Q I r ⟨a,b,rfl,h.ok _ _ (.refl _) (.int _)⟩
     | _=>exact stuck rfl
    | _=>exact stuck rfl
   ·cases d with
    | int a=>
     cases e with
     | int b=>cases hd.CG;cases he.CG;exact lP hc pins s σ H _ us Q I r ⟨a,b,rfl,h.ok _ _ (.refl _) (.int _)⟩
     | _=>exact stuck rfl
    | _=>exact stuck rfl
  ·exact stuck (one rfl nf)
 | [d],hx=>
  obtain⟨x,rfl,hd⟩:=hx.Jr
  cases f with
  | len=>
   cases d with
   | str z=>cases hd.CW;obtain⟨g,h⟩:=Ck.Co h;exact Du pins s σ H _ us Q I r ⟨_,_,rfl,⟨aT g,rfl⟩,h.ok _ _ (.refl _) (.int _)⟩
   | tup ds=>
    obtain⟨a,ys,rfl,q,m⟩:=hd.Dg
    exact Du pins s σ H _ us Q I r ⟨_,ds.length,rfl,.inr ⟨ys,q,m.length.symm⟩,h.ok _ _ (.refl _) (.int _)⟩
   | lst o ds=>
    obtain⟨a,ys,rfl,q,m⟩:=hd.C5
    exact Du pins s σ H _ us Q I r ⟨_,ds.length,rfl,.inl ⟨ys,q,m.length.symm⟩,h.ok _ _ (.refl _) (.int _)⟩
   | _=>exact stuck rfl
  | sum=>
   cases d with
   | lst o ds=>
    obtain⟨a,ys,rfl,q,m⟩:=hd.C5
    have h':Ck ex (match bc ds with|some ns=>Co (decide (ns.length<=1000000)) (.ok (.int ns.sum))|none=>Cq) (Kk X.K S H Q):=h
    cases z:bc ds with
    | none=>rw[z] at h';exact h'.no.elim
    | some ns=>
     rw[z] at h'
     obtain⟨_,h'⟩:=Ck.Co h'
     rw[cX z] at m
     rw[m.ints] at q
     exact me hc pins s σ H _ us Q I r ⟨a,ns,rfl,q,h'.ok _ _ (.refl _) (.int _)⟩
   | _=>exact stuck rfl
  | all=>cases d<;>exact stuck rfl
  | any=>cases d<;>exact stuck rfl
  | ord=>cases d<;>exact stuck rfl
  | int=>cases d<;>exact stuck rfl
  | list=>
   cases d with
   | tup ds=>
    obtain⟨a,ys,rfl,q,m⟩:=hd.Dg
    exact cq pins s σ H _ us Q I r ⟨a,ys,rfl,.inr q,fun p hp=>h.ok _ _ (.upd hp) (iI hp m)⟩
   | lst o ds=>
    obtain⟨a,ys,rfl,q,m⟩:=hd.C5
    exact cq pins s σ H _ us Q I r ⟨a,ys,rfl,.inl q,fun p hp=>h.ok _ _ (.upd hp) (iI hp m)⟩
   | str z=>
    cases hd.CW
    obtain⟨g,h⟩:=Ck.Co h
    exact cR hc pins s σ H _ us Q I r ⟨z,rfl,aT g,fun p hp=>h.ok _ _ (.upd hp) (iI hp (fS z))⟩
   | _=>exact stuck rfl
  | abs=>cases d<;>exact stuck rfl
  | min2=>cases d<;>exact stuck rfl
  | max2=>cases d<;>exact stuck rfl
  | HJ=>cases d<;>exact stuck rfl
  | sorted=>cases d<;>exact stuck rfl
  | tuple=>cases d<;>exact stuck rfl
  | str=>exact stuck rfl
  | set=>exact stuck rfl
noncomputable def cZ:Kd->Str
 | .str=>"str" | .int=>"int" | .bool=>"bool" | .list=>"list" | .tuple=>"tuple"
noncomputable def nK:Kd->Value
 | .str=>.type "str" | .int=>.type "int" | .bool=>.type "bool" | .list=>.type "list" | .tuple=>.type "tuple"
theorem sf (k:Kd):bootBuiltins (cZ k)=some (nK k):=by cases k<;>decide +kernel
noncomputable def RF:D->Value
 | .CD=>.type "NoneType" | .bl _=>.type "bool" | .int _=>.type "int" | .str _=>.type "str" | .tup _=>.type "tuple" | .lst _ _=>.type "list" | .exc _=>.none|.Cu _ _ _=>.none
theorem sg (K:PySem.W.Frag)(k:Kd)(d:D)(hn:iB d=true):PySem.W.kitOne K (RF d) (nK k)=some (fy k d):=by
 cases k<;>cases d<;>first|rfl|cases hn
theorem si {pins:List (Addr×Obj)}{s:Shared}{σ:St}{H:Hp}{S:Addr->Prop}{x:V}{v:Value}{d:D}{Q:VK}(I:Inv X pins σ H s)(rx:RelV x v)(hx:Cm X.K S H x d)(k:Kd)(hn:iB d=true)(h:Q (.bl (fy k d)) H) :
  wpAny (model X.prog X.w) X.A (call (.builtin "isinstance") [v,nK k]) (EP X pins σ Q) X.xe s:=by
 have e:=sg X.K k d hn
 have fin:∀ tk,EP X pins σ Q (.bool (fy k d)) {s with toks:=tk}:=fun tk=>⟨.bl _,H,I.tok _,rfl,h⟩
 cases d with
 | CD=>cases hx.Ew;cases rx;exact PySem.W.kia_one PySem.W.kitx_none I.EL True.intro e (fun z=>nomatch z) fin
 | bl b=>cases hx.HG;cases rx;exact PySem.W.kia_one PySem.W.kitx_bool I.EL True.intro e (fun z=>nomatch z) fin
 | int b=>cases hx.CG;obtain⟨t,rfl⟩:=rx;exact PySem.W.kia_one PySem.W.kitx_int I.EL True.intro e (fun z=>nomatch z) fin
 | str b=>cases hx.CW;obtain⟨t,rfl⟩:=rx;exact PySem.W.kia_one PySem.W.kitx_str I.EL True.intro e (fun z=>nomatch z) fin
 | tup ds=>
  obtain⟨a,ys,rfl,q,m⟩:=hx.Dg
  cases rx
  obtain⟨its,_,⟨o,h1,h2,_⟩,_⟩:=I.tuple q
  exact PySem.W.kia_one PySem.W.kitx_tuple I.EL ⟨o,h1,h2⟩ e (fun z=>nomatch z) fin
 | lst o ds=>
  obtain⟨a,ys,rfl,q,m⟩:=hx.C5
  cases rx
  obtain⟨its,_,pl,_⟩:=I.list q
  obtain⟨o,h1,h2,_⟩:=pl.isList
  exact PySem.W.kia_one PySem.W.kitx_list I.EL ⟨o,h1,h2⟩ e (fun z=>nomatch z) fin
 | exc c=>cases hn
 | Cu o ks ds=>cases hn
def CV (X:Cx)(x:Str)(v:V):Prop:=(∃ C,v=.ref C/\X.mg x=some (.ref C))∨(∃ T,v=.ty T/\X.mg x=none/\bootBuiltins x=some (.type T))
noncomputable def vv:V->Value
 | .ref C=>.ref C
 | .ty T=>.type T
 | _=>.none
noncomputable def eI:Mt->Str
 | .join=>"join" | .index=>"index" | .starts=>"startswith"
noncomputable def B3:Mt->String
 | .join=>"str.join" | .index=>"str.index" | .starts=>"str.startswith"
def O8 (K:PySem.W.Frag)(ex:Str->Prop)(m:Mt):V->List V->Hp->VK->Prop:=fun x xs H Q=>∃ S d ds,Cm K S H x d/\Cj K S H xs ds/\Ck ex (eE m d ds) (Kk K S H Q)
theorem nL {m:Mt}{d:D}{ds:List D}{k:D->Prop}(h:Ck ex (eE m d ds) k):∃ x,d=.str x:=by
 cases m<;>cases d<;>first|exact⟨_,rfl⟩|exact h.no.elim
theorem gD (m:Mt)(hc:m=.index->X.calm=true):Om X (B3 m) (O8 X.K ex m):=by
 intro pins s σ H x xs v us Q I rx rs h
 obtain⟨S,d,ds,hx,hs,h⟩:=h
 obtain⟨z,rfl⟩:=nL h
 cases hx.CW
 obtain⟨t,rfl⟩:=rx
 have stuck:∀ {P:Prop},eE m (.str z) ds=Cq->P:=fun z=>by rw[z] at h;exact h.no.elim
 match ds,hs with
 | [],_=>cases m<;>exact stuck rfl
 | d::e::r,_=>cases m<;>cases d<;>exact stuck rfl
 | [d],hs=>
  obtain⟨y,rfl,hd⟩:=hs.Jr
  obtain⟨u,rfl,ru⟩:=vals1 rs
  cases m with
  | join=>
   cases d with
   | lst o ds=>
    obtain⟨a,ys,rfl,q,m⟩:=hd.C5
    cases ru
    have h':Ck ex (match bw ds with|some ys=>Co (decide ((ys.map (·.length)).sum+ys.length*z.length<=16777216)) (.ok (.str (Txt.join z ys)))|none=>Cq) (Kk X.K S H Q):=h
    cases w:bw ds with
    | none=>rw[w] at h';exact h'.no.elim
    | some ns=>
     rw[w] at h'
     obtain⟨g,h'⟩:=Ck.Co h'
     rw[cY w] at m
     rw[m.strs] at q
     obtain⟨its,rv,pl,_⟩:=I.list q
     exact join_list pl.isList (by simpa using iK rv) (of_decide_eq_true g) fun t' k=>⟨.str _,H,I.tok _,⟨_,rfl⟩,h'.ok _ _ (.refl _) (.str _)⟩
   | _=>exact stuck rfl
  | index=>cases d<;>exact stuck rfl
  | starts=>cases d<;>exact stuck rfl
noncomputable def Nn (x:Str):It:=⟨fun i _=>i < x.cps.size,fun i H v H'=>H'=H/\∃ c,x.cps[i]? = some c/\v=.str ⟨#[c]⟩,fun i _=>x.cps.size<=i⟩
theorem nM {P:Program}{w:World}{K:PySem.W.Frag}{tg:Expr}{it:Addr}{x:Str}{t:Tok}{ty:String}(J7:ty = "str_ascii_iterator"∨ty = "str_iterator")
  (W:∀ A':Around,A'.handled=none->Walks P w A' it [it] [it] x.cps.size (SignAt x) (fun i h=>h.IsStrIter it ty x t i)):Turn P w K tg (Nn x) [it] it (fun i h=>i<=x.cps.size/\h.IsStrIter it ty x t i) where
 mem:=by simp
 obj:=fun i h st b hb=>by
  have e:b=it:=by simpa using hb
  subst e
  obtain⟨_,o,e,c,d⟩:=st
  exact⟨o,e,fun v z=>by rw[d] at z;cases z⟩
 keep:=fun i h h' st k=>by
  obtain⟨l,o,e,c,d⟩:=st
  exact⟨l,o,k it (by simp) o e,c,d⟩
 item:=by
  intro X hP hw hK hc i pins s σ H E I hf st hg
  subst hP hw hK
  obtain⟨f0,f1,f2,f3,f4,f5⟩:=hf it (by simp)
  refine(W X.A (I.ok.hd hc)).item i s _ _ hg st.2 fun v h' tk hv Fz kk=>?_
  obtain⟨c,u,RG,rfl⟩:=hv
  have I1:Inv X pins σ H {s with heap:=h',toks:=tk}:=I.turned (fun b o hb e=>kk b o (by simpa using hb) e) f0 f1 f3 f4 f5
  obtain⟨o,e,cc,d⟩:=id Fz
  refine⟨_,rfl,jP (s:={s with heap:=h',toks:=tk}) (n:=ty) e cc d (by rcases J7 with rfl|rfl<;>decide) ⟨.str ⟨#[c]⟩,H,I1,⟨u,rfl⟩,⟨rfl,c,RG,rfl⟩,⟨hg,Fz⟩,fun b hb=>(hf b hb).1⟩⟩
 done:=by
  intro X hP hw hK hc i pins s σ H E I hf st hg
  subst hP hw hK
  obtain⟨f0,f1,f2,f3,f4,f5⟩:=hf it (by simp)
  have e:i=x.cps.size:=Nat.le_antisymm st.1 hg
  refine(W X.A (I.ok.hd hc)).done s _ _ (by rw[<- e];exact st.2) fun h' tk kk=>⟨rfl,I.turned (fun b o hb e=>kk b o (by simpa using hb) e) f0 f1 f3 f4 f5⟩
 self:=fun A i s Q E st h=>by
  obtain⟨_,st⟩:=st
  rcases J7 with rfl|rfl
  ·exact wpAny_pyIter_striter_ascii st h
  ·exact wpAny_pyIter_striter_wide st h
theorem wO {tg:Expr}{pins:List (Addr×Obj)}{s:Shared}{σ:St}{H:Hp}{x:Str}{t:Tok}{R:It->Hp->Prop}(I:Inv X pins σ H s)(q:R (Nn x) H):wpAny (model X.prog X.w) X.A (pyIter (.str x t)) (J5 X pins σ tg R) X.xe s:=by
 have fin:∀ ty,(ty = "str_ascii_iterator"∨ty = "str_iterator")->(∀ A':Around,A'.handled=none->Walks X.prog X.w A' s.heap.objs.size [s.heap.objs.size] [s.heap.objs.size] x.cps.size (SignAt x) (fun i h=>h.IsStrIter s.heap.objs.size ty x t i))->
   J5 X pins σ tg R (.ref s.heap.objs.size) {s with heap:=s.heap.push {cls:=.type ty,data:=.fields #[.str x t,.int 0 0]}}:=fun ty J7 W=>by
  refine⟨s.heap.objs.size,[s.heap.objs.size],_,_,H,rfl,I.kept (t':=s.toks) fun b o e=>Heap.get?_push_of_some _ e,nM J7 W,⟨Nat.zero_le _,_,Heap.get?_push_size _ rfl,rfl,rfl⟩,fun b hb=>?_,q⟩
  have e:b=s.heap.objs.size:=by simpa using hb
  subst e
  exact I.Gf (Nat.le_refl _) (I.CA.fresh (Nat.le_refl _))
 cases ha:x.cps.all (· < 128)
 ·exact wpAny_pyIter_wide ha (fin _ (.inr rfl) fun A' hA=>Walks.strWide hA _ x t)
 ·exact wpAny_pyIter_ascii ha (fin _ (.inl rfl) fun A' hA=>Walks.strAscii hA _ x t)
end
theorem aP.at {P:Program}{w:World}{H:Hp}{h:Heap}{a:Addr}{o:HO}(x:aP P w H h a o):∃ ob,h.get? a=some ob:=by
 cases o with
 | lst xs=>obtain⟨_,_,_,_,e⟩:=x;exact⟨_,e⟩
 | tup xs=>obtain⟨_,_,_,ob,e,_⟩:=x;exact⟨_,e⟩
 | dK kvs=>obtain⟨_,_,_,_,o,_,_,e,_⟩:=x;exact⟨_,e⟩
 | dT kvs=>obtain⟨_,_,_,_,o,_,_,e,_⟩:=x;exact⟨_,e⟩
 | set S n=>obtain⟨o,_,_,_,e,_⟩:=x;exact⟨_,e⟩
 | ins C dx fs=>obtain⟨_,_,_,e,_⟩:=x;exact⟨_,e⟩
 | own y=>exact x
 | xd fs=>obtain⟨_,⟨_,_,_,e,_⟩,_⟩:=x;exact⟨_,e⟩
 | Gb lo hi=>obtain⟨_,_,_,e⟩:=x;exact⟨_,e⟩
 | CK ob u=>exact⟨_,x.1⟩
 | HX ps=>exact⟨_,x⟩
 | met f y=>exact⟨_,x⟩
 | ext φ=>exact x.2.1
noncomputable def indep:HO->Bool
 | .lst _=>true
 | .tup _=>true
 | .ext _=>true
 | .dK _=>true
 | _=>false
theorem dm {P:Program}{w:World}{H H':Hp}{h:Heap}{a:Addr}{u:HO}(i:indep u=true)(x:aP P w H h a u):aP P w H' h a u:=by
 cases u with
 | lst _=>exact x
 | tup _=>exact x
 | ext _=>exact x
 | dK _=>exact x
 | _=>cases i
noncomputable def az (h:Heap)(H:Hp):Hp:=fun b=>match H b with
 | some (.lst xs)=>(h.get? b).map fun o=>.CK o (.lst xs)
 | some (.dK kvs)=>(h.get? b).map fun o=>.CK o (.dK kvs)
 | some (.tup xs)=>some (.tup xs)
 | some (.CK o u)=>if indep u=true then some (.CK o u) else none
 | _=>none
noncomputable def cC (H H':Hp):Hp:=fun b=>match H b with
 | some o=>some o
 | none=>H' b
def Js (H:Hp):Prop:=∀ b o,H b=some o->(∃ ob u,o=.CK ob u)∨∃ xs,o=.tup xs
theorem nN (h:Heap)(H:Hp):Js (az h H):=fun b o e=>by
 unfold az at e
 split at e
 ·obtain⟨ob,_,rfl⟩:=Option.map_eq_some_iff.mp e
  exact .inl ⟨_,_,rfl⟩
 ·obtain⟨ob,_,rfl⟩:=Option.map_eq_some_iff.mp e
  exact .inl ⟨_,_,rfl⟩
 ·cases e;exact .inr ⟨_,rfl⟩
 ·split at e
  ·cases e;exact .inl ⟨_,_,rfl⟩
  ·cases e
 ·cases e
structure Fo (h:Heap)(Hc H':Hp):Prop where
 Dq:∀ b o u,Hc b=some (.CK o u)->H' b=some (.CK o u)
 DK:∀ b xs,Hc b=some (.tup xs)->H' b=some (.tup xs)
 free:∀ b o,h.get? b=some o->Hc b=none->H' b=none
inductive Bk (h:Heap)(H H':Hp)(b:Addr):HO->Prop where
 | lst {xs:List V}{ob:Obj}:h.get? b=some ob->H' b=some (.CK ob (.lst xs))->Bk h H H' b (.lst xs)
 | dK {xs:List (Key×V)}{ob:Obj}:h.get? b=some ob->H' b=some (.CK ob (.dK xs))->Bk h H H' b (.dK xs)
 | tup {xs:List V}:H' b=some (.tup xs)->Bk h H H' b (.tup xs)
 | CK {o:Obj}{u:HO}:indep u=true->H' b=some (.CK o u)->Bk h H H' b (.CK o u)
 | C7 {o:HO}{ob:Obj}:h.get? b=some ob->az h H b=none->H' b=none->(∀ xs,o≠.lst xs)->(∀ xs,o≠.tup xs)->(∀ xs,o≠.dK xs)->Bk h H H' b o
section
variable {P:Program}{w:World}{H H':Hp}{h g:Heap}
theorem fT (x:C0 P w H h)(p:Fo h (az h H) H'){b:Addr}{o:HO}(e:H b=some o):Bk h H H' b o:=by
 obtain⟨ob,he⟩:=(x b o e).at
 have hc:az h H b=(match (some o:Option HO) with
  | some (.lst xs)=>(h.get? b).map fun o=>.CK o (.lst xs)
  | some (.dK kvs)=>(h.get? b).map fun o=>.CK o (.dK kvs)
  | some (.tup xs)=>some (.tup xs)
  | some (.CK o u)=>if indep u=true then some (.CK o u) else none
  | _=>none):=by unfold az;rw[e]
 cases o with
 | lst xs=>
  have hc:az h H b=(h.get? b).map fun o=>.CK o (.lst xs):=hc
  rw[he] at hc
  exact .lst he (p.Dq _ _ _ hc)
 | dK xs=>
  have hc:az h H b=(h.get? b).map fun o=>.CK o (.dK xs):=hc
  rw[he] at hc
  exact .dK he (p.Dq _ _ _ hc)
 | tup xs=>exact .tup (p.DK _ _ hc)
 | CK o' u=>
  have hc:az h H b=if indep u=true then some (.CK o' u) else none:=hc
  by_cases i:indep u=true
  ·rw[if_pos i] at hc
   exact .CK i (p.Dq _ _ _ hc)
  ·rw[if_neg i] at hc
   exact .C7 he hc (p.free _ _ he hc) (fun _ z=>by cases z) (fun _ z=>by cases z) (fun _ z=>by cases z)
 | _=>exact .C7 he hc (p.free _ _ he hc) (fun _ z=>by cases z) (fun _ z=>by cases z) (fun _ z=>by cases z)
theorem jz (x:C0 P w H h):C0 P w (az h H) h:=fun b o e=>by
 cases q:H b with
 | none=>unfold az at e;rw[q] at e;cases e
 | some u=>
  have y:=x b u q
  unfold az at e
  rw[q] at e
  cases u with
  | lst xs=>
   obtain⟨ob,he⟩:=y.at
   have e:(h.get? b).map (fun o=>HO.CK o (.lst xs))=some o:=e
   rw[he] at e
   cases e
   exact⟨he,y⟩
  | dK xs=>
   obtain⟨ob,he⟩:=y.at
   have e:(h.get? b).map (fun o=>HO.CK o (.dK xs))=some o:=e
   rw[he] at e
   cases e
   exact⟨he,y⟩
  | tup xs=>cases e;exact y
  | CK o' u=>
   have e:(if indep u=true then some (HO.CK o' u) else none)=some o:=e
   by_cases i:indep u=true
   ·rw[if_pos i] at e;cases e;exact⟨y.1,dm i y.2⟩
   ·rw[if_neg i] at e;cases e
  | _=>cases e
theorem bo (e:H a=none):az h H a=none:=by unfold az;rw[e]
theorem res_some {b:Addr}{o:HO}(e:H b=some o):cC H H' b=some o:=by unfold cC;rw[e]
theorem res_none {b:Addr}(e:H b=none):cC H H' b=H' b:=by unfold cC;rw[e]
theorem iL:aq H (cC H H'):=fun b o e=>res_some e
theorem gE (x:C0 P w H h)(y:C0 P w H' g)(p:Fo h (az h H) H'){fs:List Addr}(keep:∀ b o,H b≠none->h.get? b=some o->az h H b=none->b∉fs->g.get? b=some o)(fr:∀ b∈fs,H b=none):C0 P w (cC H H') g:=by
 have tp:∀ c xs,H' c=some (.tup xs)->cC H H' c=some (.tup xs):=fun c xs e=>by
  cases q:H c with
  | none=>rw[res_none q];exact e
  | some o=>
   rw[res_some q]
   cases fT x p q with
   | lst _ z=>rw[z] at e;cases e
   | dK _ z=>rw[z] at e;cases e
   | tup z=>rw[z] at e;exact e
   | CK _ z=>rw[z] at e;cases e
   | C7 _ _ z _ _ _=>rw[z] at e;cases e
 intro b o e
 cases q:H b with
 | some o'=>
  rw[res_some q] at e
  cases e
  cases fT x p q with
  | lst h1 z=>
   have h2:=(y b _ z).1
   obtain⟨a1,its,n,a2,a3⟩:=x b _ q
   rw[h1] at a3
   exact⟨a1,its,n,a2,by rw[h2,<- a3]⟩
  | dK h1 z=>exact dm rfl (y b _ z).2
  | tup z=>exact y b _ z
  | CK i z=>exact⟨(y b _ z).1,dm i (y b _ z).2⟩
  | C7 h1 h2 z n1 n2 n3=>
   refine(x b _ q).D8 (fun c u hc hu=>?_) (fun c hc=>res_some hc) fun c xs hc=>res_some hc
   rcases hc with rfl|hc
   ·exact keep _ _ (by rw[q];simp) hu h2 fun z=>by rw[fr _ z] at q;cases q
   ·refine keep _ _ (by rw[hc];simp) hu ?_ fun z=>by rw[fr _ z] at hc;cases hc
    unfold az
    rw[hc]
 | none=>
  rw[res_none q] at e
  refine(y b o e).D8 (fun _ _ _ z=>z) (fun c hc=>?_) tp
  cases q':H c with
  | none=>rw[res_none q'];exact hc
  | some o'=>
   exfalso
   cases fT x p q' with
   | lst _ z=>rw[z] at hc;cases hc
   | dK _ z=>rw[z] at hc;cases hc
   | tup z=>rw[z] at hc;cases hc
   | CK _ z=>rw[z] at hc;cases hc
   | C7 _ _ z _ _ _=>rw[z] at hc;cases hc
theorem dn {fs:List Addr}(u:Un fs [] (az h H) H' h g):Fo h (az h H) H':=⟨u.Dq,u.DK,fun b o e n=>u.free b o e n (by simp)⟩
theorem jA {fs:List Addr}(x:C0 P w H h)(u:Un fs [] (az h H) H' h g):Un fs [] H (cC H H') h g where
 keep:=fun b o e n f i=>u.keep b o e (bo n) f i
 slot:=fun b o e n f i=>u.slot b o e (bo n) f i
 free:=fun b o e n i=>by rw[res_none n];exact u.free b o e (bo n) i
 there:=u.there
 DK:=fun b xs e=>res_some e
 Dq:=fun b o v e=>res_some e
 EJ:=fun b ps e=>⟨#[],by rw[res_some e];simp⟩
end
noncomputable def H0:Hp:=fun _=>none
noncomputable def DJ (P:Program)(w:World):Dw:=fun outer H s E e s'=>∃ (a:Addr) (cls a0:Value) (H':Hp) (B:Heap),e=.ref a/\s'.os=s.os/\AllBare s'.gens/\Un (Dr outer) [] H H' s.heap s'.heap/\C0 P w H' B/\aq H H'/\
 (∀ b o,s.heap.get? b=some o->H b=none->b∉Dr outer->B.get? b=some o)/\Heap.FlyingW B outer a cls a0 s'.heap/\E cls none H0
def F0 (K:PySem.W.Frag):XK->Hp->Str->Prop:=fun E _ c=>∀ C,PySem.W.nsIn K mainGlobals c=some (some (.ref C))->E (.ref C) none H0
noncomputable def aJ:List Str:=["len","sum","min","max","sorted","list","tuple","ord","int","all","any","str","set","abs","isinstance","range","bool","zip","reversed","dict"]
noncomputable def fU:Bi->Nat
 | .len=>0|.sum=>1|.min2=>2|.max2=>3|.HJ=>3|.sorted=>4|.list=>5|.tuple=>6|.ord=>7|.int=>8|.all=>9|.any=>10|.str=>11|.set=>12|.abs=>13
noncomputable def j7:Kd->Nat
 | .str=>11|.int=>8|.bool=>16|.list=>5|.tuple=>6
theorem nO (f:Bi):aJ[fU f]? = some (cw f):=by cases f<;>rfl
theorem wQ (f:Kd):aJ[j7 f]? = some (cZ f):=by cases f<;>rfl
mutual
noncomputable def mf:D->D->Bool
 | .CD,.CD=>true
 | .bl a,.bl b=>a == b
 | .int a,.int b=>a == b
 | .str a,.str b=>a == b
 | .tup a,.tup b=>eJ a b
 | .lst o a,.lst o' b=>o == o'&&eJ a b
 | _,_=>false
noncomputable def eJ:List D->List D->Bool
 | [],[]=>true
 | a::r,b::s=>mf a b&&eJ r s
 | _,_=>false
end
mutual
theorem j8:∀ {a b:D},mf a b=true->a=b
 | .CD,b,h=>by cases b<;>first|rfl|cases h
 | .bl a,b,h=>by cases b<;>first|(rw[eq_of_beq (show (a == _)=true from h)])|cases h
 | .int a,b,h=>by cases b<;>first|(rw[eq_of_beq (show (a == _)=true from h)])|cases h
 | .str a,b,h=>by cases b<;>first|(rw[eq_of_beq (show (a == _)=true from h)])|cases h
 | .tup a,b,h=>by
  cases b with
  | tup b=>rw[eL (show eJ a b=true from h)]
  | _=>cases h
 | .lst o a,b,h=>by
  cases b with
  | lst o' b=>
   have h':(o == o'&&eJ a b)=true:=h
   rw[Bool.and_eq_true] at h'
   rw[eq_of_beq h'.1,eL h'.2]
  | _=>cases h
theorem eL:∀ {a b:List D},eJ a b=true->a=b
 | [],b,h=>by cases b<;>first|rfl|cases h
 | a::r,b,h=>by
  cases b with
  | nil=>cases h
  | cons b s=>
   have h':(mf a b&&eJ r s)=true:=h
   rw[Bool.and_eq_true] at h'
   rw[j8 h'.1,eL h'.2]
end
structure Sg where
 nm:List Str
 Kf:List (Nat×D)
 fns:List Nat
 cls:List Nat:=[]
 xt:List (Str×Nat×Bool):=[]
 pl:List Nat:=[]
 rc:List (Nat×Str):=[]
 xm:List (Str×Nat):=[]
 EB:List Nat:=[]
noncomputable def Sg.name (Z:Sg)(n:Nat):Option Str:=(aJ++Z.nm)[n]?
noncomputable def Gm.EC (G:Gm)(n:Nat):Bool:=G.cm&&G.gl.contains n
theorem eM {G:Gm}{n:Nat}(h:G.EC n=true):G.gl.contains n=true:=by
 unfold Gm.EC at h;rw[Bool.and_eq_true] at h;exact h.2
theorem eN {G:Gm}{n:Nat}(h:G.EC n=true):G.cm=true:=by
 unfold Gm.EC at h;rw[Bool.and_eq_true] at h;exact h.1
noncomputable def Sg.GA (Z:Sg)(G:Gm)(f:Nat):Bool:=Z.fns.contains f&&(G.cm||Z.pl.contains f)
theorem dJ {Z:Sg}{G:Gm}{f:Nat}(h:Z.GA G f=true):f∈Z.fns/\(G.cm=true∨f∈Z.pl):=by
 unfold Sg.GA at h
 rw[Bool.and_eq_true,Bool.or_eq_true] at h
 exact⟨by simpa using h.1,h.2.elim .inl fun z=>.inr (by simpa using z)⟩
noncomputable def jB:Mt->Bool
 | .join=>true
 | _=>false
noncomputable def notStar:Expr->Bool
 | .Starred ..=>false
 | _=>true
noncomputable def aY:Expr->Bool
 | .Slice ..=>false
 | _=>true
noncomputable def eO:Expr->Bool
 | .Call _ [] [] _=>false
 | _=>true
noncomputable def b8 (G:Gm)(i:Nat)(x:Str):Bool:=G.N[i]? == some x&&(G.kd[i]? == some .local||G.kd[i]? == some .cell||G.kd[i]? == some .free)
noncomputable def bI (Z:Sg)(G:Gm)(n:Nat)(x:Str):Bool:=Z.name n == some x&&G.gl.contains n
noncomputable def za:D->Const->Bool
 | .int i,.int j=>i == j
 | .str x,.str y=>x == y
 | .bl a,.bool b=>a == b
 | .CD,.none=>true
 | _,_=>false
mutual
noncomputable def bE (G:Gm):Tg->Expr->Bool
 | .nm i,.Name x _=>(G.N[i]? == some x&&(G.kd[i]? == some .local||(G.df&&G.kd[i]? == some .cell)))&&G.io != some i
 | .tp ts,.Tuple es _ _=>G.cm&&cS G ts es
 | _,_=>false
noncomputable def cS (G:Gm):List Tg->List Expr->Bool
 | [],[]=>true
 | t::ts,e::es=>notStar e&&bE G t e&&cS G ts es
 | _,_=>false
end
mutual
noncomputable def Ep:Tg->List Nat
 | .nm i=>[i]
 | .tp ts=>iM ts
noncomputable def iM:List Tg->List Nat
 | []=>[]
 | t::ts=>Ep t++iM ts
end
noncomputable def bz (Z : Sg)(G : Gm)(scope : Scope)(G' : Gm)(fr : List Nat) : Bool :=
  (G.cm&&scope.kind == .function)&&!G'.tr&&!G'.df&&G'.kd.length == G'.N.length
 &&scope.names.all (fun y => y.2 != .cell)&&scope.names.all (fun y => y.2 != .local||scope.names.lookup y.1 == some .local)
 &&scope.names.all (fun y => y.2 != .free||(List.range G.N.length).any fun i => G.N[i]? == some y.1&&(G.kd[i]? == some .cell||G.kd[i]? == some .free))
 &&(List.range fr.length).all (fun j => G'.N[j]? == (fr[j]?).bind (G.N[·]?)&&((G'.N[j]?).bind (scope.names.lookup ·) == some .free)&&((fr[j]?).bind (G.kd[·]?) == some .cell||(fr[j]?).bind (G.kd[·]?) == some .free)
     &&(G'.kd[j]? == some (if ((fr[j]?).bind (G.kd[·]?) == some .cell) then .cell else .free)))
 &&decide (fr.length <= G'.N.length)
 &&((List.range G'.N.length).drop fr.length).all (fun j => (G'.N[j]?).bind (scope.names.lookup ·) == some .local&&G'.kd[j]? == some .local)
 &&G'.N.all (fun x => !(x == "__debug__")&&!(x == "__classdict__"))
 &&decide (G'.N.Nodup)
 &&G'.gl.all (fun n => match Z.name n with|some x => scope.names.lookup x == some .globalImplicit|none => false)
theorem aa {P:Prop}(h:false=true):P:=by cases h
noncomputable def mh:List Comprehension->(Expr->Expr->List Expr->Bool)->Bool
 | [⟨t,it,fs,0⟩],k=>k t it fs
 | _,_=>false
theorem gF {gens:List Comprehension}{k:Expr->Expr->List Expr->Bool}(h:mh gens k=true):∃ t it fs,gens=[⟨t,it,fs,0⟩]/\k t it fs=true:=by
 unfold mh at h
 split at h
 ·exact⟨_,_,_,rfl,h⟩
 ·cases h
noncomputable def wR:Expr->Bool
 | .Tuple _ _ _=>true
 | _=>false
noncomputable def dY:Sr->Expr->Bool
 | .zip _ _,t=>wR t
 | _,_=>true
noncomputable def Mj:Expr->(Str->Expr->Option Str->Bool)->Bool
 | .JoinedStr [.Constant (.str x) _ _,.FormattedValue e n none _] _,k=>n == 114&&k x e none
 | .JoinedStr [.Constant (.str x) _ _,.FormattedValue e n none _,.Constant (.str y) _ _] _,k=>n == 114&&k x e (some y)
 | _,_=>false
theorem wU {e:Expr}{k:Str->Expr->Option Str->Bool}(h:Mj e k=true):∃ x e' y,k x e' y=true/\((∃ j p q pos,y=none/\e=.JoinedStr [.Constant (.str x) j p,.FormattedValue e' 114 none q] pos)∨
  ∃ w j p q j' r pos,y=some w/\e=.JoinedStr [.Constant (.str x) j p,.FormattedValue e' 114 none q,.Constant (.str w) j' r] pos):=by
 unfold Mj at h
 split at h
 ·rw[Bool.and_eq_true] at h
  rw[eq_of_beq h.1]
  exact⟨_,_,_,h.2,.inl ⟨_,_,_,_,rfl,rfl⟩⟩
 ·rw[Bool.and_eq_true] at h
  rw[eq_of_beq h.1]
  exact⟨_,_,_,h.2,.inr ⟨_,_,_,_,_,_,_,rfl,rfl⟩⟩
 ·cases h
noncomputable def mi:Bool->CmpOp
 | true=>.NotIn
 | false=>.In
noncomputable def Mk:Expr->Bool
 | .Dict ks vs _=>ks.isEmpty&&vs.isEmpty
 | _=>false
theorem nP {e:Expr}(h:Mk e=true):∃ p,e=.Dict [] [] p:=by
 cases e with
 | Dict ks vs p=>
  have h':=Bool.and_eq_true_iff.mp (show (ks.isEmpty&&vs.isEmpty)=true from h)
  cases ks with
  | cons _ _=>exact aa h'.1
  | nil=>
   cases vs with
   | cons _ _=>exact aa h'.2
   | nil=>exact⟨p,rfl⟩
 | _=>exact aa h
noncomputable def Ml:Expr->(Expr->Expr->Bool)->Bool
 | .Subscript o s _,k=>k o s
 | _,_=>false
theorem wV {e:Expr}{k:Expr->Expr->Bool}(h:Ml e k=true):∃ o s p,e=.Subscript o s p/\k o s=true:=by
 unfold Ml at h
 split at h
 ·exact⟨_,_,_,rfl,h⟩
 ·cases h
noncomputable def Mm:Expr->(Expr->CmpOp->Expr->Bool)->Bool
 | .Compare l [o] [r] _,k=>k l o r
 | _,_=>false
theorem wW {e:Expr}{k:Expr->CmpOp->Expr->Bool}(h:Mm e k=true):∃ l o r p,e=.Compare l [o] [r] p/\k l o r=true:=by
 unfold Mm at h
 split at h
 ·exact⟨_,_,_,_,rfl,h⟩
 ·cases h
noncomputable def Kg:Expr->(Str->Str->Expr->Bool)->Bool
 | .Call (.Name x _) [.Call (.Name y _) [e] [] _] [] _,k=>k x y e
 | _,_=>false
theorem nQ {e:Expr}{k:Str->Str->Expr->Bool}(h:Kg e k=true):∃ x p y p' e' q' q,e=.Call (.Name x p) [.Call (.Name y p') [e'] [] q'] [] q/\k x y e'=true:=by
 unfold Kg at h
 split at h
 ·exact⟨_,_,_,_,_,_,_,rfl,h⟩
 ·cases h
noncomputable def isNm:Expr->Bool
 | .Name ..=>true
 | _=>false
noncomputable def Mn:Expr->(Str->Expr->Str->Bool->Bool)->Bool
 | .Call (.Name x _) [.Call (.Attribute o name apos) [] [] Cw] [] _,k=>k x o name (apos.endLine == Cw.line)
 | _,_=>false
theorem wX {e:Expr}{k:Str->Expr->Str->Bool->Bool}(h:Mn e k=true):∃ x p o name apos Cw q,e=.Call (.Name x p) [.Call (.Attribute o name apos) [] [] Cw] [] q/\k x o name (apos.endLine == Cw.line)=true:=by
 unfold Mn at h
 split at h
 ·exact⟨_,_,_,_,_,_,_,rfl,h⟩
 ·cases h
mutual
noncomputable def Cv (Z:Sg)(G:Gm):IR->Expr->Bool
 | .c d,.Constant k _ _=>za d k
 | .g n d,.Name x _=>bI Z G n x&&Z.Kf.any fun p=>p.1 == n&&mf p.2 d
 | .v i,.Name x _=>b8 G i x
 | .bin op a b,.BinOp l o r _=>o == HM op&&Cv Z G a l&&Cv Z G b r
 | .neg a,.UnaryOp .USub e _=>Cv Z G a e
 | .cmp op a b,.Compare l [o] [r] _=>o == Jq op&&Cv Z G a l&&Cv Z G b r&&!behindInMarks o r
 | .DQ a b,.BoolOp .And [e,e'] _=>Cv Z G a e&&Cv Z G b e'
 | .DQ a b,.BoolOp .And (e::e'::Np::rest) p=>Cv Z G a e&&Cv Z G b (.BoolOp .And (e'::Np::rest) p)
 | .Fj a b,.BoolOp .Or [e,e'] _=>Cv Z G a e&&Cv Z G b e'
 | .Fj a b,.BoolOp .Or (e::e'::Np::rest) p=>Cv Z G a e&&Cv Z G b (.BoolOp .Or (e'::Np::rest) p)
 | .EU a,.UnaryOp .Not e _=>Cv Z G a e
 | .tup es,.Tuple l _ _=>aB Z G es l
 | .lst es,.List l _=>aB Z G es l
 | .sl a lo hi,.Subscript e (.Slice l h none _) _=>Cv Z G a e&&jC Z G lo l&&jC Z G hi h
 | .idx a i,.Subscript e s _=>aY s&&Cv Z G a e&&Cv Z G i s
 | .call f es,.Call (.Name x _) args [] _=>bI Z G f x&&Z.GA G f&&aB Z G es args
 | .bi f es,.Call (.Name x _) (a::args) [] _=>x == cw f&&G.EC (fU f)&&aB Z G es (a::args)
 | .Io a k,.Call (.Name x _) [e,.Name y _] [] _=>x == "isinstance"&&G.gl.contains 14&&y == cZ k&&G.gl.contains (j7 k)&&notStar e&&Cv Z G a e
 | .D4,e=>Mk e
 | .C2 a k,e=>Ml e fun o s=>aY s&&Cv Z G a o&&Cv Z G k s
 | .G9 n k a,e=>Mm e fun l o r=>o == mi n&&Cv Z G k l&&Cv Z G a r&&!behindInMarks o r
 | .D5 a,e=>Kg e fun x y e=>x == "list"&&G.EC 5&&y == "reversed"&&G.gl.contains 18&&notStar e&&Cv Z G a e
 | .ER a,e=>Kg e fun x y e=>x == "len"&&G.gl.contains 0&&y == "set"&&G.gl.contains 12&&(notStar e&&G.cm)&&Cv Z G a e
 | .Fm a,e=>Mn e fun x o n l=>x == "sum"&&G.EC 1&&isNm o&&n == "values"&&l&&Cv Z G a o
 | .Gz x a y,e=>Mj e fun x' e' y'=>x == x'&&y == y'&&decide (x.length<=1000)&&Cv Z G a e'
 | .Ha m o es,.Call (.Attribute oe name apos) (a::args) [] Cw=>name == eI m&&eO oe&&apos.endLine == Cw.line&&(decide ((a::args).length < 29)&&(G.cm||jB m))&&Cv Z G o oe&&aB Z G es (a::args)
 | .comp G' fr tg src ifs elt,.ListComp e gens scope _=>mh gens fun t it fs=>bz Z G scope G' fr&&bE G' tg t&&(Ep tg).all (fun i=>decide (fr.length<=i))&&(bV Z G src it&&dY src t)&&aB Z G' ifs fs&&Cv Z G' elt e
 | _,_=>false
noncomputable def aB (Z:Sg)(G:Gm):List IR->List Expr->Bool
 | [],[]=>true
 | a::es,e::l=>notStar e&&Cv Z G a e&&aB Z G es l
 | _,_=>false
noncomputable def jC (Z:Sg)(G:Gm):Option IR->Option Expr->Bool
 | none,none=>true
 | some a,some e=>Cv Z G a e
 | _,_=>false
noncomputable def bV (Z:Sg)(G:Gm):Sr->Expr->Bool
 | .C4 n,.Call (.Name x _) [e] [] _=>x == "range"&&G.gl.contains 15&&notStar e&&Cv Z G n e
 | .DB a b,.Call (.Name x _) [e,e'] [] _=>x == "range"&&G.gl.contains 15&&notStar e&&notStar e'&&Cv Z G a e&&Cv Z G b e'
 | .zip a b,.Call (.Name x _) [e,e'] [] _=>x == "zip"&&G.gl.contains 17&&notStar e&&notStar e'&&Cv Z G a e&&Cv Z G b e'
 | .val a,e=>Cv Z G a e
 | _,_=>false
end
noncomputable def Kh:List Value:=[.type "ValueError",.type "Exception",.type "BaseException",.type "object"]
def ED (F:Addr->Prop)(H:Hp):Prop:=∀ a,F a->H a≠none
structure Out (K:PySem.W.Frag)(F:Addr->Prop)(H:Hp)(F':Addr->Prop)(H':Hp)(v:V)(d:D)(fv:List Addr):Prop where
 CI:ED F' H'
 same:aq H H'
 rep:Cz K F' H' v d fv
 CP:fv.Nodup
 new:∀ a∈fv,H a=none
 Dz:∀ a,F a->F' a
 out:∀ a,F' a->F a∨H a=none
noncomputable def Jt (K:PySem.W.Frag)(cl:Nat->List D->Res D)(xp:XK->Hp->Str->Prop)(f:Nat)(ps:List Str):Sp:=fun vs H Q E=>vs.length=ps.length/\Js H/\∃ F ds,ED F H/\Cj K F H vs ds/\
 Ck (xp E H) (cl f (Cy ds)) fun d=>∀ v H' F' fv,Out K F H F' H' v d fv->Q v H'
structure Ju (P:Program)(w:World)(K:PySem.W.Frag)(mg:Str->Option Value)(base:Heap)(CX:Dw)(A:Around)(cl:Nat->List D->Res D)(xp:XK->Hp->Str->Prop)(f:Nat)(x:Str):Prop where
 ex:∃ (k:Nat) (fa:Addr) (fd:FuncData) (ps:List Str),mg x=some (.ref fa)/\PySem.W.keepIn K (.ref fa)=true/\Binds K fd ps []/\DN P w K mg base CX k fa fd ps (Jt K cl xp f ps)/\Dv k A/\
  ∀ (ex:Str->Prop) ds (k:D->Prop),Ck ex (cl f ds) k->ds.length=ps.length
noncomputable def rm (a:Addr)(H:Hp):Hp:=fun b=>if b=a then none else H b
structure HN (K:PySem.W.Frag)(a:Addr)(F:Addr->Prop)(H:Hp)(F':Addr->Prop)(H':Hp)(v:V)(d:D)(fv:List Addr)(kvs':List (Key×V))(Fv:List Key)(Eu:List D):Prop where
 out:Out K F (rm a H) F' H' v d fv
 nF:¬ F' a
 nf:a∉fv
 at_:H' a=some (.dK kvs')
 ks:kvs'.map (·.1)=Fv
 vs:Cj K F' H' (kvs'.map (·.2)) Eu
structure Lj (K:PySem.W.Frag)(a:Addr)(F:Addr->Prop)(H:Hp)(ws:List V)(ds:List D)(kvs:List (Key×V))(es:List D):Prop where
 CI:ED F H
 nF:¬ F a
 at_:H a=some (.dK kvs)
 ws:Cj K F H ws ds
 vs:Cj K F H (kvs.map (·.2)) es
 lf:aC es=true
noncomputable def Lk (K:PySem.W.Frag)(cl:Nat->List D->Res D)(f:Nat)(ps:List Str):Sp:=fun vs H Q _=>vs.length=ps.length/\∃ a F ws ds kvs es,vs=ws++[.ref a]/\Lj K a F H ws ds kvs es/\
 ∃ d Fv Eu,cl f (Cy ds++[.Cu false (kvs.map (·.1)) es])=.ok (.tup [d,.Cu false Fv Eu])/\aC Eu=true/\∀ v H' F' fv kvs',HN K a F H F' H' v d fv kvs' Fv Eu->Q v H'
structure Mo (P:Program)(w:World)(K:PySem.W.Frag)(mg:Str->Option Value)(base:Heap)(CX:Dw)(A:Around)(cl:Nat->List D->Res D)(f:Nat)(x:Str):Prop where
 ex:∃ (k:Nat) (fa:Addr) (fd:FuncData) (ps:List Str),mg x=some (.ref fa)/\PySem.W.keepIn K (.ref fa)=true/\Binds K fd ps []/\DN P w K mg base CX k fa fd ps (Lk K cl f ps)/\Dv k A/\
  ∀ ds r,cl f ds=.ok r->ds.length=ps.length
structure Nq (Z:Sg)(CX:Dw)(cl:Nat->List D->Res D)(xp:XK->Hp->Str->Prop)(X:Cx):Prop where
 st:X.stack=X.env::X.outer
 fr:X.env.frame=some X.env.locals
 lt:Js X.EK
 pl:∀ a:Addr,∀ f∈Z.fns,f∈Z.pl->∀ x,Z.name f=some x->Ju X.prog X.w X.K X.mg X.base CX (X.A.mark (some (.ref a))) cl xp f x
 cx:∀ (outer:List Env) (H:Hp) (s:Shared) (E:XK) (e:Value) (s':Shared),CX outer H s E e s'->DJ X.prog X.w outer H s E e s'
 xp:∀ (c:Str) (C:Addr) (H:Hp),PySem.W.nsIn X.K mainGlobals c=some (some (.ref C))->xp (fun cls _ _=>cls=.ref C) H c
structure CU (Z:Sg)(CX:Dw)(cl:Nat->List D->Res D)(xp:XK->Hp->Str->Prop)(X:Cx)(ex:Str->Prop)(G:Gm):Prop where
 N:X.N=G.N
 CP:G.N.Nodup
 calm:G.cm=true->X.calm=true
 fk:X.env.scope.kind=.function
 un:X.A.units+42 < cLine
 own:G.rs=true->PassesOwn (model X.prog X.w) X.A X.env X.xe
 kd:∀ (i:Nat) (x:Str),G.N[i]? = some x->X.env.kindOf x=G.kd[i]?
 GB:∀ (i:Nat) (x:Str),G.N[i]? = some x->(x == ("__debug__" : Str))=false/\(x == ("__classdict__" : Str))=false
 gl:∀ n∈G.gl,∀ x,Z.name n=some x->Gl X x
 Hd:∀ n x,Z.name n=some x->x≠"__name__"/\(x == ("__debug__" : Str))=false
 df:G.df=true->∀ x,X.fn x=true
 blt:∀ (n:Nat) (x:Str),aJ[n]? = some x->X.mg x=none
 cst:∀ n d x,(n,d)∈Z.Kf->Z.name n=some x->∃ u v,X.mg x=some u/\RelV v u/\∀ S H,Cm X.K S H v d
 fns:∀ f∈Z.fns,(G.cm=true∨f∈Z.pl)->∀ x,Z.name f=some x->Ju X.prog X.w X.K X.mg X.base CX X.A cl xp f x
 EB:∀ f∈Z.EB,G.cm=true->∀ x,Z.name f=some x->Mo X.prog X.w X.K X.mg X.base CX X.A cl f x
 Iu:∀ n∈Z.cls,∀ x,Z.name n=some x->∃ v,CV X x v
 Iw:∀ c n b x,(c,n,b)∈Z.xt->Z.name n=some x->∃ C,PySem.W.nsIn X.K mainGlobals c=some (some (.ref C))/\ExcAt X.K C/\∀ v,CV X x v->PySem.W.kitOne X.K (.ref C) (vv v)=some b
 Iy:∀ c n x,(c,n)∈Z.xm->Z.name n=some x->∃ C C',PySem.W.nsIn X.K mainGlobals c=some (some (.ref C))/\PySem.W.nsIn X.K mainGlobals x=some (some (.ref C'))/\nameIn X.K C=some c/\X.mg x=some (.ref C')/\PySem.W.exmOne X.K (.ref C) (.ref C')=some true
 He:∀ n c,(n,c)∈Z.rc->Z.name n=some c/\∃ C,X.mg c=some (.ref C)/\PySem.W.nsIn X.K mainGlobals c=some (some (.ref C))/\PySem.W.excIn X.K C Kh "ValueError.__new__" = true
 Mp:G.rs=true->∀ (pins:List (Addr×Obj)) (σ:St) (H:Hp) (s:Shared) (c:Str) (C:Addr) (h':Heap) (e:Addr) (vs:List Value),Inv X pins σ H s->ex c->PySem.W.nsIn X.K mainGlobals c=some (some (.ref C))->Heap.MadeExcOf s.heap h' e (.ref C) vs->X.xe (.ref e) {s with heap:=h'}
 tr:G.tr=true->Nq Z CX cl xp X
 Ll:∃ E:XK,Passes CX X E/\∀ c H,ex c->xp E H c
 G8:∀ (outer:List Env) (H:Hp) (s:Shared) (E:XK) (e:Value) (s':Shared),C0 X.prog X.w H s.heap->(∀ b∈Dr outer,H b=none)->CX outer (az s.heap H) s E e s'->CX outer H s E e s'
 Jv:∀ (H:Hp) (outer:List Env) (s:Shared) (e:Value) (s':Shared),¬ CX outer H s (fun _ _ _=>False) e s'
section
variable {P:Program}{w:World}{H H':Hp}{h:Heap}{K:PySem.W.Frag}{Fc F':Addr->Prop}
theorem gG {vs:List V}{ds:List D}(x:C0 P w H h)(m:Cj K Fc H vs ds):Cj K (fun a=>Fc a/\az h H a≠none) (az h H) vs ds:=by
 refine(m.step (S':=Fc) (H':=az h H) (fun a xs f r=>⟨f,?_⟩) fun a xs r=>?_).Fi
 ·rcases r with r|⟨o,r⟩
  ·obtain⟨ob,he⟩:=(x a _ r).at
   refine .inr ⟨ob,?_⟩
   unfold az
   rw[r]
   cases xs with
   | l ys=>show (h.get? a).map _=_;rw[he];rfl
   | d ys=>show (h.get? a).map _=_;rw[he];rfl
  ·refine .inr ⟨o,?_⟩
   unfold az
   rw[r]
   cases xs<;>rfl
 ·cases xs with
  | inl xs=>
   rcases r with (r|⟨o,r⟩)|r
   ·refine .inl (.inl ?_)
    unfold az
    rw[r]
   ·refine .inl (.inr ⟨o,?_⟩)
    unfold az
    rw[r]
    rfl
   ·exact .inr r
  | inr c=>
   obtain⟨C,o,vs,h0,h1,h2,h3⟩:=r
   refine⟨C,o,vs,h0,h1,?_,h3⟩
   unfold az
   rw[h2]
   rfl
theorem iN (x:C0 P w H h)(p:Fo h (az h H) H'){a:Addr}(n:az h H a=none)(e:H' a≠none):H a=none:=by
 cases q:H a with
 | none=>rfl
 | some o=>
  obtain⟨ob,he⟩:=(x a o q).at
  exact absurd (p.free a ob he n) e
theorem gH {v:V}{d:D}{fv:List Addr}(x:C0 P w H h)(CI:ED Fc H)(p:Fo h (az h H) H')(o:Out K (fun a=>Fc a/\az h H a≠none) (az h H) F' H' v d fv):Out K Fc H (fun a=>Fc a∨F' a) (cC H H') v d fv:=by
 have new:∀ a∈fv,H a=none:=fun a ha=>iN x p (o.new a ha) (by obtain⟨_,xs,e⟩:=o.rep.own a ha;rw[e];simp)
 refine⟨fun a ha=>?_,iL,o.rep.step (fun a xs f r=>⟨.inr f,?_⟩) (fun a xs r=>?_) fun a ha nf hn=>⟨fun z=>?_,res_none (new a ha)⟩,o.CP,new,fun a ha=>.inl ha,fun a ha=>?_⟩
 ·cases q:H a with
  | some u=>rw[res_some q];simp
  | none=>
   rw[res_none q]
   rcases ha with ha|ha
   ·exact absurd q (CI a ha)
   ·exact o.CI a ha
 ·cases q:H a with
  | none=>unfold Rd;rw[res_none q];exact r
  | some u=>
   unfold Rd
   rw[res_some q]
   cases fT x p q with
   | lst _ z=>
    cases xs with
    | l ys=>
     rcases r with r|⟨o',r⟩
     ·rw[z] at r;cases r
     ·rw[z] at r;cases r;exact .inl rfl
    | d ys=>rcases r with r|⟨o',r⟩<;>(rw[z] at r;cases r)
   | dK _ z=>
    cases xs with
    | d ys=>
     rcases r with r|⟨o',r⟩
     ·rw[z] at r;cases r
     ·rw[z] at r;cases r;exact .inl rfl
    | l ys=>rcases r with r|⟨o',r⟩<;>(rw[z] at r;cases r)
   | tup z=>cases xs<;>rcases r with r|⟨o',r⟩<;>(rw[z] at r;cases r)
   | CK _ z=>
    cases xs with
    | l ys=>
     rcases r with r|⟨o',r⟩
     ·rw[z] at r;cases r
     ·rw[z] at r;cases r;exact .inr ⟨_,rfl⟩
    | d ys=>
     rcases r with r|⟨o',r⟩
     ·rw[z] at r;cases r
     ·rw[z] at r;cases r;exact .inr ⟨_,rfl⟩
   | C7 _ _ z _ _ _=>exact absurd z r.some
 ·cases xs with
  | inl xs=>
   rcases r with r|r
   ·refine .inl ?_
    cases q:H a with
    | none=>unfold Rd;rw[res_none q];exact r
    | some u=>
     unfold Rd
     rw[res_some q]
     cases fT x p q with
     | lst _ z=>rcases r with r|⟨o',r⟩<;>(rw[z] at r;cases r)
     | dK _ z=>rcases r with r|⟨o',r⟩<;>(rw[z] at r;cases r)
     | tup z=>
      rcases r with r|⟨o',r⟩
      ·rw[z] at r;cases r;exact .inl rfl
      ·rw[z] at r;cases r
     | CK _ z=>
      rcases r with r|⟨o',r⟩
      ·rw[z] at r;cases r
      ·rw[z] at r;cases r;exact .inr ⟨_,rfl⟩
     | C7 _ _ z _ _ _=>exact absurd z r.some
   ·exact .inr r
  | inr c=>
   obtain⟨C,ob,vs,h0,h1,h2,h3⟩:=r
   refine⟨C,ob,vs,h0,h1,?_,h3⟩
   cases q:H a with
   | none=>rw[res_none q];exact h2
   | some u=>
    rw[res_some q]
    cases fT x p q with
    | lst _ z=>rw[z] at h2;cases h2
    | dK _ z=>rw[z] at h2;cases h2
    | tup z=>rw[z] at h2;cases h2
    | CK _ z=>rw[z] at h2;cases h2;rfl
    | C7 _ _ z _ _ _=>rw[z] at h2;cases h2
 ·rcases z with z|z
  ·exact CI a z (new a ha)
  ·exact nf z
 ·rcases ha with ha|ha
  ·exact .inl ha
  ·rcases o.out a ha with z|z
   ·exact .inl z.1
   ·exact .inr (iN x p z (o.CI a ha))
end
section
variable {X:Cx}{CX:Dw}{cl:Nat->List D->Res D}{xp:XK->Hp->Str->Prop}
theorem Inv.Lm {pins:List (Addr×Obj)}{σ:St}{H:Hp}{s:Shared}(I:Inv X pins σ H s):FC X.prog X.w X.K X.mg X.base X.A X.stack s (az s.heap H):=
 ⟨I.El.frames,I.El.mod,fun b o e=>⟨(I.El.bs b o e).1,bo (I.El.bs b o e).2⟩,I.El.Gv,I.El.Ds,fun b hb=>bo (I.El.Fs b hb),jz I.CA,I.El.bare⟩
theorem gI {k:Nat}{f:Nat}{fa:Addr}{fd:FuncData}{ps:List Str}{E:XK}{pins:List (Addr×Obj)}{σ:St}{H:Hp}{s:Shared}{Q:VK}{us:List Value}{vs:List V}{ds:List D}{Fc:Addr->Prop}
  (F:DN X.prog X.w X.K X.mg X.base CX k fa fd ps (Jt X.K cl xp f ps)) (hr:Dv k X.A) (hb:Binds X.K fd ps []) (hx:Passes CX X E)
  (hh:∀ (outer:List Env) (H:Hp) (s:Shared) (E:XK) (e:Value) (s':Shared),C0 X.prog X.w H s.heap->(∀ b∈Dr outer,H b=none)->CX outer (az s.heap H) s E e s'->CX outer H s E e s')
  (I:Inv X pins σ H s) (r:Vals vs us) (hl:vs.length=ps.length) (CI:ED Fc H) (m:Cj X.K Fc H vs ds)
  (q:Ck (xp E (az s.heap H)) (cl f (Cy ds)) fun d=>∀ v H' F' fv,Out X.K Fc H F' H' v d fv->Q v H'):wpAny (model X.prog X.w) X.A (call (.ref fa) us) (EP X pins σ Q) X.xe s:=by
 have Ft:Jt X.K cl xp f ps vs (az s.heap H) (fun v H'=>Fo s.heap (az s.heap H) H'->Q v (cC H H')) E:=
  ⟨hl,nN _ _,_,ds,fun a h=>h.2,gG I.CA m,q.mono fun d hd v H' F' fv o p=>hd v _ _ fv (gH I.CA CI p o)⟩
 have GO:(us++([]:List Value)).length=ps.length:=by rw[List.append_nil,<- r.length];exact hl
 have bd:=hb s us I.EL GO
 rw[List.append_nil] at bd
 refine wpAny_call (codeAny_mono (F.run X.A X.stack s (az s.heap H) ⟨us,[]⟩ us vs _ E hr I.Lm bd r Ft) fun r' s' hq=>?_)
 cases r' with
 | error e=>exact hx pins σ H s e s' I (hh X.stack H s E e s' I.CA I.El.Fs hq)
 | ok fl=>
  cases fl with
  | ret u=>
   obtain⟨v,H',a1,a2,a3,a4,a5,a6⟩:=hq
   exact I.after (Q:=Q) ⟨v,cC H H',a1,a2,jA I.CA a3,gE I.CA a4 (dn a3) (fs:=Dr X.stack) (fun b o _ e n f=>a3.keep b o e n f (by simp)) I.El.Fs,a5,a6 (dn a3)⟩
  | next=>exact False.elim hq
  | brk=>exact False.elim hq
  | cont=>exact False.elim hq
end
def Slots (K:PySem.W.Frag)(S:Addr->Prop)(H:Hp)(σ:St)(τ:Ev)(is:List Nat):Prop:=∀ i∈is,∀ d,ai τ i=some d->∃ v,σ[i]? = some (some v)/\Cm K S H v d
theorem Slots.sub {K:PySem.W.Frag}{S:Addr->Prop}{H:Hp}{σ:St}{τ:Ev}{is js:List Nat}(h:Slots K S H σ τ is)(s:∀ i∈js,i∈is):Slots K S H σ τ js:=fun i hi d e=>h i (s i hi) d e
theorem Slots.left {K:PySem.W.Frag}{S:Addr->Prop}{H:Hp}{σ:St}{τ:Ev}{is js:List Nat}(h:Slots K S H σ τ (is++js)):Slots K S H σ τ is:=h.sub fun _ hi=>List.mem_append_left _ hi
theorem Slots.right {K:PySem.W.Frag}{S:Addr->Prop}{H:Hp}{σ:St}{τ:Ev}{is js:List Nat}(h:Slots K S H σ τ (is++js)):Slots K S H σ τ js:=h.sub fun _ hi=>List.mem_append_right _ hi
theorem Slots.go {K:PySem.W.Frag}{S:Addr->Prop}{H H':Hp}{σ:St}{τ:Ev}{is:List Nat}(h:Slots K S H σ τ is)(e:aq H H'):Slots K (nw S H) H' σ τ is:=fun i hi d z=>by
 obtain⟨v,h1,h2⟩:=h i hi d z
 exact⟨v,h1,h2.mono (fun _=>.inl) e⟩
def RD (K:PySem.W.Frag)(ex:Str->Prop)(is:List Nat)(f:Ev->Res D):TE:=fun σ H Q=>∃ S τ,Slots K S H σ τ is/\Ck ex (f τ) (Kk K S H Q)
def RT (K:PySem.W.Frag)(ex:Str->Prop)(is:List Nat)(f:Ev->Res Bool):TT:=fun σ H Q=>∃ S τ,Slots K S H σ τ is/\Ck ex (f τ) fun b=>∀ H',aq H H'->Q b H'
def RA (K:PySem.W.Frag)(ex:Str->Prop)(is:List Nat)(f:Ev->Res (List D)):TA:=fun σ H Q=>∃ S τ,Slots K S H σ τ is/\Ck ex (f τ) fun ds=>∀ vs H',aq H H'->Cj K (nw S H) H' vs ds->Q vs H'
noncomputable def Ki (K:PySem.W.Frag)(ex:Str->Prop)(is:List Nat)(f:Ev->Res (Option Int)):TO:=fun σ H Q=>∃ S τ,Slots K S H σ τ is/\Ck ex (f τ) fun o=>∀ H',aq H H'->Q o H'
def WS (K:PySem.W.Frag)(S:Addr->Prop)(H:Hp)(k:Zp.Kq)(a:Addr)(xs:List V):Prop:=match k with
 | .l=>(S a/\Rd H a (.lst xs))∨KL K a xs
 | .t=>DL K H a xs
theorem WS.sq {K:PySem.W.Frag}{S:Addr->Prop}{H:Hp}{k:Zp.Kq}{a:Addr}{xs:List V}(h:WS K S H k a xs):Gx K H k a xs:=by
 cases k with
 | l=>exact h.elim (fun z=>.inl z.2) fun z=>z.sq
 | t=>exact h
inductive Er (K:PySem.W.Frag)(S:Addr->Prop)(H:Hp):It->List D->Prop where
 | lst {a:Addr}{xs:List V}{ds:List D}:S a->Rd H a (.lst xs)->Cj K S H xs ds->Er K S H (L0 K a) ds
 | lstK {a:Addr}{xs:List V}{ds:List D}:KL K a xs->Cj K S H xs ds->Er K S H (L0 K a) ds
 | tup {a:Addr}{xs:List V}{ds:List D}:DL K H a xs->Cj K S H xs ds->Er K S H (MN K a) ds
 | Gb (lo hi:Int):Er K S H (J6 lo (hi - lo).toNat) (bb lo hi)
 | str (x:Str):Er K S H (Nn x) (cG x)
 | zip {p q:Zp.Kq}{l m:Addr}{xs ys:List V}{ds es:List D}:WS K S H p l xs->WS K S H q m ys->Cj K S H xs ds->Cj K S H ys es->Er K S H (Nc K p q l m) (ma ds es)
def RI (K:PySem.W.Frag)(ex:Str->Prop)(is:List Nat)(f:Ev->Res (List D)):TI:=fun σ H R=>∃ S τ,Slots K S H σ τ is/\Ck ex (f τ) fun ds=>∀ J H',aq H H'->Er K (nw S H) H' J ds->R J H'
theorem fV {S:Addr->Prop}{H H1:Hp}(e:aq H H1):∀ a,nw (nw S H) H1 a->nw S H a:=fun a h=>by
 rcases h with h|h
 ·exact h
 ·exact .inr (e.free h)
section
variable {Z:Sg}{CX:Dw}{cl:Nat->List D->Res D}{xp:XK->Hp->Str->Prop}{X:Cx}{ex:Str->Prop}{G:Gm}
theorem Kk.fit {K:PySem.W.Frag}{S:Addr->Prop}{H H1:Hp}{Q:VK}{d:D}(e:aq H H1)(h:Kk K S H Q d):Kk K (nw S H) H1 Q d:=fun w H' e' m=>h w H' (e.trans e') (m.mono (fV e) (.refl _))
theorem eP (g:CU Z CX cl xp X ex G){n:Nat}{x:Str}(h:bI Z G n x=true):Gl X x/\Z.name n=some x/\x≠"__name__"/\(x == ("__debug__" : Str))=false:=by
 unfold bI at h
 rw[Bool.and_eq_true] at h
 have e:Z.name n=some x:=eq_of_beq h.1
 exact⟨g.gl n (by simpa using h.2) x e,e,g.Hd n x e⟩
theorem tV (Z:Sg){n:Nat}{x:Str}(h:aJ[n]? = some x):Z.name n=some x:=by
 unfold Sg.name
 rw[List.getElem?_append_left (List.getElem?_eq_some_iff.mp h).1]
 exact h
theorem bQ (g:CU Z CX cl xp X ex G){n:Nat}{x:Str}(h:aJ[n]? = some x)(hc:G.gl.contains n=true):Gl X x/\X.mg x=none/\x≠"__name__"/\(x == ("__debug__" : Str))=false:=
 ⟨g.gl n (by simpa using hc) x (tV Z h),g.blt n x h,g.Hd n x (tV Z h)⟩
theorem ah {e:Expr}(h:notStar e=true)(es:List Expr)(env:Env):starEach (e::es) env=(false,eval e env)::starEach es env:=by
 cases e<;>first|rfl|cases h
theorem bh (Z:Sg)(G:Gm):∀ {es:List IR}{l:List Expr} (p:Pos) (env:Env),aB Z G es l=true->(backTo p (starEach l env)).any (·.1)=false
 | [],[],_,_,_=>rfl
 | a::es,e::l,p,env,h=>by
  have h':(notStar e&&Cv Z G a e&&aB Z G es l)=true:=h
  simp only[Bool.and_eq_true] at h'
  rw[ah h'.1.1]
  have ih:=bh Z G (es:=es) (l:=l) p env h'.2
  show (false||(backTo p (starEach l env)).any (·.1))=false
  rw[ih]
  rfl
 | [],_::_,_,_,h=>by cases h
 | _::_,[],_,_,h=>by cases h
theorem nR {d:D}{v:V}(h:∀ S H,Cm X.K S H v d){σ:St}{H:Hp}{Q:VK}{is:List Nat}(q:RD X.K ex is (fun _=>.ok d) σ H Q):Q v H:=by
 obtain⟨S,τ,_,q⟩:=q
 exact q.ok _ _ (.refl _) (h _ _)
theorem zb {e:Expr}{is:List Nat}{f:Ev->Res D}(h:PE X e (RD X.K ex is f))(he:∀ whole,isTrue e X.env whole=(do let v <- whole;standAt e.pos;holding [v] (truthy v))):PT X e (RT X.K ex is fun τ=>Ci (f τ) aR):=by
 intro pins s σ H Q I hw
 obtain⟨S,τ,hs,hw⟩:=hw
 refine isTrue_plain (CF (h pins s σ H (fun v H'=>∃ d,aq H H'/\Cm X.K (nw S H) H' v d/\Ck ex (aR d) fun b=>∀ H',aq H H'->Q b H') I ⟨S,τ,hs,(Ck.Ci hw).mono fun d hd v H' e m=>⟨d,e,m,hd⟩⟩) fun v s1 ⟨x,H1,I1,r1,d,e,m,hd⟩=>?_) (he _)
 exact dZ I1 r1 m (hd.mono fun b z=>z H1 e)
end
section
variable {Z:Sg}{CX:Dw}{cl:Nat->List D->Res D}{xp:XK->Hp->Str->Prop}{X:Cx}{ex:Str->Prop}{G:Gm}{K:PySem.W.Frag}{S:Addr->Prop}{H H1:Hp}{σ:St}{τ:Ev}
theorem aI {is:List Nat}{f:Ev->Res D}{Kt:D->Prop}{Q:VK}(e:aq H H1)(hs:Slots K S H σ τ is)(h:Ck ex (f τ) Kt)(k:∀ x v H2,aq H H2->aq H1 H2->Cm K (nw S H) H2 v x->Kt x->Q v H2):RD K ex is f σ H1 Q:=
 ⟨nw S H,τ,hs.go e,h.mono fun x hx v H2 e2 m=>k x v H2 (e.trans e2) e2 (m.mono (fV e) (.refl _)) hx⟩
theorem gJ {is:List Nat}{f:Ev->Res Bool}{Kt:Bool->Prop}{Q:Bool->Hp->Prop}(e:aq H H1)(hs:Slots K S H σ τ is)(h:Ck ex (f τ) Kt)(k:∀ x H2,aq H H2->aq H1 H2->Kt x->Q x H2):RT K ex is f σ H1 Q:=
 ⟨nw S H,τ,hs.go e,h.mono fun x hx H2 e2=>k x H2 (e.trans e2) e2 hx⟩
theorem iO {is:List Nat}{f:Ev->Res (List D)}{Kt:List D->Prop}{Q:List V->Hp->Prop}(e:aq H H1)(hs:Slots K S H σ τ is)(h:Ck ex (f τ) Kt)(k:∀ x v H2,aq H H2->aq H1 H2->Cj K (nw S H) H2 v x->Kt x->Q v H2):RA K ex is f σ H1 Q:=
 ⟨nw S H,τ,hs.go e,h.mono fun x hx v H2 e2 m=>k x v H2 (e.trans e2) e2 (m.mono (fV e) (.refl _)) hx⟩
theorem sj {is:List Nat}{f:Ev->Res (Option Int)}{Kt:Option Int->Prop}{Q:Option Int->Hp->Prop}(e:aq H H1)(hs:Slots K S H σ τ is)(h:Ck ex (f τ) Kt)(k:∀ x H2,aq H H2->aq H1 H2->Kt x->Q x H2):Ki K ex is f σ H1 Q:=
 ⟨nw S H,τ,hs.go e,h.mono fun x hx H2 e2=>k x H2 (e.trans e2) e2 hx⟩
theorem Cm.later {v:V}{d:D}{H2:Hp}(h:Cm K (L2.nw S H) H1 v d)(e:aq H1 H2):Cm K (L2.nw S H) H2 v d:=h.mono (fun _ z=>z) e
theorem Cj.later {v:List V}{d:List D}{H2:Hp}(h:Cj K (L2.nw S H) H1 v d)(e:aq H1 H2):Cj K (L2.nw S H) H2 v d:=h.mono (fun _ z=>z) e
theorem RH (g:CU Z CX cl xp X ex G){i:Nat}{x:Str}{pos:Pos}(h:b8 G i x=true):PE X (.Name x pos) (RD X.K ex [i] (Cn cl (.v i))):=by
 unfold b8 at h
 rw[Bool.and_eq_true] at h
 have hx:G.N[i]? = some x:=eq_of_beq h.1
 have hk:=g.kd i x hx
 have hv:KG X.env.scope x:=by
  have h2:=h.2
  rw[Bool.or_eq_true,Bool.or_eq_true] at h2
  rcases h2 with (h2|h2)|h2
  ·exact .inl (hk.trans (eq_of_beq h2))
  ·exact .inr (.inl (hk.trans (eq_of_beq h2)))
  ·exact .inr (.inr (hk.trans (eq_of_beq h2)))
 refine ax (mG (i:=i) (by rw[g.N];exact hx) hv (g.GB i x hx).1 (g.GB i x hx).2) fun σ H Q q=>?_
 obtain⟨S,τ,hs,q⟩:=q
 rw[yY] at q
 cases z:ai τ i with
 | none=>rw[z] at q;exact q.no.elim
 | some d=>
  rw[z] at q
  obtain⟨v,h1,h2⟩:=hs i (by simp) d z
  exact⟨v,h1,q.ok _ _ (.refl _) h2.nw⟩
theorem RJ {d:D}{k:Const}{j:Nat}{pos:Pos}(h:za d k=true):PE X (.Constant k j pos) (RD X.K ex [] (Cn cl (.c d))):=by
 cases d with
 | CD=>
  cases k with
  | none=>exact ax vW fun σ H Q q=>nR (fun _ _=>.CD) q
  | _=>cases h
 | bl b=>
  cases k with
  | bool b'=>
   have e:b=b':=eq_of_beq h
   subst e
   exact ax yl fun σ H Q q=>nR (fun _ _=>.bl _) q
  | _=>cases h
 | int b=>
  cases k with
  | int b'=>
   have e:b=b':=eq_of_beq h
   subst e
   exact ax vV fun σ H Q q=>nR (fun _ _=>.int _) q
  | _=>cases h
 | str b=>
  cases k with
  | str b'=>
   have e:b=b':=eq_of_beq h
   subst e
   exact ax d6 fun σ H Q q=>nR (fun _ _=>.str _) q
  | _=>cases h
 | tup _=>cases k<;>cases h
 | lst _ _=>cases k<;>cases h
 | exc _=>cases k<;>cases h
 | Cu o ks ds=>cases k<;>cases h
theorem RK (g:CU Z CX cl xp X ex G){n:Nat}{d:D}{x:Str}{pos:Pos}(h:bI Z G n x=true)(hk:Z.Kf.any (fun p=>p.1 == n&&mf p.2 d)=true):PE X (.Name x pos) (RD X.K ex [] (Cn cl (.g n d))):=by
 obtain⟨h1,h2,h3,h4⟩:=eP g h
 rw[List.any_eq_true] at hk
 obtain⟨⟨m,d'⟩,hm,hk⟩:=hk
 rw[Bool.and_eq_true] at hk
 have e1:m=n:=eq_of_beq hk.1
 have e2:d'=d:=j8 hk.2
 subst e1 e2
 obtain⟨u,v,hu,r,hr⟩:=g.cst m d' x hm h2
 exact ax (rb h1 hu r h4) fun σ H Q q=>nR hr q
theorem zd {op:GQ}{a b:Expr}{pos:Pos}{va vb:List Nat}{fa fb:Ev->Res D}(ha:PE X a (RD X.K ex va fa))(hb:PE X b (RD X.K ex vb fb)) :
  PE X (.BinOp a (HM op) b pos) (RD X.K ex (va++vb) fun τ=>Ci (fa τ) fun x=>Ci (fb τ) fun y=>D6 op x y):=by
 refine ax (mU (wM (ex:=ex) op) ha hb) fun σ H Q ⟨S,τ,hs,q⟩=>?_
 refine aI (.refl _) hs.left (Ck.Ci q) fun x v H1 e1 _ m1 q1=>?_
 refine aI e1 hs.right (Ck.Ci q1) fun y w H2 e2 Dc m2 q2=>?_
 exact⟨nw S H,x,y,m1.later Dc,m2,q2.mono fun d hd=>hd.fit e2⟩
theorem ze {a:Expr}{pos:Pos}{va:List Nat}{fa:Ev->Res D}(ha:PE X a (RD X.K ex va fa)) :
  PE X (.UnaryOp .USub a pos) (RD X.K ex va fun τ=>Ci (fa τ) fun|.int i=>.ok (.int (-i))|_=>Cq):=by
 refine ax (yz wo ha) fun σ H Q ⟨S,τ,hs,q⟩=>?_
 refine aI (.refl _) hs (Ck.Ci q) fun x v H1 e1 _ m1 q1=>?_
 cases x with
 | int i=>cases m1.CG;exact⟨i,rfl,q1.ok _ _ e1 (.int _)⟩
 | _=>exact q1.no.elim
theorem zh (g:CU Z CX cl xp X ex G){op:Gy}{a b:Expr}{pos:Pos}{va vb:List Nat}{fa fb:Ev->Res D}(ha:PE X a (RD X.K ex va fa))(hb:PE X b (RD X.K ex vb fb))(hm:behindInMarks (Jq op) b=false) :
  PE X (.Compare a [Jq op] [b] pos) (RD X.K ex (va++vb) fun τ=>Ci (fa τ) fun x=>Ci (fb τ) fun y=>Ci (FG op x y) fun r=>.ok (.bl r))/\
  PT X (.Compare a [Jq op] [b] pos) (RT X.K ex (va++vb) fun τ=>Ci (Ci (fa τ) fun x=>Ci (fb τ) fun y=>Ci (FG op x y) fun r=>.ok (.bl r)) aR):=by
 refine⟨ax (rq (nH (ex:=ex) g.un op) ha hb hm) fun σ H Q ⟨S,τ,hs,q⟩=>?_,dE (rz (nH (ex:=ex) g.un op) ha hb hm) fun σ H Q ⟨S,τ,hs,q⟩=>?_⟩
 ·refine aI (.refl _) hs.left (Ck.Ci q) fun x v H1 e1 _ m1 q1=>?_
  refine aI e1 hs.right (Ck.Ci q1) fun y w H2 e2 Dc m2 q2=>?_
  exact⟨nw S H,x,y,m1.later Dc,m2,(Ck.Ci q2).mono fun d hd=>hd.ok _ _ e2 (.bl _)⟩
 ·refine aI (.refl _) hs.left (Ck.Ci (Ck.Ci q)) fun x v H1 e1 _ m1 q1=>?_
  refine aI e1 hs.right (Ck.Ci q1) fun y w H2 e2 Dc m2 q2=>?_
  exact⟨nw S H,x,y,m1.later Dc,m2,(Ck.Ci q2).mono fun d hd=>⟨d,rfl,hd.ok.ok H2 e2⟩⟩
theorem tX {a b:Expr}{rest:List Expr}{pos:Pos}{va vb:List Nat}{fa fb:Ev->Res D}(ha:PE X a (RD X.K ex va fa))(hb:PE X (.BoolOp .And (b::rest) pos) (RD X.K ex vb fb)) :
  PE X (.BoolOp .And (a::b::rest) pos) (RD X.K ex (va++vb) fun τ=>Ci (fa τ) fun x=>Ci (aR x) fun r=>if r=true then fb τ else .ok x):=by
 intro pins s σ H Q I h
 obtain⟨S,τ,hs,q⟩:=h
 refine BoolOp_and (CF (ha pins s σ H (fun v H'=>∃ d,aq H H'/\Cm X.K (nw S H) H' v d/\_) I (aI (.refl _) hs.left (Ck.Ci q) fun x v H1 e1 _ m1 q1=>⟨x,e1,m1,q1⟩)) fun v s1 ⟨x,H1,I1,r1,d,e1,m1,q1⟩=>?_)
 refine CF (dZ (Q:=fun b H'=>H'=H1/\Ck ex (if b=true then fb τ else .ok d) (Kk X.K S H Q)) I1 r1 m1 ((Ck.Ci q1).mono fun b z=>⟨rfl,z⟩)) fun c s2 ⟨H2,I2,e2,q2⟩=>?_
 subst e2
 cases c with
 | true=>
  rw[if_pos rfl] at q2 ⊢
  exact hb pins s2 σ _ Q I2 (aI e1 hs.right q2 fun y w H3 e3 _ m3 q3=>q3 _ _ e3 m3)
 | false=>
  rw[if_neg Bool.false_ne_true] at q2 ⊢
  exact⟨x,_,I2,r1,q2.ok _ _ e1 m1⟩
theorem zk {a b:Expr}{rest:List Expr}{pos:Pos}{va vb:List Nat}{fa fb:Ev->Res D}(ha:PE X a (RD X.K ex va fa))(hb:PE X (.BoolOp .Or (b::rest) pos) (RD X.K ex vb fb)) :
  PE X (.BoolOp .Or (a::b::rest) pos) (RD X.K ex (va++vb) fun τ=>Ci (fa τ) fun x=>Ci (aR x) fun r=>if r=true then .ok x else fb τ):=by
 intro pins s σ H Q I h
 obtain⟨S,τ,hs,q⟩:=h
 refine BoolOp_or (CF (ha pins s σ H (fun v H'=>∃ d,aq H H'/\Cm X.K (nw S H) H' v d/\_) I (aI (.refl _) hs.left (Ck.Ci q) fun x v H1 e1 _ m1 q1=>⟨x,e1,m1,q1⟩)) fun v s1 ⟨x,H1,I1,r1,d,e1,m1,q1⟩=>?_)
 refine CF (dZ (Q:=fun b H'=>H'=H1/\Ck ex (if b=true then .ok d else fb τ) (Kk X.K S H Q)) I1 r1 m1 ((Ck.Ci q1).mono fun b z=>⟨rfl,z⟩)) fun c s2 ⟨H2,I2,e2,q2⟩=>?_
 subst e2
 cases c with
 | false=>
  rw[if_neg Bool.false_ne_true] at q2 ⊢
  exact hb pins s2 σ _ Q I2 (aI e1 hs.right q2 fun y w H3 e3 _ m3 q3=>q3 _ _ e3 m3)
 | true=>
  rw[if_pos rfl] at q2 ⊢
  exact⟨x,_,I2,r1,q2.ok _ _ e1 m1⟩
theorem zm {a:Expr}{pos:Pos}{va:List Nat}{fa:Ev->Res D}(ha:PE X a (RD X.K ex va fa))(ht:PT X a (RT X.K ex va fun τ=>Ci (fa τ) aR)) :
  PE X (.UnaryOp .Not a pos) (RD X.K ex va fun τ=>Ci (fa τ) fun x=>Ci (aR x) fun r=>.ok (.bl !r))/\PT X (.UnaryOp .Not a pos) (RT X.K ex va fun τ=>Ci (Ci (fa τ) fun x=>Ci (aR x) fun r=>.ok (.bl !r)) aR):=by
 constructor
 ·intro pins s σ H Q I h
  obtain⟨S,τ,hs,q⟩:=h
  refine UnaryOp_ (CF (ha pins s σ H (fun v H'=>∃ d,aq H H'/\Cm X.K (nw S H) H' v d/\_) I (aI (.refl _) hs (Ck.Ci q) fun x v H1 e1 _ m1 q1=>⟨x,e1,m1,q1⟩)) fun v s1 ⟨x,H1,I1,r1,d,e1,m1,q1⟩=>?_)
  refine not_of (CF (dZ (Q:=fun b H'=>Q (.bl !b) H') I1 r1 m1 ((Ck.Ci q1).mono fun b z=>z.ok _ _ e1 (.bl _))) fun c s2 ⟨H2,I2,q2⟩=>⟨.bl !c,H2,I2,rfl,q2⟩)
 ·refine dE (vZ ht) fun σ H Q ⟨S,τ,hs,q⟩=>?_
  exact gJ (.refl _) hs (Ck.mk ((Ck.Ci (Ck.Ci q)).mono fun x hx=>(Ck.Ci hx).mono fun r hr=>hr.ok.ok)) fun x H2 e2 _ k=>k H2 e2
theorem nS {e:Expr}{pos:Pos}{op:BoolOp}{es:List Expr}{t:TT}(h:PT X (.BoolOp op es pos) t):PW X (.BoolOp op es pos) t:=fun _ pins s σ H Q I q=>h pins s σ H Q I q
theorem tY {a b:Expr}{rest:List Expr}{pos:Pos}{va vb:List Nat}{fa fb:Ev->Res D}(ha:PT X a (RT X.K ex va fun τ=>Ci (fa τ) aR))(hb:PW X (.BoolOp .And (b::rest) pos) (RT X.K ex vb fun τ=>Ci (fb τ) aR)) :
  PT X (.BoolOp .And (a::b::rest) pos) (RT X.K ex (va++vb) fun τ=>Ci (Ci (fa τ) fun x=>Ci (aR x) fun r=>if r=true then fb τ else .ok x) aR):=by
 refine dE (vY ha hb).pt fun σ H Q ⟨S,τ,hs,q⟩=>?_
 refine gJ (.refl _) hs.left (Kt:=fun r=>Ck ex (if r=true then Ci (fb τ) aR else .ok false) fun b=>∀ H',aq H H'->Q b H') (Ck.mk ((Ck.Ci (Ck.Ci q)).mono fun x hx=>(Ck.Ci hx).eq.mono fun r hr=>?_)) fun r H2 e2 _ k=>?_
 ·obtain⟨er,hr⟩:=hr
  cases r with
  | true=>rw[if_pos rfl] at hr ⊢;exact Ck.mk hr
  | false=>
   rw[if_neg Bool.false_ne_true] at hr ⊢
   have Ir:Ck ex (aR x) _:=hr
   rw[er] at Ir
   exact Ir
 ·cases r with
  | true=>rw[if_pos rfl] at k ⊢;exact gJ e2 hs.right k fun b H3 e3 _ z=>z H3 e3
  | false=>rw[if_neg Bool.false_ne_true] at k ⊢;exact k.ok H2 e2
theorem zo {a b:Expr}{rest:List Expr}{pos:Pos}{va vb:List Nat}{fa fb:Ev->Res D}(ha:PT X a (RT X.K ex va fun τ=>Ci (fa τ) aR))(hb:PW X (.BoolOp .Or (b::rest) pos) (RT X.K ex vb fun τ=>Ci (fb τ) aR)) :
  PT X (.BoolOp .Or (a::b::rest) pos) (RT X.K ex (va++vb) fun τ=>Ci (Ci (fa τ) fun x=>Ci (aR x) fun r=>if r=true then .ok x else fb τ) aR):=by
 refine dE (yn ha hb).pt fun σ H Q ⟨S,τ,hs,q⟩=>?_
 refine gJ (.refl _) hs.left (Kt:=fun r=>Ck ex (if r=true then .ok true else Ci (fb τ) aR) fun b=>∀ H',aq H H'->Q b H') (Ck.mk ((Ck.Ci (Ck.Ci q)).mono fun x hx=>(Ck.Ci hx).eq.mono fun r hr=>?_)) fun r H2 e2 _ k=>?_
 ·obtain⟨er,hr⟩:=hr
  cases r with
  | false=>rw[if_neg Bool.false_ne_true] at hr ⊢;exact Ck.mk hr
  | true=>
   rw[if_pos rfl] at hr ⊢
   have Ir:Ck ex (aR x) _:=hr
   rw[er] at Ir
   exact Ir
 ·cases r with
  | false=>rw[if_neg Bool.false_ne_true] at k ⊢;exact gJ e2 hs.right k fun b H3 e3 _ z=>z H3 e3
  | true=>rw[if_pos rfl] at k ⊢;exact k.ok H2 e2
theorem zp {es:List Expr}{n:Nat}{pos:Pos}{va:List Nat}{fa:Ev->Res (List D)}(h:PA X es (RA X.K ex va fa)):PE X (.Tuple es n pos) (RD X.K ex va fun τ=>Ci (fa τ) fun ds=>Co (a8 ds.length) (.ok (.tup ds))):=by
 refine ax (mW h) fun σ H Q ⟨S,τ,hs,q⟩=>?_
 refine iO (.refl _) hs (Ck.Ci q) fun ds vs H1 e1 _ m1 q1=>?_
 obtain⟨g,q1⟩:=Ck.Co q1
 exact⟨by rw[m1.length];exact aT g,fun p hp=>q1.ok _ _ (e1.trans (.upd hp)) ((BX hp m1).mono (fV e1) (.refl _))⟩
theorem zq {es:List Expr}{pos:Pos}{va:List Nat}{fa:Ev->Res (List D)}(h:PA X es (RA X.K ex va fa)):PE X (.List es pos) (RD X.K ex va fun τ=>Ci (fa τ) fun ds=>Co (a8 ds.length) (.ok (.lst true ds))):=by
 refine ax (mX h) fun σ H Q ⟨S,τ,hs,q⟩=>?_
 refine iO (.refl _) hs (Ck.Ci q) fun ds vs H1 e1 _ m1 q1=>?_
 obtain⟨g,q1⟩:=Ck.Co q1
 exact⟨by rw[m1.length];exact aT g,fun p hp=>q1.ok _ _ (e1.trans (.upd hp)) ((iI hp m1).mono (fV e1) (.refl _))⟩
theorem zr {a b:Expr}{pos:Pos}{va vb:List Nat}{fa fb:Ev->Res D}(ha:PE X a (RD X.K ex va fa))(hb:PE X b (RD X.K ex vb fb))(hp:aY b=true) :
  PE X (.Subscript a b pos) (RD X.K ex (va++vb) fun τ=>Ci (fa τ) fun x=>Ci (fb τ) fun y=>bg x y):=by
 refine ax (yE (r9 (ex:=ex)) ha hb fun o i=>by cases b<;>first|rfl|cases hp) fun σ H Q ⟨S,τ,hs,q⟩=>?_
 refine aI (.refl _) hs.left (Ck.Ci q) fun x v H1 e1 _ m1 q1=>?_
 refine aI e1 hs.right (Ck.Ci q1) fun y w H2 e2 Dc m2 q2=>?_
 exact⟨nw S H,x,y,m1.later Dc,m2,q2.mono fun d hd=>hd.fit e2⟩
theorem B4 {a:Expr}{lo hi:Option Expr}{pos p2:Pos}{va vl vh:List Nat}{fa:Ev->Res D}{fl fh:Ev->Res (Option Int)}(ha:PE X a (RD X.K ex va fa))(hl:PO X lo (Ki X.K ex vl fl))(hh:PO X hi (Ki X.K ex vh fh)) :
  PE X (.Subscript a (.Slice lo hi none p2) pos) (RD X.K ex (va++vl++vh) fun τ=>Ci (fa τ) fun x=>Ci (fl τ) fun l=>Ci (fh τ) fun h=>fx x l h):=by
 refine ax (ir (sa (ex:=ex)) ha hl hh) fun σ H Q ⟨S,τ,hs,q⟩=>?_
 refine aI (.refl _) hs.left.left (Ck.Ci q) fun x v H1 e1 _ m1 q1=>?_
 refine sj e1 hs.left.right (Ck.Ci q1) fun l H2 e2 Dc q2=>?_
 refine sj e2 hs.right (Ck.Ci q2) fun h H3 e3 Jw q3=>?_
 exact⟨nw S H,x,m1.later (Dc.trans Jw),q3.mono fun d hd=>hd.fit e3⟩
theorem s_call (g:CU Z CX cl xp X ex G){f:Nat}{x:Str}{p pos:Pos}{es:List IR}{args:List Expr}(h1:bI Z G f x=true)(h2:Z.GA G f=true)(CS:aB Z G es args=true)(h:PA X args (RA X.K ex (ao es) (aG cl es))) :
  PE X (.Call (.Name x p) args [] pos) (RD X.K ex (ao es) fun τ=>Ci (aG cl es τ) fun ds=>cl f (Cy ds)):=by
 obtain⟨k1,k2,k3,k4⟩:=eP g h1
 obtain⟨k,Ln,fd,ps,hm,Fh,hb,F,hr,hlen⟩:=(g.fns f (dJ h2).1 (dJ h2).2 x k2).ex
 obtain⟨E,hP,hE⟩:=g.Ll
 intro pins s σ H Q I q
 obtain⟨S,τ,hs,q⟩:=q
 have fin:∀ (us:List Value) (s1:Shared) (vs:List V) (H1:Hp) (ds:List D),Inv X pins σ H1 s1->Vals vs us->aq H H1->Cj X.K (nw S H) H1 vs ds->Ck ex (cl f (Cy ds)) (Kk X.K S H Q)->wpAny (model X.prog X.w) X.A (call (.ref Ln) us) (EP X pins σ Q) X.xe s1:=by
  intro us s1 vs H1 ds I1 r e m q1
  have hl:=hlen ex _ _ q1
  rw[br] at hl
  refine gI F hr hb hP g.G8 I1 r (by rw[m.length];exact hl) (Fc:=fun a=>nw S H a/\H1 a≠none) (fun a z=>z.2) m.Fi ?_
  cases z:cl f (Cy ds) with
  | error er=>
   rw[z] at q1
   cases er with
   | stuck=>exact q1.no.elim
   | exc c=>exact hE c _ q1
  | ok d=>
   rw[z] at q1
   intro v H' F' fv o
   refine q1.ok _ _ (e.trans o.same) (o.rep.read (fun a ha=>?_) fun a ha=>?_)
   ·rcases o.out a ha with z|z
    ·exact z.1
    ·exact .inr (e.free z)
   ·exact .inr (e.free (o.new a ha))
 refine wpAny_Call_Name_kw (ck I k1 hm ?_ k4)
 cases args with
 | nil=>
  cases es with
  | cons _ _=>cases CS
  | nil=>
   exact PySem.W.callWith_K0 I.EL Fh (fin [] s [] H [] I .nil (.refl _) .nil q)
 | cons e l=>
  cases es with
  | nil=>cases CS
  | cons a es=>
   have CJ:(notStar e&&Cv Z G a e&&aB Z G es l)=true:=CS
   simp only[Bool.and_eq_true] at CJ
   refine PySem.W.callWith_K (h₀:=X.base) I.ok.mod.G5 Fh (CF (h pos pins s σ H (fun vs H1=>∃ ds,aq H H1/\Cj X.K (nw S H) H1 vs ds/\Ck ex (cl f (Cy ds)) (Kk X.K S H Q)) I ⟨S,τ,hs,(Ck.Ci q).mono fun ds hd vs H1 e m=>⟨ds,e,m,hd⟩⟩) fun us s1 ⟨vs,H1,I1,r,ds,e,m,q1⟩=>⟨I1.EL,?_⟩) (ah CJ.1.1 l X.env) (bh Z G (es:=es) pos X.env CJ.2)
   exact fin us s1 vs H1 ds I1 r e m q1
theorem B5 (g:CU Z CX cl xp X ex G){f:Bi}{p pos:Pos}{es:List IR}{a:Expr}{args:List Expr}(hg:G.EC (fU f)=true)(CS:aB Z G es (a::args)=true)(h:PA X (a::args) (RA X.K ex (ao es) (aG cl es))) :
  PE X (.Call (.Name (cw f) p) (a::args) [] pos) (RD X.K ex (ao es) fun τ=>Ci (aG cl es τ) fun ds=>cv f ds):=by
 obtain⟨k1,k2,k3,k4⟩:=bQ g (nO f) (eM hg)
 cases es with
 | nil=>cases CS
 | cons b es=>
  have CJ:(notStar a&&Cv Z G b a&&aB Z G es args)=true:=CS
  simp only[Bool.and_eq_true] at CJ
  have mono:∀ σ H Q,RD X.K ex (ao (b::es)) (fun τ=>Ci (aG cl (b::es) τ) fun ds=>cv f ds) σ H Q->MS (O7 X.K ex f) (RA X.K ex (ao (b::es)) (aG cl (b::es))) σ H Q:=by
   rintro σ H Q ⟨S,τ,hs,q⟩
   refine iO (.refl _) hs (Ck.Ci q) fun ds vs H1 e1 _ m1 q1=>?_
   exact⟨nw S H,ds,m1,q1.mono fun d hd=>hd.fit e1⟩
  refine ax ?_ mono
  have hv:=j6 f
  have hc:=sd (X:=X) (ex:=ex) (g.calm (eN hg)) f
  unfold nJ at hv hc
  cases z:y7 f with
  | true=>
   rw[z,if_pos rfl] at hv hc
   exact dD hc k1 k2 hv h k3 k4 (ah CJ.1.1 args X.env) (bh Z G (es:=es) pos X.env CJ.2)
  | false=>
   rw[z,if_neg Bool.false_ne_true] at hv hc
   exact iq hc k1 k2 hv h k3 k4 (ah CJ.1.1 args X.env) (bh Z G (es:=es) pos X.env CJ.2)
noncomputable def Nr:Kd->V
 | .str=>.ty "str" | .int=>.ty "int" | .bool=>.ty "bool" | .list=>.ty "list" | .tuple=>.ty "tuple"
theorem j9 (k:Kd):RelV (Nr k) (nK k):=by cases k<;>rfl
theorem nT (k:Kd):cy X (.builtin "isinstance") (fun xs H Q=>∃ S x d,xs=[x,Nr k]/\Cm X.K S H x d/\iB d=true/\Q (.bl (fy k d)) H):=by
 intro pins s σ H xs us Q I r h
 obtain⟨S,x,d,rfl,m,hn,q⟩:=h
 obtain⟨u,w',rfl,r1,r2⟩:=vals2 r
 have e:w'=nK k:=by
  have:=r2.abs
  have h2:=(j9 k).abs
  cases k<;>(revert r2;intro r2;exact r2)
 subst e
 exact si I r1 m k hn q
theorem zt (g:CU Z CX cl xp X ex G){k:Kd}{e:Expr}{p p' pos:Pos}{va:List Nat}{fa:Ev->Res D}(hg:G.gl.contains 14=true)(hk:G.gl.contains (j7 k)=true)(hn:notStar e=true)(ha:PE X e (RD X.K ex va fa)) :
  PE X (.Call (.Name "isinstance" p) [e,.Name (cZ k) p'] [] pos) (RD X.K ex va fun τ=>Ci (fa τ) fun x=>Co (iB x) (.ok (.bl (fy k x)))):=by
 obtain⟨k1,k2,k3,k4⟩:=bQ g (show aJ[14]? = some ("isinstance" : Str) from rfl) hg
 obtain⟨j1,j2,j3,j4⟩:=bQ g (wQ k) hk
 have pa:PA X [e,.Name (cZ k) p'] (d8 (RD X.K ex va fa) (d8 (tC (Nr k)) mV)):=aF ha (aF (rf j1 j2 (sf k) (j9 k) j3 j4) bF rfl) (ah hn _ _)
 refine ax (iq (nT k) k1 k2 PyProof.Rows.boot_isinstance pa k3 k4 (ah hn _ _) rfl) fun σ H Q ⟨S,τ,hs,q⟩=>?_
 refine aI (.refl _) hs (Ck.Ci q) fun x v H1 e1 _ m1 q1=>?_
 obtain⟨gd,q1⟩:=Ck.Co q1
 exact⟨nw S H,v,x,rfl,m1,gd,q1.ok _ _ e1 (.bl _)⟩
theorem Cj.rev {K:PySem.W.Frag}{S:Addr->Prop}{H:Hp}:∀ {vs:List V}{ds:List D},Cj K S H vs ds->Cj K S H vs.reverse ds.reverse
 | [],[],_=>.nil
 | v::vs,d::ds,.cons h t=>by
  rw[List.reverse_cons,List.reverse_cons]
  exact(Cj.rev t).append (.cons h .nil)
theorem zu {x:Str}{y:Option Str}{e e':Expr}{va:List Nat}{fa:Ev->Res D}(hx:x.length<=1000)(he:(∃ j p q pos,y=none/\e=.JoinedStr [.Constant (.str x) j p,.FormattedValue e' 114 none q] pos)∨∃ w j p q j' r pos,y=some w/\e=.JoinedStr [.Constant (.str x) j p,.FormattedValue e' 114 none q,.Constant (.str w) j' r] pos)(ha:PE X e' (RD X.K ex va fa)) :
  PE X e (RD X.K ex va fun τ=>Ci (fa τ) (nC x y)):=by
 rcases he with ⟨j,p,q,pos,rfl,rfl⟩|⟨w,j,p,q,j',r,pos,rfl,rfl⟩
 ·refine ax (rQ hx ha) fun σ H Q ⟨S,τ,hs,q⟩=>?_
  refine aI (.refl _) hs (Ck.Ci q) fun d v H1 e1 _ m1 q1=>?_
  cases d with
  | str z=>
   cases m1.CW
   obtain⟨g,q1⟩:=Ck.Co q1
   have g:=aT g
   have e0:Str.empty.length=0:=rfl
   have g:x.length+(reprText z).length+Str.empty.length<=sizeLine:=g
   have q1:Kk X.K S H Q (.str (x++reprText z++Str.empty)):=q1.ok
   rw[Str.append_empty] at q1
   exact⟨z,rfl,by omega,q1 _ _ e1 (.str _)⟩
  | _=>exact q1.no.elim
 ·refine ax (rR hx ha) fun σ H Q ⟨S,τ,hs,q⟩=>?_
  refine aI (.refl _) hs (Ck.Ci q) fun d v H1 e1 _ m1 q1=>?_
  cases d with
  | str z=>
   cases m1.CW
   obtain⟨g,q1⟩:=Ck.Co q1
   exact⟨z,rfl,aT g,q1.ok _ _ e1 (.str _)⟩
  | _=>exact q1.no.elim
theorem wY (g:CU Z CX cl xp X ex G){e:Expr}{p p' pos pos':Pos}{va:List Nat}{fa:Ev->Res D}(h1:G.EC 5=true)(h2:G.gl.contains 18=true)(hn:notStar e=true)(ha:PE X e (RD X.K ex va fa)) :
  PE X (.Call (.Name "list" p) [.Call (.Name "reversed" p') [e] [] pos'] [] pos) (RD X.K ex va fun τ=>Ci (fa τ) r6):=by
 obtain⟨k1,k2,k3,k4⟩:=bQ g (show aJ[5]? = some ("list" : Str) from rfl) (eM h1)
 obtain⟨j1,j2,j3,j4⟩:=bQ g (show aJ[18]? = some ("reversed" : Str) from rfl) h2
 refine ax (rK (g.calm (eN h1)) k1 k2 j1 j2 ha fun es=>ah hn es X.env) fun σ H Q ⟨S,τ,hs,q⟩=>?_
 refine aI (.refl _) hs (Ck.Ci q) fun x v H1 e1 _ m1 q1=>?_
 cases x with
 | lst o ds=>
  obtain⟨a,ys,rfl,qq,m⟩:=m1.C5
  exact⟨a,ys,rfl,qq,fun l hl=>Kk.fit e1 q1 _ _ (.upd hl) (iI hl m.rev)⟩
 | _=>exact q1.no.elim
theorem jD {d:D}(h:cV d=true):∃ x,d=.str x:=by
 cases d<;>first|exact⟨_,rfl⟩|cases h
theorem zv (g:CU Z CX cl xp X ex G){m:Mt}{o:Expr}{apos Cw:Pos}{vo:List Nat}{fo:Ev->Res D}{es:List IR}{a:Expr}{args:List Expr}(hn:eO o=true)(hl:(apos.endLine == Cw.line)=true)(hlen:(a::args).length < 29)(Et:(G.cm||jB m)=true)
  (CS:aB Z G es (a::args)=true) (ho:PE X o (RD X.K ex vo fo)) (h:PA X (a::args) (RA X.K ex (ao es) (aG cl es))) :
  PE X (.Call (.Attribute o (eI m) apos) (a::args) [] Cw) (RD X.K ex (vo++ao es) fun τ=>Ci (fo τ) fun x=>Co (cV x) (Ci (aG cl es τ) fun ds=>eE m x ds)):=by
 cases es with
 | nil=>cases CS
 | cons b es=>
  have CJ:(notStar a&&Cv Z G b a&&aB Z G es args)=true:=CS
  simp only[Bool.and_eq_true] at CJ
  have star:=bh Z G (es:=es) Cw X.env CJ.2
  have mono:∀ σ H Q,RD X.K ex (vo++ao (b::es)) (fun τ=>Ci (fo τ) fun x=>Co (cV x) (Ci (aG cl (b::es) τ) fun ds=>eE m x ds)) σ H Q->Oq X.K "str" (O8 X.K ex m) (RD X.K ex vo fo) (RA X.K ex (ao (b::es)) (aG cl (b::es))) σ H Q:=by
   rintro σ H Q ⟨S,τ,hs,q⟩
   refine aI (.refl _) hs.left (Ck.Ci q) fun x v H1 e1 _ m1 q1=>?_
   obtain⟨gd,q1⟩:=Ck.Co q1
   obtain⟨z,rfl⟩:=jD gd
   cases m1.CW
   refine⟨rfl,iO e1 hs.right (Ck.Ci q1) fun ds vs H2 e2 Dc m2 q2=>?_⟩
   exact⟨nw S H,.str z,ds,.str z,m2,q2.mono fun d hd=>hd.fit e2⟩
  have DO:attributeBase o (eI m) X.env (eval o X.env)=eval o X.env:=by
   cases o with
   | Call f args Ee pos=>
    cases args with
    | nil=>
     cases Ee with
     | nil=>cases hn
     | cons _ _=>cases f<;>rfl
    | cons _ _=>cases f<;>rfl
   | _=>rfl
  have Nt:(backTo Cw (starEach (a::args) X.env)).all (fun x=>!x.1)=true:=by
   rw[ah CJ.1.1]
   show (true&&(backTo Cw (starEach args X.env)).all (fun x=>!x.1))=true
   rw[Bool.true_and,List.all_eq_true]
   intro y hy
   have:=List.any_eq_false.mp star y hy
   simpa using this
  have Fd:((backTo Cw (starEach (a::args) X.env)).all (fun x=>!x.1)&&(backToKw Cw (keywordEach [] X.env)).all (fun x=>x.1.isSome)&&decide ((a::args).length+([]:List Keyword).length+(if ([]:List Keyword).isEmpty then 0 else 1) < 30))=true:=by
   rw[Nt]
   have:decide ((a::args).length+([]:List Keyword).length+(if ([]:List Keyword).isEmpty then 0 else 1) < 30)=true:=decide_eq_true (by simp at hlen ⊢;omega)
   rw[this]
   rfl
  refine ax ?_ mono
  cases m with
  | join=>exact jS PySem.F.plainAttrs_str PySem.F.slot_str_join PySem.F.type_str_join (gD (ex:=ex) .join fun z=>by cases z) ho h DO Fd hl (ah CJ.1.1 args X.env) star
  | index=>exact jS PySem.F.plainAttrs_str PySem.F.slot_str_index PySem.F.type_str_index (gD (ex:=ex) .index fun _=>g.calm (by rw[Bool.or_eq_true] at Et;exact Et.elim id fun z=>by cases z)) ho h DO Fd hl (ah CJ.1.1 args X.env) star
  | starts=>exact jS PySem.F.plainAttrs_str PySem.F.slot_str_startswith PySem.F.type_str_startswith (gD (ex:=ex) .starts fun z=>by cases z) ho h DO Fd hl (ah CJ.1.1 args X.env) star
end
section
variable {Z:Sg}{CX:Dw}{cl:Nat->List D->Res D}{xp:XK->Hp->Str->Prop}{X:Cx}{ex:Str->Prop}{G:Gm}
theorem dq {K:PySem.W.Frag}{S:Addr->Prop}{H:Hp}{w:V}{y:D}{q:Key}(m:Cm K S H w y)(h:cz y=some q):w=kV q:=by
 cases y with
 | int i=>cases h;cases m.CG;rfl
 | str x=>cases h;cases m.CW;rfl
 | _=>cases h
theorem eQ {K:PySem.W.Frag}{S:Addr->Prop}{H:Hp}(q:Key):∀ (kvs:List (Key×V)) (ds:List D),Cj K S H (kvs.map (·.2)) ds->
  (∀ d,look (kvs.map (·.1)) ds q=some d->∃ v,dH kvs q=some v/\Cm K S H v d)/\(look (kvs.map (·.1)) ds q).isSome=(dH kvs q).isSome:=by
 intro kvs
 induction kvs with
 | nil=>intro ds _;exact⟨fun d h=>(by cases h),rfl⟩
 | cons p kvs ih=>
  intro ds m
  rw[List.map_cons] at m
  cases ds with
  | nil=>exact absurd m.length (by simp)
  | cons d ds=>
   cases m with
   | cons m1 m2=>
    obtain⟨i1,i2⟩:=ih ds m2
    have e1:look ((p::kvs).map (·.1)) (d::ds) q=if p.1=q then some d else look (kvs.map (·.1)) ds q:=rfl
    rw[e1]
    unfold dH at i1 i2 ⊢
    rw[List.find?_cons]
    by_cases h:p.1=q
    ·rw[if_pos h,decide_eq_true h]
     exact⟨fun d' z=>⟨p.2,rfl,by cases z;exact m1⟩,rfl⟩
    ·rw[if_neg h,decide_eq_false h]
     exact⟨i1,i2⟩
theorem Cm.GX {K:PySem.W.Frag}{S:Addr->Prop}{H:Hp}{v:V}{o:Bool}{ks:List Key}{ds:List D}(h:Cm K S H v (.Cu o ks ds)):∃ a kvs,v=.ref a/\Rd H a (.dK kvs)/\kvs.map (·.1)=ks/\Cj K S H (kvs.map (·.2)) ds:=by
 cases h with
 | Cu h0 h1 h2 h3=>exact⟨_,_,rfl,h1,h2,h3⟩
theorem wZ {pos:Pos}:PE X (.Dict [] [] pos) (RD X.K ex [] (Cn cl .D4)):=by
 refine ax iz fun σ H Q ⟨S,τ,hs,q⟩=>fun p hp=>?_
 exact q.ok _ _ (.upd hp) (.Cu (kvs:=[]) (.inr hp) (.inl ar) rfl .nil)
theorem w8 (g:CU Z CX cl xp X ex G){a b:Expr}{pos:Pos}{va vb:List Nat}{fa fb:Ev->Res D}(ha:PE X a (RD X.K ex va fa))(hb:PE X b (RD X.K ex vb fb))(hp:aY b=true) :
  PE X (.Subscript a b pos) (RD X.K ex (va++vb) fun τ=>Ci (fa τ) fun x=>Ci (fb τ) fun y=>iD x y):=by
 have hu:=g.un
 refine ax (rO (by omega) ha hb fun o i=>by cases b<;>first|rfl|cases hp) fun σ H Q ⟨S,τ,hs,q⟩=>?_
 refine aI (.refl _) hs.left (Ck.Ci q) fun x v H1 e1 _ m1 q1=>?_
 refine aI e1 hs.right (Ck.Ci q1) fun y w H2 e2 Dc m2 q2=>?_
 cases x with
 | Cu o ks ds=>
  have q3:Ck ex (match cz y with|some q=>(match look ks ds q with|some d=>.ok d|none=>Cq)|none=>Cq) (Kk X.K S H Q):=q2
  cases hk:cz y with
  | none=>rw[hk] at q3;exact q3.no.elim
  | some k=>
   simp only[hk] at q3
   obtain⟨p,kvs,rfl,h1,rfl,h3⟩:=(m1.later Dc).GX
   cases hl:look (kvs.map (·.1)) ds k with
   | none=>rw[hl] at q3;exact q3.no.elim
   | some d=>
    rw[hl] at q3
    obtain⟨v,hv,mv⟩:=(eQ k kvs ds h3).1 d hl
    exact⟨p,v,rfl,.inl ⟨kvs,k,h1,dq m2 hk,hv.symm⟩,q3.ok _ _ e2 mv⟩
 | _=>exact q2.no.elim
theorem bW {is:List Nat}{f:Ev->Res D}{σ:St}{H:Hp}{Q Q':VK}(h:RD X.K ex is f σ H Q)(m:∀ v H',Q v H'->Q' v H'):RD X.K ex is f σ H Q':=by
 obtain⟨S,τ,hs,q⟩:=h
 exact⟨S,τ,hs,q.mono fun d hd w H' e r=>m w H' (hd w H' e r)⟩
theorem iP {n:Bool}{va vb:List Nat}{fa fb:Ev->Res D}{σ:St}{H:Hp}{Q:VK}(h:RD X.K ex (vb++va) (fun τ=>Ci (fb τ) fun y=>Ci (fa τ) fun x=>iE n x y) σ H Q) :
  RD X.K ex vb fb σ H fun y H1=>RD X.K ex va fa σ H1 fun x H2=>∃ a o,x=.ref a/\gv H2 a y o/\Q (.bl (n != o.isSome)) H2:=by
 obtain⟨S,τ,hs,q⟩:=h
 refine aI (.refl _) hs.left (Ck.Ci q) fun y w H1 e1 _ m1 q1=>?_
 refine aI e1 hs.right (Ck.Ci q1) fun x v H2 e2 Dc m2 q2=>?_
 cases x with
 | Cu o ks ds=>
  have q3:Ck ex (match cz y with|some q=>.ok (.bl (n != (look ks ds q).isSome))|none=>Cq) (Kk X.K S H Q):=q2
  cases hk:cz y with
  | none=>rw[hk] at q3;exact q3.no.elim
  | some k=>
   simp only[hk] at q3
   obtain⟨p,kvs,rfl,h1,rfl,h3⟩:=m2.GX
   rw[(eQ k kvs ds h3).2] at q3
   exact⟨p,_,rfl,.inl ⟨kvs,k,h1,dq (m1.later Dc) hk,rfl⟩,q3.ok _ _ e2 (.bl _)⟩
 | _=>exact q2.no.elim
theorem fW {n:Bool}{va vb:List Nat}{fa fb:Ev->Res D}{σ:St}{H:Hp}{Q:Bool->Hp->Prop}(h:RT X.K ex (vb++va) (fun τ=>Ci (Ci (fb τ) fun y=>Ci (fa τ) fun x=>iE n x y) aR) σ H Q) :
  RD X.K ex vb fb σ H fun y H1=>RD X.K ex va fa σ H1 fun x H2=>∃ a o,x=.ref a/\gv H2 a y o/\∃ c,V.bl (n != o.isSome)=.bl c/\Q c H2:=by
 obtain⟨S,τ,hs,q⟩:=h
 refine aI (.refl _) hs.left (Ck.Ci (Ck.Ci q)) fun y w H1 e1 _ m1 q1=>?_
 refine aI e1 hs.right (Ck.Ci q1) fun x v H2 e2 Dc m2 q2=>?_
 cases x with
 | Cu o ks ds=>
  cases hk:cz y with
  | none=>
   have q3:iE n (.Cu o ks ds) y=Cq:=by show ((match cz y with|some q=>.ok (.bl (n != (look ks ds q).isSome))|none=>Cq:Res D))=_;rw[hk]
   rw[q3] at q2;exact q2.no.elim
  | some k=>
   have q3:iE n (.Cu o ks ds) y=.ok (.bl (n != (look ks ds k).isSome)):=by show ((match cz y with|some q=>.ok (.bl (n != (look ks ds q).isSome))|none=>Cq:Res D))=_;rw[hk]
   rw[q3] at q2
   obtain⟨p,kvs,rfl,h1,rfl,h3⟩:=m2.GX
   rw[(eQ k kvs ds h3).2] at q2
   exact⟨p,_,rfl,.inl ⟨kvs,k,h1,dq (m1.later Dc) hk,rfl⟩,_,rfl,(q2.ok).ok _ e2⟩
 | _=>exact q2.no.elim
theorem zw (g:CU Z CX cl xp X ex G){n:Bool}{a b:Expr}{pos:Pos}{va vb:List Nat}{fa fb:Ev->Res D}(hb:PE X b (RD X.K ex vb fb))(ha:PE X a (RD X.K ex va fa))(hm:behindInMarks (mi n) a=false) :
  PE X (.Compare b [mi n] [a] pos) (RD X.K ex (vb++va) fun τ=>Ci (fb τ) fun y=>Ci (fa τ) fun x=>iE n x y)/\
  PT X (.Compare b [mi n] [a] pos) (RT X.K ex (vb++va) fun τ=>Ci (Ci (fb τ) fun y=>Ci (fa τ) fun x=>iE n x y) aR):=by
 have hu:=g.un
 cases n with
 | false=>
  refine⟨ax (mH (m9 (by omega) hb ha) hm) fun σ H Q h=>?_,dE (mJ (m9 (by omega) hb ha) hm) fun σ H Q h=>?_⟩
  ·refine bW (iP h) fun y H1 z=>bW z fun x H2 ⟨p,o,e,d,q⟩=>⟨p,o,e,d,?_⟩
   rw[show (false != o.isSome)=o.isSome by cases o.isSome<;>rfl] at q
   exact q
  ·refine bW (fW h) fun y H1 z=>bW z fun x H2 ⟨p,o,e,d,q⟩=>⟨p,o,e,d,?_⟩
   rw[show (false != o.isSome)=o.isSome by cases o.isSome<;>rfl] at q
   exact q
 | true=>
  refine⟨ax (mH (fO (by omega) hb ha) hm) fun σ H Q h=>?_,dE (mJ (fO (by omega) hb ha) hm) fun σ H Q h=>?_⟩
  ·refine bW (iP h) fun y H1 z=>bW z fun x H2 ⟨p,o,e,d,q⟩=>⟨p,o,e,d,?_⟩
   rw[show (true != o.isSome) = !o.isSome by cases o.isSome<;>rfl] at q
   exact q
  ·refine bW (fW h) fun y H1 z=>bW z fun x H2 ⟨p,o,e,d,q⟩=>⟨p,o,e,d,?_⟩
   rw[show (true != o.isSome) = !o.isSome by cases o.isSome<;>rfl] at q
   exact q
end
section
variable {Z:Sg}{CX:Dw}{cl:Nat->List D->Res D}{xp:XK->Hp->Str->Prop}{X:Cx}{ex:Str->Prop}{G:Gm}
theorem w9 (g:CU Z CX cl xp X ex G){e:Expr}{p p' pos pos':Pos}{va:List Nat}{fa:Ev->Res D}(h1:G.gl.contains 0=true)(h2:G.gl.contains 12=true)(hn:notStar e=true)(Et:G.cm=true)(ha:PE X e (RD X.K ex va fa)) :
  PE X (.Call (.Name "len" p) [.Call (.Name "set" p') [e] [] pos'] [] pos) (RD X.K ex va fun τ=>Ci (fa τ) jW):=by
 obtain⟨k1,k2,k3,k4⟩:=bQ g (show aJ[0]? = some ("len" : Str) from rfl) h1
 obtain⟨j1,j2,j3,j4⟩:=bQ g (show aJ[12]? = some ("set" : Str) from rfl) h2
 refine ax (rV (g.calm Et) k1 k2 j1 j2 ha fun es=>ah hn es X.env) fun σ H Q ⟨S,τ,hs,q⟩=>?_
 refine aI (.refl _) hs (Ck.Ci q) fun x v H1 e1 _ m1 q1=>?_
 cases x with
 | lst o ds=>
  obtain⟨a,ys,rfl,qq,m⟩:=m1.C5
  have q2:Ck ex (match bw ds with|some ns=>Co (decide (ns.length < 1000)) (.ok (.int ((ns.foldl Sx.dd []).length:Nat)))|none=>Cq) (Kk X.K S H Q):=q1
  cases z:bw ds with
  | none=>rw[z] at q2;exact q2.no.elim
  | some ns=>
   rw[z] at q2
   obtain⟨gd,q3⟩:=Ck.Co q2
   rw[cY z] at m
   rw[m.strs] at qq
   exact⟨a,ns,rfl,qq,of_decide_eq_true gd,q3.ok _ _ e1 (.int _)⟩
 | _=>exact q1.no.elim
theorem xa (g:CU Z CX cl xp X ex G){o:Expr}{p pos apos Cw:Pos}{va:List Nat}{fa:Ev->Res D}(h1:G.EC 1=true)(hn:isNm o=true)(hl:(apos.endLine == Cw.line)=true)(ha:PE X o (RD X.K ex va fa)) :
  PE X (.Call (.Name "sum" p) [.Call (.Attribute o "values" apos) [] [] Cw] [] pos) (RD X.K ex va fun τ=>Ci (fa τ) jV):=by
 obtain⟨k1,k2,k3,k4⟩:=bQ g (show aJ[1]? = some ("sum" : Str) from rfl) (eM h1)
 refine ax (rW (g.calm (eN h1)) k1 k2 ha (by cases o<;>first|rfl|cases hn) hl) fun σ H Q ⟨S,τ,hs,q⟩=>?_
 refine aI (.refl _) hs (Ck.Ci q) fun x v H1 e1 _ m1 q1=>?_
 cases x with
 | Cu o ks ds=>
  obtain⟨a,kvs,rfl,rd,_,m⟩:=m1.GX
  have q2:Ck ex (match bc ds with|some ns=>.ok (.int ns.sum)|none=>Cq) (Kk X.K S H Q):=q1
  cases z:bc ds with
  | none=>rw[z] at q2;exact q2.no.elim
  | some ns=>
   rw[z] at q2
   rw[cX z] at m
   exact⟨a,kvs,ns,rfl,rd,m.ints,q2.ok _ _ e1 (.int _)⟩
 | _=>exact q1.no.elim
end
section
variable {prog:Program}{w:World}{A:Around}{E:Value->Shared->Prop}{s:Shared}
theorem eR {it t:Addr}{items:Array Value}(Ez:t≠it):∀ (n i:Nat) (s:Shared) (Q:List Value->Shared->Prop),s.heap.IsListIter it t i->s.heap.IsList t items->i+n<=items.size->
  (∀ h',h'.IsListIter it t (i+n)->Heap.SameBut it s.heap h'->Q ((items.toList.drop i).take n) {s with heap:=h'})->wpAny (model prog w) A (draw (.ref it) n) Q E s
 | 0,i,s,Q,hit,_,_,hQ=>by
  show wpAny _ _ (pure []) Q E s
  exact wpAny_pure (by simpa using hQ s.heap hit (Heap.SameBut.refl ..))
 | n+1,i,s,Q,hit,ht,hle,hQ=>by
  have Dk:i < items.size:=by omega
  show wpAny _ _ (pyNext (.ref it) >>= _) Q E s
  refine wpAny_bind (wpAny_pyNext_list_item hit ht (x:=items[i]) (by simp[Dk]) fun Gi FI Fp=>?_)
  refine wpAny_bind (wpAny_holding (eR Ez n (i+1) _ _ FI (ht.extBut Fp.extBut Ez) (by omega) fun FD Jx Lo=>wpAny_pure ?_))
  have hd:items.toList.drop i=items[i]::items.toList.drop (i+1):=by simp[List.drop_eq_getElem_cons,Dk]
  have:=hQ FD (by rw[show i+(n+1)=i+1+n by omega];exact Jx) (Fp.trans Lo)
  rw[hd,List.take_succ_cons] at this
  exact this
theorem dM {t:Addr}{items:Array Value}{Q:List Value->Shared->Prop}(hh:A.handled=none)(ht:s.heap.IsList t items)
  (hQ:∀ h',Heap.ExtBut s.heap.objs.size s.heap h'->Q items.toList {s with heap:=h'}):wpAny (model prog w) A (unpackItems (.ref t) items.size none) Q E s:=by
 have Dk:t≠s.heap.objs.size:=by obtain⟨o,ho,_⟩:=ht;exact Nat.ne_of_lt (Heap.lt_size ho)
 have push:∀ o,(s.heap.push o).IsList t items:=fun o=>by
  obtain⟨ob,e,c,n,d⟩:=ht
  exact⟨ob,Heap.get?_push_of_some _ e,c,n,d⟩
 unfold unpackItems
 refine wpAny_bind ?_
 ·unfold notIterableAtAll
  refine wpAny_bind (wpAny_specialOf ht.typeIs slot_list_iter.lookup ?_)
  refine wpAny_pure ?_
  simp only[Bool.false_eq_true,if_false]
  refine wpAny_bind (wpAny_holding (wpAny_pyIter_list ht ?_))
  refine wpAny_bind (wpAny_holding (eR Dk items.size 0 _ _ ⟨_,Heap.get?_push_size _ rfl,rfl,rfl⟩ (push _) (by omega) fun Gi FI Fp=>?_))
  have GJ:List.take items.size (List.drop 0 items.toList)=items.toList:=by
   rw[List.drop_zero];exact List.take_of_length_le (by simp)
  rw[GJ]
  rw[if_neg (by simp)]
  have Lp:Gi.IsList t items:=(push _).extBut Fp.extBut Dk
  refine wpAny_bind (wpAny_holding (wpAny_pyNext_list_end hh FI Lp (by simp) fun FD Lq=>?_))
  simp only[Option.isSome_none,Bool.false_eq_true,if_false]
  refine wpAny_pure (hQ FD fun b o hb e=>Lq b o hb (Fp.extBut b o hb (Heap.get?_push_of_some _ e)))
end
def zx (K:PySem.W.Frag)(n:Nat)(t:Ie):TG:=fun v σ H Q=>∃ a xs,v=.ref a/\(DL K H a xs∨DC K H a xs)/\xs.length=n/\t xs σ H Q
theorem xb {X:Cx}{pos:Pos}{es:List Expr}{k:Nat}{t:Ie}{n:Nat}(hc:X.calm=true)(h:KO X es t)(hn:(assignEach es X.env).length=n)(CS:(assignEach es X.env).findIdx? (·.1)=none):PG X (.Tuple es k pos) (zx X.K n t):=by
 intro pins s σ H v u Q I r hw
 obtain⟨a,xs,e1,hq,hl,hw⟩:=hw
 subst e1
 cases r
 rcases hq with hq|hq
 ·obtain⟨its,rv,ht,hz⟩:=I.tuple hq
  refine assign_Tuple_tuple (I.ok.hd hc) ht (by simp[hn,<- hl,rv.length]) CS fun h' hx=>?_
  have I1:Inv X pins σ H {s with heap:=h'}:=I.kept (t':=s.toks) fun b o e=>hx b o (Nat.ne_of_lt (Heap.lt_size e)) e
  exact h pins _ σ H xs _ Q I1 (by simpa using rv) hw
 ·obtain⟨its,rv,pl,hz⟩:=I.list hq
  rw[assign_Tuple]
  refine wpAny_bind (wpAny_standAt ?_)
  unfold unpack
  have hlen:(assignEach es X.env).length=its.toArray.size:=by simp[hn,<- hl,rv.length]
  rw[hlen,CS]
  refine wpAny_bind (wpAny_holding (dM (I.ok.hd hc) pl.isList fun h' hx=>?_))
  have I1:Inv X pins σ H {s with heap:=h'}:=I.kept (t':=s.toks) fun b o e=>hx b o (Nat.ne_of_lt (Heap.lt_size e)) e
  exact h pins _ σ H xs _ Q I1 (by simpa using rv) hw
mutual
noncomputable def gT (K:PySem.W.Frag):Tg->TG
 | .nm i=>mQ i
 | .tp ts=>zx K ts.length (Lr K ts)
noncomputable def Lr (K:PySem.W.Frag):List Tg->Ie
 | []=>yu
 | t::ts=>tN (gT K t) (Lr K ts)
end
theorem dr {e:Expr}(h:notStar e=true)(es:List Expr)(env:Env):assignEach (e::es) env=(false,assign e env)::assignEach es env:=by
 cases e<;>first|rfl|cases h
section
variable {Z:Sg}{CX:Dw}{cl:Nat->List D->Res D}{xp:XK->Hp->Str->Prop}{X:Cx}{ex:Str->Prop}{G:Gm}
theorem eS (G:Gm):∀ {ts:List Tg}{es:List Expr} (env:Env),cS G ts es=true->(assignEach es env).length=ts.length/\(assignEach es env).findIdx? (·.1)=none
 | [],[],_,_=>⟨rfl,rfl⟩
 | t::ts,e::es,env,h=>by
  have h':(notStar e&&bE G t e&&cS G ts es)=true:=h
  simp only[Bool.and_eq_true] at h'
  obtain⟨h1,h2⟩:=eS G (ts:=ts) (es:=es) env h'.2
  rw[dr h'.1.1]
  refine⟨by rw[List.length_cons,h1,List.length_cons],?_⟩
  rw[List.findIdx?_cons,if_neg (by simp),h2]
  rfl
 | [],_::_,_,h=>by cases h
 | _::_,[],_,h=>by cases h
mutual
theorem Jy (g:CU Z CX cl xp X ex G):∀ (t:Tg) (e:Expr),bE G t e=true->PG X e (gT X.K t)
 | .nm i,e,h=>by
  cases e with
  | Name x pos=>
   have h':(G.N[i]? == some x&&(G.kd[i]? == some .local||(G.df&&G.kd[i]? == some .cell)))=true:=(Bool.and_eq_true_iff.mp h).1
   rw[Bool.and_eq_true,Bool.or_eq_true,Bool.and_eq_true] at h'
   obtain⟨h1,h2⟩:=h'
   have hx:G.N[i]? = some x:=eq_of_beq h1
   have hk:=g.kd i x hx
   refine rl (by rw[g.N];exact g.CP) (by rw[g.N];exact hx) ?_ ?_
   ·rcases h2 with h2|h2
    ·exact .inl (hk.trans (eq_of_beq h2))
    ·exact .inr (hk.trans (eq_of_beq h2.2))
   ·rcases h2 with h2|h2
    ·exact .inr (hk.trans (eq_of_beq h2))
    ·exact .inl (g.df h2.1 x)
  | _=>cases h
 | .tp ts,e,h=>by
  cases e with
  | Tuple es k pos=>
   have h0:(G.cm&&cS G ts es)=true:=h
   rw[Bool.and_eq_true] at h0
   have h':=h0.2
   obtain⟨h1,h2⟩:=eS G X.env h'
   exact xb (g.calm h0.1) (zC g ts es h') h1 h2
  | _=>cases h
theorem zC (g:CU Z CX cl xp X ex G):∀ (ts:List Tg) (es:List Expr),cS G ts es=true->KO X es (Lr X.K ts)
 | [],[],_=>rn
 | t::ts,e::es,h=>by
  have h':(notStar e&&bE G t e&&cS G ts es)=true:=h
  simp only[Bool.and_eq_true] at h'
  exact mR (Jy g t e h'.1.2) (zC g ts es h'.2) (by rw[dr h'.1.1];rfl)
 | [],_::_,h=>by cases h
 | _::_,[],h=>by cases h
end
end
mutual
theorem dt {G:Gm}:∀ (t:Tg) (e:Expr),bE G t e=true->∀ j∈Ep t,G.io≠some j
 | .nm i,e,h,j,hj=>by
  cases e with
  | Name x pos=>
   have h':=(Bool.and_eq_true_iff.mp (show ((G.N[i]? == some x&&(G.kd[i]? == some .local||(G.df&&G.kd[i]? == some .cell)))&&G.io != some i)=true from h)).2
   have e:j=i:=by simpa[Ep] using hj
   subst e
   simpa using h'
  | _=>cases h
 | .tp ts,e,h,j,hj=>by
  cases e with
  | Tuple es k pos=>
   have h0:(G.cm&&cS G ts es)=true:=h
   exact iQ ts es (Bool.and_eq_true_iff.mp h0).2 j hj
  | _=>cases h
theorem iQ {G:Gm}:∀ (ts:List Tg) (es:List Expr),cS G ts es=true->∀ j∈iM ts,G.io≠some j
 | [],_,_,j,hj=>by cases hj
 | t::ts,[],h,_,_=>by cases h
 | t::ts,e::es,h,j,hj=>by
  have h':(notStar e&&bE G t e&&cS G ts es)=true:=h
  simp only[Bool.and_eq_true] at h'
  rcases List.mem_append.mp (show j∈Ep t++iM ts from hj) with hj|hj
  ·exact dt t e h'.1.2 j hj
  ·exact iQ ts es h'.2 j hj
end
def Kj (K:PySem.W.Frag)(S:Addr->Prop)(H:Hp)(σ:St)(τ:Ev):Prop:=τ.length=σ.length/\∀ i d,ai τ i=some d->∃ v,σ[i]? = some (some v)/\Cm K S H v d
theorem fX {τ:Ev}{i j:Nat}{o:Option D}:ai (τ.set i o) j=if i=j/\i < τ.length then o else ai τ j:=by
 unfold ai
 rw[List.getElem?_set]
 by_cases h:i=j
 ·subst h
  by_cases h2:i < τ.length
  ·simp[h2]
  ·rw[if_pos rfl,if_neg h2,if_neg (by omega)]
   rw[List.getElem?_eq_none (by omega)]
 ·rw[if_neg h,if_neg (by omega)]
section
variable {K:PySem.W.Frag}{S:Addr->Prop}{H:Hp}{ex:Str->Prop}
mutual
theorem ka:∀ (t:Tg) {σ:St}{τ:Ev}{v:V}{d:D}{Kt:Ev->Prop}{Q:St->Hp->Prop},Kj K S H σ τ->Cm K S H v d->Ck ex (bK t d τ) Kt->
  (∀ Cr CB,Kj K S H CB Cr->CB.length=σ.length->(∀ j,j∉Ep t->CB[j]? = σ[j]?)->Kt Cr->Q CB H)->gT K t v σ H Q
 | .nm i,σ,τ,v,d,Kt,Q,hs,m,h,k=>by
  refine k (τ.set i (some d)) (σ.set i (some v)) ⟨by rw[List.length_set,List.length_set,hs.1],fun j e z=>?_⟩ (by rw[List.length_set]) (fun j hj=>?_) h.ok
  ·rw[fX] at z
   by_cases q:i=j/\i < τ.length
   ·rw[if_pos q] at z
    obtain⟨rfl,q⟩:=q
    cases z
    exact⟨v,by rw[List.getElem?_set_self (by rw[<- hs.1];exact q)],m⟩
   ·rw[if_neg q] at z
    obtain⟨w,h1,h2⟩:=hs.2 j e z
    refine⟨w,?_,h2⟩
    by_cases q2:i=j
    ·subst q2
     exfalso
     have:i < σ.length:=by
      have:=(List.getElem?_eq_some_iff.mp h1).1
      exact this
     exact q ⟨rfl,by rw[hs.1];exact this⟩
    ·rw[List.getElem?_set_ne q2];exact h1
  ·have:i≠j:=fun z=>hj (by subst z;simp[Ep])
   rw[List.getElem?_set_ne this]
 | .tp ts,σ,τ,v,d,Kt,Q,hs,m,h,k=>by
  cases d with
  | tup ds=>
   obtain⟨a,xs,rfl,q,ms⟩:=m.Dg
   obtain⟨g,h⟩:=Ck.Co h
   have g':ds.length=ts.length:=of_decide_eq_true g
   exact⟨a,xs,rfl,.inl q,by rw[ms.length,g'],eT ts hs ms h k⟩
  | lst o ds=>
   obtain⟨a,xs,rfl,q,ms⟩:=m.C5
   obtain⟨g,h⟩:=Ck.Co h
   have g':ds.length=ts.length:=of_decide_eq_true g
   exact⟨a,xs,rfl,.inr q,by rw[ms.length,g'],eT ts hs ms h k⟩
  | _=>exact h.no.elim
theorem eT:∀ (ts:List Tg) {σ:St}{τ:Ev}{vs:List V}{ds:List D}{Kt:Ev->Prop}{Q:St->Hp->Prop},Kj K S H σ τ->Cj K S H vs ds->Ck ex (c9 ts ds τ) Kt->
  (∀ Cr CB,Kj K S H CB Cr->CB.length=σ.length->(∀ j,j∉iM ts->CB[j]? = σ[j]?)->Kt Cr->Q CB H)->Lr K ts vs σ H Q
 | [],σ,τ,vs,ds,Kt,Q,hs,m,h,k=>by
  cases m with
  | nil=>exact⟨rfl,k τ σ hs rfl (fun _ _=>rfl) h.ok⟩
  | cons _ _=>exact h.no.elim
 | t::ts,σ,τ,vs,ds,Kt,Q,hs,m,h,k=>by
  cases m with
  | nil=>exact h.no.elim
  | cons m1 m2=>
   refine⟨_,_,rfl,ka t hs m1 (Ck.Ci h) fun Cr CB Kl hn hk h'=>?_⟩
   refine eT ts Kl m2 h' fun Jz JA Nu Ek Ni Nv=>k Jz JA Nu (Ek.trans hn) (fun j hj=>?_) Nv
   have Mq:j∉Ep t/\j∉iM ts:=by
    constructor<;>(intro z;apply hj;simp[iM,z])
   rw[Ni j Mq.2,hk j Mq.1]
end
end
section
variable {K:PySem.W.Frag}{S S':Addr->Prop}{H H':Hp}{J:It}{ds:List D}
theorem WS.step (hl:∀ a (u:LD),S a->Rd H a u.o->S' a/\Rd H' a u.o)(ht:∀ a xs,C8 K H a xs->C8 K H' a xs){k:Zp.Kq}{a:Addr}{xs:List V}(h:WS K S H k a xs):WS K S' H' k a xs:=by
 cases k with
 | l=>exact h.elim (fun z=>.inl (hl _ (.l _) z.1 z.2)) fun z=>.inr z
 | t=>exact ht _ (.inl _) h
theorem iR (ds es:List D):(ma ds es).length=min ds.length es.length:=by unfold ma;rw[List.length_zipWith]
theorem Er.step (hl:∀ a (u:LD),S a->Rd H a u.o->S' a/\Rd H' a u.o)(ht:∀ a xs,C8 K H a xs->C8 K H' a xs)(h:Er K S H J ds):Er K S' H' J ds:=by
 cases h with
 | lst h0 h1 h2=>exact .lst (hl _ (.l _) h0 h1).1 (hl _ (.l _) h0 h1).2 (h2.step hl ht)
 | lstK h1 h2=>exact .lstK h1 (h2.step hl ht)
 | tup h1 h2=>exact .tup (ht _ (.inl _) h1) (h2.step hl ht)
 | Gb lo hi=>exact .Gb lo hi
 | str x=>exact .str x
 | zip h1 h2 h3 h4=>exact .zip (h1.step hl ht) (h2.step hl ht) (h3.step hl ht) (h4.step hl ht)
theorem Er.mono (h:Er K S H J ds)(hS:∀ a,S a->S' a)(e:aq H H'):Er K S' H' J ds:=h.step (fun a xs s r=>⟨hS a s,e.rd r⟩) fun a xs s=>e.DH s
theorem eU (x:Str):(cG x).length=x.cps.size:=by unfold cG;simp
theorem bA (a b:Int):(bb a b).length=(b - a).toNat:=by unfold bb;simp
theorem Er.stop (h:Er K S H J ds){i:Nat}(hi:ds.length<=i):J.stop i H:=by
 cases h with
 | lst h0 h1 h2=>exact⟨_,.inl h1,by rw[h2.length];exact hi⟩
 | lstK h1 h2=>exact⟨_,h1.sq,by rw[h2.length];exact hi⟩
 | tup h1 h2=>exact⟨_,h1,by rw[h2.length];exact hi⟩
 | Gb lo Kb=>rw[bA] at hi;exact hi
 | str x=>rw[eU] at hi;exact hi
 | zip h1 h2 h3 h4=>exact⟨_,_,h1.sq,h2.sq,by rw[iR] at hi;rw[h3.length,h4.length];omega⟩
theorem Er.go (h:Er K S H J ds){i:Nat}(hi:i < ds.length):J.go i H:=by
 cases h with
 | lst h0 h1 h2=>obtain⟨v,hv,_⟩:=h2.get (i:=i) (d:=ds[i]) (by simp[hi]);exact⟨_,v,.inl h1,hv⟩
 | lstK h1 h2=>obtain⟨v,hv,_⟩:=h2.get (i:=i) (d:=ds[i]) (by simp[hi]);exact⟨_,v,h1.sq,hv⟩
 | tup h1 h2=>obtain⟨v,hv,_⟩:=h2.get (i:=i) (d:=ds[i]) (by simp[hi]);exact⟨_,v,h1,hv⟩
 | Gb lo Kb=>rw[bA] at hi;exact hi
 | str x=>rw[eU] at hi;exact hi
 | zip h1 h2 h3 h4=>
  rename_i ds' Eu
  rw[iR] at hi
  obtain⟨v,hv,_⟩:=h3.get (i:=i) (d:=ds'[i]) (by rw[List.getElem?_eq_getElem])
  obtain⟨u,hu,_⟩:=h4.get (i:=i) (d:=Eu[i]) (by rw[List.getElem?_eq_getElem])
  exact⟨_,_,v,u,h1.sq,h2.sq,hv,hu⟩
theorem Er.Ht (h:Er K S H J ds){i:Nat}{x:V}{H2:Hp}(y:J.Ht i H x H2){d:D}(hd:ds[i]? = some d):aq H H2/\Cm K S H2 x d:=by
 have fin:∀ {xs:List V},Cj K S H xs ds->xs[i]? = some x->Cm K S H x d:=fun m e=>by
  obtain⟨d',e',m'⟩:=m.Jn e
  rw[hd] at e';cases e';exact m'
 cases h with
 | lst h0 h1 h2=>obtain⟨e,y⟩:=y;subst e;exact⟨.refl _,fin h2 (y _ (.inl h1))⟩
 | lstK h1 h2=>obtain⟨e,y⟩:=y;subst e;exact⟨.refl _,fin h2 (y _ h1.sq)⟩
 | tup h1 h2=>obtain⟨e,y⟩:=y;subst e;exact⟨.refl _,fin h2 (y _ h1)⟩
 | zip h1 h2 h3 h4=>
  obtain⟨T,a,b,e1,hT,e2,hy⟩:=y
  subst e1 e2
  obtain⟨y1,y2⟩:=hy _ _ h1.sq h2.sq
  obtain⟨d1,g1,m1⟩:=h3.Jn y1
  obtain⟨d2,g2,m2⟩:=h4.Jn y2
  unfold ma at hd
  rw[List.getElem?_zipWith,g1,g2] at hd
  cases hd
  have e:aq H (upd H T (.tup [a,b])):=.upd hT
  exact⟨e,.tup (DL.of ar) (.cons (m1.mono (fun _ z=>z) e) (.cons (m2.mono (fun _ z=>z) e) .nil))⟩
 | Gb lo Kb=>
  obtain⟨e1,e2⟩:=y
  subst e1
  refine⟨.refl _,?_⟩
  subst e2
  unfold bb at hd
  rw[List.getElem?_map] at hd
  have hi:i < (Kb - lo).toNat:=by
   have:=(Option.map_eq_some_iff.mp hd)
   obtain⟨z,h1,_⟩:=this
   have:=(List.getElem?_eq_some_iff.mp h1).1
   simpa using this
  rw[List.getElem?_range hi] at hd
  cases hd
  exact .int _
 | str x=>
  obtain⟨e1,c,h1,e2⟩:=y
  subst e1
  refine⟨.refl _,?_⟩
  subst e2
  unfold cG at hd
  rw[List.getElem?_map] at hd
  have h2:x.cps.toList[i]? = some c:=by simpa using h1
  rw[h2] at hd
  cases hd
  exact .str _
end
section
variable {Z:Sg}{CX:Dw}{cl:Nat->List D->Res D}{xp:XK->Hp->Str->Prop}{X:Cx}{ex:Str->Prop}{G:Gm}{K:PySem.W.Frag}{S:Addr->Prop}{H H1:Hp}{σ:St}{τ:Ev}
theorem zD {is:List Nat}{f:Ev->Res (List D)}{Kt:List D->Prop}{R:It->Hp->Prop}(e:aq H H1)(hs:Slots K S H σ τ is)(h:Ck ex (f τ) Kt)(k:∀ ds J H2,aq H H2->aq H1 H2->Er K (nw S H) H2 J ds->Kt ds->R J H2):RI K ex is f σ H1 R:=
 ⟨nw S H,τ,hs.go e,h.mono fun x hx J H2 e2 m=>k x J H2 (e.trans e2) e2 (m.mono (fV e) (.refl _)) hx⟩
theorem kb {tg:Expr}{pins:List (Addr×Obj)}{s:Shared}{a:Addr}{xs:List V}{R:It->Hp->Prop}(I:Inv X pins σ H s)(hq:DC X.K H a xs)(q:R (L0 X.K a) H):wpAny (model X.prog X.w) X.A (pyIter (.ref a)) (J5 X pins σ tg R) X.xe s:=by
 obtain⟨its,rv,p,hz⟩:=I.list hq
 refine wpAny_pyIter_list p.isList ?_
 refine⟨s.heap.objs.size,[s.heap.objs.size],_,_,H,rfl,I.kept (t':=s.toks) fun b o e=>Heap.get?_push_of_some _ e,lN a _,⟨_,Heap.get?_push_size _ rfl,rfl,rfl⟩,fun b hb=>?_,q⟩
 have e:b=s.heap.objs.size:=by simpa using hb
 subst e
 exact I.Gf (Nat.le_refl _) (I.CA.fresh (Nat.le_refl _))
theorem nU {tg:Expr}{pins:List (Addr×Obj)}{s:Shared}{a:Addr}{xs:List V}{R:It->Hp->Prop}(I:Inv X pins σ H s)(hq:DL X.K H a xs)(q:R (MN X.K a) H):wpAny (model X.prog X.w) X.A (pyIter (.ref a)) (J5 X pins σ tg R) X.xe s:=by
 obtain⟨its,rv,p,hz⟩:=I.tuple hq
 refine wpAny_pyIter_tuple (show s.heap.IsTuple a its.toArray from p) ?_
 refine⟨s.heap.objs.size,[s.heap.objs.size],_,_,H,rfl,I.kept (t':=s.toks) fun b o e=>Heap.get?_push_of_some _ e,jk a _,⟨_,Heap.get?_push_size _ rfl,rfl,rfl⟩,fun b hb=>?_,q⟩
 have e:b=s.heap.objs.size:=by simpa using hb
 subst e
 exact I.Gf (Nat.le_refl _) (I.CA.fresh (Nat.le_refl _))
theorem zE {tg e:Expr}{va:List Nat}{fa:Ev->Res D}(ha:PE X e (RD X.K ex va fa)):PI X tg e (RI X.K ex va fun τ=>Ci (fa τ) eF):=by
 intro pins s σ H R I h
 obtain⟨S,τ,hs,q⟩:=h
 refine CF (ha pins s σ H (fun v H'=>∃ d,aq H H'/\Cm X.K (nw S H) H' v d/\_) I (aI (.refl _) hs (Ck.Ci q) fun x v H1 e1 _ m1 q1=>⟨x,e1,m1,q1⟩)) fun v s1 ⟨x,H1,I1,r1,d,e1,m1,q1⟩=>?_
 cases d with
 | lst o ds=>
  cases m1 with
  | lst h0 h1 h2=>cases r1;exact kb I1 (.inl h1) (q1.ok _ _ e1 (.lst h0 h1 h2))
  | lstK h1 h2=>cases r1;exact kb I1 h1.sq (q1.ok _ _ e1 (.lstK h1 h2))
 | tup ds=>
  obtain⟨a,xs,rfl,h1,h2⟩:=m1.Dg
  cases r1
  exact nU I1 h1 (q1.ok _ _ e1 (.tup h1 h2))
 | str z=>
  cases m1.CW
  obtain⟨t,rfl⟩:=r1
  obtain⟨_,q1⟩:=Ck.Co q1
  exact wO I1 (q1.ok _ _ e1 (.str z))
 | _=>exact q1.no.elim
theorem xc (g:CU Z CX cl xp X ex G){tg e:Expr}{p pos:Pos}{va:List Nat}{fa:Ev->Res D}(hg:G.gl.contains 15=true)(hn:notStar e=true)(ha:PE X e (RD X.K ex va fa)) :
  PI X tg (.Call (.Name "range" p) [e] [] pos) (RI X.K ex va fun τ=>Ci (fa τ) fun|.int i=>Co (aV i) (.ok (bb 0 i))|_=>Cq):=by
 obtain⟨k1,k2,_,_⟩:=bQ g (show aJ[15]? = some ("range" : Str) from rfl) hg
 refine eh (fD k1 k2 (aF ha bF (ah hn _ _)) (ah hn _ _)) fun σ H Q ⟨S,τ,hs,q⟩=>?_
 refine aI (.refl _) hs (Ck.Ci q) fun x v H1 e1 _ m1 q1=>?_
 cases x with
 | int i=>
  cases m1.CG
  obtain⟨gd,q1⟩:=Ck.Co q1
  have Hf : -(2 ^ 62)<=i/\i < 2 ^ 62:=of_decide_eq_true gd
  refine⟨i,rfl,Hf.1,Hf.2,?_⟩
  have:=q1.ok _ _ e1 (.Gb 0 i)
  rw[Int.sub_zero] at this
  exact this
 | _=>exact q1.no.elim
theorem xh (g:CU Z CX cl xp X ex G){tg e e':Expr}{p pos:Pos}{va vb:List Nat}{fa fb:Ev->Res D}(hg:G.gl.contains 15=true)(hn:notStar e=true)(Ek:notStar e'=true)(ha:PE X e (RD X.K ex va fa))(hb:PE X e' (RD X.K ex vb fb)) :
  PI X tg (.Call (.Name "range" p) [e,e'] [] pos) (RI X.K ex (va++vb) fun τ=>Ci (fa τ) fun x=>Ci (fb τ) fun y=>match x,y with|.int i,.int j=>Co (aV i&&aV j) (.ok (bb i j))|_,_=>Cq):=by
 obtain⟨k1,k2,_,_⟩:=bQ g (show aJ[15]? = some ("range" : Str) from rfl) hg
 refine eh (fE k1 k2 (aF ha (aF hb bF (ah Ek _ _)) (ah hn _ _)) (by rw[ah hn,ah Ek];rfl) (ah Ek _ _)) fun σ H Q ⟨S,τ,hs,q⟩=>?_
 refine aI (.refl _) hs.left (Ck.Ci q) fun x v H1 e1 _ m1 q1=>?_
 refine aI e1 hs.right (Ck.Ci q1) fun y w H2 e2 Dc m2 q2=>?_
 cases x with
 | int i=>
  cases y with
  | int j=>
   cases m1.CG;cases m2.CG
   obtain⟨gd,q2⟩:=Ck.Co q2
   rw[Bool.and_eq_true] at gd
   have g1 : -(2 ^ 62)<=i/\i < 2 ^ 62:=of_decide_eq_true gd.1
   have g2 : -(2 ^ 62)<=j/\j < 2 ^ 62:=of_decide_eq_true gd.2
   exact⟨i,j,rfl,⟨g1.1,g1.2,g2.1,g2.2⟩,q2.ok _ _ e2 (.Gb i j)⟩
  | _=>exact q2.no.elim
 | _=>cases y<;>exact q2.no.elim
theorem zF {a:Addr}{v:V}{d:D}{ds:List D}(m:Cm K S H v d)(h:jw d=.ok ds):∃ k a xs,v=.ref a/\WS K S H k a xs/\Cj K S H xs ds:=by
 cases d with
 | lst o es=>
  cases h
  cases m with
  | lst h0 h1 h2=>exact⟨.l,_,_,rfl,.inl ⟨h0,h1⟩,h2⟩
  | lstK h1 h2=>exact⟨.l,_,_,rfl,.inr h1,h2⟩
 | tup es=>
  cases h
  obtain⟨a,xs,rfl,h1,h2⟩:=m.Dg
  exact⟨.t,a,xs,rfl,h1,h2⟩
 | _=>cases h
theorem zG (g:CU Z CX cl xp X ex G){es:List Expr}{c:Nat}{tp:Pos}{e e':Expr}{p pos:Pos}{va vb:List Nat}{fa fb:Ev->Res D}(hg:G.gl.contains 17=true)(hn:notStar e=true)(Ek:notStar e'=true)(ha:PE X e (RD X.K ex va fa))(hb:PE X e' (RD X.K ex vb fb)) :
  PI X (.Tuple es c tp) (.Call (.Name "zip" p) [e,e'] [] pos) (RI X.K ex (va++vb) fun τ=>Ci (fa τ) fun x=>Ci (fb τ) fun y=>yV x y):=by
 obtain⟨k1,k2,_,_⟩:=bQ g (show aJ[17]? = some ("zip" : Str) from rfl) hg
 refine eh (wI k1 k2 (aF ha (aF hb bF (ah Ek _ _)) (ah hn _ _)) (by rw[ah hn,ah Ek];rfl) (ah Ek _ _)) fun σ H Q ⟨S,τ,hs,q⟩=>?_
 refine aI (.refl _) hs.left (Ck.Ci q) fun x v H1 e1 _ m1 q1=>?_
 refine aI e1 hs.right (Ck.Ci q1) fun y w H2 e2 Dc m2 q2=>?_
 have q3:=Ck.Ci (show Ck ex (Ci (jw x) fun ds=>Ci (jw y) fun es=>.ok (ma ds es)) _ from q2)
 have RL:=m1.mono (fun _ z=>z) Dc
 cases hx:jw x with
 | error z=>
  rw[hx] at q3
  cases x<;>first|(cases hx;exact q3.no.elim)|cases hx
 | ok ds=>
  rw[hx] at q3
  have q4:=Ck.Ci q3.ok
  cases hy:jw y with
  | error z=>
   rw[hy] at q4
   cases y<;>first|(cases hy;exact q4.no.elim)|cases hy
  | ok Eu=>
   rw[hy] at q4
   obtain⟨k1,a1,xs,rfl,w1,r1⟩:=zF (a:=0) RL hx
   obtain⟨k2,a2,ys,rfl,w2,r2⟩:=zF (a:=0) m2 hy
   exact⟨k1,k2,a1,a2,xs,ys,rfl,w1.sq,w2.sq,q4.ok.ok _ _ e2 (.zip w1 w2 r1 r2)⟩
theorem b9 {env:Env}{x:Str}:∀ (names:List (Str×NameKind)),
  (names.map fun (n,k)=>if (k == NameKind.free&&env.scope.kind == .function&&env.kindOf n == some .cell) then (n,NameKind.cell) else (n,k)).lookup x =
   (names.lookup x).map fun k=>if (k == NameKind.free&&env.scope.kind == .function&&env.kindOf x == some .cell) then NameKind.cell else k
 | []=>rfl
 | (n,k)::r=>by
  have ih:=b9 (env:=env) (x:=x) r
  rw[List.map_cons]
  show List.lookup x ((if (k == NameKind.free&&env.scope.kind == .function&&env.kindOf n == some .cell)=true then (n,NameKind.cell) else (n,k))::_)=_
  by_cases hc:(k == NameKind.free&&env.scope.kind == .function&&env.kindOf n == some .cell)=true
  ·rw[if_pos hc,List.lookup_cons,List.lookup_cons]
   cases hx:x == n with
   | true=>
    have e:x=n:=eq_of_beq hx
    subst e
    show some NameKind.cell=some (if _ then _ else _)
    rw[if_pos hc]
   | false=>exact ih
  ·rw[if_neg hc,List.lookup_cons,List.lookup_cons]
   cases hx:x == n with
   | true=>
    have e:x=n:=eq_of_beq hx
    subst e
    show some k=some (if _ then _ else _)
    rw[if_neg hc]
   | false=>exact ih
theorem jE {scope:Scope}{env:Env}(h:∀ y∈scope.names,y.2=.free->∃ c,env.cells.lookup y.1=some c) :
  ∃ DD,closureFor scope env=pure DD/\(∀ x c,DD.lookup x=some c->env.cells.lookup x=some c)/\∀ y∈scope.names,y.2=.free->∃ c,DD.lookup y.1=some c:=by
 have key:∀ (names:List (Str×NameKind)) (acc:List (Str×Addr)),(∀ y∈names,y.2=.free->∃ c,env.cells.lookup y.1=some c)->(∀ x c,acc.lookup x=some c->env.cells.lookup x=some c)->
   ∃ DD,(forIn names acc fun (p:Str×NameKind) (r:List (Str×Addr))=>(if (p.2 == NameKind.free)=true then do let a <- cellOf env p.1;pure (ForInStep.yield ((p.1,a)::r)) else pure (ForInStep.yield r):Sem (ForInStep (List (Str×Addr)))))=pure DD/\(∀ x c,DD.lookup x=some c->env.cells.lookup x=some c)/\
    (∀ y∈names,y.2=.free->∃ c,DD.lookup y.1=some c)/\∀ x c,acc.lookup x=some c->∃ c',DD.lookup x=some c':=by
  intro names
  induction names with
  | nil=>intro acc _ h2;exact⟨acc,rfl,h2,fun y hy=>absurd hy (by simp),fun x c e=>⟨c,e⟩⟩
  | cons p names ih=>
   intro acc h1 h2
   rw[List.forIn_cons]
   by_cases hp:p.2=.free
   ·obtain⟨c,hc⟩:=h1 p (by simp) hp
    have hb:(p.2 == NameKind.free)=true:=by rw[hp];rfl
    have RM:∀ x c',((p.1,c)::acc).lookup x=some c'->env.cells.lookup x=some c':=by
     intro x c' e
     rw[List.lookup_cons] at e
     cases hx:x == p.1 with
     | true=>
      rw[hx] at e
      cases e
      rw[eq_of_beq hx]
      exact hc
     | false=>rw[hx] at e;exact h2 x c' e
    obtain⟨DD,e1,e2,e3,e4⟩:=ih ((p.1,c)::acc) (fun y hy=>h1 y (List.mem_cons_of_mem _ hy)) RM
    refine⟨DD,?_,e2,fun y hy hf=>?_,fun x c' e=>?_⟩
    ·rw[if_pos hb]
     have:cellOf env p.1=pure c:=by unfold cellOf;rw[hc]
     rw[this]
     exact e1
    ·rcases List.mem_cons.mp hy with rfl|hy
     ·exact e4 y.1 c (by rw[List.lookup_cons];simp)
     ·exact e3 y hy hf
    ·rcases hx:x == p.1 with _|_
     ·exact e4 x c' (by rw[List.lookup_cons,hx];exact e)
     ·exact e4 x c (by rw[List.lookup_cons,hx])
   ·have hb:¬ (p.2 == NameKind.free)=true:=fun z=>hp (eq_of_beq z)
    obtain⟨DD,e1,e2,e3,e4⟩:=ih acc (fun y hy=>h1 y (List.mem_cons_of_mem _ hy)) h2
    refine⟨DD,?_,e2,fun y hy hf=>?_,e4⟩
    ·rw[if_neg hb]
     exact e1
    ·rcases List.mem_cons.mp hy with rfl|hy
     ·exact absurd hf hp
     ·exact e3 y hy hf
 obtain⟨DD,e1,e2,e3,_⟩:=key scope.names [] h (fun x c e=>by cases e)
 refine⟨DD,?_,e2,e3⟩
 unfold closureFor
 exact congrArg (fun (m:Sem (List (Str×Addr)))=>m >>= fun r=>pure r) e1
structure Gp (Z:Sg)(G:Gm)(scope:Scope)(G':Gm)(fr:List Nat):Prop where
 cm:G.cm=true
 kind:scope.kind=.function
 tr:G'.tr=false
 df:G'.df=false
 Ud:G'.kd.length=G'.N.length
 ES:∀ y∈scope.names,y.2≠.cell
 loc:∀ y∈scope.names,y.2=.local->scope.names.lookup y.1=some .local
 RP:∀ y∈scope.names,y.2=.free->∃ i:Nat,G.N[i]? = some y.1/\(G.kd[i]? = some .cell∨G.kd[i]? = some .free)
 Dr:∀ (j:Nat) (i:Nat),fr[j]? = some i->∃ x,G.N[i]? = some x/\G'.N[j]? = some x/\scope.names.lookup x=some .free/\(G.kd[i]? = some .cell∨G.kd[i]? = some .free)/\G'.kd[j]? = some (if (G.kd[i]? == some .cell)=true then .cell else .free)
 Lu:fr.length<=G'.N.length
 Ep:∀ (j:Nat) (x:Str),fr.length<=j->G'.N[j]? = some x->scope.names.lookup x=some .local/\G'.kd[j]? = some .local
 GB:∀ x∈G'.N,(x == ("__debug__" : Str))=false/\(x == ("__classdict__" : Str))=false
 CP:G'.N.Nodup
 gl:∀ n∈G'.gl,∃ x,Z.name n=some x/\scope.names.lookup x=some .globalImplicit
theorem gK {Z:Sg}{G:Gm}{scope:Scope}{G':Gm}{fr:List Nat}(h:bz Z G scope G' fr=true):Gp Z G scope G' fr:=by
 unfold bz at h
 simp only[Bool.and_eq_true] at h
 obtain⟨⟨⟨⟨⟨⟨⟨⟨⟨⟨⟨⟨⟨h0,h1⟩,Lv⟩,h2⟩,h3⟩,h4⟩,h5⟩,h6⟩,h7⟩,h8⟩,h9⟩,Ij⟩,J9⟩,K5⟩:=h
 rw[List.all_eq_true] at h4 h5 h6 h7 h9 Ij K5
 refine⟨h0,eq_of_beq h1,by simpa using Lv,by simpa using h2,eq_of_beq h3,fun y hy=>by simpa using h4 y hy,fun y hy e=>?_,fun y hy e=>?_,fun j i e=>?_,of_decide_eq_true h8,fun j x hj e=>?_,fun x hx=>by simpa using Ij x hx,of_decide_eq_true J9,fun n hn=>?_⟩
 ·have:=h5 y hy
  rw[e] at this
  simpa using this
 ·have:=h6 y hy
  rw[e] at this
  simp only[bne_self_eq_false,Bool.false_or,List.any_eq_true,Bool.and_eq_true,Bool.or_eq_true] at this
  obtain⟨i,_,hi,hk⟩:=this
  exact⟨i,eq_of_beq hi,hk.elim (fun z=>.inl (eq_of_beq z)) fun z=>.inr (eq_of_beq z)⟩
 ·have hj:j < fr.length:=(List.getElem?_eq_some_iff.mp e).1
  have:=h7 j (List.mem_range.mpr hj)
  simp only[e,Option.bind_some,Bool.and_eq_true,Bool.or_eq_true] at this
  obtain⟨⟨⟨a1,a2⟩,a3⟩,a4⟩:=this
  have O9:=eq_of_beq a1
  have Mr:=eq_of_beq a2
  cases q:G'.N[j]? with
  | none=>rw[q] at Mr;cases Mr
  | some x=>
   rw[q] at Mr O9
   exact⟨x,O9.symm,rfl,Mr,a3.elim (fun z=>.inl (eq_of_beq z)) fun z=>.inr (eq_of_beq z),eq_of_beq a4⟩
 ·have Dk:j < G'.N.length:=(List.getElem?_eq_some_iff.mp e).1
  have hm:j∈(List.range G'.N.length).drop fr.length:=by
   rw[List.mem_drop_iff_getElem]
   exact⟨j - fr.length,by simp;omega,by simp;omega⟩
  have:=h9 j hm
  rw[e] at this
  simp only[Option.bind_some,Bool.and_eq_true] at this
  exact⟨eq_of_beq this.1,eq_of_beq this.2⟩
 ·have:=K5 n hn
  cases q:Z.name n with
  | none=>rw[q] at this;cases this
  | some x=>
   rw[q] at this
   exact⟨x,rfl,eq_of_beq this⟩
noncomputable def Gq (G:Gm)(fr:List Nat):List (Str×Nat):=fr.map fun i=>(G.N.getD i "",i)
theorem zH {scope:Scope}{G':Gm}{fr:List Nat}(s:Gp Z G scope G' fr):(Gq G fr).map (·.1)++G'.N.drop fr.length=G'.N:=by
 have e:(Gq G fr).map (·.1)=G'.N.take fr.length:=by
  apply List.ext_getElem?
  intro j
  unfold Gq
  rw[List.map_map,List.getElem?_map,List.getElem?_take]
  cases q:fr[j]? with
  | none=>
   have:¬ j < fr.length:=by
    intro z
    rw[List.getElem?_eq_getElem z] at q
    cases q
   rw[if_neg this]
   rfl
  | some i=>
   have:j < fr.length:=(List.getElem?_eq_some_iff.mp q).1
   rw[if_pos this]
   obtain⟨x,h1,h2,_⟩:=s.Dr j i q
   rw[h2]
   show some (G.N.getD i "")=some x
   rw[List.getD_eq_getElem?_getD,h1]
   rfl
 rw[e,List.take_append_drop]
theorem dN (g:CU Z CX cl xp X ex G)(ok:X.Ok){scope:Scope}{G':Gm}{fr:List Nat}(s:Gp Z G scope G' fr):∃ DD,DZ X scope DD (Gq G fr) (G'.N.drop fr.length):=by
 have FQ:∀ y∈scope.names,y.2=.free->∃ c,X.env.cells.lookup y.1=some c:=fun y hy hf=>by
  obtain⟨i,h1,h2⟩:=s.RP y hy hf
  have hk:=g.kd i y.1 h1
  exact ok.has y.1 (h2.elim (fun z=>.inl (hk.trans z)) fun z=>.inr (hk.trans z))
 obtain⟨DD,e1,e2,e3⟩:=jE FQ
 refine⟨DD,e1,s.kind,s.ES,s.loc,e2,fun x hx=>?_,fun p hp=>?_⟩
 ·have hl:=b9 (env:=X.env) (x:=x) scope.names
  have DP:((scope.names.lookup x).map fun k=>if (k == NameKind.free&&X.env.scope.kind == .function&&X.env.kindOf x == some .cell)=true then NameKind.cell else k)=some .cell∨
    ((scope.names.lookup x).map fun k=>if (k == NameKind.free&&X.env.scope.kind == .function&&X.env.kindOf x == some .cell)=true then NameKind.cell else k)=some .free:=by
   rcases hx with hx|hx
   ·exact .inl (hl.symm.trans hx)
   ·exact .inr (hl.symm.trans hx)
  cases q:scope.names.lookup x with
  | none=>rw[q] at DP;rcases DP with z|z<;>cases z
  | some k=>
   have hm:(x,k)∈scope.names:=PySem.mem_of_lookup q
   have hk:k=.free:=by
    rw[q] at DP
    rcases DP with z|z
    ·have z':(if (k == NameKind.free&&X.env.scope.kind == .function&&X.env.kindOf x == some .cell)=true then NameKind.cell else k)=.cell:=Option.some.inj z
     split at z'
     ·rename_i hc
      simp only[Bool.and_eq_true] at hc
      exact eq_of_beq hc.1.1
     ·exact absurd z' (s.ES _ hm)
    ·have z':(if (k == NameKind.free&&X.env.scope.kind == .function&&X.env.kindOf x == some .cell)=true then NameKind.cell else k)=.free:=Option.some.inj z
     split at z'
     ·cases z'
     ·exact z'
   exact e3 (x,k) hm hk
 ·unfold Gq at hp
  rw[List.mem_map] at hp
  obtain⟨i,hi,rfl⟩:=hp
  obtain⟨j,hj⟩:=List.getElem?_of_mem hi
  obtain⟨x,h1,h2,h3,h4,h5⟩:=s.Dr j i hj
  have hn:G.N.getD i "" = x:=by rw[List.getD_eq_getElem?_getD,h1];rfl
  show X.N[i]? = some (G.N.getD i "")/\_
  rw[hn]
  have hk:=g.kd i x h1
  refine⟨by rw[g.N];exact h1,h4.elim (fun z=>.inl (hk.trans z)) fun z=>.inr (hk.trans z),?_⟩
  have hl:=b9 (env:=X.env) (x:=x) scope.names
  rw[h3] at hl
  have Na:(relabel scope X.env).names.lookup x=some (if (NameKind.free == NameKind.free&&X.env.scope.kind == .function&&X.env.kindOf x == some .cell)=true then NameKind.cell else NameKind.free):=hl
  rw[Na]
  split
  ·exact .inl rfl
  ·exact .inr rfl
theorem bB (g:CU Z CX cl xp X ex G){scope:Scope}{G':Gm}{fr:List Nat}(s:Gp Z G scope G' fr)(DD:List (Str×Addr))(C:Addr)(s3:Shared)(H3:Hp)(fp:List Addr) :
  CU Z CX cl xp (FU X scope DD ((Gq G fr).map (·.1)++G'.N.drop fr.length) C s3 H3 fp) (fun _=>False) G' where
 N:=zH s
 CP:=s.CP
 calm:=fun _=>g.calm s.cm
 fk:=s.kind
 un:=g.un
 own:=fun _=>PassesOwn.never
 kd:=fun j x hx=>by
  show (relabel scope X.env).names.lookup x=_
  have hl:=b9 (env:=X.env) (x:=x) scope.names
  by_cases hj:j < fr.length
  ·obtain⟨y,h1,h2,h3,h4,h5⟩:=s.Dr j fr[j] (by simp[hj])
   rw[hx] at h2
   cases h2
   rw[h3] at hl
   rw[h5]
   refine hl.trans ?_
   have hk:=g.kd fr[j] x h1
   show some (if (NameKind.free == NameKind.free&&X.env.scope.kind == .function&&X.env.kindOf x == some .cell)=true then NameKind.cell else NameKind.free)=_
   rw[hk,g.fk]
   rfl
  ·obtain⟨h1,h2⟩:=s.Ep j x (by omega) hx
   rw[h1] at hl
   rw[h2]
   exact hl
 GB:=fun j x hx=>s.GB x (List.mem_of_getElem? hx)
 gl:=fun n hn x e=>by
  obtain⟨y,h1,h2⟩:=s.gl n hn
  rw[e] at h1
  cases h1
  show (relabel scope X.env).names.lookup x=_
  have hl:=b9 (env:=X.env) (x:=x) scope.names
  rw[h2] at hl
  exact hl
 Hd:=g.Hd
 df:=fun z=>by rw[s.df] at z;cases z
 blt:=g.blt
 cst:=g.cst
 fns:=fun f hf _ x hx=>g.fns f hf (.inl s.cm) x hx
 EB:=fun f hf _ x hx=>g.EB f hf s.cm x hx
 Iu:=g.Iu
 Iw:=g.Iw
 Iy:=g.Iy
 He:=g.He
 Mp:=fun _ pins σ H s c C h' e vs _ z=>z.elim
 tr:=fun z=>by rw[s.tr] at z;cases z
 Ll:=⟨fun _ _ _=>False,fun pins σ H s e s' _ h=>(g.Jv _ _ _ _ _ h).elim,fun c _ z=>z.elim⟩
 G8:=g.G8
 Jv:=g.Jv
end
abbrev Di:Str->Prop:=fun _=>False
theorem Ck.Ed {α:Type}{ex:Str->Prop}{x:Res α}{k:α->Prop}(h:Ck ex (L2.Ed x) k):Ck Di x k:=by
 cases x with
 | ok a=>exact h
 | error e=>exact False.elim h
section
variable {K:PySem.W.Frag}{S:Addr->Prop}{H:Hp}{σ:St}{τ:Ev}{ex:Str->Prop}{cl:Nat->List D->Res D}{G G':Gm}{fr:List Nat}
noncomputable def FJ (G':Gm)(fr:List Nat)(τ:Ev):Ev:=fr.map (ai τ)++List.replicate (G'.N.length - fr.length) none
theorem sk (hl:fr.length<=G'.N.length):(FJ G' fr τ).length=G'.N.length:=by
 unfold FJ
 rw[List.length_append,List.length_map,List.length_replicate]
 omega
theorem so (Tg:List Str)(σ:St):(stC (Gq G fr) Tg σ).length=fr.length+Tg.length:=by
 unfold stC Gq
 rw[List.length_append,List.length_map,List.length_map,List.length_replicate]
theorem nV {j:Nat}{d:D}(h:ai (FJ G' fr τ) j=some d):∃ i,fr[j]? = some i/\ai τ i=some d:=by
 unfold ai FJ at h
 by_cases hj:j < fr.length
 ·rw[List.getElem?_append_left (by simpa using hj),List.getElem?_map,List.getElem?_eq_getElem hj] at h
  exact⟨fr[j],by simp[hj],h⟩
 ·rw[List.getElem?_append_right (by simpa using hj),List.getElem?_replicate] at h
  split at h<;>cases h
theorem sr {vs:List Nat}{CB:St}(hl:fr.length<=G'.N.length)(hs:Slots K S H σ τ (fr++vs))(hn:CB.length=G'.N.length)(DA:∀ j,j < fr.length->CB[j]? = (stC (Gq G fr) (G'.N.drop fr.length) σ)[j]?):Kj K S H CB (FJ G' fr τ):=by
 refine⟨by rw[sk hl,hn],fun j d h=>?_⟩
 obtain⟨i,hi,hd⟩:=nV h
 have hj:j < fr.length:=(List.getElem?_eq_some_iff.mp hi).1
 obtain⟨v,h1,h2⟩:=hs i (List.mem_append_left _ (List.mem_of_getElem? hi)) d hd
 refine⟨v,?_,h2⟩
 rw[DA j hj]
 unfold stC Gq
 rw[List.getElem?_append_left (by simpa using hj),List.getElem?_map,List.getElem?_map,hi]
 show some ((σ[i]?).join)=some (some v)
 rw[h1]
 rfl
noncomputable def aQ (cl:Nat->List D->Res D)(T:Tg)(I:List IR)(E:IR)(RQ:Ev)(x:D):Res (Option D):=Ci (bK T x RQ) fun Ip=>Ci (cW cl I Ip) fun r=>if r=true then Ci (Cn cl E Ip) fun d=>.ok (some d) else .ok none
theorem cf {vs:List Nat}{fs:Ev->Res (List D)}{T:Tg}{I:List IR}{E:IR}{Kt:D->Prop}{Q:VK}(hl:fr.length<=G'.N.length)(ha:∀ i∈Ep T,fr.length<=i)(hs:Slots K S H σ τ (fr++vs))
  (q:Ck ex (Ci (fs τ) fun its=>Co (cF its.length) (Ci (Ed (aW (aQ cl T I E (FJ G' fr τ)) its)) fun ds=>.ok (.lst true ds))) Kt)
  (fin:∀ A ys ds H',aq H H'->H A=none->H' A=some (.lst ys)->Cj K (fun a=>nw S H a/\a≠A) H' ys ds->Kt (.lst true ds)->Q (.ref A) H') :
  m7 (RI K ex vs fs) (stC (Gq G fr) (G'.N.drop fr.length)) (gT K T) (RT K Di (ao I) (cW cl I)) (RD K Di (vars E) (Cn cl E)) σ H Q:=by
 refine zD (.refl _) hs.right (Ck.Ci q) fun its J H1 e1 _ w1 q1 A hA=>?_
 obtain⟨gd,q1⟩:=Ck.Co q1
 have q2:=Ck.Ed (Ck.Ci q1)
 have hsz:=gC gd
 have RU:H A=none:=e1.free hA
 -- MO is read Nw apart from IT new list
 have Fi:∀ a,nw S H a->H1 a≠none->nw S H a/\a≠A:=fun a h1 h2=>⟨h1,fun z=>h2 (by rw[z];exact hA)⟩
 have w2:Er K (fun a=>nw S H a/\a≠A) H1 J its:=w1.step (fun a xs h r=>⟨Fi a h r.some,r⟩) fun a xs h=>h
 have FR:Slots K (fun a=>nw S H a/\a≠A) H1 σ τ (fr++vs):=fun i hi d z=>by
  obtain⟨v,h1,h2⟩:=(hs.go e1) i hi d z
  exact⟨v,h1,h2.step (fun a xs h r=>⟨Fi a h r.some,r⟩) fun a xs h=>h⟩
 refine⟨fun i m CB H'=>m=its.length - i/\i<=its.length/\∃ ys acc,H' A=some (.lst ys)/\Cj K (fun a=>nw S H a/\a≠A) H' ys acc/\ys.length<=i/\aq H1 H'/\CB.length=G'.N.length/\
   (∀ j,j < fr.length->CB[j]? = (stC (Gq G fr) (G'.N.drop fr.length) σ)[j]?)/\Ck Di (aW (aQ cl T I E (FJ G' fr τ)) (its.drop i)) fun ds=>Kt (.lst true (acc++ds)),⟨its.length,by simp,Nat.zero_le _,[],[],ar,.nil,Nat.le_refl _,.upd hA,?_,fun _ _=>rfl,?_⟩,?_⟩
 ·rw[so,List.length_drop];omega
 ·rw[List.drop_zero]
  exact q2.mono fun ds z=>z.ok
 ·rintro i m CB H' ⟨rfl,hi,ys,acc,hy,my,ly,e2,hn,DA,q3⟩
  by_cases Dk:i < its.length
  ·refine .inr ⟨(w2.mono (fun _ z=>z) e2).go Dk,fun x H2 RV=>?_⟩
   obtain⟨eH,mx⟩:=(w2.mono (fun _ z=>z) e2).Ht RV (d:=its[i]) (by simp[Dk])
   have hy:=eH _ _ hy
   have my:=my.mono (fun _ z=>z) eH
   have e2:=e2.trans eH
   have hd:its.drop i=its[i]::its.drop (i+1):=List.drop_eq_getElem_cons Dk
   rw[hd] at q3
   have q4:=Ck.Ci q3
   have q5:Ck Di (bK T its[i] (FJ G' fr τ)) _:=Ck.Ci q4
   have sl:Kj K (fun a=>nw S H a/\a≠A) H2 CB (FJ G' fr τ):=sr (G:=G) (vs:=vs) (σ:=σ) hl (fun i hi d z=>by
    obtain⟨v,h1,h2⟩:=FR i hi d z
    exact⟨v,h1,h2.mono (fun _ z=>z) e2⟩) hn DA
   refine ka T sl mx q5 fun Cr E9 RW Ek hk q6=>?_
   have L6:E9.length=G'.N.length:=Ek.trans hn
   have Lw:∀ j,j < fr.length->E9[j]? = (stC (Gq G fr) (G'.N.drop fr.length) σ)[j]?:=fun j hj=>by
    rw[hk j (fun z=>by have:=ha j z;omega)]
    exact DA j hj
   have O':∀ is,Slots K (fun a=>nw S H a/\a≠A) H2 E9 Cr is:=fun is i _ d z=>RW.2 i d z
   refine gJ (.refl _) (O' _) (Ck.Ci q6) fun r H4 e4 _ q7=>?_
   cases r with
   | false=>
    rw[if_neg Bool.false_ne_true] at q7 ⊢
    have q8:Ck Di (aW (aQ cl T I E (FJ G' fr τ)) (its.drop (i+1))) fun ds=>Kt (.lst true (acc++ds)):=q7
    refine⟨its.length - (i+1),by omega,rfl,Dk,ys,acc,e4 _ _ hy,my.mono (fun _ z=>z) e4,by omega,e2.trans e4,L6,Lw,q8⟩
   | true=>
    rw[if_pos rfl] at q7 ⊢
    refine aI e4 (O' _) (Ck.Ci q7) fun d v H5 e5 Ue m5 q8=>?_
    have q9:Ck Di (Ci (aW (aQ cl T I E (FJ G' fr τ)) (its.drop (i+1))) fun r=>.ok (d::r)) fun ds=>Kt (.lst true (acc++ds)):=q8
    have J8:=Ck.Ci q9
    have Pa:H5 A=some (.lst ys):=e5 _ _ hy
    refine⟨ys,Pa,by omega,its.length - (i+1),by omega,rfl,Dk,ys++[v],acc++[d],ar,?_,by rw[List.length_append,List.length_singleton];omega,?_,L6,Lw,?_⟩
    ·have Pb:∀ a (xs:LD),(nw S H a/\a≠A)->Rd H5 a xs.o->(nw S H a/\a≠A)/\Rd (upd H5 A (.lst (ys++[v]))) a xs.o:=fun a xs h r=>by
      refine⟨h,?_⟩
      unfold Rd
      rw[aj h.2]
      exact r
     have Pc:∀ a xs,C8 K H5 a xs->C8 K (upd H5 A (.lst (ys++[v]))) a xs:=fun a xs h=>h.upd Pa
     have m6:Cm K (fun a=>nw S H a/\a≠A) H5 v d:=m5.step (fun a xs h r=>⟨by
      rcases h with h|h
      ·exact h
      ·have:H a=none:=e1.free (e2.free h)
       exact⟨.inr this,fun z=>by rw[z,hy] at h;cases h⟩,r⟩) fun a xs h=>h
     exact(((my.mono (fun _ z=>z) e5).step Pb Pc)).append (.cons (m6.step Pb Pc) .nil)
    ·exact fun b o hb=>by
      have:b≠A:=by rintro rfl;rw[hA] at hb;cases hb
      rw[aj this]
      exact e5 _ _ (e2 _ _ hb)
    ·refine J8.mono fun ds z=>?_
     have z':=z.ok
     rw[List.append_assoc]
     exact z'
  ·have e:i=its.length:=by omega
   subst e
   refine .inl ⟨(w2.mono (fun _ z=>z) e2).stop (Nat.le_refl _),?_⟩
   rw[List.drop_length] at q3
   have q4:=q3.ok
   rw[List.append_nil] at q4
   exact fin A ys acc H' (e1.trans e2) RU hy my q4
end
section
variable {Z:Sg}{CX:Dw}{cl:Nat->List D->Res D}{xp:XK->Hp->Str->Prop}{X:Cx}{ex:Str->Prop}{G G':Gm}{fr:List Nat}
theorem eV {T:Tg}{s:Sr}{I:List IR}{E:IR}:Cn cl (.comp G' fr T s I E)=fun τ=>Ci (cH cl s τ) fun its=>Co (cF its.length) (Ci (Ed (aW (aQ cl T I E (FJ G' fr τ)) its)) fun ds=>.ok (.lst true ds)):=rfl
theorem xi (g:CU Z CX cl xp X ex G){scope:Scope}{tg iter elt:Expr}{ifs:List Expr}{pos:Pos}{T:Tg}{s:Sr}{I:List IR}{E:IR}(hs:Gp Z G scope G' fr)(hT:bE G' T tg=true)(ha:∀ i∈Ep T,fr.length<=i)
  (hi:PI X tg iter (RI X.K ex (dg s) (cH cl s))) (ht:∀ X',CU Z CX cl xp X' Di G'->Hz X' ifs (RT X'.K Di (ao I) (cW cl I))) (he:∀ X',CU Z CX cl xp X' Di G'->PE X' elt (RD X'.K Di (vars E) (Cn cl E)))
  (hf:∀ x,foldedSetIterable iter X.env x=pure x):PE X (.ListComp elt [⟨tg,iter,ifs,0⟩] scope pos) (RD X.K ex (fr++dg s) (Cn cl (.comp G' fr T s I E))):=by
 intro pins s' σ H Q Iv h
 obtain⟨DD,S⟩:=dN g Iv.ok hs
 have p:=jT (pos:=pos) (elt:=elt) (ifs:=ifs) (tg:=tg) (g:=gT X.K T) (tt:=RT X.K Di (ao I) (cW cl I)) (te:=RD X.K Di (vars E) (Cn cl E)) (g.calm hs.cm) S hi (fun C s H fp=>Jy (bB g hs DD C s H fp) T tg hT) (fun C s H fp=>ht _ (bB g hs DD C s H fp)) (fun C s H fp=>he _ (bB g hs DD C s H fp)) hf
 refine p pins s' σ H Q Iv ?_
 obtain⟨S0,τ,Nx,q⟩:=h
 rw[eV] at q
 exact cf hs.Lu ha Nx q fun A ys ds H' e hA Iz m k=>k _ _ e (.lst (.inr hA) (.inl Iz) (m.mono (fun _ z=>z.1) (.refl _)))
end
section
variable {Z:Sg}{CX:Dw}{cl:Nat->List D->Res D}{xp:XK->Hp->Str->Prop}
theorem ml {e:Expr}{a:IR}{G:Gm}(h:Cv Z G a e=true)(env:Env)(x:Value):foldedSetIterable e env x=pure x:=by
 cases e<;>first|rfl|(cases a<;>cases h)
theorem bR {e:Expr}{a:Sr}{G:Gm}(h:bV Z G a e=true)(env:Env)(x:Value):foldedSetIterable e env x=pure x:=by
 cases a with
 | val a=>exact ml (show Cv Z G a e=true from h) env x
 | _=>cases e<;>first|rfl|cases h
theorem both {X:Cx}{ex:Str->Prop}{e:Expr}{is:List Nat}{f:Ev->Res D}(h:PE X e (RD X.K ex is f))(he:∀ whole,isTrue e X.env whole=(do let v <- whole;standAt e.pos;holding [v] (truthy v)):=by intro _;rfl) :
  PE X e (RD X.K ex is f)/\PT X e (RT X.K ex is fun τ=>Ci (f τ) aR):=⟨h,zb h he⟩
mutual
theorem snd:∀ (a:IR) (X:Cx) (ex:Str->Prop) (G:Gm) (e:Expr),CU Z CX cl xp X ex G->Cv Z G a e=true->PE X e (RD X.K ex (vars a) (Cn cl a))/\PT X e (RT X.K ex (vars a) fun τ=>Ci (Cn cl a τ) aR)
 | .c d,X,ex,G,e,g,h=>by
  cases e with
  | Constant k j pos=>exact both (RJ h)
  | _=>first|exact aa h|cases h
 | .g n d,X,ex,G,e,g,h=>by
  cases e with
  | Name x pos=>
   have h':(bI Z G n x&&Z.Kf.any fun p=>p.1 == n&&mf p.2 d)=true:=h
   rw[Bool.and_eq_true] at h'
   exact both (RK g h'.1 h'.2)
  | _=>first|exact aa h|cases h
 | .v i,X,ex,G,e,g,h=>by
  cases e with
  | Name x pos=>exact both (RH g h)
  | _=>first|exact aa h|cases h
 | .bin op a b,X,ex,G,e,g,h=>by
  cases e with
  | BinOp l o r pos=>
   have h':(o == HM op&&Cv Z G a l&&Cv Z G b r)=true:=h
   simp only[Bool.and_eq_true] at h'
   have e1:o=HM op:=eq_of_beq h'.1.1
   subst e1
   exact both (zd (snd a X ex G l g h'.1.2).1 (snd b X ex G r g h'.2).1)
  | _=>first|exact aa h|cases h
 | .neg a,X,ex,G,e,g,h=>by
  cases e with
  | UnaryOp o l pos=>
   cases o with
   | USub=>exact both (ze (snd a X ex G l g h).1)
   | _=>first|exact aa h|cases h
  | _=>first|exact aa h|cases h
 | .cmp op a b,X,ex,G,e,g,h=>by
  cases e with
  | Compare l os rs pos=>
   match os,rs,h with
   | [o],[r],h=>
    have h':(o == Jq op&&Cv Z G a l&&Cv Z G b r&&!behindInMarks o r)=true:=h
    simp only[Bool.and_eq_true] at h'
    have e1:o=Jq op:=eq_of_beq h'.1.1.1
    subst e1
    exact zh g (snd a X ex G l g h'.1.1.2).1 (snd b X ex G r g h'.1.2).1 (by simpa using h'.2)
   | [],_,h=>first|exact aa h|cases h
   | [_],[],h=>first|exact aa h|cases h
   | [_],_::_::_,h=>first|exact aa h|cases h
   | _::_::_,_,h=>first|exact aa h|cases h
  | _=>first|exact aa h|cases h
 | .chain op Mf a b c,X,ex,G,e,g,h=>by cases e<;>exact aa h
 | .DQ a b,X,ex,G,e,g,h=>by
  cases e with
  | BoolOp o es pos=>
   match o,es,h with
   | .And,[l,r],h=>
    have h':(Cv Z G a l&&Cv Z G b r)=true:=h
    rw[Bool.and_eq_true] at h'
    obtain⟨pa,ta⟩:=snd a X ex G l g h'.1
    obtain⟨pb,tb⟩:=snd b X ex G r g h'.2
    exact⟨tX pa (mK pb),tY ta (rg tb)⟩
   | .And,l::r::r'::rest,h=>
    have h':(Cv Z G a l&&Cv Z G b (.BoolOp .And (r::r'::rest) pos))=true:=h
    rw[Bool.and_eq_true] at h'
    obtain⟨pa,ta⟩:=snd a X ex G l g h'.1
    obtain⟨pb,tb⟩:=snd b X ex G _ g h'.2
    exact⟨tX pa pb,tY ta (nS (e:=l) tb)⟩
   | .And,[],h=>first|exact aa h|cases h
   | .And,[_],h=>first|exact aa h|cases h
   | .Or,_,h=>first|exact aa h|cases h
  | _=>first|exact aa h|cases h
 | .Fj a b,X,ex,G,e,g,h=>by
  cases e with
  | BoolOp o es pos=>
   match o,es,h with
   | .Or,[l,r],h=>
    have h':(Cv Z G a l&&Cv Z G b r)=true:=h
    rw[Bool.and_eq_true] at h'
    obtain⟨pa,ta⟩:=snd a X ex G l g h'.1
    obtain⟨pb,tb⟩:=snd b X ex G r g h'.2
    exact⟨zk pa (mK pb),zo ta (vX tb)⟩
   | .Or,l::r::r'::rest,h=>
    have h':(Cv Z G a l&&Cv Z G b (.BoolOp .Or (r::r'::rest) pos))=true:=h
    rw[Bool.and_eq_true] at h'
    obtain⟨pa,ta⟩:=snd a X ex G l g h'.1
    obtain⟨pb,tb⟩:=snd b X ex G _ g h'.2
    exact⟨zk pa pb,zo ta (nS (e:=l) tb)⟩
   | .Or,[],h=>first|exact aa h|cases h
   | .Or,[_],h=>first|exact aa h|cases h
   | .And,_,h=>first|exact aa h|cases h
  | _=>first|exact aa h|cases h
 | .EU a,X,ex,G,e,g,h=>by
  cases e with
  | UnaryOp o l pos=>
   cases o with
   | Not=>
    obtain⟨pa,ta⟩:=snd a X ex G l g h
    exact zm pa ta
   | _=>first|exact aa h|cases h
  | _=>first|exact aa h|cases h
 | .ite t a b,X,ex,G,e,g,h=>by cases e<;>exact aa h
 | .tup es,X,ex,G,e,g,h=>by
  cases e with
  | Tuple l n pos=>exact both (zp (gL es X ex G l g h))
  | _=>first|exact aa h|cases h
 | .lst es,X,ex,G,e,g,h=>by
  cases e with
  | List l pos=>exact both (zq (gL es X ex G l g h))
  | _=>first|exact aa h|cases h
 | .idx a i,X,ex,G,e,g,h=>by
  cases e with
  | Subscript o s pos=>
   have h':(aY s&&Cv Z G a o&&Cv Z G i s)=true:=by
    cases s<;>first|exact h|(rename_i l u st p;cases st<;>exact h)
   simp only[Bool.and_eq_true] at h'
   exact both (zr (snd a X ex G o g h'.1.2).1 (snd i X ex G s g h'.2).1 h'.1.1)
  | _=>first|exact aa h|cases h
 | .sl a lo hi,X,ex,G,e,g,h=>by
  cases e with
  | Subscript o s pos=>
   match s,h with
   | .Slice l u none p,h=>
    have h':(Cv Z G a o&&jC Z G lo l&&jC Z G hi u)=true:=h
    simp only[Bool.and_eq_true] at h'
    exact both (B4 (snd a X ex G o g h'.1.1).1 (su lo X ex G l g h'.1.2) (su hi X ex G u g h'.2))
   | .Slice _ _ (some _) _,h=>first|exact aa h|cases h
   | .BoolOp ..,h=>first|exact aa h|cases h
   | .NamedExpr ..,h=>first|exact aa h|cases h
   | .BinOp ..,h=>first|exact aa h|cases h
   | .UnaryOp ..,h=>first|exact aa h|cases h
   | .Lambda ..,h=>first|exact aa h|cases h
   | .IfExp ..,h=>first|exact aa h|cases h
   | .Dict ..,h=>first|exact aa h|cases h
   | .Set ..,h=>first|exact aa h|cases h
   | .ListComp ..,h=>first|exact aa h|cases h
   | .SetComp ..,h=>first|exact aa h|cases h
   | .DictComp ..,h=>first|exact aa h|cases h
   | .GeneratorExp ..,h=>first|exact aa h|cases h
   | .Await ..,h=>first|exact aa h|cases h
   | .Yield ..,h=>first|exact aa h|cases h
   | .YieldFrom ..,h=>first|exact aa h|cases h
   | .Compare ..,h=>first|exact aa h|cases h
   | .Call ..,h=>first|exact aa h|cases h
   | .FormattedValue ..,h=>first|exact aa h|cases h
   | .JoinedStr ..,h=>first|exact aa h|cases h
   | .Constant ..,h=>first|exact aa h|cases h
   | .Attribute ..,h=>first|exact aa h|cases h
   | .Subscript ..,h=>first|exact aa h|cases h
   | .Starred ..,h=>first|exact aa h|cases h
   | .Name ..,h=>first|exact aa h|cases h
   | .List ..,h=>first|exact aa h|cases h
   | .Tuple ..,h=>first|exact aa h|cases h
  | _=>first|exact aa h|cases h
 | .call f es,X,ex,G,e,g,h=>by
  cases e with
  | Call fn args Ee pos=>
   cases fn with
   | Name x p=>
    cases Ee with
    | nil=>
     have h':(bI Z G f x&&Z.GA G f&&aB Z G es args)=true:=h
     simp only[Bool.and_eq_true] at h'
     exact both (s_call g h'.1.1 h'.1.2 h'.2 (gL es X ex G args g h'.2))
    | cons _ _=>first|exact aa h|cases h
   | _=>first|exact aa h|cases h
  | _=>first|exact aa h|cases h
 | .bi f es,X,ex,G,e,g,h=>by
  cases e with
  | Call fn args Ee pos=>
   cases fn with
   | Name x p=>
    cases Ee with
    | nil=>
     cases args with
     | nil=>first|exact aa h|cases h
     | cons a args=>
      have h':(x == cw f&&G.EC (fU f)&&aB Z G es (a::args))=true:=h
      simp only[Bool.and_eq_true] at h'
      have e1:x=cw f:=eq_of_beq h'.1.1
      subst e1
      exact both (B5 g h'.1.2 h'.2 (gL es X ex G _ g h'.2))
    | cons _ _=>cases args<;>first|exact aa h|cases h
   | _=>first|exact aa h|cases h
  | _=>first|exact aa h|cases h
 | .D5 a,X,ex,G,e,g,h=>by
  have h:Kg e (fun x y e=>x == "list"&&G.EC 5&&y == "reversed"&&G.gl.contains 18&&notStar e&&Cv Z G a e)=true:=by cases e<;>exact h
  obtain⟨x,p,y,p',e',pos',pos,rfl,h⟩:=nQ h
  have h:(x == "list"&&G.EC 5&&y == "reversed"&&G.gl.contains 18&&notStar e'&&Cv Z G a e')=true:=h
  simp only[Bool.and_eq_true] at h
  have e1:x = "list":=eq_of_beq h.1.1.1.1.1
  have e2:y = "reversed":=eq_of_beq h.1.1.1.2
  subst e1 e2
  exact both (wY g h.1.1.1.1.2 h.1.1.2 h.1.2 (snd a X ex G e' g h.2).1)
 | .D4,X,ex,G,e,g,h=>by
  have h:Mk e=true:=by cases e<;>exact h
  obtain⟨pos,rfl⟩:=nP h
  exact both wZ
 | .C2 a k,X,ex,G,e,g,h=>by
  have h:Ml e (fun o s=>aY s&&Cv Z G a o&&Cv Z G k s)=true:=by cases e<;>exact h
  obtain⟨o,s,pos,rfl,q1⟩:=wV h
  simp only[Bool.and_eq_true] at q1
  exact both (w8 g (snd a X ex G o g q1.1.2).1 (snd k X ex G s g q1.2).1 q1.1.1)
 | .G9 n k a,X,ex,G,e,g,h=>by
  have h:Mm e (fun l o r=>o == mi n&&Cv Z G k l&&Cv Z G a r&&!behindInMarks o r)=true:=by cases e<;>exact h
  obtain⟨l,o,r,pos,rfl,q3⟩:=wW h
  simp only[Bool.and_eq_true] at q3
  have e1:o=mi n:=eq_of_beq q3.1.1.1
  subst e1
  exact zw g (snd k X ex G l g q3.1.1.2).1 (snd a X ex G r g q3.1.2).1 (by simpa using q3.2)
 | .sset a,X,ex,G,e,g,h=>by cases e<;>exact aa h
 | .ER a,X,ex,G,e,g,h=>by
  have h:Kg e (fun x y e=>x == "len"&&G.gl.contains 0&&y == "set"&&G.gl.contains 12&&(notStar e&&G.cm)&&Cv Z G a e)=true:=by cases e<;>exact h
  obtain⟨x,p,y,p',e',q',q,rfl,h⟩:=nQ h
  have h:(x == "len"&&G.gl.contains 0&&y == "set"&&G.gl.contains 12&&(notStar e'&&G.cm)&&Cv Z G a e')=true:=h
  simp only[Bool.and_eq_true] at h
  have e1:x = "len":=eq_of_beq h.1.1.1.1.1
  have e2:y = "set":=eq_of_beq h.1.1.1.2
  subst e1 e2
  exact both (w9 g h.1.1.1.1.2 h.1.1.2 h.1.2.1 h.1.2.2 (snd a X ex G e' g h.2).1)
 | .Fm a,X,ex,G,e,g,h=>by
  have h:Mn e (fun x o n l=>x == "sum"&&G.EC 1&&isNm o&&n == "values"&&l&&Cv Z G a o)=true:=by cases e<;>exact h
  obtain⟨x,p,o,n,apos,Cw,q,rfl,h⟩:=wX h
  have h:(x == "sum"&&G.EC 1&&isNm o&&n == "values"&&(apos.endLine == Cw.line)&&Cv Z G a o)=true:=h
  simp only[Bool.and_eq_true] at h
  have e1:x = "sum":=eq_of_beq h.1.1.1.1.1
  have e2:n = "values":=eq_of_beq h.1.1.2
  subst e1 e2
  exact both (xa g h.1.1.1.1.2 h.1.1.1.2 h.1.2 (snd a X ex G o g h.2).1)
 | .FW a k d,X,ex,G,e,g,h=>by cases e<;>exact aa h
 | .Gz x a y,X,ex,G,e,g,h=>by
  have h:Mj e (fun x' e' y'=>x == x'&&y == y'&&decide (x.length<=1000)&&Cv Z G a e')=true:=by cases e<;>exact h
  obtain⟨x',e',y',h,he⟩:=wU h
  simp only[Bool.and_eq_true] at h
  have e1:=eq_of_beq h.1.1.1
  have e2:=eq_of_beq h.1.1.2
  subst e1 e2
  have pe:=zu (of_decide_eq_true h.1.2) he (snd a X ex G e' g h.2).1
  rcases he with ⟨j,p,q,pos,_,rfl⟩|⟨w,j,p,q,j',r,pos,_,rfl⟩
  ·exact both pe
  ·exact both pe
 | .Mg a ns tb,X,ex,G,e,g,h=>by cases e<;>exact aa h
 | .Io a k,X,ex,G,e,g,h=>by
  cases e with
  | Call fn args Ee pos=>
   cases fn with
   | Name x p=>
    match args,Ee,h with
    | [o,.Name y p'],[],h=>
     have h':(x == "isinstance"&&G.gl.contains 14&&y == cZ k&&G.gl.contains (j7 k)&&notStar o&&Cv Z G a o)=true:=h
     simp only[Bool.and_eq_true] at h'
     have e1:x = "isinstance":=eq_of_beq h'.1.1.1.1.1
     have e2:y=cZ k:=eq_of_beq h'.1.1.1.2
     subst e1 e2
     exact both (zt g h'.1.1.1.1.2 h'.1.1.2 h'.1.2 (snd a X ex G o g h'.2).1)
    | [],_,h=>first|exact aa h|cases h
    | [_],_,h=>first|exact aa h|cases h
    | _::b::_::_,k,h=>cases b<;>cases k<;>first|exact aa h|cases h
    | [_,.Name _ _],_::_,h=>first|exact aa h|cases h
    | [_,.BoolOp ..],_,h=>first|exact aa h|cases h
    | [_,.NamedExpr ..],_,h=>first|exact aa h|cases h
    | [_,.BinOp ..],_,h=>first|exact aa h|cases h
    | [_,.UnaryOp ..],_,h=>first|exact aa h|cases h
    | [_,.Lambda ..],_,h=>first|exact aa h|cases h
    | [_,.IfExp ..],_,h=>first|exact aa h|cases h
    | [_,.Dict ..],_,h=>first|exact aa h|cases h
    | [_,.Set ..],_,h=>first|exact aa h|cases h
    | [_,.ListComp ..],_,h=>first|exact aa h|cases h
    | [_,.SetComp ..],_,h=>first|exact aa h|cases h
    | [_,.DictComp ..],_,h=>first|exact aa h|cases h
    | [_,.GeneratorExp ..],_,h=>first|exact aa h|cases h
    | [_,.Await ..],_,h=>first|exact aa h|cases h
    | [_,.Yield ..],_,h=>first|exact aa h|cases h
    | [_,.YieldFrom ..],_,h=>first|exact aa h|cases h
    | [_,.Compare ..],_,h=>first|exact aa h|cases h
    | [_,.Call ..],_,h=>first|exact aa h|cases h
    | [_,.FormattedValue ..],_,h=>first|exact aa h|cases h
    | [_,.JoinedStr ..],_,h=>first|exact aa h|cases h
    | [_,.Constant ..],_,h=>first|exact aa h|cases h
    | [_,.Attribute ..],_,h=>first|exact aa h|cases h
    | [_,.Subscript ..],_,h=>first|exact aa h|cases h
    | [_,.Starred ..],_,h=>first|exact aa h|cases h
    | [_,.Slice ..],_,h=>first|exact aa h|cases h
    | [_,.List ..],_,h=>first|exact aa h|cases h
    | [_,.Tuple ..],_,h=>first|exact aa h|cases h
   | _=>first|exact aa h|cases h
  | _=>first|exact aa h|cases h
 | .Ha m o es,X,ex,G,e,g,h=>by
  cases e with
  | Call fn args Ee pos=>
   cases fn with
   | Attribute oe name apos=>
    match args,Ee,h with
    | a::args,[],h=>
     have h':(name == eI m&&eO oe&&apos.endLine == pos.line&&(decide ((a::args).length < 29)&&(G.cm||jB m))&&Cv Z G o oe&&aB Z G es (a::args))=true:=h
     simp only[Bool.and_eq_true] at h'
     have e1:name=eI m:=eq_of_beq h'.1.1.1.1.1
     subst e1
     exact both (zv g h'.1.1.1.1.2 h'.1.1.1.2 (of_decide_eq_true h'.1.1.2.1) h'.1.1.2.2 h'.2 (snd o X ex G oe g h'.1.2).1 (gL es X ex G _ g h'.2))
    | [],_,h=>first|exact aa h|cases h
    | _::_,_::_,h=>first|exact aa h|cases h
   | _=>first|exact aa h|cases h
  | _=>first|exact aa h|cases h
 | .comp G' fr tg src ifs elt,X,ex,G,e,g,h=>by
  cases e with
  | ListComp el gens scope pos=>
   have h:mh gens (fun t it fs=>bz Z G scope G' fr&&bE G' tg t&&(Ep tg).all (fun i=>decide (fr.length<=i))&&(bV Z G src it&&dY src t)&&aB Z G' ifs fs&&Cv Z G' elt el)=true:=h
   obtain⟨t,it,fs,rfl,h⟩:=gF h
   have h':(bz Z G scope G' fr&&bE G' tg t&&(Ep tg).all (fun i=>decide (fr.length<=i))&&(bV Z G src it&&dY src t)&&aB Z G' ifs fs&&Cv Z G' elt el)=true:=h
   simp only[Bool.and_eq_true] at h'
   exact both (xi g (gK h'.1.1.1.1.1) h'.1.1.1.1.2 (fun i hi=>of_decide_eq_true (List.all_eq_true.mp h'.1.1.1.2 i hi)) (sx src X ex G it t g h'.1.1.2.1 h'.1.1.2.2)
    (fun X' g'=>sv ifs X' Di G' fs g' h'.1.2) (fun X' g'=>(snd elt X' Di G' el g' h'.2).1) (fun x=>bR h'.1.1.2.1 X.env x))
  | _=>first|exact aa h|cases h
theorem gL:∀ (as:List IR) (X:Cx) (ex:Str->Prop) (G:Gm) (l:List Expr),CU Z CX cl xp X ex G->aB Z G as l=true->PA X l (RA X.K ex (ao as) (aG cl as))
 | [],X,ex,G,l,g,h=>by
  cases l with
  | nil=>exact gr bF fun σ H Q ⟨S,τ,hs,q⟩=>q.ok _ _ (.refl _) .nil
  | cons _ _=>first|exact aa h|cases h
 | a::as,X,ex,G,l,g,h=>by
  cases l with
  | nil=>first|exact aa h|cases h
  | cons e l=>
   have h':(notStar e&&Cv Z G a e&&aB Z G as l)=true:=h
   simp only[Bool.and_eq_true] at h'
   refine gr (aF (snd a X ex G e g h'.1.2).1 (gL as X ex G l g h'.2) (ah h'.1.1 _ _)) fun σ H Q ⟨S,τ,hs,q⟩=>?_
   refine aI (.refl _) hs.left (Ck.Ci q) fun x v H1 e1 _ m1 q1=>?_
   refine iO e1 hs.right (Ck.Ci q1) fun ds vs H2 e2 Dc m2 q2=>?_
   exact q2.ok _ _ e2 (.cons (m1.later Dc) m2)
theorem su:∀ (o:Option IR) (X:Cx) (ex:Str->Prop) (G:Gm) (e:Option Expr),CU Z CX cl xp X ex G->jC Z G o e=true->PO X e (Ki X.K ex (nD o) (gy cl o))
 | none,X,ex,G,e,g,h=>by
  cases e with
  | none=>
   intro pins s σ H Q I ⟨S,τ,hs,q⟩
   exact rB pins s σ H Q I (q.ok H (.refl _))
  | some _=>first|exact aa h|cases h
 | some a,X,ex,G,e,g,h=>by
  cases e with
  | none=>first|exact aa h|cases h
  | some e=>
   intro pins s σ H Q I ⟨S,τ,hs,q⟩
   refine rC (snd a X ex G e g h).1 pins s σ H Q I ?_
   refine aI (.refl _) hs (Ck.Ci q) fun x v H1 e1 _ m1 q1=>?_
   cases x with
   | int i=>cases m1.CG;exact⟨i,rfl,q1.ok _ e1⟩
   | _=>exact q1.no.elim
theorem sv:∀ (as:List IR) (X:Cx) (ex:Str->Prop) (G:Gm) (l:List Expr),CU Z CX cl xp X ex G->aB Z G as l=true->Hz X l (RT X.K ex (ao as) (cW cl as))
 | [],X,ex,G,l,g,h=>by
  cases l with
  | nil=>intro pins s σ H Q I ⟨S,τ,hs,q⟩;exact rH pins s σ H Q I (q.ok H (.refl _))
  | cons _ _=>first|exact aa h|cases h
 | a::as,X,ex,G,l,g,h=>by
  cases l with
  | nil=>first|exact aa h|cases h
  | cons e l=>
   have h':(notStar e&&Cv Z G a e&&aB Z G as l)=true:=h
   simp only[Bool.and_eq_true] at h'
   intro pins s σ H Q I ⟨S,τ,hs,q⟩
   refine m4 (snd a X ex G e g h'.1.2).2 (sv as X ex G l g h'.2) pins s σ H Q I ?_
   refine gJ (.refl _) hs.left (Ck.Ci q) fun r H2 e2 _ k=>?_
   cases r with
   | true=>rw[if_pos rfl] at k ⊢;exact gJ e2 hs.right k fun b H3 e3 _ z=>z H3 e3
   | false=>rw[if_neg Bool.false_ne_true] at k ⊢;exact k.ok H2 e2
theorem sx:∀ (s:Sr) (X:Cx) (ex:Str->Prop) (G:Gm) (e tg:Expr),CU Z CX cl xp X ex G->bV Z G s e=true->dY s tg=true->PI X tg e (RI X.K ex (dg s) (cH cl s))
 | .C4 n,X,ex,G,e,tg,g,h,ht=>by
  cases e with
  | Call fn args Ee pos=>
   cases fn with
   | Name x p=>
    match args,Ee,h with
    | [a],[],h=>
     have h':(x == "range"&&G.gl.contains 15&&notStar a&&Cv Z G n a)=true:=h
     simp only[Bool.and_eq_true] at h'
     have e1:x = "range":=eq_of_beq h'.1.1.1
     subst e1
     exact xc g h'.1.1.2 h'.1.2 (snd n X ex G a g h'.2).1
    | [],_,h=>first|exact aa h|cases h
    | [_],_::_,h=>first|exact aa h|cases h
    | _::_::_,_,h=>first|exact aa h|cases h
   | _=>first|exact aa h|cases h
  | _=>first|exact aa h|cases h
 | .DB a b,X,ex,G,e,tg,g,h,ht=>by
  cases e with
  | Call fn args Ee pos=>
   cases fn with
   | Name x p=>
    match args,Ee,h with
    | [l,r],[],h=>
     have h':(x == "range"&&G.gl.contains 15&&notStar l&&notStar r&&Cv Z G a l&&Cv Z G b r)=true:=h
     simp only[Bool.and_eq_true] at h'
     have e1:x = "range":=eq_of_beq h'.1.1.1.1.1
     subst e1
     exact xh g h'.1.1.1.1.2 h'.1.1.1.2 h'.1.1.2 (snd a X ex G l g h'.1.2).1 (snd b X ex G r g h'.2).1
    | [],_,h=>first|exact aa h|cases h
    | [_],_,h=>first|exact aa h|cases h
    | [_,_],_::_,h=>first|exact aa h|cases h
    | _::_::_::_,_,h=>first|exact aa h|cases h
   | _=>first|exact aa h|cases h
  | _=>first|exact aa h|cases h
 | .val a,X,ex,G,e,tg,g,h,ht=>zE (snd a X ex G e g h).1
 | .zip a b,X,ex,G,e,tg,g,h,ht=>by
  cases tg with
  | Tuple Ug tc tp=>
   cases e with
   | Call fn args Ee pos=>
    cases fn with
    | Name x p=>
     match args,Ee,h with
     | [l,r],[],h=>
      have h':(x == "zip"&&G.gl.contains 17&&notStar l&&notStar r&&Cv Z G a l&&Cv Z G b r)=true:=h
      simp only[Bool.and_eq_true] at h'
      have e1:x = "zip":=eq_of_beq h'.1.1.1.1.1
      subst e1
      exact zG g h'.1.1.1.1.2 h'.1.1.1.2 h'.1.1.2 (snd a X ex G l g h'.1.2).1 (snd b X ex G r g h'.2).1
     | [],_,h=>first|exact aa h|cases h
     | [_],_,h=>first|exact aa h|cases h
     | [_,_],_::_,h=>first|exact aa h|cases h
     | _::_::_::_,_,h=>first|exact aa h|cases h
    | _=>first|exact aa h|cases h
   | _=>first|exact aa h|cases h
  | _=>exact aa ht
end
end
inductive CN (K:PySem.W.Frag)(F:Addr->Prop)(H:Hp):St->Ev->List Addr->Prop where
 | nil:CN K F H [] [] []
 | none {o:Option V}{σ:St}{τ:Ev}{f:List Addr}:CN K F H σ τ f->CN K F H (o::σ) (.none::τ) f
 | some {v:V}{d:D}{f:List Addr}{σ:St}{τ:Ev}{g:List Addr}:Cz K F H v d f->CN K F H σ τ g->CN K F H (.some v::σ) (.some d::τ) (f++g)
section
variable {K:PySem.W.Frag}{F F':Addr->Prop}{H H':Hp}{σ:St}{τ:Ev}{f:List Addr}
theorem CN.step (hl:∀ a (u:LD),F a->Rd H a u.o->F' a/\Rd H' a u.o)(ht:∀ a xs,C8 K H a xs->C8 K H' a xs):∀ {σ:St}{τ:Ev}{f:List Addr},(∀ a∈f,¬ F a->H a≠Option.none->¬ F' a/\H' a=H a)->CN K F H σ τ f->CN K F' H' σ τ f
 | _,_,_,_,.nil=>.nil
 | _,_,_,k,.none h=>.none (CN.step hl ht k h)
 | _,_,_,k,.some m h=>.some (m.step hl ht fun a ha=>k a (List.mem_append_left _ ha)) (CN.step hl ht (fun a ha=>k a (List.mem_append_right _ ha)) h)
theorem CN.own:∀ {σ:St}{τ:Ev}{f:List Addr},CN K F H σ τ f->∀ a∈f,¬ F a/\∃ u,H a=.some u
 | _,_,_,.nil=>fun _ h=>absurd h (by simp)
 | _,_,_,.none h=>CN.own h
 | _,_,_,.some m h=>fun a ha=>by
  rcases List.mem_append.mp ha with ha|ha
  ·exact m.own a ha
  ·exact CN.own h a ha
theorem bf {o:Option D}{τ:Ev}{i:Nat}:ai (o::τ) (i+1)=ai τ i:=by unfold ai;simp
theorem bG {o:Option D}{τ:Ev}:ai (o::τ) 0=o:=by unfold ai;simp
theorem CN.at:∀ {σ:St}{τ:Ev}{f:List Addr}{i:Nat}{d:D},CN K F H σ τ f->ai τ i=.some d->∃ v fv g,σ[i]? = .some (.some v)/\Cz K F H v d fv/\CN K F H σ (τ.set i .none) g/\f.Perm (fv++g)
 | _,_,_,i,d,.nil,h=>by simp[ai] at h
 | _,_,_,0,d,.none _,h=>by rw[bG] at h;cases h
 | _,_,_,0,d,.some m h',h=>by
  rw[bG] at h
  cases h
  exact⟨_,_,_,rfl,m,.none h',.refl _⟩
 | _,_,_,i+1,d,.none h',h=>by
  rw[bf] at h
  obtain⟨v,fv,g,h1,h2,h3,h4⟩:=CN.at h' h
  exact⟨v,fv,g,by simpa using h1,h2,.none h3,h4⟩
 | _,_,_,i+1,d,.some (f:=f0) m h',h=>by
  rw[bf] at h
  obtain⟨v,fv,g,h1,h2,h3,h4⟩:=CN.at h' h
  refine⟨v,fv,f0++g,by simpa using h1,h2,.some m h3,?_⟩
  refine(List.Perm.append_left f0 h4).trans ?_
  rw[<- List.append_assoc,<- List.append_assoc]
  exact List.Perm.append_right g List.perm_append_comm
theorem CN.put:∀ {σ:St}{τ:Ev}{f:List Addr} (i:Nat) {v:V}{d:D}{fv:List Addr},CN K F H σ τ f->Cz K F H v d fv->∃ g h,CN K F H (σ.set i (.some v)) (τ.set i (.some d)) g/\(g++h).Perm (fv++f)
 | _,_,_,i,v,d,fv,.nil,m=>⟨[],_,.nil,.refl _⟩
 | _,_,_,0,v,d,fv,.none h,m=>⟨_,[],.some m h,by rw[List.append_nil]⟩
 | _,_,_,0,v,d,fv,.some (f:=f0) (g:=g0) m' h,m=>⟨_,f0,.some m h,by rw[List.append_assoc];exact List.Perm.append_left _ List.perm_append_comm⟩
 | _,_,_,i+1,v,d,fv,.none h,m=>by
  obtain⟨g,h',h1,h2⟩:=CN.put i h m
  exact⟨g,h',.none h1,h2⟩
 | _,_,_,i+1,v,d,fv,.some (f:=f0) (g:=g0) m' h,m=>by
  obtain⟨g,h',h1,h2⟩:=CN.put i h m
  refine⟨f0++g,h',.some m' h1,?_⟩
  rw[List.append_assoc]
  refine(List.Perm.append_left f0 h2).trans ?_
  rw[<- List.append_assoc,<- List.append_assoc]
  exact List.Perm.append_right g0 List.perm_append_comm
theorem CN.slots {S:Addr->Prop}{is:List Nat}(h:CN K F H σ τ f)(hF:∀ a,F a->S a)(hf:∀ a∈f,S a):Slots K S H σ τ is:=fun i hi d z=>by
 obtain⟨v,fv,g,h1,h2,h3,h4⟩:=h.at z
 exact⟨v,h1,h2.read hF fun a ha=>hf a (h4.mem_iff.mpr (List.mem_append_left _ ha))⟩
theorem CN.freeze (is:List Nat):∀ {σ:St}{τ:Ev}{f:List Addr} (k:Nat),CN K F H σ τ f->∃ fi g,f.Perm (fi++g)/\(∀ F':Addr->Prop,(∀ a,F a->F' a)->(∀ a∈fi,F' a)->(∀ a∈g,¬ F a->¬ F' a)->CN K F' H σ (dI is k τ) g)/\
  ∀ F':Addr->Prop,(∀ a,F a->F' a)->(∀ a∈fi,F' a)->∀ i,is.contains (k+i)=true->∀ d,ai τ i=.some d->∃ v,σ[i]? = .some (.some v)/\Cm K F' H v d
 | _,_,_,k,.nil=>⟨[],[],.refl _,fun _ _ _ _=>.nil,fun _ _ _ i _ d z=>by simp[ai] at z⟩
 | _,_,_,k,.none h=>by
  obtain⟨fi,g,h1,h2,h3⟩:=CN.freeze is (k+1) h
  refine⟨fi,g,h1,fun F' a b c=>?_,fun F' a b i hi d z=>?_⟩
  ·unfold dI
   have e:(if is.contains k=true then Option.map er (Option.none:Option D) else Option.none)=Option.none:=by split<;>rfl
   rw[e]
   exact .none (h2 F' a b c)
  ·cases i with
   | zero=>rw[bG] at z;cases z
   | succ i=>
    rw[bf] at z
    obtain⟨v,q1,q2⟩:=h3 F' a b i (by rw[show k+1+i=k+(i+1) by omega];exact hi) d z
    exact⟨v,by simpa using q1,q2⟩
 | _,_,_,k,.some (v:=v) (d:=d0) (f:=f0) (g:=g0) m h=>by
  obtain⟨fi,g,h1,h2,h3⟩:=CN.freeze is (k+1) h
  by_cases hc:is.contains k=true
  ·refine⟨f0++fi,g,by rw[List.append_assoc];exact List.Perm.append_left _ h1,fun F' a b c=>?_,fun F' a b i hi d z=>?_⟩
   ·unfold dI
    rw[if_pos hc]
    exact .some (f:=[]) ((m.read a fun x hx=>b x (List.mem_append_left _ hx)).frozen) (h2 F' a (fun x hx=>b x (List.mem_append_right _ hx)) c)
   ·cases i with
    | zero=>
     rw[bG] at z
     cases z
     exact⟨v,rfl,m.read a fun x hx=>b x (List.mem_append_left _ hx)⟩
    | succ i=>
     rw[bf] at z
     obtain⟨v,q1,q2⟩:=h3 F' a (fun x hx=>b x (List.mem_append_right _ hx)) i (by rw[show k+1+i=k+(i+1) by omega];exact hi) d z
     exact⟨v,by simpa using q1,q2⟩
  ·refine⟨fi,f0++g,?_,fun F' a b c=>?_,fun F' a b i hi d z=>?_⟩
   ·refine(List.Perm.append_left f0 h1).trans ?_
    rw[<- List.append_assoc,<- List.append_assoc]
    exact List.Perm.append_right g List.perm_append_comm
   ·unfold dI
    rw[if_neg hc]
    exact .some (m.step (fun x xs q r=>⟨a x q,r⟩) (fun x xs q=>q) fun x hx n _=>⟨c x (List.mem_append_left _ hx) n,rfl⟩) (h2 F' a b fun x hx=>c x (List.mem_append_right _ hx))
   ·cases i with
    | zero=>exact absurd hi hc
    | succ i=>
     rw[bf] at z
     obtain⟨v,q1,q2⟩:=h3 F' a b i (by rw[show k+1+i=k+(i+1) by omega];exact hi) d z
     exact⟨v,by simpa using q1,q2⟩
end
structure FK (F:Addr->Prop)(H:Hp)(f:List Addr)(F':Addr->Prop)(H':Hp):Prop where
 same:aq H H'
 Dz:∀ a,F a->F' a
 out:∀ a,F' a->F a∨a∈f∨H a=none
structure Ow (K:PySem.W.Frag)(F:Addr->Prop)(H:Hp)(f:List Addr)(F':Addr->Prop)(H':Hp)(σ:St)(v:V)(d:D)(fv:List Addr)(Cr:Ev)(f':List Addr):Prop where
 EE:FK F H f F' H'
 CI:ED F' H'
 rep:Cz K F' H' v d fv
 Df:CN K F' H' σ Cr f'
 CP:(fv++f').Nodup
 mem:∀ a∈fv++f',a∈f∨H a=none
structure RX (K:PySem.W.Frag)(F:Addr->Prop)(H:Hp)(f:List Addr)(F':Addr->Prop)(H':Hp)(σ:St)(v:List V)(d:List D)(fv:List Addr)(Cr:Ev)(f':List Addr):Prop where
 EE:FK F H f F' H'
 CI:ED F' H'
 rep:Cp K F' H' v d fv
 Df:CN K F' H' σ Cr f'
 CP:(fv++f').Nodup
 mem:∀ a∈fv++f',a∈f∨H a=none
section
variable {K:PySem.W.Frag}{F F' Km:Addr->Prop}{H H' JB:Hp}{f f':List Addr}
theorem FK.refl:FK F H f F H:=⟨.refl _,fun _ h=>h,fun _ h=>.inl h⟩
theorem FK.trans (a:FK F H f F' H')(b:FK F' H' f' Km JB)(hf:∀ x∈f',x∈f∨H x=none):FK F H f Km JB:=⟨a.same.trans b.same,fun x h=>b.Dz x (a.Dz x h),fun x h=>by
 rcases b.out x h with h|h|h
 ·exact a.out x h
 ·rcases hf x h with h|h
  ·exact .inr (.inl h)
  ·exact .inr (.inr h)
 ·exact .inr (.inr (a.same.free h))⟩
theorem Cz.EE {v:V}{d:D}{fv:List Addr}(m:Cz K F H v d fv)(s:FK F H f F' H')(h:∀ a∈fv,a∉f):Cz K F' H' v d fv:=
 m.step (fun a xs q r=>⟨s.Dz a q,s.same.rd r⟩) (fun a xs q=>s.same.DH q) fun a ha n hn=>by
  obtain⟨_,xs,e⟩:=m.own a ha
  refine⟨fun z=>?_,(s.same _ _ e).trans e.symm⟩
  rcases s.out a z with z|z|z
  ·exact n z
  ·exact h a ha z
  ·exact hn z
theorem Cp.EE {v:List V}{d:List D}{fv:List Addr}(m:Cp K F H v d fv)(s:FK F H f F' H')(h:∀ a∈fv,a∉f):Cp K F' H' v d fv:=
 m.step (fun a xs q r=>⟨s.Dz a q,s.same.rd r⟩) (fun a xs q=>s.same.DH q) fun a ha n hn=>by
  obtain⟨_,xs,e⟩:=m.own a ha
  refine⟨fun z=>?_,(s.same _ _ e).trans e.symm⟩
  rcases s.out a z with z|z|z
  ·exact n z
  ·exact h a ha z
  ·exact hn z
end
def RO (K:PySem.W.Frag)(ex:Str->Prop)(g:Ev->Res (D×Ev)):TE:=fun σ H Q=>∃ F τ f,ED F H/\CN K F H σ τ f/\f.Nodup/\Ck ex (g τ) fun p=>∀ v H' F' fv f',Ow K F H f F' H' σ v p.1 fv p.2 f'->Q v H'
def Ko (K:PySem.W.Frag)(ex:Str->Prop)(g:Ev->Res (List D×Ev)):TA:=fun σ H Q=>∃ F τ f,ED F H/\CN K F H σ τ f/\f.Nodup/\Ck ex (g τ) fun p=>∀ v H' F' fv f',RX K F H f F' H' σ v p.1 fv p.2 f'->Q v H'
abbrev Kn (K:PySem.W.Frag)(S:Addr->Prop)(H:Hp)(Q:VK):List D->Prop:=fun ds=>∀ p ys H',aq H H'->H p=none->H' p=some (.lst ys)->Cj K (fun a=>nw S H a/\a≠p) H' ys ds->Q (.ref p) H'
def RN (K:PySem.W.Frag)(ex:Str->Prop)(is:List Nat)(f:Ev->Res (List D)):TE:=fun σ H Q=>∃ S τ,Slots K S H σ τ is/\Ck ex (f τ) (Kn K S H Q)
noncomputable def cT:D->Res (List D)
 | .lst _ ds=>.ok ds
 | _=>Cq
section
variable {K:PySem.W.Frag}{F F':Addr->Prop}{H H':Hp}{σ:St}{τ:Ev}{f:List Addr}{ex:Str->Prop}{S:Addr->Prop}
theorem mq {vs ws:List V}{ds:List D}{p:Addr}{H2:Hp}(m:Cj K (nw S H) H2 vs ds)(hp:H2 p=none):Cj K (fun a=>nw S H a/\a≠p) (upd H2 p (.lst ws)) vs ds:=
 m.step (fun a xs h r=>by
  have Ez:a≠p:=fun z=>r.some (by rw[z];exact hp)
  refine⟨⟨h,Ez⟩,?_⟩
  unfold Rd
  rw[aj Ez]
  exact r) fun a xs h=>(aq.upd hp).DH h
theorem grow (P:Addr->Prop)(CI:ED F H)(r:CN K F H σ τ f)(e:aq H H') :
  ED (fun a=>F a∨(P a/\H a=none/\H' a≠none)) H'/\CN K (fun a=>F a∨(P a/\H a=none/\H' a≠none)) H' σ τ f/\FK F H f (fun a=>F a∨(P a/\H a=none/\H' a≠none)) H':=by
 refine⟨fun a h=>?_,r.step (fun a xs q rd=>⟨.inl q,e.rd rd⟩) (fun a xs q=>e.DH q) fun a ha n hn=>⟨fun z=>?_,?_⟩,⟨e,fun a h=>.inl h,fun a h=>?_⟩⟩
 ·rcases h with h|h
  ·intro z
   exact CI a h (e.free z)
  ·exact h.2.2
 ·rcases z with z|z
  ·exact n z
  ·exact hn z.2.1
 ·obtain⟨_,xs,q⟩:=r.own a ha
  exact(e _ _ q).trans q.symm
 ·rcases h with h|h
  ·exact .inl h
  ·exact .inr (.inr h.2.1)
theorem du (CI:ED F H)(r:CN K F H σ τ f)(e:aq H H'):ED F H'/\CN K F H' σ τ f/\FK F H f F H':=by
 refine⟨fun a h z=>CI a h (e.free z),r.step (fun a xs q rd=>⟨q,e.rd rd⟩) (fun a xs q=>e.DH q) fun a ha n hn=>⟨n,?_⟩,⟨e,fun a h=>h,fun a h=>.inl h⟩⟩
 obtain⟨_,xs,q⟩:=r.own a ha
 exact(e _ _ q).trans q.symm
theorem cN (is:List Nat)(CI:ED F H)(r:CN K F H σ τ f)(nd:f.Nodup):∃ F1 g,ED F1 H/\CN K F1 H σ (CK is τ) g/\g.Nodup/\FK F H f F1 H/\(∀ a∈g,a∈f)/\Slots K F1 H σ τ is:=by
 obtain⟨fi,g,h1,h2,h3⟩:=r.freeze is 0
 have Hg:(fi++g).Nodup:=h1.nodup_iff.mp nd
 have IA:∀ a∈g,a∉fi:=fun a ha hb=>(List.nodup_append.mp Hg).2.2 a hb a ha rfl
 have Pd:∀ a∈fi,a∈f:=fun a ha=>h1.mem_iff.mpr (List.mem_append_left _ ha)
 have RY:∀ a∈g,a∈f:=fun a ha=>h1.mem_iff.mpr (List.mem_append_right _ ha)
 refine⟨fun a=>F a∨a∈fi,g,fun a h=>?_,h2 _ (fun a h=>.inl h) (fun a h=>.inr h) (fun a ha n z=>?_),(List.nodup_append.mp Hg).2.1,⟨.refl _,fun a h=>.inl h,fun a h=>?_⟩,RY,fun i hi d z=>?_⟩
 ·rcases h with h|h
  ·exact CI a h
  ·obtain⟨_,xs,q⟩:=r.own a (Pd a h)
   rw[q];simp
 ·rcases z with z|z
  ·exact n z
  ·exact IA a ha z
 ·rcases h with h|h
  ·exact .inl h
  ·exact .inr (.inl (Pd a h))
 ·exact h3 _ (fun a h=>.inl h) (fun a h=>.inr h) i (by simpa using hi) d z
theorem aZ {is:List Nat}(r:CN K F H σ τ f):Slots K (fun _=>True) H σ τ is:=r.slots (fun _ _=>trivial) fun _ _=>trivial
theorem Cm.fix {v:V}{d:D}(m:Cm K (L2.nw F H) H' v d):Cm K (fun a=>F a∨(True/\H a=none/\H' a≠none)) H' v d:=m.step (fun a xs h r=>⟨h.elim (fun z=>.inl z) fun z=>.inr ⟨trivial,z,r.some⟩,r⟩) fun a xs h=>h
end
section
variable {X:Cx}{ex:Str->Prop}{cl:Nat->List D->Res D}
theorem Ms {i:Nat}{e:Expr}(he:PE X e (ra i))(mv:Bool):PE X e (RO X.K ex (De cl mv (.v i))):=by
 refine ax he fun σ H Q ⟨F,τ,f,CI,r,nd,q⟩=>?_
 rw[yZ] at q
 cases z:ai τ i with
 | none=>rw[z] at q;exact q.no.elim
 | some d=>
  rw[z] at q
  obtain⟨v,fv,g,h1,h2,h3,h4⟩:=r.at z
  have Hg:(fv++g).Nodup:=h4.nodup_iff.mp nd
  cases mv with
  | true=>
   have q':=(show Ck ex (.ok (d,τ.set i none):Res (D×Ev)) _ from q).ok
   exact⟨v,h1,q' v H F fv g ⟨.refl,CI,h2,h3,Hg,fun a ha=>.inl (h4.mem_iff.mpr ha)⟩⟩
  | false=>
   have q':=(show Ck ex (.ok (er d,τ.set i (some (er d))):Res (D×Ev)) _ from q).ok
   have IA:∀ a∈g,a∉fv:=fun a ha hb=>(List.nodup_append.mp Hg).2.2 a hb a ha rfl
   have m1:Cz X.K (fun a=>F a∨a∈fv) H v (er d) []:=(h2.read (fun a h=>.inl h) (fun a h=>.inr h)).frozen
   have r1:CN X.K (fun a=>F a∨a∈fv) H σ (τ.set i none) g:=h3.step (fun a xs h r=>⟨.inl h,r⟩) (fun a xs h=>h) fun a ha n _=>⟨fun z=>z.elim n (IA a ha),rfl⟩
   obtain⟨g',h',r2,p2⟩:=r1.put i m1
   have DA:σ.set i (some v)=σ:=by
    apply List.ext_getElem?
    intro j
    rw[List.getElem?_set]
    by_cases hj:i=j
    ·subst hj
     have Dk:i < σ.length:=(List.getElem?_eq_some_iff.mp h1).1
     rw[if_pos rfl,if_pos Dk,h1]
    ·rw[if_neg hj]
   rw[DA,List.set_set] at r2
   rw[List.nil_append] at p2
   have JC:(g'++h').Nodup:=p2.nodup_iff.mpr (List.nodup_append.mp Hg).2.1
   refine⟨v,h1,q' v H _ [] g' ⟨⟨.refl _,fun a h=>.inl h,fun a h=>?_⟩,fun a h=>?_,m1,r2,(List.nodup_append.mp JC).1,fun a ha=>?_⟩⟩
   ·exact h.elim (fun z=>.inl z) fun z=>.inr (.inl (h4.mem_iff.mpr (List.mem_append_left _ z)))
   ·rcases h with h|h
    ·exact CI a h
    ·obtain⟨_,xs,e⟩:=h2.own a h
     rw[e];simp
   ·have:a∈g:=p2.mem_iff.mp (List.mem_append_left _ (by simpa using ha))
    exact .inl (h4.mem_iff.mpr (List.mem_append_right _ this))
theorem F4 {l:List Expr}{n:Nat}{pos:Pos}{g:Ev->Res (List D×Ev)}(h:PA X l (Ko X.K ex g)):PE X (.Tuple l n pos) (RO X.K ex fun τ=>Ci (g τ) fun p=>Co (a8 p.1.length) (.ok (.tup p.1,p.2))):=by
 refine ax (mW h) fun σ H Q ⟨F,τ,f,CI,r,nd,q⟩=>⟨F,τ,f,CI,r,nd,(Ck.Ci q).mono fun p hp vs H1 F1 fv f1 o=>?_⟩
 obtain⟨gd,hp⟩:=Ck.Co hp
 refine⟨by rw[o.rep.length];exact aT gd,fun p' HP=>hp.ok _ _ F1 fv f1 ?_⟩
 have e:aq H1 (upd H1 p' (.tup vs)):=.upd HP
 obtain⟨k1,k2,k3⟩:=du o.CI o.Df e
 refine⟨o.EE.trans k3 (fun x hx=>o.mem x (List.mem_append_right _ hx)),k1,.tup (.inl (.inl ar)) (o.rep.EE k3 fun a ha hb=>(List.nodup_append.mp o.CP).2.2 a ha a hb rfl),k2,o.CP,o.mem⟩
theorem F5 {l:List Expr}{pos:Pos}{g:Ev->Res (List D×Ev)}(h:PA X l (Ko X.K ex g)):PE X (.List l pos) (RO X.K ex fun τ=>Ci (g τ) fun p=>Co (a8 p.1.length) (.ok (.lst true p.1,p.2))):=by
 refine ax (mX h) fun σ H Q ⟨F,τ,f,CI,r,nd,q⟩=>⟨F,τ,f,CI,r,nd,(Ck.Ci q).mono fun p hp vs H1 F1 fv f1 o=>?_⟩
 obtain⟨gd,hp⟩:=Ck.Co hp
 refine⟨by rw[o.rep.length];exact aT gd,fun p' HP=>hp.ok _ _ F1 (p'::fv) f1 ?_⟩
 have e:aq H1 (upd H1 p' (.lst vs)):=.upd HP
 obtain⟨k1,k2,k3⟩:=du o.CI o.Df e
 refine⟨o.EE.trans k3 (fun x hx=>o.mem x (List.mem_append_right _ hx)),k1,.Ea (fun z=>o.CI _ z HP) ar (o.rep.EE k3 fun a ha hb=>(List.nodup_append.mp o.CP).2.2 a ha a hb rfl),k2,?_,fun a ha=>?_⟩
 ·rw[List.cons_append,List.nodup_cons]
  refine⟨fun z=>?_,o.CP⟩
  rcases List.mem_append.mp z with z|z
  ·obtain⟨_,xs,e⟩:=o.rep.own _ z
   rw[HP] at e;cases e
  ·obtain⟨_,xs,e⟩:=o.Df.own _ z
   rw[HP] at e;cases e
 ·rw[List.cons_append] at ha
  rcases List.mem_cons.mp ha with rfl|ha
  ·exact .inr (o.EE.same.free HP)
  ·exact o.mem a ha
theorem xj:PA X [] (Ko X.K ex fun τ=>.ok ([],τ)):=gr bF fun σ H Q ⟨F,τ,f,CI,r,nd,q⟩=>q.ok [] H F [] f ⟨.refl,CI,.nil,r,nd,fun a ha=>.inl ha⟩
theorem sy {e:Expr}{l:List Expr}{ga:Ev->Res (D×Ev)}{gs:Ev->Res (List D×Ev)}(hn:notStar e=true)(ha:PE X e (RO X.K ex ga))(hr:PA X l (Ko X.K ex gs)) :
  PA X (e::l) (Ko X.K ex fun τ=>Ci (ga τ) fun p=>Ci (gs p.2) fun q=>.ok (p.1::q.1,q.2)):=by
 refine gr (aF ha hr (ah hn _ _)) fun σ H Q ⟨F,τ,f,CI,r,nd,q⟩=>⟨F,τ,f,CI,r,nd,(Ck.Ci q).mono fun p hp v H1 F1 fv f1 o=>?_⟩
 refine⟨F1,p.2,f1,o.CI,o.Df,(List.nodup_append.mp o.CP).2.1,(Ck.Ci hp).mono fun p' HP vs H2 F2 RZ f2 o2=>?_⟩
 have IA:∀ a∈fv,a∉f1:=fun a h1 h2=>(List.nodup_append.mp o.CP).2.2 a h1 a h2 rfl
 have m2:=o.rep.EE o2.EE IA
 refine HP.ok (v::vs) H2 F2 (fv++RZ) f2 ⟨o.EE.trans o2.EE (fun x hx=>o.mem x (List.mem_append_right _ hx)),o2.CI,.cons m2 o2.rep,o2.Df,?_,fun a ha=>?_⟩
 ·rw[List.append_assoc]
  refine List.nodup_append.mpr ⟨(List.nodup_append.mp o.CP).1,o2.CP,fun a h1 b h2 e=>?_⟩
  subst e
  rcases o2.mem a h2 with z|z
  ·exact IA a h1 z
  ·obtain⟨_,xs,e⟩:=o.rep.own a h1
   rw[z] at e;cases e
 ·rw[List.append_assoc] at ha
  rcases List.mem_append.mp ha with ha|ha
  ·exact o.mem a (List.mem_append_left _ ha)
  ·rcases o2.mem a ha with z|z
   ·exact o.mem a (List.mem_append_right _ z)
   ·exact .inr (o.EE.same.free z)
end
section
variable {Z:Sg}{CX:Dw}{cl:Nat->List D->Res D}{xp:XK->Hp->Str->Prop}{X:Cx}{ex:Str->Prop}{G:Gm}
def Mu (K:PySem.W.Frag)(ex:Str->Prop)(cl:Nat->List D->Res D)(f:Nat)(vs:List V)(H:Hp)(Q:VK):Prop:=∃ F ds,ED F H/\Cj K F H vs ds/\Ck ex (cl f (Cy ds)) fun d=>∀ v H' F' fv,Out K F H F' H' v d fv->Q v H'
theorem nW (g:CU Z CX cl xp X ex G){f:Nat}{x:Str}{p pos:Pos}{es:List IR}{args:List Expr}{t:TA}(h1:bI Z G f x=true)(h2:Z.GA G f=true)(CS:aB Z G es args=true)(h:PA X args t)
  (h0:args=[]->∀ σ H (Q:List V->Hp->Prop),t σ H Q->Q [] H):PE X (.Call (.Name x p) args [] pos) (fun σ H Q=>t σ H fun vs H1=>Mu X.K ex cl f vs H1 Q):=by
 obtain⟨k1,k2,k3,k4⟩:=eP g h1
 obtain⟨k,Ln,fd,ps,hm,Fh,hb,F,hr,hlen⟩:=(g.fns f (dJ h2).1 (dJ h2).2 x k2).ex
 obtain⟨E,hP,hE⟩:=g.Ll
 intro pins s σ H Q I q
 have fin:∀ (us:List Value) (s1:Shared) (vs:List V) (H1:Hp),Inv X pins σ H1 s1->Vals vs us->Mu X.K ex cl f vs H1 Q->wpAny (model X.prog X.w) X.A (call (.ref Ln) us) (EP X pins σ Q) X.xe s1:=by
  intro us s1 vs H1 I1 r ⟨Fc,ds,CI,m,q1⟩
  have hl:=hlen ex _ _ q1
  rw[br] at hl
  refine gI F hr hb hP g.G8 I1 r (by rw[m.length];exact hl) CI m ?_
  cases z:cl f (Cy ds) with
  | error er=>
   rw[z] at q1
   cases er with
   | stuck=>exact q1.no.elim
   | exc c=>exact hE c _ q1
  | ok d=>
   rw[z] at q1
   exact q1.ok
 refine wpAny_Call_Name_kw (ck I k1 hm ?_ k4)
 cases args with
 | nil=>
  cases es with
  | cons _ _=>cases CS
  | nil=>exact PySem.W.callWith_K0 I.EL Fh (fin [] s [] H I .nil (h0 rfl σ H _ q))
 | cons e l=>
  cases es with
  | nil=>cases CS
  | cons a es=>
   have CJ:(notStar e&&Cv Z G a e&&aB Z G es l)=true:=CS
   simp only[Bool.and_eq_true] at CJ
   refine PySem.W.callWith_K (h₀:=X.base) I.ok.mod.G5 Fh (CF (h pos pins s σ H _ I q) fun us s1 ⟨vs,H1,I1,r,q1⟩=>⟨I1.EL,?_⟩) (ah CJ.1.1 l X.env) (bh Z G (es:=es) pos X.env CJ.2)
   exact fin us s1 vs H1 I1 r q1
theorem Cz.Gr {K:PySem.W.Frag}{F F':Addr->Prop}{H:Hp}{v:V}{d:D}{fv:List Addr}(m:Cz K F H v d fv)(n:aw d=true):Cz K F' H v d []:=(m.read (S:=fun _=>True) (fun _ _=>trivial) fun _ _=>trivial).free n
theorem EW (g:CU Z CX cl xp X ex G){f:Nat}{x:Str}{p pos:Pos}{es:List IR}{args:List Expr}(h1:bI Z G f x=true)(h2:Z.GA G f=true)(CS:aB Z G es args=true)(mv:Bool) :
  PE X (.Call (.Name x p) args [] pos) (RO X.K ex (De cl mv (.call f es))):=by
 have pa:=gL es X ex G args g CS
 have pe:=nW (p:=p) (pos:=pos) g h1 h2 CS pa (fun e σ H Q ⟨S,τ,hs,q⟩=>by
  subst e
  cases es with
  | nil=>exact q.ok [] H (.refl _) .nil
  | cons _ _=>cases CS)
 refine ax pe fun σ H Q ⟨F,τ,fo,CI,r,nd,q⟩=>?_
 have q':Ck ex (Ci (aG cl es τ) fun ds=>Ci (cl f (Cy ds)) fun d=>if aw d=true then .ok (d,τ) else .ok (d,CK (ao es) τ)) (fun p=>∀ v H' F' fv f',Ow X.K F H fo F' H' σ v p.1 fv p.2 f'->Q v H'):=q
 -- read without Ny up
 have borrow:(∀ ds,aG cl es τ=.ok ds->Ck ex (cl f (Cy ds)) fun d=>aw d=true/\∀ v H' F' fv f',Ow X.K F H fo F' H' σ v d fv τ f'->Q v H')->Ck ex (aG cl es τ) (fun _=>True)->RA X.K ex (ao es) (aG cl es) σ H (fun vs H1=>Mu X.K ex cl f vs H1 Q):=by
  intro hk CA
  refine iO (.refl _) (aZ r) CA.eq fun ds vs H1 e1 _ m1 q1=>?_
  refine⟨fun a=>H1 a≠none,ds,fun a h=>h,m1.step (fun a xs h rd=>⟨rd.some,rd⟩) fun a xs h=>h,(hk ds q1.1).mono fun d hd v H' F' fv o=>?_⟩
  obtain⟨k1,k2,k3⟩:=du CI r (e1.trans o.same)
  exact hd.2 v H' F [] fo ⟨k3,k1,o.rep.Gr hd.1,k2,by simpa using nd,fun a ha=>.inl (by simpa using ha)⟩
 cases z:aG cl es τ with
 | error er=>
  rw[z] at q'
  cases er with
  | stuck=>exact q'.no.elim
  | exc c=>exact borrow (fun ds h=>by rw[z] at h;cases h) (by rw[z];exact q')
 | ok ds=>
  rw[z] at q'
  have q1:Ck ex (Ci (cl f (Cy ds)) fun d=>if aw d=true then .ok (d,τ) else .ok (d,CK (ao es) τ)) (fun p=>∀ v H' F' fv f',Ow X.K F H fo F' H' σ v p.1 fv p.2 f'->Q v H'):=q'
  cases zc:cl f (Cy ds) with
  | error er=>
   rw[zc] at q1
   cases er with
   | stuck=>exact q1.no.elim
   | exc c=>exact borrow (fun ds' h=>by rw[z] at h;cases h;rw[zc];exact q1) (by rw[z];trivial)
  | ok d=>
   rw[zc] at q1
   have q2:Ck ex (if aw d=true then .ok (d,τ) else .ok (d,CK (ao es) τ)) (fun p=>∀ v H' F' fv f',Ow X.K F H fo F' H' σ v p.1 fv p.2 f'->Q v H'):=q1
   by_cases hl:aw d=true
   ·rw[if_pos hl] at q2
    exact borrow (fun ds' h=>by rw[z] at h;cases h;rw[zc];exact⟨hl,q2.ok⟩) (by rw[z];trivial)
   ·rw[if_neg hl] at q2
    obtain⟨F1,gg,b1,b2,b3,b4,b5,b6⟩:=cN (ao es) CI r nd
    refine iO (Kt:=fun ds'=>ds'=ds) (.refl _) b6 (by rw[z];rfl) fun ds' vs H1 e1 _ m1 e=>?_
    subst e
    have hm:Cj X.K (fun a=>F1 a∨(True/\H a=none/\H1 a≠none)) H1 vs ds':=m1.step (fun a xs h r=>⟨h.elim (fun z=>.inl z) fun z=>.inr ⟨trivial,z,r.some⟩,r⟩) fun a xs h=>h
    obtain⟨c1,c2,c3⟩:=grow (fun _=>True) b1 b2 e1
    refine⟨_,ds',c1,hm,?_⟩
    rw[zc]
    intro v H' F' fv o
    have s1:FK (fun a=>F1 a∨(True/\H a=none/\H1 a≠none)) H1 gg F' H':=⟨o.same,o.Dz,fun a h=>(o.out a h).elim (fun z=>.inl z) fun z=>.inr (.inr z)⟩
    have r2:CN X.K F' H' σ (CK (ao es) τ) gg:=c2.step (fun a xs q rd=>⟨o.Dz a q,o.same.rd rd⟩) (fun a xs q=>o.same.DH q) fun a ha n hn=>by
     obtain⟨_,xs,e⟩:=c2.own a ha
     refine⟨fun z=>?_,(o.same _ _ e).trans e.symm⟩
     rcases o.out a z with z|z
     ·exact n z
     ·exact hn z
    refine q2.ok v H' F' fv gg ⟨(b4.trans c3 (fun x hx=>.inl (b5 x hx))).trans s1 (fun x hx=>.inl (b5 x hx)),o.CI,o.rep,r2,?_,fun a ha=>?_⟩
    ·refine List.nodup_append.mpr ⟨o.CP,b3,fun a h1 b h2 e=>?_⟩
     subst e
     obtain⟨_,xs,e⟩:=c2.own a h2
     rw[o.new a h1] at e
     cases e
    ·rcases List.mem_append.mp ha with ha|ha
     ·exact .inr (e1.free (o.new a ha))
     ·exact .inl (b5 a ha)
theorem aH {a:IR}{e:Expr}(he:PE X e (RD X.K ex (vars a) (Cn cl a)))(hN:aU a=true->PE X e (RN X.K ex (vars a) fun τ=>Ci (Cn cl a τ) cT)):PE X e (RO X.K ex fun τ=>Ci (Cn cl a τ) fun d=>.ok (aN a d τ)):=by
 intro pins s σ H Q I h
 obtain⟨F,τ,fo,CI,r,nd,q⟩:=h
 replace q:Ck ex (Ci (Cn cl a τ) fun d=>.ok (aN a d τ)) (fun p=>∀ v H' F' fv f',Ow X.K F H fo F' H' σ v p.1 fv p.2 f'->Q v H'):=q
 have rd:RD X.K ex (vars a) (Cn cl a) σ H Q->wpAny (model X.prog X.w) X.A (eval e X.env) (EP X pins σ Q) X.xe s:=fun h=>he pins s σ H Q I h
 cases z:Cn cl a τ with
 | error er=>
  rw[z] at q
  cases er with
  | stuck=>exact q.no.elim
  | exc c=>exact rd ⟨fun _=>True,τ,aZ r,by rw[z];exact q⟩
 | ok d=>
  rw[z] at q
  have q1:∀ v H' F' fv f',Ow X.K F H fo F' H' σ v (aN a d τ).1 fv (aN a d τ).2 f'->Q v H':=q
  by_cases hl:aw d=true
  ·unfold aN at q1
   rw[if_pos hl] at q1
   refine rd ⟨fun _=>True,τ,aZ r,?_⟩
   rw[z]
   intro v H' e m
   obtain⟨k1,k2,k3⟩:=du CI r e
   exact q1 v H' F [] fo ⟨k3,k1,m.free hl,k2,by simpa using nd,fun a ha=>.inl (by simpa using ha)⟩
  ·have other:aN a d τ=(er d,CK (vars a) τ)->wpAny (model X.prog X.w) X.A (eval e X.env) (EP X pins σ Q) X.xe s:=fun hk=>by
    rw[hk] at q1
    obtain⟨F1,gg,b1,b2,b3,b4,b5,b6⟩:=cN (vars a) CI r nd
    refine rd ⟨F1,τ,b6,?_⟩
    rw[z]
    intro v H' e m
    obtain⟨c1,c2,c3⟩:=grow (fun _=>True) b1 b2 e
    exact q1 v H' _ [] gg ⟨b4.trans c3 (fun x hx=>.inl (b5 x hx)),c1,m.fix.frozen,c2,by simpa using b3,fun a ha=>.inl (b5 a (by simpa using ha))⟩
   by_cases hn:aU a=true
   ·cases d with
    | lst o ds=>
     by_cases hi:ak ds=true
     ·have hk:aN a (.lst o ds) τ=(.lst true ds,τ):=by
       unfold aN
       rw[if_neg hl,hn]
       show (if ak ds=true then _ else _)=_
       rw[if_pos hi]
      rw[hk] at q1
      refine hN hn pins s σ H Q I ⟨fun _=>True,τ,aZ r,?_⟩
      show Ck ex (Ci (Cn cl a τ) cT) _
      rw[z]
      intro p ys H' e hp hy m
      obtain⟨k1,k2,k3⟩:=du CI r e
      refine q1 (.ref p) H' F [p] fo ⟨k3,k1,.Ea (fun zz=>CI p zz hp) hy (m.free hi),k2,?_,fun a ha=>?_⟩
      ·rw[List.singleton_append,List.nodup_cons]
       refine⟨fun zz=>?_,nd⟩
       obtain⟨_,xs,e⟩:=r.own p zz
       rw[hp] at e;cases e
      ·rw[List.singleton_append] at ha
       rcases List.mem_cons.mp ha with rfl|ha
       ·exact .inr hp
       ·exact .inl ha
     ·have hk:aN a (.lst o ds) τ=(.lst true (Cy ds),CK (vars a) τ):=by
       unfold aN
       rw[if_neg hl,hn]
       show (if ak ds=true then _ else _)=_
       rw[if_neg hi]
      rw[hk] at q1
      obtain⟨F1,gg,b1,b2,b3,b4,b5,b6⟩:=cN (vars a) CI r nd
      refine hN hn pins s σ H Q I ⟨F1,τ,b6,?_⟩
      show Ck ex (Ci (Cn cl a τ) cT) _
      rw[z]
      intro p ys H' e hp hy m
      obtain⟨c1,c2,c3⟩:=grow (fun a=>a≠p) b1 b2 e
      have m2:Cj X.K (fun a=>F1 a∨(a≠p/\H a=none/\H' a≠none)) H' ys ds:=m.step (fun a xs h r=>⟨h.1.elim (fun z=>.inl z) fun z=>.inr ⟨h.2,z,r.some⟩,r⟩) fun a xs h=>h
      refine q1 (.ref p) H' _ [p] gg ⟨b4.trans c3 (fun x hx=>.inl (b5 x hx)),c1,.Ea (fun zz=>?_) hy m2.frozen,c2,?_,fun a ha=>?_⟩
      ·rcases zz with zz|zz
       ·exact b1 p zz hp
       ·exact zz.1 rfl
      ·rw[List.singleton_append,List.nodup_cons]
       refine⟨fun zz=>?_,b3⟩
       obtain⟨_,xs,e⟩:=b2.own p zz
       rw[hp] at e;cases e
      ·rw[List.singleton_append] at ha
       rcases List.mem_cons.mp ha with rfl|ha
       ·exact .inr hp
       ·exact .inl (b5 a ha)
    | _=>
     refine other ?_
     unfold aN
     rw[if_neg hl,hn]
   ·have Ek:aU a=false:=by simpa using hn
    refine other ?_
    unfold aN
    rw[if_neg hl,Ek]
theorem zI {a b:Expr}{pos:Pos}{va vb:List Nat}{fa fb:Ev->Res D}(ha:PE X a (RD X.K ex va fa))(hb:PE X b (RD X.K ex vb fb)) :
  PE X (.BinOp a .Add b pos) (RN X.K ex (va++vb) fun τ=>Ci (Ci (fa τ) fun x=>Ci (fb τ) fun y=>D6 .add x y) cT):=by
 refine ax (mU jY ha hb) fun σ H Q ⟨S,τ,hs,q⟩=>?_
 refine aI (.refl _) hs.left (Ck.Ci (Ck.Ci q)) fun x v H1 e1 _ m1 q1=>?_
 refine aI e1 hs.right (Ck.Ci q1) fun y w H2 e2 Dc m2 q2=>?_
 have stuck:∀ {P:Prop},D6 .add x y=Cq->P:=fun z=>by rw[z] at q2;exact q2.no.elim
 cases x with
 | int a=>cases y with
  | int b=>exact q2.ok.no.elim
  | _=>exact stuck rfl
 | str a=>cases y with
  | str b=>exact(Ck.Co q2).2.ok.no.elim
  | _=>exact stuck rfl
 | lst o a=>cases y with
  | lst o' b=>
   obtain⟨p,xs,rfl,h1,n1⟩:=m1.Gn
   obtain⟨p',ys,rfl,h2,n2⟩:=m2.Gn
   obtain⟨gd,q3⟩:=Ck.Co q2
   have g':=aT gd
   have l1:=n1.length
   have l2:=n2.length
   have Lv:Ls X.K H2 p xs:=h1.elim (fun z=>.inl (Dc.rd z)) .inr
   exact⟨p,p',xs,ys,rfl,rfl,Lv,h2,by omega,fun z hz=>q3.ok.ok z _ _ (e2.trans (.upd hz)) (e2.free hz) ar (mq ((n1.later Dc).append n2) hz)⟩
  | _=>exact stuck rfl
 | _=>exact stuck rfl
theorem zJ {a b:Expr}{pos:Pos}{va vb:List Nat}{fa fb:Ev->Res D}(ha:PE X a (RD X.K ex va fa))(hb:PE X b (RD X.K ex vb fb)) :
  PE X (.BinOp a .Mult b pos) (RN X.K ex (va++vb) fun τ=>Ci (Ci (fa τ) fun x=>Ci (fb τ) fun y=>D6 .mul x y) cT):=by
 refine ax (mU jZ ha hb) fun σ H Q ⟨S,τ,hs,q⟩=>?_
 refine aI (.refl _) hs.left (Ck.Ci (Ck.Ci q)) fun x v H1 e1 _ m1 q1=>?_
 refine aI e1 hs.right (Ck.Ci q1) fun y w H2 e2 Dc m2 q2=>?_
 have stuck:∀ {P:Prop},D6 .mul x y=Cq->P:=fun z=>by rw[z] at q2;exact q2.no.elim
 cases y with
 | int b=>
  cases m2
  cases x with
  | int a=>exact(Ck.Co q2).2.ok.no.elim
  | str a=>exact(Ck.Co q2).2.ok.no.elim
  | lst o a=>
   obtain⟨p,xs,rfl,h1,n1⟩:=m1.Gn
   obtain⟨gd,q3⟩:=Ck.Co q2
   have gd:=of_decide_eq_true gd
   have Lv:Ls X.K H2 p xs:=h1.elim (fun z=>.inl (Dc.rd z)) .inr
   exact⟨p,b,xs,rfl,rfl,Lv,gd.1,gd.2.1,by rw[n1.length];exact gd.2.2,fun z hz=>q3.ok.ok z _ _ (e2.trans (.upd hz)) (e2.free hz) ar (mq ((n1.later Dc).rep b.toNat) hz)⟩
  | _=>exact stuck rfl
 | _=>cases x<;>exact stuck rfl
theorem B6 {a:Expr}{lo hi:Option Expr}{pos p2:Pos}{va vl vh:List Nat}{fa:Ev->Res D}{fl fh:Ev->Res (Option Int)}(ha:PE X a (RD X.K ex va fa))(hl:PO X lo (Ki X.K ex vl fl))(hh:PO X hi (Ki X.K ex vh fh)) :
  PE X (.Subscript a (.Slice lo hi none p2) pos) (RN X.K ex (va++vl++vh) fun τ=>Ci (Ci (fa τ) fun x=>Ci (fl τ) fun l=>Ci (fh τ) fun h=>fx x l h) cT):=by
 refine ax (ir jR ha hl hh) fun σ H Q ⟨S,τ,hs,q⟩=>?_
 refine aI (.refl _) hs.left.left (Ck.Ci (Ck.Ci q)) fun x v H1 e1 _ m1 q1=>?_
 refine sj e1 hs.left.right (Ck.Ci q1) fun l H2 e2 Dc q2=>?_
 refine sj e2 hs.right (Ck.Ci q2) fun h H3 e3 Jw q3=>?_
 cases x with
 | lst o ds=>
  obtain⟨p,xs,rfl,h1,n1⟩:=m1.C5
  exact⟨p,xs,rfl,(Dc.trans Jw).seq h1,fun z hz=>q3.ok.ok z _ _ (e3.trans (.upd hz)) (e3.free hz) ar (mq (j5 l h (n1.later (Dc.trans Jw))) hz)⟩
 | str _=>exact(Ck.Co q3).2.ok.no.elim
 | _=>exact q3.no.elim
theorem fA (hc:X.calm=true):cy X (.type "list") (fun xs H Q=>(∃ p ys,xs=[.ref p]/\(DC X.K H p ys∨DL X.K H p ys)/\∀ l,H l=none->Q (.ref l) (upd H l (.lst ys)))∨∃ z:Str,xs=[.str z]/\z.length<=sizeLine/\∀ l,H l=none->Q (.ref l) (upd H l (.lst (cU z)))):=by
 intro pins s σ H xs us Q I r h
 rcases h with h|h
 ·exact cq pins s σ H xs us Q I r h
 ·exact cR hc pins s σ H xs us Q I r h
theorem xk (g:CU Z CX cl xp X ex G){p pos:Pos}{es:List IR}{a:Expr}{args:List Expr}(hg:G.EC (fU .list)=true)(CS:aB Z G es (a::args)=true)(h:PA X (a::args) (RA X.K ex (ao es) (aG cl es))) :
  PE X (.Call (.Name (cw .list) p) (a::args) [] pos) (RN X.K ex (ao es) fun τ=>Ci (Ci (aG cl es τ) fun ds=>cv .list ds) cT):=by
 obtain⟨k1,k2,k3,k4⟩:=bQ g (nO .list) (eM hg)
 cases es with
 | nil=>cases CS
 | cons b es=>
  have CJ:(notStar a&&Cv Z G b a&&aB Z G es args)=true:=CS
  simp only[Bool.and_eq_true] at CJ
  refine ax (dD (fA (g.calm (eN hg))) k1 k2 (j6 .list) h k3 k4 (ah CJ.1.1 args X.env) (bh Z G (es:=es) pos X.env CJ.2)) fun σ H Q ⟨S,τ,hs,q⟩=>?_
  refine iO (.refl _) hs (Ck.Ci (Ck.Ci q)) fun ds vs H1 e1 _ m1 q1=>?_
  have stuck:∀ {P:Prop},cv .list ds=Cq->P:=fun z=>by rw[z] at q1;exact q1.no.elim
  match ds,m1 with
  | [],_=>exact stuck rfl
  | d::_::_,_=>exact stuck (by cases d<;>rfl)
  | [d],m1=>
   obtain⟨x,rfl,hd⟩:=m1.Jr
   cases d with
   | tup ds=>
    obtain⟨a,ys,rfl,q',m⟩:=hd.Dg
    exact .inl ⟨a,ys,rfl,.inr q',fun z hz=>q1.ok.ok z _ _ (e1.trans (.upd hz)) (e1.free hz) ar (mq m hz)⟩
   | lst o ds=>
    obtain⟨a,ys,rfl,q',m⟩:=hd.C5
    exact .inl ⟨a,ys,rfl,.inl q',fun z hz=>q1.ok.ok z _ _ (e1.trans (.upd hz)) (e1.free hz) ar (mq m hz)⟩
   | str z=>
    cases hd.CW
    obtain⟨gz,q1⟩:=Ck.Co q1
    exact .inr ⟨z,rfl,aT gz,fun l hl=>q1.ok.ok l _ _ (e1.trans (.upd hl)) (e1.free hl) ar (mq (fS z) hl)⟩
   | _=>exact stuck rfl
end
section
variable {Z:Sg}{CX:Dw}{cl:Nat->List D->Res D}{xp:XK->Hp->Str->Prop}
theorem eW {X:Cx}{ex:Str->Prop}{G:Gm}(g:CU Z CX cl xp X ex G){i:Nat}{x:Str}{pos:Pos}(h:b8 G i x=true):PE X (.Name x pos) (ra i):=by
 unfold b8 at h
 rw[Bool.and_eq_true] at h
 have hx:G.N[i]? = some x:=eq_of_beq h.1
 have hk:=g.kd i x hx
 have hv:KG X.env.scope x:=by
  have h2:=h.2
  rw[Bool.or_eq_true,Bool.or_eq_true] at h2
  rcases h2 with (h2|h2)|h2
  ·exact .inl (hk.trans (eq_of_beq h2))
  ·exact .inr (.inl (hk.trans (eq_of_beq h2)))
  ·exact .inr (.inr (hk.trans (eq_of_beq h2)))
 exact mG (i:=i) (by rw[g.N];exact hx) hv (g.GB i x hx).1 (g.GB i x hx).2
theorem xl {X:Cx}{ex:Str->Prop}{G G':Gm}{fr:List Nat}(g:CU Z CX cl xp X ex G){scope:Scope}{tg iter elt:Expr}{ifs:List Expr}{pos:Pos}{T:Tg}{s:Sr}{I:List IR}{E:IR}(hs:Gp Z G scope G' fr)(hT:bE G' T tg=true)(ha:∀ i∈Ep T,fr.length<=i)
  (hi:bV Z G s iter=true/\dY s tg=true) (ht:aB Z G' I ifs=true) (he:Cv Z G' E elt=true) :
  PE X (.ListComp elt [⟨tg,iter,ifs,0⟩] scope pos) (RN X.K ex (vars (.comp G' fr T s I E)) fun τ=>Ci (Cn cl (.comp G' fr T s I E) τ) cT):=by
 intro pins s' σ H Q Iv h
 obtain⟨DD,S⟩:=dN g Iv.ok hs
 have p:=jT (pos:=pos) (elt:=elt) (ifs:=ifs) (tg:=tg) (g:=gT X.K T) (tt:=RT X.K Di (ao I) (cW cl I)) (te:=RD X.K Di (vars E) (Cn cl E)) (g.calm hs.cm) S (sx s X ex G iter tg g hi.1 hi.2) (fun C s H fp=>Jy (bB g hs DD C s H fp) T tg hT)
  (fun C s H fp=>sv I _ Di G' ifs (bB g hs DD C s H fp) ht) (fun C s H fp=>(snd E _ Di G' elt (bB g hs DD C s H fp) he).1) (fun x=>bR hi.1 X.env x)
 refine p pins s' σ H Q Iv ?_
 obtain⟨S0,τ,Nx,q⟩:=h
 have q':=Ck.Ci (show Ck ex (Ci (Cn cl (.comp G' fr T s I E) τ) cT) _ from q)
 rw[eV] at q'
 exact cf hs.Lu ha Nx q' fun A ys ds H' e hA Iz m k=>k.ok A ys H' e hA Iz m
theorem Eh:∀ (a:IR) (X:Cx) (ex:Str->Prop) (G:Gm) (e:Expr),CU Z CX cl xp X ex G->Cv Z G a e=true->aU a=true->PE X e (RN X.K ex (vars a) fun τ=>Ci (Cn cl a τ) cT):=by
 intro a X ex G e g h n
 cases a with
 | bin op a b=>
  cases op with
  | add=>
   cases e with
   | BinOp l o r pos=>
    have h':(o == HM .add&&Cv Z G a l&&Cv Z G b r)=true:=h
    simp only[Bool.and_eq_true] at h'
    have e1:o=HM .add:=eq_of_beq h'.1.1
    subst e1
    exact zI (snd a X ex G l g h'.1.2).1 (snd b X ex G r g h'.2).1
   | _=>first|exact aa h|cases h
  | mul=>
   cases e with
   | BinOp l o r pos=>
    have h':(o == HM .mul&&Cv Z G a l&&Cv Z G b r)=true:=h
    simp only[Bool.and_eq_true] at h'
    have e1:o=HM .mul:=eq_of_beq h'.1.1
    subst e1
    exact zJ (snd a X ex G l g h'.1.2).1 (snd b X ex G r g h'.2).1
   | _=>first|exact aa h|cases h
  | _=>cases n
 | sl a lo hi=>
  cases e with
  | Subscript o s pos=>
   cases s with
   | Slice l u st p=>
    cases st with
    | none=>
     have h':(Cv Z G a o&&jC Z G lo l&&jC Z G hi u)=true:=h
     simp only[Bool.and_eq_true] at h'
     exact B6 (snd a X ex G o g h'.1.1).1 (su lo X ex G l g h'.1.2) (su hi X ex G u g h'.2)
    | some _=>first|exact aa h|cases h
   | _=>first|exact aa h|cases h
  | _=>first|exact aa h|cases h
 | bi f es=>
  cases f with
  | list=>
   cases e with
   | Call fn args Ee pos=>
    cases fn with
    | Name x p=>
     cases Ee with
     | nil=>
      cases args with
      | nil=>first|exact aa h|cases h
      | cons a args=>
       have h':(x == cw .list&&G.EC (fU .list)&&aB Z G es (a::args))=true:=h
       simp only[Bool.and_eq_true] at h'
       have e1:x=cw .list:=eq_of_beq h'.1.1
       subst e1
       exact xk g h'.1.2 h'.2 (gL es X ex G _ g h'.2)
     | cons _ _=>cases args<;>first|exact aa h|cases h
    | _=>first|exact aa h|cases h
   | _=>first|exact aa h|cases h
  | _=>cases n
 | comp G' fr tg src ifs elt=>
  cases e with
  | ListComp el gens scope pos=>
   have h:mh gens (fun t it fs=>bz Z G scope G' fr&&bE G' tg t&&(Ep tg).all (fun i=>decide (fr.length<=i))&&(bV Z G src it&&dY src t)&&aB Z G' ifs fs&&Cv Z G' elt el)=true:=h
   obtain⟨t,it,fs,rfl,h⟩:=gF h
   have h':(bz Z G scope G' fr&&bE G' tg t&&(Ep tg).all (fun i=>decide (fr.length<=i))&&(bV Z G src it&&dY src t)&&aB Z G' ifs fs&&Cv Z G' elt el)=true:=h
   simp only[Bool.and_eq_true] at h'
   exact xl g (gK h'.1.1.1.1.1) h'.1.1.1.1.2 (fun i hi=>of_decide_eq_true (List.all_eq_true.mp h'.1.1.1.2 i hi)) h'.1.1.2 h'.1.2 h'.2
  | _=>first|exact aa h|cases h
 | _=>cases n
theorem EX {X:Cx}{ex:Str->Prop}{pos:Pos}(mv:Bool):PE X (.Dict [] [] pos) (RO X.K ex (De cl mv .D4)):=by
 refine ax iz fun σ H Q ⟨F,τ,fo,CI,r,nd,q⟩=>fun p hp=>?_
 have q':∀ v H' F' fv f',Ow X.K F H fo F' H' σ v (.Cu true [] []) fv τ f'->Q v H':=q
 have e:aq H (upd H p (.dK [])):=.upd hp
 obtain⟨k1,k2,k3⟩:=du CI r e
 have nF:¬ F p:=fun z=>CI p z hp
 have R0:p∉fo:=fun z=>by
  obtain⟨_,u,eu⟩:=r.own p z
  rw[hp] at eu;cases eu
 exact q' _ _ F [p] fo ⟨k3,k1,.ET (kvs:=[]) nF ar rfl .nil,k2,by rw[List.singleton_append,List.nodup_cons];exact⟨R0,nd⟩,fun a ha=>by
  rcases List.mem_append.mp ha with ha|ha
  ·rw[List.mem_singleton.mp ha];exact .inr hp
  ·exact .inl ha⟩
mutual
theorem Kp:∀ (a:IR) (mv:Bool) (X:Cx) (ex:Str->Prop) (G:Gm) (e:Expr),CU Z CX cl xp X ex G->Cv Z G a e=true->PE X e (RO X.K ex (De cl mv a))
 | .v i,mv,X,ex,G,e,g,h=>by
  cases e with
  | Name x pos=>exact Ms (eW g h) mv
  | _=>first|exact aa h|cases h
 | .tup es,mv,X,ex,G,e,g,h=>by
  cases e with
  | Tuple l n pos=>exact F4 (xn es mv X ex G l g h)
  | _=>first|exact aa h|cases h
 | .lst es,mv,X,ex,G,e,g,h=>by
  cases e with
  | List l pos=>exact F5 (xn es mv X ex G l g h)
  | _=>first|exact aa h|cases h
 | .ite t a b,mv,X,ex,G,e,g,h=>by cases e<;>exact aa h
 | .call f es,mv,X,ex,G,e,g,h=>by
  cases e with
  | Call fn args Ee pos=>
   cases fn with
   | Name x p=>
    cases Ee with
    | nil=>
     have h':(bI Z G f x&&Z.GA G f&&aB Z G es args)=true:=h
     simp only[Bool.and_eq_true] at h'
     exact EW g h'.1.1 h'.1.2 h'.2 mv
    | cons _ _=>first|exact aa h|cases h
   | _=>first|exact aa h|cases h
  | _=>first|exact aa h|cases h
 | .c d,mv,X,ex,G,e,g,h=>aH (snd _ X ex G e g h).1 (Eh _ X ex G e g h)
 | .g n d,mv,X,ex,G,e,g,h=>aH (snd _ X ex G e g h).1 (Eh _ X ex G e g h)
 | .bin op a b,mv,X,ex,G,e,g,h=>aH (snd _ X ex G e g h).1 (Eh _ X ex G e g h)
 | .neg a,mv,X,ex,G,e,g,h=>aH (snd _ X ex G e g h).1 (Eh _ X ex G e g h)
 | .cmp op a b,mv,X,ex,G,e,g,h=>aH (snd _ X ex G e g h).1 (Eh _ X ex G e g h)
 | .chain op Mf a b c,mv,X,ex,G,e,g,h=>aH (snd _ X ex G e g h).1 (Eh _ X ex G e g h)
 | .DQ a b,mv,X,ex,G,e,g,h=>aH (snd _ X ex G e g h).1 (Eh _ X ex G e g h)
 | .Fj a b,mv,X,ex,G,e,g,h=>aH (snd _ X ex G e g h).1 (Eh _ X ex G e g h)
 | .EU a,mv,X,ex,G,e,g,h=>aH (snd _ X ex G e g h).1 (Eh _ X ex G e g h)
 | .idx a i,mv,X,ex,G,e,g,h=>aH (snd _ X ex G e g h).1 (Eh _ X ex G e g h)
 | .sl a lo hi,mv,X,ex,G,e,g,h=>aH (snd _ X ex G e g h).1 (Eh _ X ex G e g h)
 | .bi f es,mv,X,ex,G,e,g,h=>aH (snd _ X ex G e g h).1 (Eh _ X ex G e g h)
 | .Mg a ns tb,mv,X,ex,G,e,g,h=>aH (snd _ X ex G e g h).1 (Eh _ X ex G e g h)
 | .Io a k,mv,X,ex,G,e,g,h=>aH (snd _ X ex G e g h).1 (Eh _ X ex G e g h)
 | .Gz x a y,mv,X,ex,G,e,g,h=>aH (snd _ X ex G e g h).1 (Eh _ X ex G e g h)
 | .C2 a k,mv,X,ex,G,e,g,h=>aH (snd _ X ex G e g h).1 (Eh _ X ex G e g h)
 | .G9 n k a,mv,X,ex,G,e,g,h=>aH (snd _ X ex G e g h).1 (Eh _ X ex G e g h)
 | .sset a,mv,X,ex,G,e,g,h=>aH (snd _ X ex G e g h).1 (Eh _ X ex G e g h)
 | .ER a,mv,X,ex,G,e,g,h=>aH (snd _ X ex G e g h).1 (Eh _ X ex G e g h)
 | .Fm a,mv,X,ex,G,e,g,h=>aH (snd _ X ex G e g h).1 (Eh _ X ex G e g h)
 | .FW a k d,mv,X,ex,G,e,g,h=>aH (snd _ X ex G e g h).1 (Eh _ X ex G e g h)
 | .D4,mv,X,ex,G,e,g,h=>by
  have h:Mk e=true:=by cases e<;>exact h
  obtain⟨pos,rfl⟩:=nP h
  exact EX mv
 | .D5 a,mv,X,ex,G,e,g,h=>aH (snd _ X ex G e g h).1 (Eh _ X ex G e g h)
 | .Ha m o es,mv,X,ex,G,e,g,h=>aH (snd _ X ex G e g h).1 (Eh _ X ex G e g h)
 | .comp G' fr tg src ifs elt,mv,X,ex,G,e,g,h=>aH (snd _ X ex G e g h).1 (Eh _ X ex G e g h)
theorem xn:∀ (as:List IR) (mv:Bool) (X:Cx) (ex:Str->Prop) (G:Gm) (l:List Expr),CU Z CX cl xp X ex G->aB Z G as l=true->PA X l (Ko X.K ex (eG cl mv as))
 | [],mv,X,ex,G,l,g,h=>by
  cases l with
  | nil=>exact xj
  | cons _ _=>first|exact aa h|cases h
 | a::as,mv,X,ex,G,l,g,h=>by
  cases l with
  | nil=>first|exact aa h|cases h
  | cons e l=>
   have h':(notStar e&&Cv Z G a e&&aB Z G as l)=true:=h
   simp only[Bool.and_eq_true] at h'
   exact sy h'.1.1 (Kp a mv X ex G e g h'.1.2) (xn as mv X ex G l g h'.2)
end
end
structure Bs (io:Option Nat) where
 F:Addr->Prop
 H:Hp
 L:Addr->LD->Prop
 T:Addr->List V ⊕ Str->Prop
 N:Option Addr:=none
structure C3 (K:PySem.W.Frag){io:Option Nat}(B:Bs io)(F:Addr->Prop)(H:Hp)(σ:St)(τ:Ev)(f:List Addr):Prop where
 CI:ED F H
 Df:CN K F H σ τ f
 CP:f.Nodup
 same:aq B.H H
 own:∀ a∈f,B.H a=none
 Dz:∀ a,B.F a->F a
 out:∀ a,F a->B.F a∨B.H a=none
 pin:∀ a xs,B.L a xs->F a/\Rd H a xs.o
 GY:∀ a xs,B.T a xs->C8 K H a xs
 nm:∀ j a,io=some j->B.N=some a->σ[j]? = some (some (.ref a))
noncomputable def Fk (K:PySem.W.Frag){io:Option Nat}(B:Bs io)(Dn:Ends):Fl->Prop
 | .nx τ=>∀ σ H F f,C3 K B F H σ τ f->Dn.nx σ H
 | .bk τ=>∀ σ H F f,C3 K B F H σ τ f->Dn.bk σ H
 | .ct τ=>∀ σ H F f,C3 K B F H σ τ f->Dn.ct σ H
 | .rt d=>∀ v H F fv,Out K B.F B.H F H v d fv->Dn.rt v H
def RS (K:PySem.W.Frag)(io:Option Nat)(ex:Str->Prop)(g:Ev->Res Fl):TS:=fun Dn σ H=>∃ (B:Bs io),∃ F τ f,C3 K B F H σ τ f/\Ck ex (g τ) (Fk K B Dn)
section
variable {K:PySem.W.Frag}{io:Option Nat}{B:Bs io}{F F':Addr->Prop}{H H':Hp}{σ:St}{τ Cr:Ev}{f f':List Addr}{ex:Str->Prop}
theorem C3.EE (m:C3 K B F H σ τ f)(s:FK F H f F' H')(CI:ED F' H')(r:CN K F' H' σ Cr f')(nd:f'.Nodup)(hm:∀ a∈f',a∈f∨H a=none):C3 K B F' H' σ Cr f' where
 CI:=CI
 Df:=r
 CP:=nd
 same:=m.same.trans s.same
 own:=fun a ha=>(hm a ha).elim (m.own a) fun z=>m.same.free z
 Dz:=fun a h=>s.Dz a (m.Dz a h)
 out:=fun a h=>by
  rcases s.out a h with h|h|h
  ·exact m.out a h
  ·exact .inr (m.own a h)
  ·exact .inr (m.same.free h)
 pin:=fun a xs h=>⟨s.Dz a (m.pin a xs h).1,s.same.rd (m.pin a xs h).2⟩
 GY:=fun a xs h=>s.same.DH (m.GY a xs h)
 nm:=m.nm
theorem C3.ow {v:V}{d:D}{fv:List Addr}(m:C3 K B F H σ τ f)(o:Ow K F H f F' H' σ v d fv Cr f'):C3 K B F' H' σ Cr f'/\∀ a∈fv,B.H a=none:=
 ⟨m.EE o.EE o.CI o.Df (List.nodup_append.mp o.CP).2.1 fun a ha=>o.mem a (List.mem_append_right _ ha),fun a ha=>(o.mem a (List.mem_append_left _ ha)).elim (m.own a) fun z=>m.same.free z⟩
theorem C3.grow (m:C3 K B F H σ τ f)(e:aq H H'):C3 K B F H' σ τ f:=by
 obtain⟨k1,k2,k3⟩:=du m.CI m.Df e
 exact m.EE k3 k1 k2 m.CP fun a ha=>.inl ha
theorem C3.ro {g:Ev->Res (D×Ev)}{Kt:D×Ev->Prop}{Q:VK}(m:C3 K B F H σ τ f)(h:Ck ex (g τ) Kt)(k:∀ p v H' F' fv f',Ow K F H f F' H' σ v p.1 fv p.2 f'->Kt p->Q v H'):RO K ex g σ H Q:=
 ⟨F,τ,f,m.CI,m.Df,m.CP,h.mono fun p hp v H' F' fv f' o=>k p v H' F' fv f' o hp⟩
theorem C3.rt {is:List Nat}{g:Ev->Res Bool}{Kt:Bool->Prop}{Q:Bool->Hp->Prop}(m:C3 K B F H σ τ f)(h:Ck ex (g τ) Kt)(k:∀ b H',C3 K B F H' σ τ f->aq H H'->Kt b->Q b H'):RT K ex is g σ H Q:=
 gJ (.refl _) (aZ m.Df) h fun b H2 e2 _ hb=>k b H2 (m.grow e2) e2 hb
theorem C3.rd {is:List Nat}{g:Ev->Res D}{Kt:D->Prop}{Q:VK}(m:C3 K B F H σ τ f)(h:Ck ex (g τ) Kt)(k:∀ d v H',C3 K B F H' σ τ f->aq H H'->Cm K (nw (fun _=>True) H) H' v d->Kt d->Q v H'):RD K ex is g σ H Q:=
 aI (.refl _) (aZ m.Df) h fun b v H2 e2 _ mv hb=>k b v H2 (m.grow e2) e2 mv hb
mutual
theorem nX:∀ (t:Tg) {σ:St}{τ:Ev}{f:List Addr}{v:V}{d:D}{fv:List Addr}{Kt:Ev->Prop}{Q:St->Hp->Prop},CN K F H σ τ f->Cz K F H v d fv->(fv++f).Nodup->Ck ex (bK t d τ) Kt->
  (∀ Cr CB f',CN K F H CB Cr f'->f'.Nodup->(∀ a∈f',a∈fv++f)->(∀ j,j∉Ep t->CB[j]? = σ[j]?)->Kt Cr->Q CB H)->gT K t v σ H Q
 | .nm i,σ,τ,f,v,d,fv,Kt,Q,r,m,nd,h,k=>by
  obtain⟨g,h',r2,p2⟩:=r.put i m
  have JC:(g++h').Nodup:=p2.nodup_iff.mpr nd
  exact k (τ.set i (some d)) (σ.set i (some v)) g r2 (List.nodup_append.mp JC).1 (fun a ha=>p2.mem_iff.mp (List.mem_append_left _ ha)) (fun j hj=>List.getElem?_set_ne (fun z=>hj (by rw[<- z];exact List.mem_singleton.mpr rfl))) h.ok
 | .tp ts,σ,τ,f,v,d,fv,Kt,Q,r,m,nd,h,k=>by
  cases m with
  | tup h1 h2=>
   obtain⟨gd,h⟩:=Ck.Co h
   have g':=of_decide_eq_true gd
   exact⟨_,_,rfl,.inl h1,by rw[h2.length];exact g',dv ts r h2 nd h k⟩
  | Gk h0 h1 h2=>
   obtain⟨gd,h⟩:=Ck.Co h
   have g':=of_decide_eq_true gd
   exact⟨_,_,rfl,.inr (.inl h1),by rw[h2.length];exact g',dv ts r h2 nd h k⟩
  | lstK h1 h2=>
   obtain⟨gd,h⟩:=Ck.Co h
   have g':=of_decide_eq_true gd
   exact⟨_,_,rfl,.inr h1.sq,by rw[h2.length];exact g',dv ts r h2 nd h k⟩
  | Ea h0 h1 h2=>
   obtain⟨gd,h⟩:=Ck.Co h
   have g':=of_decide_eq_true gd
   rw[List.cons_append,List.nodup_cons] at nd
   exact⟨_,_,rfl,.inr (.inl (.inl h1)),by rw[h2.length];exact g',dv ts r h2 nd.2 h fun Cr CB f' a1 a2 a3 a5 a4=>k Cr CB f' a1 a2 (fun x hx=>by rw[List.cons_append];exact List.mem_cons_of_mem _ (a3 x hx)) a5 a4⟩
  | _=>exact h.no.elim
theorem dv:∀ (ts:List Tg) {σ:St}{τ:Ev}{f:List Addr}{vs:List V}{ds:List D}{fv:List Addr}{Kt:Ev->Prop}{Q:St->Hp->Prop},CN K F H σ τ f->Cp K F H vs ds fv->(fv++f).Nodup->Ck ex (c9 ts ds τ) Kt->
  (∀ Cr CB f',CN K F H CB Cr f'->f'.Nodup->(∀ a∈f',a∈fv++f)->(∀ j,j∉iM ts->CB[j]? = σ[j]?)->Kt Cr->Q CB H)->Lr K ts vs σ H Q
 | [],σ,τ,f,vs,ds,fv,Kt,Q,r,m,nd,h,k=>by
  cases m with
  | nil=>exact⟨rfl,k τ σ f r (by simpa using nd) (fun a ha=>by simpa using ha) (fun _ _=>rfl) h.ok⟩
  | cons _ _=>exact h.no.elim
 | t::ts,σ,τ,f,vs,ds,fv,Kt,Q,r,m,nd,h,k=>by
  cases m with
  | nil=>exact h.no.elim
  | cons m1 m2=>
   rename_i v d f1 vs ds f2
   have Hg:(f2++(f1++f)).Nodup:=by
    refine(List.Perm.nodup_iff ?_).mp nd
    rw[<- List.append_assoc]
    exact List.Perm.append_right f List.perm_append_comm
   refine⟨_,_,rfl,nX t r m1 (List.nodup_append.mp Hg).2.1 (Ck.Ci h) fun Cr CB f' r' Nz Hh Mq h'=>?_⟩
   refine dv ts r' m2 (List.nodup_append.mpr ⟨(List.nodup_append.mp Hg).1,Nz,fun a h1 b h2 e=>(List.nodup_append.mp Hg).2.2 a h1 b (Hh b h2) e⟩) h' fun Jz JA IB R3 NA GL NB Nv=>k Jz JA IB R3 NA (fun a ha=>?_) (fun j hj=>(NB j fun z=>hj (List.mem_append_right _ z)).trans (Mq j fun z=>hj (List.mem_append_left _ z))) Nv
   rcases List.mem_append.mp (GL a ha) with z|z
   ·exact List.mem_append_left _ (List.mem_append_right _ z)
   ·rcases List.mem_append.mp (Hh a z) with z|z
    ·exact List.mem_append_left _ (List.mem_append_left _ z)
    ·exact List.mem_append_right _ z
end
theorem C3.gT {t:Tg}{v:V}{d:D}{fv:List Addr}{Kt:Ev->Prop}{Q:St->Hp->Prop}(m:C3 K B F H σ τ f)(mv:Cz K F H v d fv)(nd:(fv++f).Nodup)(hb:∀ a∈fv,B.H a=none)(Hk:∀ j∈Ep t,io≠some j)(h:Ck ex (bK t d τ) Kt)
  (k:∀ Cr CB f',C3 K B F H CB Cr f'->Kt Cr->Q CB H):L2.gT K t v σ H Q:=
 nX t m.Df mv nd h fun Cr CB f' r' Nz hm hj h'=>k Cr CB f' ⟨m.CI,r',Nz,m.same,fun a ha=>(List.mem_append.mp (hm a ha)).elim (hb a) (m.own a),m.Dz,m.out,m.pin,m.GY,fun j a e1 e2=>(hj j fun z=>Hk j z e1).trans (m.nm j a e1 e2)⟩ h'
theorem C3.write {i:Nat}{ds ds':List D}{w:V}{d:D}{fv:List Addr}{l:Addr}{xs ys:List V}(m:C3 K B F H σ τ f)(hs:ai τ i=some (.lst true ds))(DA:σ[i]? = some (some (.ref l)))(hl:H l=some (.lst xs))(mw:Cz K F H w d fv)(nd:(fv++f).Nodup)(hb:∀ a∈fv,B.H a=none)
  (hy:∀ fi,Cp K F H xs ds fi->∃ fl h,Cp K F H ys ds' fl/\(fl++h).Perm (fv++fi)):∃ f',C3 K B F (upd H l (.lst ys)) σ (τ.set i (some (.lst true ds'))) f':=by
 obtain⟨v,fs,g,h1,h2,h3,h4⟩:=m.Df.at hs
 rw[DA] at h1
 cases h1
 cases h2 with
 | @Ea a Rk R4 fi hF hH hm=>
  rw[hl] at hH
  cases hH
  obtain⟨fl,h,Hh,hp⟩:=hy fi hm
  have JD:((l::fi)++g).Nodup:=h4.nodup_iff.mp m.CP
  have Mv:(fv++((l::fi)++g)).Nodup:=(List.Perm.append_left fv h4).nodup_iff.mp nd
  have lg:l∉g:=by
   rw[List.cons_append,List.nodup_cons] at JD
   exact fun z=>JD.1 (List.mem_append_right _ z)
  have R5:l∉fi:=by
   rw[List.cons_append,List.nodup_cons] at JD
   exact fun z=>JD.1 (List.mem_append_left _ z)
  have R6:l∉fv:=fun z=>(List.nodup_append.mp Mv).2.2 l z l (by simp) rfl
  have JE:∀ a∈fl,a∈fv++fi:=fun a ha=>hp.mem_iff.mp (List.mem_append_left _ ha)
  have Pe:l∉fl:=fun z=>(List.mem_append.mp (JE l z)).elim R6 R5
  have sl:∀ a (u:LD),F a->Rd H a u.o->F a/\Rd (upd H l (.lst ys)) a u.o:=fun a xs h r=>by
   refine⟨h,?_⟩
   have:a≠l:=fun z=>hF (by rw[<- z];exact h)
   unfold Rd
   rw[aj this]
   exact r
  have st:∀ a xs,C8 K H a xs->C8 K (upd H l (.lst ys)) a xs:=fun a xs h=>h.upd hl
  have r1:CN K F (upd H l (.lst ys)) σ (τ.set i none) g:=h3.step sl st fun a ha n _=>⟨n,aj fun z=>lg (by rw[<- z];exact ha)⟩
  have m1:Cz K F (upd H l (.lst ys)) (.ref l) (.lst true ds') (l::fl):=.Ea hF ar (Hh.step sl st fun a ha n _=>⟨n,aj fun z=>Pe (by rw[<- z];exact ha)⟩)
  obtain⟨g',h',r2,p2⟩:=r1.put i m1
  have Gs:σ.set i (some (.ref l))=σ:=by
   apply List.ext_getElem?
   intro j
   rw[List.getElem?_set]
   by_cases hj:i=j
   ·subst hj
    have Dk:i < σ.length:=(List.getElem?_eq_some_iff.mp DA).1
    rw[if_pos rfl,if_pos Dk,DA]
   ·rw[if_neg hj]
  rw[Gs,List.set_set] at r2
  have R7:((l::fl)++g).Nodup:=by
   rw[List.cons_append,List.nodup_cons]
   refine⟨fun z=>(List.mem_append.mp z).elim Pe lg,List.nodup_append.mpr ⟨?_,(List.nodup_append.mp JD).2.1,fun a h1 b h2 e=>?_⟩⟩
   ·have:(fl++h).Nodup:=hp.nodup_iff.mpr (List.nodup_append.mpr ⟨(List.nodup_append.mp Mv).1,(List.nodup_cons.mp (List.nodup_append.mp JD).1).2,fun a h1 b h2 e=>(List.nodup_append.mp Mv).2.2 a h1 b (List.mem_append_left _ (List.mem_cons_of_mem _ h2)) e⟩)
    exact(List.nodup_append.mp this).1
   ·subst e
    rcases List.mem_append.mp (JE a h1) with z|z
    ·exact(List.nodup_append.mp Mv).2.2 a z a (List.mem_append_right _ h2) rfl
    ·exact(List.nodup_append.mp JD).2.2 a (List.mem_cons_of_mem _ z) a h2 rfl
  have JC:(g'++h').Nodup:=p2.nodup_iff.mpr R7
  have lB:B.H l=none:=m.own l (h4.mem_iff.mpr (by simp))
  refine⟨g',fun a h=>?_,r2,(List.nodup_append.mp JC).1,fun b o JF=>?_,fun a ha=>?_,m.Dz,m.out,fun a xs h=>⟨(m.pin a xs h).1,(sl a xs (m.pin a xs h).1 (m.pin a xs h).2).2⟩,fun a xs h=>st a xs (m.GY a xs h),m.nm⟩
  ·have:a≠l:=fun z=>hF (by rw[<- z];exact h)
   rw[aj this]
   exact m.CI a h
  ·have:b≠l:=fun z=>by rw[z,lB] at JF;cases JF
   rw[aj this]
   exact m.same _ _ JF
  ·have:a∈(l::fl)++g:=p2.mem_iff.mp (List.mem_append_left _ ha)
   rcases List.mem_append.mp this with z|z
   ·rcases List.mem_cons.mp z with rfl|z
    ·exact lB
    ·rcases List.mem_append.mp (JE a z) with z|z
     ·exact hb a z
     ·exact m.own a (h4.mem_iff.mpr (List.mem_append_left _ (List.mem_cons_of_mem _ z)))
   ·exact m.own a (h4.mem_iff.mpr (List.mem_append_right _ z))
theorem Cp.set {w:V}{d:D}{fv:List Addr}(mw:Cz K F H w d fv):∀ {xs:List V}{ds:List D}{fi:List Addr} (j:Nat),Cp K F H xs ds fi->∃ fl h,Cp K F H (xs.set j w) (ds.set j d) fl/\(fl++h).Perm (fv++fi)
 | _,_,_,_,.nil=>⟨[],_,.nil,.refl _⟩
 | _,_,_,0,.cons (f:=f0) (g:=g0) m1 m2=>⟨_,f0,.cons mw m2,by rw[List.append_assoc];exact List.Perm.append_left _ List.perm_append_comm⟩
 | _,_,_,j+1,.cons (f:=f0) (g:=g0) m1 m2=>by
  obtain⟨fl,h,h1,h2⟩:=Cp.set mw j m2
  refine⟨f0++fl,h,.cons m1 h1,?_⟩
  rw[List.append_assoc]
  refine(List.Perm.append_left f0 h2).trans ?_
  rw[<- List.append_assoc,<- List.append_assoc]
  exact List.Perm.append_right g0 List.perm_append_comm
theorem Cp.snoc {w:V}{d:D}{fv:List Addr}(mw:Cz K F H w d fv){xs:List V}{ds:List D}{fi:List Addr}(m:Cp K F H xs ds fi):∃ fl h,Cp K F H (xs++[w]) (ds++[d]) fl/\(fl++h).Perm (fv++fi):=
 ⟨fi++(fv++[]),[],m.append (.cons mw .nil),by rw[List.append_nil,List.append_nil];exact List.perm_append_comm⟩
end
noncomputable def notTuple:Expr->Bool
 | .Tuple ..=>false
 | _=>true
noncomputable def gM:Expr->Bool
 | .ListComp ..=>false
 | .SetComp ..=>false
 | .DictComp ..=>false
 | _=>true
noncomputable def isName:Expr->Bool
 | .Name ..=>true
 | _=>false
noncomputable def isTup:Expr->Bool
 | .Tuple ..=>true
 | _=>false
noncomputable def Mw:Option Expr->(Str->Bool)->Bool
 | some (.Call (.Name x _) [.Constant (.str _) _ _] [] _),k=>k x
 | _,_=>false
theorem xo {e:Option Expr}{k:Str->Bool}(h:Mw e k=true):∃ x np w j p Cw,e=some (.Call (.Name x np) [.Constant (.str w) j p] [] Cw)/\k x=true:=by
 unfold Mw at h
 split at h
 ·exact⟨_,_,_,_,_,_,rfl,h⟩
 ·cases h
noncomputable def rev:Stmt->(Option Expr->Bool)->Bool
 | .Raise e none _,k=>k e
 | _,_=>false
theorem xq {s:Stmt}{k:Option Expr->Bool}(h:rev s k=true):∃ e pos,s=.Raise e none pos/\k e=true:=by
 unfold rev at h
 split at h
 ·exact⟨_,_,rfl,h⟩
 ·cases h
noncomputable def Mx:Option Expr->(Str->Expr->Bool)->Bool
 | some (.Call (.Name x _) [a] [] _),k=>k x a
 | _,_=>false
theorem xr {e:Option Expr}{k:Str->Expr->Bool}(h:Mx e k=true):∃ x np a Cw,e=some (.Call (.Name x np) [a] [] Cw)/\k x a=true:=by
 unfold Mx at h
 split at h
 ·exact⟨_,_,_,_,rfl,h⟩
 ·cases h
noncomputable def Lx:Stmt->(Expr->Str->List Expr->Bool)->Bool
 | .Assign [t] (.Call (.Name xf _) args [] _) _,k=>k t xf args
 | _,_=>false
theorem xu {s:Stmt}{k:Expr->Str->List Expr->Bool}(h:Lx s k=true):∃ t xf p args q pos,s=.Assign [t] (.Call (.Name xf p) args [] q) pos/\k t xf args=true:=by
 unfold Lx at h
 split at h
 ·exact⟨_,_,_,_,_,_,rfl,h⟩
 ·cases h
noncomputable def Ly:Stmt->(Expr->Str->Expr->Str->List Expr->Bool)->Bool
 | .Assign [t] (.Call (.Name xg _) [e,.Call (.Name xf _) args [] _] [] _) _,k=>k t xg e xf args
 | _,_=>false
theorem xw {s:Stmt}{k:Expr->Str->Expr->Str->List Expr->Bool}(h:Ly s k=true):∃ t xg p e xf p' args q' q pos,s=.Assign [t] (.Call (.Name xg p) [e,.Call (.Name xf p') args [] q'] [] q) pos/\k t xg e xf args=true:=by
 unfold Ly at h
 split at h
 ·exact⟨_,_,_,_,_,_,_,_,_,_,rfl,h⟩
 ·cases h
noncomputable def Lz:Stmt->(Str->Str->Bool->Str->Bool)->Bool
 | .Expr (.Call (.Attribute (.Name x _) name apos) [.Name y _] [] Cw) _,k=>k x name (apos.endLine == Cw.line) y
 | _,_=>false
theorem xx {s:Stmt}{k:Str->Str->Bool->Str->Bool}(h:Lz s k=true):∃ x px name apos y py Cw pos,s=.Expr (.Call (.Attribute (.Name x px) name apos) [.Name y py] [] Cw) pos/\k x name (apos.endLine == Cw.line) y=true:=by
 unfold Lz at h
 split at h
 ·exact⟨_,_,_,_,_,_,_,_,rfl,h⟩
 ·cases h
mutual
noncomputable def jF (Z:Sg)(G:Gm):IS->Stmt->Bool
 | .asg tg e,.Assign [t] v _=>bE G tg t&&Cv Z G e v&&(isName t||(isTup t&&notTuple v))
 | .En i k e,.Assign [.Subscript (.Name x _) s _] v _=>b8 G i x&&aY s&&Cv Z G k s&&Cv Z G e v
 | .DI i k e,.Assign [.Subscript (.Name x _) s _] v _=>b8 G i x&&aY s&&Cv Z G k s&&Cv Z G e v
 | .app i e,.Expr (.Call (.Attribute (.Name x _) name apos) [v] [] Cw) _=>b8 G i x&&name == "append"&&apos.endLine == Cw.line&&notStar v&&Cv Z G e v
 | .Jo j e,s=>Lx s fun t xf args=>isName t&&bE G (.nm j) t&&xf == "dict"&&G.EC 19&&aB Z G [e] args
 | .FE i j,s=>Lz s fun x n l y=>b8 G i x&&n == "update"&&l&&b8 G j y&&decide (i≠j)
 | .EV j g a f es i,s=>Ly s fun t xg e xf args=>isName t&&bE G (.nm j) t&&G.cm&&(bI Z G f xf&&Z.EB.contains f)&&aB Z G (es++[.v i]) args&&!(vars a++ao es).contains i&&G.io != some i&&decide (i≠j)&&(bI Z G g xg&&Z.GA G g)&&(notStar e&&Cv Z G a e)
 | .pass,.Expr (.Constant (.str _) _ _) _=>true
 | .exp e,.Expr v _=>gM v&&Cv Z G e v
 | .ret e,.Return (some v) _=>Cv Z G e v
 | .HK,.Return none _=>true
 | .Dl t a b,.If c x y _=>Cv Z G t c&&dw Z G a x&&dw Z G b y
 | .CM tg s body,.For t it b [] _=>((G.cm&&G.rs)&&bE G tg t)&&(bV Z G s it&&dY s t)&&dw Z G body b
 | .brk,.Break _=>true
 | .cnt,.Continue _=>true
 | .pass,.Pass _=>true
 | .never,_=>true
 | .C6 n c e,s=>rev s fun o=>Mx o fun x a=>G.rs&&G.cm&&bI Z G n x&&x == c&&Z.rc.contains (n,c)&&aB Z {G with rs:=false,tr:=false} [e] [a]
 | .Dy n c _,.Raise e none _=>Mw e fun x=>G.rs&&G.cm&&bI Z G n x&&x == c&&Z.rc.contains (n,c)
 | _,_=>false
noncomputable def dw (Z:Sg)(G:Gm):List IS->List Stmt->Bool
 | [],[]=>true
 | a::as,s::ss=>jF Z G a s&&dw Z G as ss
 | _,_=>false
end
section
variable {Z:Sg}{CX:Dw}{cl:Nat->List D->Res D}{xp:XK->Hp->Str->Prop}{X:Cx}{ex:Str->Prop}{G:Gm}
theorem tZ {tg:Tg}{t:Expr}(ht:bE G tg t=true){ga:Ev->Res (D×Ev)}{Dn:Ends}{σ:St}{H:Hp}(h:RS X.K G.io ex (fun τ=>Ci (ga τ) fun p=>Ci (bK tg p.1 p.2) fun Cr=>.ok (.nx Cr)) Dn σ H):wb (RO X.K ex ga) (gT X.K tg) Dn σ H:=by
 obtain⟨B,F,τ,f,m,q⟩:=h
 refine m.ro (Ck.Ci q) fun p v H' F' fv f' o hp=>?_
 obtain⟨m',hb⟩:=m.ow o
 exact m'.gT o.rep o.CP hb (dt tg t ht) (Ck.Ci hp) fun Cr CB IB HQ h'=>h'.ok _ _ _ _ HQ
theorem EY (g:CU Z CX cl xp X ex G){tg:Tg}{e:IR}{t v:Expr}{pos:Pos}(ht:bE G tg t=true)(hv:Cv Z G e v=true)(hc:(isName t||(isTup t&&notTuple v))=true):PS X (.Assign [t] v pos) (RS X.K G.io ex (Dm cl (.asg tg e))):=by
 have pe:=Kp e false X ex G v g hv
 have pg:=Jy g tg t ht
 cases t with
 | Name x px=>
  cases tg with
  | tp _=>cases ht
  | nm i=>
   have E5:(G.N[i]? == some x&&(G.kd[i]? == some .local||(G.df&&G.kd[i]? == some .cell)))=true:=(Bool.and_eq_true_iff.mp ht).1
   rw[Bool.and_eq_true,Bool.or_eq_true,Bool.and_eq_true] at E5
   have hx:G.N[i]? = some x:=eq_of_beq E5.1
   have hk:=g.kd i x hx
   have GZ:Loc X.env.scope x:=E5.2.elim (fun z=>.inl (hk.trans (eq_of_beq z))) fun z=>.inr (hk.trans (eq_of_beq z.2))
   have Hs:X.fn x=true∨X.env.scope.names.lookup x=some .local:=E5.2.elim (fun z=>.inr (hk.trans (eq_of_beq z))) fun z=>.inl (g.df z.1 x)
   have plain:swapsWith v (some (.Name x px)) pos.line X.env=pure false->PS X (.Assign [.Name x px] v pos) (RS X.K G.io ex (Dm cl (.asg (.nm i) e))):=fun hs=>
    aO (jj (i:=i) (by rw[g.N];exact g.CP) (by rw[g.N];exact hx) GZ pe hs Hs) fun Dn σ H h=>tZ ht h
   cases v with
   | ListComp el gens scope HR=>
    have K6:swapsWith (.ListComp el gens scope HR) (some (.Name x px)) pos.line X.env=pure (X.env.blockKind == .function&&X.env.kindOf x == some .local&&px.line == HR.line&&!(scope.names.any fun (n,k)=>n == x&&(k == .local||k == .cell))):=rfl
    cases hb:(X.env.blockKind == .function&&X.env.kindOf x == some .local&&px.line == HR.line&&!(scope.names.any fun (n,k)=>n == x&&(k == .local||k == .cell))) with
    | false=>exact plain (by rw[K6,hb])
    | true=>
     rw[hb] at K6
     have R8:X.env.kindOf x=some .local:=by
      simp only[Bool.and_eq_true] at hb
      exact eq_of_beq hb.1.1.2
     cases e with
     | comp G' fr T src ifs elt=>
      have hv:mh gens (fun t it fs=>bz Z G scope G' fr&&bE G' T t&&(Ep T).all (fun i=>decide (fr.length<=i))&&(bV Z G src it&&dY src t)&&aB Z G' ifs fs&&Cv Z G' elt el)=true:=hv
      obtain⟨t,it,fs,rfl,hv⟩:=gF hv
      have h':(bz Z G scope G' fr&&bE G' T t&&(Ep T).all (fun i=>decide (fr.length<=i))&&(bV Z G src it&&dY src t)&&aB Z G' ifs fs&&Cv Z G' elt el)=true:=hv
      simp only[Bool.and_eq_true] at h'
      have hs:=gK h'.1.1.1.1.1
      have hT:=h'.1.1.1.1.2
      have ha:∀ i∈Ep T,fr.length<=i:=fun i hi=>of_decide_eq_true (List.all_eq_true.mp h'.1.1.1.2 i hi)
      intro pins s' σ H Dn Iv h
      obtain⟨DD,S⟩:=dN g Iv.ok hs
      have p:=rJ (py:=px) (spos:=pos) (i:=i) (pos:=HR) (elt:=el) (ifs:=fs) (tg:=t) (g:=gT X.K T) (tt:=RT X.K Di (ao ifs) (cW cl ifs)) (te:=RD X.K Di (vars elt) (Cn cl elt)) (g.calm hs.cm) (by rw[g.N];exact g.CP) (by rw[g.N];exact hx) R8 S (sx src X ex G it t g h'.1.1.2.1 h'.1.1.2.2) (fun C s H fp=>Jy (bB g hs DD C s H fp) T t hT)
       (fun C s H fp=>sv ifs _ Di G' fs (bB g hs DD C s H fp) h'.1.2) (fun C s H fp=>(snd elt _ Di G' el (bB g hs DD C s H fp) h'.2).1) K6 (fun x=>bR h'.1.1.2.1 X.env x)
      refine p pins s' σ H Dn Iv ?_
      obtain⟨B,F,τ,f,m,q⟩:=h
      -- as one R9 is kept
      have q0:Ck ex (Ci (Ci (Cn cl (.comp G' fr T src ifs elt) τ) fun d=>.ok (aN (.comp G' fr T src ifs elt) d τ)) fun p=>Ci (bK (.nm i) p.1 p.2) fun Cr=>.ok (.nx Cr)) (Fk X.K B Dn):=q
      have q1:=Ck.Ci (Ck.Ci q0)
      have fin:∀ (d:D) (v:V) (H':Hp) (F':Addr->Prop) (fv f':List Addr),Ow X.K F H f F' H' σ v (aN (.comp G' fr T src ifs elt) d τ).1 fv (aN (.comp G' fr T src ifs elt) d τ).2 f'->(∀ (p:D×Ev),p=aN (.comp G' fr T src ifs elt) d τ->Ck ex (Ci (bK (.nm i) p.1 p.2) fun Cr=>.ok (.nx Cr)) (Fk X.K B Dn))->Dn.nx (σ.set i (some v)) H':=by
       intro d v H' F' fv f' o hp
       obtain⟨m',Fu⟩:=m.ow o
       have:=m'.gT (t:=.nm i) (Q:=Dn.nx) o.rep o.CP Fu (dt _ _ ht) (Ck.Ci (hp _ rfl)) fun Cr CB IB HQ h'=>h'.ok _ _ _ _ HQ
       exact this
      cases z:Cn cl (.comp G' fr T src ifs elt) τ with
      | error er=>
       rw[z] at q1
       cases er with
       | stuck=>exact q1.no.elim
       | exc c=>
        refine cf (S:=fun _=>True) (τ:=τ) (ex:=ex) (Kt:=fun _=>False) hs.Lu ha (aZ m.Df) ?_ fun A ys ds H' e hA Iz mm k=>k.elim
        show Ck ex (Cn cl (.comp G' fr T src ifs elt) τ) _
        rw[z]
        exact q1
      | ok d=>
       rw[z] at q1
       have q2:=q1.ok.ok
       obtain⟨o',ds,rfl⟩:∃ o ds,d=.lst o ds:=by
        have zz:=z
        rw[eV] at zz
        obtain⟨its,_,zz⟩:=bL zz
        obtain⟨_,zz⟩:=gA zz
        obtain⟨ds,_,zz⟩:=bL zz
        cases zz
        exact⟨true,ds,rfl⟩
       by_cases hi:ak ds=true
       ·have Fh:aN (.comp G' fr T src ifs elt) (.lst o' ds) τ=(.lst true ds,τ):=by
         unfold aN
         rw[if_neg (show ¬ aw (.lst o' ds)=true by intro z;cases z)]
         show (if ak ds=true then _ else _)=_
         rw[if_pos hi]
        refine cf (S:=fun _=>True) (τ:=τ) (ex:=ex) (Kt:=fun d'=>∃ HS,d'=.lst HS ds) hs.Lu ha (aZ m.Df) ?_ fun A ys ds' H' e hA Iz mm k=>?_
        ·show Ck ex (Cn cl (.comp G' fr T src ifs elt) τ) _
         rw[z]
         exact⟨o',rfl⟩
        ·obtain⟨HS,k⟩:=k
         cases k
         obtain⟨k1,k2,k3⟩:=du m.CI m.Df e
         refine fin (.lst o' ds) (.ref A) H' F [A] f ?_ (fun p hp=>by subst hp;exact q2)
         rw[Fh]
         refine⟨k3,k1,.Ea (fun zz=>m.CI A zz hA) Iz (mm.free hi),k2,?_,fun a ha=>?_⟩
         ·rw[List.singleton_append,List.nodup_cons]
          refine⟨fun zz=>?_,m.CP⟩
          obtain⟨_,xs,e⟩:=m.Df.own A zz
          rw[hA] at e;cases e
         ·rw[List.singleton_append] at ha
          rcases List.mem_cons.mp ha with rfl|ha
          ·exact .inr hA
          ·exact .inl ha
       ·have Fh:aN (.comp G' fr T src ifs elt) (.lst o' ds) τ=(.lst true (Cy ds),CK (vars (.comp G' fr T src ifs elt)) τ):=by
         unfold aN
         rw[if_neg (show ¬ aw (.lst o' ds)=true by intro z;cases z)]
         show (if ak ds=true then _ else _)=_
         rw[if_neg hi]
        obtain⟨F1,gg,b1,b2,b3,b4,b5,b6⟩:=cN (vars (.comp G' fr T src ifs elt)) m.CI m.Df m.CP
        refine cf (S:=F1) (τ:=τ) (ex:=ex) (Kt:=fun d'=>∃ HS,d'=.lst HS ds) hs.Lu ha b6 ?_ fun A ys ds' H' e hA Iz mm k=>?_
        ·show Ck ex (Cn cl (.comp G' fr T src ifs elt) τ) _
         rw[z]
         exact⟨o',rfl⟩
        ·obtain⟨HS,k⟩:=k
         cases k
         obtain⟨c1,c2,c3⟩:=grow (fun a=>a≠A) b1 b2 e
         have m2:Cj X.K (fun a=>F1 a∨(a≠A/\H a=none/\H' a≠none)) H' ys ds:=mm.step (fun a xs h r=>⟨h.1.elim (fun z=>.inl z) fun z=>.inr ⟨h.2,z,r.some⟩,r⟩) fun a xs h=>h
         refine fin (.lst o' ds) (.ref A) H' (fun a=>F1 a∨(a≠A/\H a=none/\H' a≠none)) [A] gg ?_ (fun p hp=>by subst hp;exact q2)
         rw[Fh]
         refine⟨b4.trans c3 (fun x hx=>.inl (b5 x hx)),c1,.Ea (fun zz=>?_) Iz m2.frozen,c2,?_,fun a ha=>?_⟩
         ·rcases zz with zz|zz
          ·exact b1 A zz hA
          ·exact zz.1 rfl
         ·rw[List.singleton_append,List.nodup_cons]
          refine⟨fun zz=>?_,b3⟩
          obtain⟨_,xs,e⟩:=b2.own A zz
          rw[hA] at e;cases e
         ·rw[List.singleton_append] at ha
          rcases List.mem_cons.mp ha with rfl|ha
          ·exact .inr hA
          ·exact .inl (b5 a ha)
     | _=>first|exact aa hv|cases hv
   | SetComp _ _ _ _=>cases e<;>first|exact aa hv|cases hv
   | DictComp _ _ _ _ _=>cases e<;>first|exact aa hv|cases hv
   | _=>exact plain rfl
 | Tuple ts k px=>
  have J4:notTuple v=true:=hc
  refine aO (mS pe pg ?_ ?_ rfl) fun Dn σ H h=>tZ ht h
  ·cases v<;>rfl
  ·cases v<;>first|rfl|cases J4
 | _=>cases hc
end
theorem C8.NC {K:PySem.W.Frag}{H:Hp}{a l:Addr}{xs:List V ⊕ Str}{ys zs:List (Key×V)}(hl:H l=some (.dK ys))(h:C8 K H a xs):C8 K (L2.upd H l (.dK zs)) a xs:=by
 cases xs with
 | inl xs=>
  rcases h with h|h
  ·have:a≠l:=by
    rintro rfl
    rcases h with h|⟨o,h⟩<;>(rw[hl] at h;cases h)
   refine .inl ?_
   unfold Rd
   rw[aj this]
   exact h
  ·exact .inr h
 | inr c=>
  obtain⟨C,o,vs,h0,h1,h2,h3⟩:=h
  have:a≠l:=by
   rintro rfl
   rw[hl] at h2;cases h2
  exact⟨C,o,vs,h0,h1,by rw[aj this];exact h2,h3⟩
theorem Cp.Sa {K:PySem.W.Frag}{F:Addr->Prop}{H:Hp}{vs:List V}{ds:List D}{f:List Addr}(h:Cp K F H vs ds f)(n:ak ds=true):f=[]:=by
 refine Cp.rec (motive_1:=fun _ d f _=>aw d=true->f=[]) (motive_2:=fun _ d f _=>ak d=true->f=[]) (fun _=>rfl) (fun _ _=>rfl) (fun _ _=>rfl) (fun _ _=>rfl) (fun _ _=>rfl) (fun _ _ i z=>i z) (fun _ _ _ _ _=>rfl) (fun _ _ _ _=>rfl) (fun _ _ _ _ z=>aa z) (fun _ _ _ _ _ _=>rfl) (fun _ _ _ _ _ z=>aa z) (fun _=>rfl) (fun {v d f vs ds g} _ _ i j z=>?_) h n
 have z':=Bool.and_eq_true_iff.mp (show (aw d&&ak ds)=true from z)
 rw[i z'.1,j z'.2]
 rfl
theorem dy {K:PySem.W.Frag}{F:Addr->Prop}{H:Hp}{σ:St}{τ:Ev}{f:List Addr}{i:Nat}{ks:List Key}{ds:List D}(r:CN K F H σ τ f)(hs:ai τ i=some (.Cu true ks ds))(n:ak ds=true) :
  ∃ l kvs g,σ[i]? = some (some (.ref l))/\¬ F l/\H l=some (.dK kvs)/\kvs.map (·.1)=ks/\Cp K F H (kvs.map (·.2)) ds []/\CN K F H σ (τ.set i none) g/\f.Perm (l::g):=by
 obtain⟨v,fs,g,h1,h2,h3,h4⟩:=r.at hs
 cases h2 with
 | @ET a kvs _ _ fi hF hH hk hm=>
  have e:=hm.Sa n
  subst e
  exact⟨a,kvs,g,h1,hF,hH,hk,hm,h3,h4⟩
theorem C3.G0 {K:PySem.W.Frag}{io:Option Nat}{B:Bs io}{F:Addr->Prop}{H:Hp}{σ:St}{τ:Ev}{f g:List Addr}{i:Nat}{l:Addr}{kvs kvs':List (Key×V)}{Fv:List Key}{ds':List D}(m:C3 K B F H σ τ f)(DA:σ[i]? = some (some (.ref l)))(hF:¬ F l)(hl:H l=some (.dK kvs))(hr:CN K F H σ (τ.set i none) g)(h4:f.Perm (l::g))
  (hk:kvs'.map (·.1)=Fv) (hm:Cp K F H (kvs'.map (·.2)) ds' []):∃ f',C3 K B F (upd H l (.dK kvs')) σ (τ.set i (some (.Cu true Fv ds'))) f':=by
 have HU:(l::g).Nodup:=h4.nodup_iff.mp m.CP
 have lg:l∉g:=(List.nodup_cons.mp HU).1
 have sl:∀ a (u:LD),F a->Rd H a u.o->F a/\Rd (upd H l (.dK kvs')) a u.o:=fun a xs h r=>by
  refine⟨h,?_⟩
  have:a≠l:=fun z=>hF (by rw[<- z];exact h)
  unfold Rd
  rw[aj this]
  exact r
 have st:∀ a xs,C8 K H a xs->C8 K (upd H l (.dK kvs')) a xs:=fun a xs h=>h.NC hl
 have r1:CN K F (upd H l (.dK kvs')) σ (τ.set i none) g:=hr.step sl st fun a ha n _=>⟨n,aj fun z=>lg (by rw[<- z];exact ha)⟩
 have m1:Cz K F (upd H l (.dK kvs')) (.ref l) (.Cu true Fv ds') [l]:=.ET hF ar hk (hm.step sl st bu)
 obtain⟨g',h',r2,p2⟩:=r1.put i m1
 have Gs:σ.set i (some (.ref l))=σ:=by
  apply List.ext_getElem?
  intro j
  rw[List.getElem?_set]
  by_cases hj:i=j
  ·subst hj
   rw[if_pos rfl,if_pos (List.getElem?_eq_some_iff.mp DA).1,DA]
  ·rw[if_neg hj]
 rw[Gs,List.set_set] at r2
 have JC:(g'++h').Nodup:=p2.nodup_iff.mpr HU
 have lB:B.H l=none:=m.own l (h4.mem_iff.mpr (by simp))
 refine⟨g',fun a h=>?_,r2,(List.nodup_append.mp JC).1,fun b o JF=>?_,fun a ha=>m.own a (h4.mem_iff.mpr (p2.mem_iff.mp (List.mem_append_left _ ha))),m.Dz,m.out,fun a xs h=>⟨(m.pin a xs h).1,(sl a xs (m.pin a xs h).1 (m.pin a xs h).2).2⟩,fun a xs h=>st a xs (m.GY a xs h),m.nm⟩
 ·have:a≠l:=fun z=>hF (by rw[<- z];exact h)
  rw[aj this]
  exact m.CI a h
 ·have:b≠l:=fun z=>by rw[z,lB] at JF;cases JF
  rw[aj this]
  exact m.same _ _ JF
section
variable {K:PySem.W.Frag}{S:Addr->Prop}{H:Hp}
theorem has_any (kvs:List (Key×V))(q:Key):(kvs.any fun kv=>decide (kv.1=q))=iC (kvs.map (·.1)) q:=by
 unfold iC
 rw[List.any_map]
 rfl
theorem ua (kvs:List (Key×V))(q:Key)(v:V):(putK kvs q v).map (·.1)=bM (kvs.map (·.1)) q:=by
 unfold putK bM
 rw[has_any]
 by_cases h:iC (kvs.map (·.1)) q=true
 ·rw[if_pos h,if_pos h,List.map_map]
  refine List.map_congr_left fun kv _=>?_
  show (if kv.1=q then (kv.1,v) else kv).1=kv.1
  split<;>rfl
 ·rw[if_neg h,if_neg h,List.map_append]
  rfl
theorem ub (q:Key){v:V}{d:D}(mv:Cm K S H v d){kvs:List (Key×V)}{ds:List D}(m:Cj K S H (kvs.map (·.2)) ds):Cj K S H ((putK kvs q v).map (·.2)) (bx (kvs.map (·.1)) ds q d):=by
 unfold putK bx
 rw[has_any]
 by_cases h:iC (kvs.map (·.1)) q=true
 ·rw[if_pos h,if_pos h,List.map_map]
  clear h
  induction kvs generalizing ds with
  | nil=>
   cases m
   exact .nil
  | cons p kvs ih=>
   rw[List.map_cons] at m
   cases ds with
   | nil=>exact absurd m.length (by simp)
   | cons e ds=>
    cases m with
    | cons m1 m2=>
     rw[List.map_cons,List.map_cons,List.zipWith_cons_cons]
     refine .cons ?_ (ih m2)
     show Cm K S H (if p.1=q then (p.1,v) else p).2 (if p.1=q then d else e)
     split
     ·exact mv
     ·exact m1
 ·rw[if_neg h,if_neg h,List.map_append]
  exact m.append (.cons mv .nil)
theorem nY {ks:List Key}{ds:List D}{q:Key}{d:D}(h1:ak ds=true)(h2:aw d=true):ak (bx ks ds q d)=true:=by
 unfold bx
 rw[aX] at h1
 rw[aX,List.all_eq_true]
 rw[List.all_eq_true] at h1
 intro x hx
 split at hx
 ·rw[List.mem_iff_getElem?] at hx
  obtain⟨i,hi⟩:=hx
  rw[List.getElem?_zipWith] at hi
  split at hi
  ·rename_i a b e1 e2
   cases hi
   split
   ·exact h2
   ·exact h1 _ (List.mem_of_getElem? e2)
  ·cases hi
 ·rcases List.mem_append.mp hx with hx|hx
  ·exact h1 x hx
  ·rw[List.mem_singleton.mp hx];exact h2
end
section
variable {Z:Sg}{CX:Dw}{cl:Nat->List D->Res D}{xp:XK->Hp->Str->Prop}{X:Cx}{ex:Str->Prop}{G:Gm}
theorem Ei (g:CU Z CX cl xp X ex G){i:Nat}{k e:IR}{x:Str}{p sp pos:Pos}{s v:Expr}(h1:b8 G i x=true)(h2:aY s=true)(h3:Cv Z G k s=true)(h4:Cv Z G e v=true) :
  PS X (.Assign [.Subscript (.Name x p) s sp] v pos) (RS X.K G.io ex (Dm cl (.DI i k e))):=by
 have hu:=g.un
 refine aO (rP (by omega) (eW g h1) (snd k X ex G s g h3).1 (snd e X ex G v g h4).1 (by cases v<;>rfl)) fun Dn σ H h=>?_
 obtain⟨B,F,τ,f,m,q⟩:=h
 have q0:Ck ex (Ci (Cn cl e τ) fun d=>match ai τ i with|some (.Cu true ks ds)=>Ci (Cn cl k τ) fun y=>(match cz y with|some q=>Co (aw d&&ak ds&&cF ks.length) (.ok (.nx (τ.set i (some (.Cu true (bM ks q) (bx ks ds q d))))))|none=>Cq)|_=>Cq) (Fk X.K B Dn):=q
 refine m.rd (Ck.Ci q0) fun d w H1 m1 e1 mw q1=>?_
 cases z0:ai τ i with
 | none=>rw[z0] at q1;exact q1.no.elim
 | some d0=>
  rw[z0] at q1
  cases d0 with
  | Cu ow ks ds=>
   cases ow with
   | false=>exact q1.no.elim
   | true=>
    obtain⟨v0,ND,_⟩:∃ v0,σ[i]? = some (some v0)/\True:=by
     obtain⟨v0,_,_,h,_⟩:=m1.Df.at z0
     exact⟨v0,h,trivial⟩
    refine⟨v0,ND,m1.rd (Ck.Ci q1) fun y w2 H2 m2 e2 Sb q2=>?_⟩
    cases hk:cz y with
    | none=>simp only[hk] at q2;exact q2.no.elim
    | some qk=>
     simp only[hk] at q2
     obtain⟨gd,q2⟩:=Ck.Co q2
     rw[Bool.and_eq_true,Bool.and_eq_true] at gd
     obtain⟨l,kvs,g0,DA,hF,hl,JG,hm,hr,hp⟩:=dy m2.Df z0 gd.1.2
     rw[ND] at DA
     cases DA
     subst JG
     have Sd:Cj X.K (fun _=>True) H2 (kvs.map (·.2)) ds:=hm.read (fun _ _=>trivial) fun _ _=>trivial
     have Sf:Cm X.K (fun _=>True) H2 w d:=mw.mono (fun _ _=>trivial) e2
     have Si:Cp X.K F H2 ((putK kvs qk w).map (·.2)) (bx (kvs.map (·.1)) ds qk d) []:=(ub qk Sf Sd).free (nY gd.1.2 gd.1.1)
     obtain⟨f',m3⟩:=m2.G0 ND hF hl hr hp (ua kvs qk w) Si
     have hlen:kvs.length < sizeLine:=by
      have:=gC gd.2
      rwa [List.length_map] at this
     exact⟨l,_,rfl,.inl ⟨kvs,qk,hl,dq Sb hk,hlen,rfl⟩,q2.ok _ _ _ _ m3⟩
  | _=>exact q1.no.elim
end
section
variable {Z:Sg}{CX:Dw}{cl:Nat->List D->Res D}{xp:XK->Hp->Str->Prop}{X:Cx}{ex:Str->Prop}{G:Gm}
theorem nZ {K:PySem.W.Frag}{F:Addr->Prop}{H:Hp}{σ:St}{τ:Ev}{f:List Addr}{i:Nat}{ds:List D}(r:CN K F H σ τ f)(hs:ai τ i=some (.lst true ds)):∃ l xs,σ[i]? = some (some (.ref l))/\H l=some (.lst xs)/\xs.length=ds.length:=by
 obtain⟨v,fs,g,h1,h2,h3,h4⟩:=r.at hs
 cases h2 with
 | Ea hF hH hm=>exact⟨_,_,h1,hH,hm.length⟩
end
theorem kc {K:PySem.W.Frag}{h:Heap}{C:Addr}{Pf:List Value}{newId:String}(X:K.In h)(q:PySem.W.excIn K C Pf newId=true):∃ bm N nm qn bs hdct sn sub ab col dd k0 k1 k2 k3 k5 mN,
  h.get? C=some (excClassObj nm qn C N bs bm hdct sn sub ab col dd k0 k1 k2 k3 k5 newId)/\h.Ns N mN/\mN "__init__" = none/\OwnTail h Pf bm:=by
 unfold PySem.W.excIn at q;split at q
 ·rename_i dd cd sl ho;split at q
  ·rename_i C' bm k0 k1 k2 k3 n k5 hm hs;simp only[Bool.and_eq_true,beq_iff_eq,Bool.not_eq_true'] at q
   obtain⟨⟨⟨⟨⟨rfl,rfl⟩,LA⟩,ht⟩,CA⟩,Kr⟩:=q;obtain⟨nm,bs,mro,ns,qn,hd,sn,sub,ab,col,del⟩:=cd
   dsimp only at hm LA CA Kr;subst hm LA
   obtain⟨l⟩:=sl
   have hs:l=[k0,k1,k2,k3,some (.builtin n),k5]:=hs
   subst hs
   exact⟨bm,ns,nm,qn,bs,hd,sn,sub,ab,col,dd,k0,k1,k2,k3,k5,_,X _ _ ho,.of_isNs (PySem.W.isNs_of_in X CA),PySem.W.nsMap_none_of_in X CA Kr,PySem.W.tail_of_in X ht⟩
  ·cases q
 ·cases q
section
variable {Z:Sg}{CX:Dw}{cl:Nat->List D->Res D}{xp:XK->Hp->Str->Prop}{X:Cx}{ex:Str->Prop}{G:Gm}
theorem n6 (g:CU Z CX cl xp X ex G){n:Nat}{c w w':Str}{np Cw pos p1:Pos}{j:Nat}(LB:G.rs=true)(Et:G.cm=true)(hx:bI Z G n c=true)(hc:(n,c)∈Z.rc) :
  PS X (.Raise (some (.Call (.Name c np) [.Constant (.str w) j p1] [] Cw)) none pos) (RS X.K G.io ex (Dm cl (.Dy n c w'))):=by
 obtain⟨k1,k2,k3,k4⟩:=eP g hx
 obtain⟨_,C,hm,hn,hq⟩:=g.He n c hc
 intro pins s σ H Dn I ⟨B,F,τ,f,m,q⟩
 have q:ex c:=q
 obtain⟨bm,N,nm,qn,bs,hdct,sn,sub,ab,col,dd,k0,NF,NG,NH,k5,mN,e1,e2,e3,e4⟩:=kc I.ok.mod.G5 hq
 refine wpAny_Raise_call_subT (C:=C) (nm:=nm) (q:=qn) (N:=N) (bs:=bs) (bm:=bm) (hdct:=hdct) (sn:=sn) (sub:=sub) (ab:=ab) (col:=col) (dd:=dd) (k0:=k0) (k1:=NF) (k2:=NG) (k3:=NH) (k5:=k5)
  PySem.F.excBase_ValueError (mN:=mN) (e4.hasType PySem.F.excBase_ValueError.hasBase) (I.ok.hd (g.calm Et)) rfl e3 (ck I k1 hm ⟨rfl,?_⟩ k4)
 have pa:PA X [.Constant (.str w) j p1] (d8 (tC (.str w)) mV):=aF d6 bF rfl
 refine Calls.evalArgs_plain (wpAny_mono (pa Cw pins s σ H (fun vs H'=>vs=[.str w]) I rfl) (fun us s2 ⟨vs,H1,I1,r,hv⟩=>⟨rfl,?_,I1.bk _ _ e1,e2.keeps I1.bk,e4.keeps I1.bk,fun h' e hx=>g.Mp LB pins σ H1 s2 c C h' e us I1 q hn hx⟩) fun _ _ y=>y)
 subst hv
 rw[<- r.length]
 exact(by decide:1<=sizeLine)
end
theorem iS {K:PySem.W.Frag}{F:Addr->Prop}{H:Hp}:∀ {σ:St}{n:Nat},σ.length=n->CN K F H σ (List.replicate n none) []
 | [],0,_=>.nil
 | _::σ,n+1,h=>.none (iS (by simpa using h))
section
variable {Z:Sg}{CX:Dw}{cl:Nat->List D->Res D}{xp:XK->Hp->Str->Prop}{X:Cx}{ex:Str->Prop}{G:Gm}{pins:List (Addr×Obj)}{a:Addr}
theorem sE (g:CU Z CX cl xp X ex G):CU Z CX cl xp X.Di Di {G with rs:=false,tr:=false} where
 N:=g.N
 CP:=g.CP
 calm:=g.calm
 fk:=g.fk
 un:=g.un
 own:=fun z=>by cases z
 kd:=g.kd
 GB:=g.GB
 gl:=g.gl
 Hd:=g.Hd
 df:=g.df
 blt:=g.blt
 cst:=g.cst
 fns:=g.fns
 EB:=g.EB
 Iu:=g.Iu
 Iw:=g.Iw
 Iy:=g.Iy
 He:=g.He
 Mp:=fun z=>by cases z
 tr:=fun z=>by cases z
 Ll:=⟨fun _ _ _=>False,fun pins σ H s e s' _ h=>(g.Jv _ _ _ _ _ h).elim,fun c _ z=>z.elim⟩
 G8:=g.G8
 Jv:=g.Jv
theorem mz (g:CU Z CX cl xp X ex G){n:Nat}{c:Str}{e:IR}{a:Expr}{np Cw pos:Pos}(LB:G.rs=true)(Et:G.cm=true)(hx:bI Z G n c=true)(hc:(n,c)∈Z.rc)(CS:aB Z {G with rs:=false,tr:=false} [e] [a]=true) :
  PS X (.Raise (some (.Call (.Name c np) [a] [] Cw)) none pos) (RS X.K G.io ex (Dm cl (.C6 n c e))):=by
 obtain⟨k1,k2,k3,k4⟩:=eP g hx
 obtain⟨_,C,hm,hn,hq⟩:=g.He n c hc
 intro pins s σ H Dn I ⟨B,F,τ,f,m,q⟩
 have q:Ck ex (Ci (Ed (Cn cl e τ)) fun _=>.error (.exc c)) (Fk X.K B Dn):=q
 have pa:=gL [e] X.Di Di _ [a] (sE g) CS
 cases z:Cn cl e τ with
 | error er=>rw[z] at q;exact q.no.elim
 | ok d=>
  rw[z] at q
  have q:ex c:=q
  obtain⟨bm,N,nm,qn,bs,hdct,sn,sub,ab,col,dd,k0,NF,NG,NH,k5,mN,e1,e2,e3,e4⟩:=kc I.ok.mod.G5 hq
  refine wpAny_Raise_call_subT (C:=C) (nm:=nm) (q:=qn) (N:=N) (bs:=bs) (bm:=bm) (hdct:=hdct) (sn:=sn) (sub:=sub) (ab:=ab) (col:=col) (dd:=dd) (k0:=k0) (k1:=NF) (k2:=NG) (k3:=NH) (k5:=k5)
   PySem.F.excBase_ValueError (mN:=mN) (e4.hasType PySem.F.excBase_ValueError.hasBase) (I.ok.hd (g.calm Et)) (bh Z _ Cw X.env CS) e3 (ck I k1 hm ⟨rfl,?_⟩ k4)
  have Sj:RA X.K Di (ao [e]) (aG cl [e]) σ H (fun vs _=>vs.length=1):=by
   refine⟨fun _=>True,τ,aZ m.Df,?_⟩
   show Ck Di (Ci (Cn cl e τ) fun d=>Ci (aG cl [] τ) fun ds=>.ok (d::ds)) _
   rw[z]
   intro vs H' _ r
   exact r.length
  have CJ:(notStar a&&Cv Z {G with rs:=false,tr:=false} e a&&aB Z {G with rs:=false,tr:=false} [] [])=true:=CS
  simp only[Bool.and_eq_true] at CJ
  have e0:=ah CJ.1.1 [] X.env
  have Pg:=pa Cw pins s σ H _ (I.EN _) Sj
  rw[show starEach [a] X.Di.env=(false,eval a X.env)::starEach [] X.env from e0] at Pg
  rw[e0]
  refine Calls.evalArgs_plain (wpAny_mono Pg (fun us s2 ⟨vs,H1,I1,r,hv⟩=>⟨rfl,?_,I1.DY.bk _ _ e1,e2.keeps I1.DY.bk,e4.keeps I1.DY.bk,fun h' e hx=>g.Mp LB pins σ H1 s2 c C h' e us I1.DY q hn hx⟩) fun _ _ y=>y.elim)
  rw[<- r.length,hv]
  exact(by decide:1<=sizeLine)
end
section
variable {Z:Sg}{CX:Dw}{cl:Nat->List D->Res D}{xp:XK->Hp->Str->Prop}{X:Cx}{ex:Str->Prop}{G:Gm}{pins:List (Addr×Obj)}
theorem C3.put {io:Option Nat}{B:Bs io}{F:Addr->Prop}{H:Hp}{σ:St}{τ:Ev}{f fv:List Addr}{v:V}{d:D}(i:Nat)(m:C3 X.K B F H σ τ f)(mv:Cz X.K F H v d fv)(nd:(fv++f).Nodup)(hb:∀ a∈fv,B.H a=none)(Hk:io≠some i):∃ f',C3 X.K B F H (σ.set i (some v)) (τ.set i (some d)) f':=by
 obtain⟨g',h',r0,p0⟩:=m.Df.put i mv
 have HU:(g'++h').Nodup:=p0.nodup_iff.mpr nd
 exact⟨g',m.CI,r0,(List.nodup_append.mp HU).1,m.same,fun b Fu=>(List.mem_append.mp (p0.subset (List.mem_append_left _ Fu))).elim (hb b) (m.own b),m.Dz,m.out,m.pin,m.GY,fun j a e1 e2=>(List.getElem?_set_ne (fun z=>Hk (by rw[z];exact e1))).trans (m.nm j a e1 e2)⟩
end
theorem a9 {a b:Addr}{H:Hp}(h:b≠a):rm a H b=H b:=if_neg h
theorem bX {a:Addr}{H:Hp}:rm a H a=none:=if_pos rfl
theorem ke {a b:Addr}{H:Hp}{u:HO}(h:rm a H b=some u):H b=some u/\b≠a:=by
 by_cases e:b=a
 ·rw[e,bX] at h;cases h
 ·rw[a9 e] at h;exact⟨h,e⟩
theorem zK {a:Addr}{H:Hp}:aq (rm a H) H:=fun b u h=>(ke h).1
section
variable {P:Program}{w:World}{H H':Hp}{h g:Heap}{a:Addr}{kvs:List (Key×V)}
theorem uc (x:C0 P w H h)(e:H a=some (.dK kvs)):C0 P w (rm a H) h:=fun b o q=>by
 obtain⟨q1,q2⟩:=ke q
 refine(x b o q1).D8 (fun _ _ _ z=>z) (fun c z=>?_) fun c xs z=>?_
 ·rw[a9 (by rintro rfl;rw[e] at z;cases z)];exact z
 ·rw[a9 (by rintro rfl;rw[e] at z;cases z)];exact z
theorem ud (x:C0 P w H h)(n:H a=none)(y:aP P w H' h a (.dK kvs)):C0 P w (upd H a (.dK kvs)) h:=fun b o q=>by
 by_cases hb:b=a
 ·subst hb
  rw[ar] at q
  cases q
  exact dm rfl y
 ·rw[aj hb] at q
  exact(x b o q).D8 (fun _ _ _ z=>z) (fun c z=>by rw[aj (aA z n)];exact z) fun c xs z=>by rw[aj (aA z n)];exact z
theorem zL (n:H a=none):rm a (upd H a (.dK kvs))=H:=by
 funext b
 by_cases hb:b=a
 ·rw[hb,bX,n]
 ·rw[a9 hb,aj hb]
end
section
variable {K:PySem.W.Frag}{F F':Addr->Prop}{H H':Hp}{a:Addr}{kvs:List (Key×V)}
theorem gN (e:H a=some (.dK kvs)){b:Addr}{xs:List V ⊕ Str}(h:C8 K H b xs):C8 K (rm a H) b xs:=by
 cases xs with
 | inl xs=>
  rcases h with h|h
  ·have:b≠a:=by
    rintro rfl
    rcases h with h|⟨o,h⟩<;>(rw[e] at h;cases h)
   refine .inl ?_
   unfold Rd
   rw[a9 this]
   exact h
  ·exact .inr h
 | inr c=>
  obtain⟨C,o,vs,h0,h1,h2,h3⟩:=h
  have:b≠a:=by
   rintro rfl
   rw[e] at h2;cases h2
  exact⟨C,o,vs,h0,h1,by rw[a9 this];exact h2,h3⟩
theorem kg {b:Addr}{u:HO}(n:b≠a)(h:Rd H b u):Rd (rm a H) b u:=by
 unfold Rd
 rw[a9 n]
 exact h
theorem xy {v:V}{d:D}{fv:List Addr}(o:Out K F H F' H' v d fv)(hs:aq H (rm a H'))(nF:¬ F' a)(nf:a∉fv)(e:H' a=some (.dK kvs)):Out K F H F' (rm a H') v d fv:=by
 have ne:∀ b,F' b->b≠a:=fun b hb z=>nF (z ▸ hb)
 refine⟨fun b hb=>by rw[a9 (ne b hb)];exact o.CI b hb,hs,o.rep.step (fun b u hb r=>⟨hb,kg (ne b hb) r⟩) (fun b xs r=>gN e r) fun b hb n1 n2=>⟨n1,a9 fun z=>nf (z ▸ hb)⟩,o.CP,o.new,o.Dz,o.out⟩
theorem xA {v:V}{d:D}{fv:List Addr}(o:Out K F H F' H' v d fv)(n:H' a=none):Out K F H F' (upd H' a (.dK kvs)) v d fv:=by
 have e:aq H' (upd H' a (.dK kvs)):=.upd n
 refine⟨fun b hb z=>o.CI b hb (e.free z),o.same.trans e,o.rep.step (fun b u hb r=>⟨hb,e.rd r⟩) (fun b xs r=>e.DH r) fun b hb n1 n2=>⟨n1,aj fun z=>n2 (z ▸ n)⟩,o.CP,o.new,o.Dz,o.out⟩
end
theorem sF {d:D}(h:nA d=true):aw d=true:=by cases d<;>first|rfl|cases h
theorem bp:∀ {ds:List D},aC ds=true->ak ds=true
 | [],_=>rfl
 | d::ds,h=>by
  have h':(nA d&&aC ds)=true:=h
  rw[Bool.and_eq_true] at h'
  show (aw d&&ak ds)=true
  rw[sF h'.1,bp h'.2]
  rfl
theorem Cm.sc {K:PySem.W.Frag}{S S':Addr->Prop}{H H':Hp}{v:V}{d:D}(h:Cm K S H v d)(s:nA d=true):Cm K S' H' v d:=by
 cases h with
 | CD=>exact .CD
 | bl b=>exact .bl b
 | int i=>exact .int i
 | str x=>exact .str x
 | _=>cases s
theorem Cj.sc {K:PySem.W.Frag}{S S':Addr->Prop}{H H':Hp}{vs:List V}{ds:List D}(h:Cj K S H vs ds)(s:aC ds=true):Cj K S' H' vs ds:=by
 revert s
 refine Cj.ind (P:=fun vs ds=>aC ds=true->Cj K S' H' vs ds) (fun _=>.nil) (fun v d vs ds a b j s=>?_) h
 have h':(nA d&&aC ds)=true:=s
 rw[Bool.and_eq_true] at h'
 exact .cons (a.sc h'.1) (j h'.2)
noncomputable def My (K:PySem.W.Frag)(ex:Str->Prop)(cl:Nat->List D->Res D)(i:Nat):List IR->TA
 | []=>d8 (ra i) mV
 | e::es=>d8 (RD K ex (vars e) (Cn cl e)) (My K ex cl i es)
theorem n8 {K:PySem.W.Frag}{ex:Str->Prop}{cl:Nat->List D->Res D}{i:Nat}{v0:V}{S:Addr->Prop}{σ:St}{τ:Ev}{H:Hp}(hv:σ[i]? = some (some v0)):∀ (es:List IR) {H1:Hp}{Kt:List D->Prop}{Q:List V->Hp->Prop},aq H H1->Slots K S H σ τ (ao es)->Ck ex (aG cl es τ) Kt->
  (∀ ds vs H2,aq H H2->aq H1 H2->Cj K (nw S H) H2 vs ds->Kt ds->Q (vs++[v0]) H2)->My K ex cl i es σ H1 Q
 | [],H1,Kt,Q,e,hs,h,k=>⟨v0,hv,k [] [] H1 e (.refl _) .nil h.ok⟩
 | a::es,H1,Kt,Q,e,hs,h,k=>by
  refine aI e hs.left (Ck.Ci (show Ck ex (Ci (Cn cl a τ) fun d=>Ci (aG cl es τ) fun ds=>.ok (d::ds)) Kt from h)) fun x v H2 e2 Dc m q=>?_
  exact n8 hv es e2 hs.right (Ck.Ci q) fun ds vs H3 e3 Jw ms kt=>k (x::ds) (v::vs) H3 e3 (Dc.trans Jw) (.cons (m.mono (fun _ z=>z) Jw) ms) kt.ok
section
variable {Z:Sg}{CX:Dw}{cl:Nat->List D->Res D}{xp:XK->Hp->Str->Prop}{X:Cx}{ex:Str->Prop}{G:Gm}
theorem ue (g:CU Z CX cl xp X ex G){i:Nat}:∀ (es:List IR) (args:List Expr),aB Z G (es++[.v i]) args=true->PA X args (My X.K ex cl i es)
 | [],args,h=>by
  match args,h with
  | [e],h=>
   have h':(notStar e&&Cv Z G (.v i) e&&aB Z G [] [])=true:=h
   simp only[Bool.and_eq_true] at h'
   cases e with
   | Name x p=>exact aF (eW g h'.1.2) bF (ah h'.1.1 _ _)
   | _=>exact aa h'.1.2
  | [],h=>cases h
  | _::_::_,h=>
   have h':=(Bool.and_eq_true_iff.mp h).2
   cases h'
 | a::es,args,h=>by
  match args,h with
  | e::l,h=>
   have h':(notStar e&&Cv Z G a e&&aB Z G (es++[.v i]) l)=true:=h
   simp only[Bool.and_eq_true] at h'
   exact aF (snd a X ex G e g h'.1.2).1 (ue g es l h'.2) (ah h'.1.1 _ _)
  | [],h=>cases h
def Ph (K:PySem.W.Frag)(cl:Nat->List D->Res D)(f:Nat)(vs:List V)(H:Hp)(Q:VK):Prop:=∃ a F ws ds kvs es,vs=ws++[.ref a]/\Lj K a F H ws ds kvs es/\
 ∃ d Fv Eu,cl f (Cy ds++[.Cu false (kvs.map (·.1)) es])=.ok (.tup [d,.Cu false Fv Eu])/\aC Eu=true/\∀ v H' F' fv kvs',HN K a F H F' H' v d fv kvs' Fv Eu->Q v H'
theorem n9 (g:CU Z CX cl xp X ex G){k:Nat}{f:Nat}{fa:Addr}{fd:FuncData}{ps:List Str}{pins:List (Addr×Obj)}{σ:St}{H:Hp}{s:Shared}{Q:VK}{us:List Value}{vs:List V}
  (F:DN X.prog X.w X.K X.mg X.base CX k fa fd ps (Lk X.K cl f ps)) (hr:Dv k X.A) (hb:Binds X.K fd ps []) (hlen:∀ ds r,cl f ds=.ok r->ds.length=ps.length)
  (I:Inv X pins σ H s) (r:Vals vs us) (q:Ph X.K cl f vs H Q):wpAny (model X.prog X.w) X.A (call (.ref fa) us) (EP X pins σ Q) X.xe s:=by
 obtain⟨a,Fc,ws,ds,kvs,es,rfl,A,d,Fv,Eu,hc,NI,q⟩:=q
 have hl:(ws++[V.ref a]).length=ps.length:=by
  have:=hlen _ _ hc
  rw[List.length_append,br] at this
  rw[List.length_append,A.ws.length]
  exact this
 have x1:C0 X.prog X.w (rm a H) s.heap:=uc I.CA A.at_
 have na:az s.heap (rm a H) a=none:=bo bX
 have x2:C0 X.prog X.w (upd (az s.heap (rm a H)) a (.dK kvs)) s.heap:=ud (jz x1) na (I.CA a _ A.at_)
 have nb:∀ b,H b=none->upd (az s.heap (rm a H)) a (.dK kvs) b=none:=fun b e=>by
  have hb:b≠a:=by rintro rfl;rw[A.at_] at e;cases e
  rw[aj hb]
  exact bo (by rw[a9 hb];exact e)
 have e0:=I.El
 have env:FC X.prog X.w X.K X.mg X.base X.A X.stack s (upd (az s.heap (rm a H)) a (.dK kvs)):=⟨e0.frames,e0.mod,fun b o e=>⟨(e0.bs b o e).1,nb b (e0.bs b o e).2⟩,e0.Gv,e0.Ds,fun b hb=>nb b (e0.Fs b hb),x2,e0.bare⟩
 have NJ:∀ b,Fc b->b≠a:=fun b hb z=>A.nF (z ▸ hb)
 have LC:∀ {vs:List V}{ds:List D},Cj X.K Fc H vs ds->Cj X.K (fun b=>Fc b/\az s.heap (rm a H) b≠none) (upd (az s.heap (rm a H)) a (.dK kvs)) vs ds:=fun m=>
  (gG x1 (m.step (S':=Fc) (H':=rm a H) (fun b u hb rd=>⟨hb,kg (NJ b hb) rd⟩) fun b xs h=>gN A.at_ h)).mono (fun _ h=>h) (.upd na)
 have GO:(us++([]:List Value)).length=ps.length:=by rw[List.append_nil,<- r.length];exact hl
 have bd:=hb s us I.EL GO
 rw[List.append_nil] at bd
 have Ft:Lk X.K cl f ps (ws++[.ref a]) (upd (az s.heap (rm a H)) a (.dK kvs)) (fun v H'=>∃ F' fv kvs',HN X.K a (fun b=>Fc b/\az s.heap (rm a H) b≠none) (upd (az s.heap (rm a H)) a (.dK kvs)) F' H' v d fv kvs' Fv Eu) (fun _ _ _=>False):=
  ⟨hl,a,_,ws,ds,kvs,es,rfl,⟨fun b hb=>by rw[aj (NJ b hb.1)];exact hb.2,fun z=>A.nF z.1,ar,LC A.ws,LC A.vs,A.lf⟩,d,Fv,Eu,hc,NI,fun v H' F' fv kvs' o=>⟨F',fv,kvs',o⟩⟩
 refine wpAny_call (codeAny_mono (F.run X.A X.stack s _ ⟨us,[]⟩ us _ _ _ hr env bd r Ft) fun r' s' hq=>?_)
 cases r' with
 | error e=>exact(g.Jv _ _ _ _ _ hq).elim
 | ok fl=>
  cases fl with
  | ret u=>
   obtain⟨v,H',a1,a2,a3,a4,a5,F',fv,kvs',o⟩:=hq
   have oo:=o.out
   rw[zL na] at oo
   have NK:aq (az s.heap (rm a H)) (rm a H'):=fun b u e=>by
    have hb:b≠a:=by rintro rfl;rw[na] at e;cases e
    rw[a9 hb]
    exact oo.same b u e
   have p:Fo s.heap (az s.heap (rm a H)) (rm a H'):=⟨fun b o u e=>NK _ _ e,fun b xs e=>NK _ _ e,fun b o e n=>by
    by_cases hb:b=a
    ·rw[hb];exact bX
    ·rw[a9 hb]
     exact a3.free b o e (by rw[aj hb];exact n) (by simp)⟩
   have o2:=gH x1 (fun b hb=>by rw[a9 (NJ b hb)];exact A.CI b hb) p (xy oo NK o.nF o.nf o.at_)
   have nr:cC (rm a H) (rm a H') a=none:=by rw[res_none bX];exact bX
   have o3:=xA (kvs:=kvs') o2 nr
   have hE:∀ b,b≠a->H b=none->H' b=upd (cC (rm a H) (rm a H')) a (.dK kvs') b:=fun b hb e=>by
    rw[aj hb,res_none (by rw[a9 hb];exact e),a9 hb]
   have LF:∀ b,H b=none->b≠a:=fun b e z=>by rw[z,A.at_] at e;cases e
   have un:Un (Dr X.stack) [] H (upd (cC (rm a H) (rm a H')) a (.dK kvs')) s.heap s'.heap:=⟨fun b o e n=>a3.keep b o e (nb b n),fun b o e n=>a3.slot b o e (nb b n),fun b o e n hx=>by
    rw[<- hE b (LF b n) n]
    exact a3.free b o e (nb b n) hx,a3.there,fun b xs e=>?_,fun b o u e=>?_,fun b ps e=>⟨#[],?_⟩⟩
   ·have CA:C0 X.prog X.w (upd (cC (rm a H) (rm a H')) a (.dK kvs')) s'.heap:=
     ud (gE x1 (uc a4 o.at_) p (fs:=Dr X.stack) (fun b o hH e n f=>a3.keep b o e (by
      have hb:b≠a:=by rintro rfl;exact hH bX
      rw[aj hb];exact n) f (by simp)) fun b hb=>by rw[a9 (LF b (e0.Fs b hb))];exact e0.Fs b hb) nr (a4 a _ o.at_)
    refine I.after (Q:=Q) ⟨v,_,a1,a2,un,CA,a5,q v _ _ fv kvs' ⟨o3,fun z=>z.elim A.nF o.nF,o.nf,ar,o.ks,?_⟩⟩
    exact o.vs.sc NI
   ·rw[aj (by rintro rfl;rw[A.at_] at e;cases e),res_some (by rw[a9 (by rintro rfl;rw[A.at_] at e;cases e)];exact e)]
   ·rw[aj (by rintro rfl;rw[A.at_] at e;cases e),res_some (by rw[a9 (by rintro rfl;rw[A.at_] at e;cases e)];exact e)]
   ·rw[aj (by rintro rfl;rw[A.at_] at e;cases e),res_some (by rw[a9 (by rintro rfl;rw[A.at_] at e;cases e)];exact e)]
    simp
  | next=>exact False.elim hq
  | brk=>exact False.elim hq
  | cont=>exact False.elim hq
theorem eX (is:List Nat):∀ (τ:Ev) (k i:Nat),is.contains (k+i)=false->ai (dI is k τ) i=ai τ i
 | [],k,i,h=>rfl
 | o::τ,k,0,h=>by
  unfold dI
  rw[bG,bG,if_neg (by rw[show k=k+0 from rfl,h];simp)]
 | o::τ,k,i+1,h=>by
  unfold dI
  rw[bf,bf]
  exact eX is τ (k+1) i (by rw[<- h];congr 1;omega)
theorem og (g:CU Z CX cl xp X ex G){f i:Nat}{x:Str}{p pos:Pos}{es:List IR}{args:List Expr}(h1:bI Z G f x=true)(hf:f∈Z.EB)(Et:G.cm=true)(CS:aB Z G (es++[.v i]) args=true) :
  PE X (.Call (.Name x p) args [] pos) (fun σ H Q=>My X.K ex cl i es σ H fun vs H1=>Ph X.K cl f vs H1 Q):=by
 obtain⟨k1,k2,k3,k4⟩:=eP g h1
 obtain⟨k,Ln,fd,ps,hm,Fh,hb,F,hr,hlen⟩:=(g.EB f hf Et x k2).ex
 intro pins s σ H Q I q
 have pa:=ue g es args CS
 refine wpAny_Call_Name_kw (ck I k1 hm ?_ k4)
 obtain⟨a,r,he⟩:∃ a r,es++[.v i]=a::r:=by cases es<;>exact⟨_,_,rfl⟩
 rw[he] at CS
 cases args with
 | nil=>cases CS
 | cons e l=>
  have CJ:(notStar e&&Cv Z G a e&&aB Z G r l)=true:=CS
  simp only[Bool.and_eq_true] at CJ
  refine PySem.W.callWith_K (h₀:=X.base) I.ok.mod.G5 Fh (CF (pa pos pins s σ H _ I q) fun us s1 ⟨vs,H1,I1,r,q1⟩=>⟨I1.EL,?_⟩) (ah CJ.1.1 l X.env) (bh Z G (es:=r) pos X.env CJ.2)
  exact n9 g F hr hb hlen I1 r q1
theorem sG {io:Option Nat}{B:Bs io}{F2 F':Addr->Prop}{H2 H':Hp}{σ:St}{JH:Ev}{gg g0 fv:List Addr}{a:Addr}{i:Nat}{kvs HV:List (Key×V)}{Gu:List Key}{Fw:List D}{v:V}{d:D}(m2:C3 X.K B F2 H2 σ JH gg)(DA:σ[i]? = some (some (.ref a)))(LG:¬ F2 a)
  (Ks:H2 a=some (.dK kvs)) (r0:CN X.K F2 H2 σ (JH.set i none) g0) (p0:gg.Perm (a::g0)) (o:HN X.K a F2 H2 F' H' v d fv HV Gu Fw) (Mz:aC Fw=true) :
  ∃ g',C3 X.K B F' H' σ (JH.set i (some (.Cu true Gu Fw))) g'/\(fv++g').Nodup/\∀ b∈fv,B.H b=none:=by
 have HU:(a::g0).Nodup:=p0.nodup_iff.mp m2.CP
 have ag:a∉g0:=(List.nodup_cons.mp HU).1
 have hl:∀ b (u:LD),(F2 b)->Rd H2 b u.o->F' b/\Rd H' b u.o:=fun b u hb r=>⟨o.out.Dz b hb,o.out.same.rd (kg (fun z=>LG (z ▸ hb)) r)⟩
 have ht:∀ b xs,C8 X.K H2 b xs->C8 X.K H' b xs:=fun b xs h=>o.out.same.DH (gN Ks h)
 have r3:CN X.K F' H' σ (JH.set i none) g0:=r0.step hl ht fun b hb n1 n2=>by
  have Ku:b≠a:=fun z=>ag (z ▸ hb)
  refine⟨fun z=>?_,?_⟩
  ·rcases o.out.out b z with z|z
   ·exact n1 z
   ·rw[a9 Ku] at z;exact n2 z
  ·obtain⟨_,u,hu⟩:=r0.own b hb
   rw[hu]
   exact o.out.same b u (by rw[a9 Ku];exact hu)
 have m1:Cz X.K F' H' (.ref a) (.Cu true Gu Fw) [a]:=.ET o.nF o.at_ o.ks (Cj.free (bp Mz) o.vs)
 obtain⟨g',h',r4,p4⟩:=r3.put i m1
 have NL:σ.set i (some (.ref a))=σ:=by
  apply List.ext_getElem?
  intro j
  rw[List.getElem?_set]
  by_cases hj:i=j
  ·subst hj
   rw[if_pos rfl,if_pos (List.getElem?_eq_some_iff.mp DA).1,DA]
  ·rw[if_neg hj]
 rw[NL,List.set_set] at r4
 have Pj:(g'++h').Nodup:=p4.nodup_iff.mpr HU
 have in4:∀ b∈g',b=a∨b∈g0:=fun b hb=>List.mem_cons.mp (p4.mem_iff.mp (List.mem_append_left _ hb))
 have JI:∀ b,b=a∨b∈g0->B.H b=none/\∃ u,H2 b=some u:=fun b hb=>by
  have Pk:b∈gg:=p0.mem_iff.mpr (List.mem_cons.mpr hb)
  exact⟨m2.own b Pk,(m2.Df.own b Pk).2⟩
 have mF:C3 X.K B F' H' σ (JH.set i (some (.Cu true Gu Fw))) g':=⟨o.out.CI,r4,(List.nodup_append.mp Pj).1,fun b u e=>o.out.same b u (by
   rw[a9 (fun z=>by rw[z,(JI a (.inl rfl)).1] at e;cases e)]
   exact m2.same b u e),fun b hb=>(JI b (in4 b hb)).1,fun b hb=>o.out.Dz b (m2.Dz b hb),fun b hb=>by
   rcases o.out.out b hb with z|z
   ·exact m2.out b z
   ·have Ku:b≠a:=fun y=>o.nF (by rw[<- y];exact hb)
    rw[a9 Ku] at z
    exact .inr (m2.same.free z),fun b xs hb=>hl b xs (m2.pin b xs hb).1 (m2.pin b xs hb).2,fun b xs hb=>ht b xs (m2.GY b xs hb),m2.nm⟩
 have LH:∀ b∈fv,H2 b=none:=fun b hb=>by
  have:=o.out.new b hb
  have Ku:b≠a:=fun z=>o.nf (by rw[<- z];exact hb)
  rwa [a9 Ku] at this
 refine⟨g',mF,List.nodup_append.mpr ⟨o.out.CP,(List.nodup_append.mp Pj).1,fun b h1 c h2 e=>?_⟩,fun b hb=>m2.same.free (LH b hb)⟩
 subst e
 obtain⟨u,hu⟩:=(JI b (in4 b h2)).2
 rw[LH b h1] at hu
 cases hu
end
section
variable {K:PySem.W.Frag}{S:Addr->Prop}{H:Hp}
theorem sH:∀ {ds:List D}{ps:List (Key×D)}{xs:List V},Cj K S H xs ds->c8 ds=some ps->∃ as kvs,xs=as.map V.ref/\EA K H as kvs/\kvs.map (·.1)=ps.map (·.1)/\Cj K S H (kvs.map (·.2)) (ps.map (·.2)):=by
 intro ds
 induction ds with
 | nil=>
  intro ps xs m h
  cases h
  cases m
  exact⟨[],[],rfl,.nil,rfl,.nil⟩
 | cons d r ih=>
  intro ps xs m h
  cases m with
  | cons m1 m2=>
   unfold c8 at h
   split at h
   ·rename_i _ e;cases e
   ·rename_i _ k v r' e
    cases e
    split at h
    ·rename_i q Uh hq Sk
     cases h
     obtain⟨as,kvs,rfl,h1,h2,h3⟩:=ih m2 Sk
     obtain⟨a,ys,rfl,ht,mt⟩:=m1.Dg
     cases mt with
     | cons n1 mt=>
      cases mt with
      | cons n2 mt=>
       cases mt
       have ek:=dq n1 hq
       subst ek
       exact⟨a::as,(q,_)::kvs,rfl,.cons ht h1,by rw[List.map_cons,List.map_cons,h2],.cons n2 h3⟩
    ·cases h
   ·cases h
theorem gO:∀ (more:List (Key×V)) (ps:List (Key×D)) (kvs:List (Key×V)) (ds:List D),more.map (·.1)=ps.map (·.1)->Cj K S H (more.map (·.2)) (ps.map (·.2))->Cj K S H (kvs.map (·.2)) ds->
  (bP kvs more).map (·.1)=(Ec ps (kvs.map (·.1)) ds).1/\Cj K S H ((bP kvs more).map (·.2)) (Ec ps (kvs.map (·.1)) ds).2
 | [],[],kvs,ds,_,_,m=>⟨rfl,m⟩
 | p::more,[],_,_,h,_,_=>by cases h
 | [],q::ps,_,_,h,_,_=>by cases h
 | (k,v)::more,(q,d)::ps,kvs,ds,h,m1,m=>by
  rw[List.map_cons,List.map_cons,List.cons.injEq] at h
  have e:k=q:=h.1
  subst e
  cases m1 with
  | cons n1 n2=>
   have:=gO more ps (putK kvs k v) (bx (kvs.map (·.1)) ds k d) h.2 n2 (ub k n1 m)
   rw[ua] at this
   exact this
end
theorem jG:∀ (ps:List (Key×D)) (ks:List Key) (ds:List D),ak (ps.map (·.2))=true->ak ds=true->ak (Ec ps ks ds).2=true
 | [],ks,ds,_,h=>h
 | (q,d)::ps,ks,ds,h1,h2=>by
  have h':(aw d&&ak (ps.map (·.2)))=true:=h1
  rw[Bool.and_eq_true] at h'
  exact jG ps _ _ h'.2 (nY h2 h'.1)
theorem kh:∀ {ks:List Key}{ds:List D},ks.length=ds.length->(ks.zip ds).map (·.1)=ks/\(ks.zip ds).map (·.2)=ds
 | [],[],_=>⟨rfl,rfl⟩
 | k::ks,d::ds,h=>by
  obtain⟨h1,h2⟩:=kh (ks:=ks) (ds:=ds) (by simpa using h)
  rw[List.zip_cons_cons,List.map_cons,List.map_cons,h1,h2]
  exact⟨rfl,rfl⟩
 | [],_::_,h=>by cases h
 | _::_,[],h=>by cases h
section
variable {Z:Sg}{CX:Dw}{cl:Nat->List D->Res D}{xp:XK->Hp->Str->Prop}{X:Cx}{ex:Str->Prop}{G:Gm}
theorem EZ (g:CU Z CX cl xp X ex G){j:Nat}{e:IR}{st:Stmt}(h:Lx st (fun t xf args=>isName t&&bE G (.nm j) t&&xf == "dict"&&G.EC 19&&aB Z G [e] args)=true):PS X st (RS X.K G.io ex (Dm cl (.Jo j e))):=by
 obtain⟨t,xf,p,args,qp,pos,rfl,h0⟩:=xu h
 simp only[Bool.and_eq_true] at h0
 obtain⟨⟨⟨⟨hn,hT⟩,Sl⟩,Pl⟩,CS⟩:=h0
 have e1:xf = "dict":=eq_of_beq Sl
 subst e1
 obtain⟨k1,k2,k3,k4⟩:=bQ g (show aJ[19]? = some ("dict" : Str) from rfl) (eM Pl)
 match args,CS with
 | [],CS=>cases CS
 | _::_::_,CS=>exact aa (Bool.and_eq_true_iff.mp CS).2
 | [a],CS=>
  have CJ:(notStar a&&Cv Z G e a&&aB Z G [] [])=true:=CS
  simp only[Bool.and_eq_true] at CJ
  cases t with
  | Name y py=>
   have E5:(G.N[j]? == some y&&(G.kd[j]? == some .local||(G.df&&G.kd[j]? == some .cell)))=true:=(Bool.and_eq_true_iff.mp hT).1
   have NM:G.io≠some j:=by simpa using(Bool.and_eq_true_iff.mp hT).2
   rw[Bool.and_eq_true,Bool.or_eq_true,Bool.and_eq_true] at E5
   have hx:G.N[j]? = some y:=eq_of_beq E5.1
   have hk:=g.kd j y hx
   have GZ:Loc X.env.scope y:=E5.2.elim (fun z=>.inl (hk.trans (eq_of_beq z))) fun z=>.inr (hk.trans (eq_of_beq z.2))
   have Hs:X.fn y=true∨X.env.scope.names.lookup y=some .local:=E5.2.elim (fun z=>.inr (hk.trans (eq_of_beq z))) fun z=>.inl (g.df z.1 y)
   refine aO (jj (i:=j) (by rw[g.N];exact g.CP) (by rw[g.N];exact hx) GZ (dD (T:="dict") (jv (g.calm (eN Pl))) k1 k2 (by decide +kernel) (aF (snd e X ex G a g CJ.1.2).1 bF (ah CJ.1.1 _ _)) k3 k4 (ah CJ.1.1 _ _) rfl) rfl Hs) fun Dn σ H hh=>?_
   obtain⟨B,F,τ,f,m,q⟩:=hh
   have q0:Ck ex (Ci (Cn cl e τ) fun d=>Ci (l9 j τ d) fun Cr=>.ok (.nx Cr)) (Fk X.K B Dn):=q
   refine m.rd (Ck.Ci q0) fun d v H1 m1 e1 mv q1=>?_
   cases d with
   | lst o ds=>
    obtain⟨p,xs,rfl,hq,mm⟩:=mv.C5
    have q2:Ck ex (Ci (match c8 ds with|some ps=>Co (aC (ps.map (·.2))) (.ok (τ.set j (some (.Cu true (Ec ps [] []).1 (Ec ps [] []).2))))|none=>Cq) fun Cr=>.ok (.nx Cr)) (Fk X.K B Dn):=q1
    cases z:c8 ds with
    | none=>rw[z] at q2;exact q2.no.elim
    | some ps=>
     rw[z] at q2
     obtain⟨gd,q3⟩:=Ck.Co (Ck.Ci q2)
     obtain⟨as,kvs,rfl,hp,hk,hv⟩:=sH mm z
     refine⟨p,as,kvs,rfl,hq,hp,fun a ha=>?_⟩
     obtain⟨r1,r2⟩:=gO kvs ps [] [] hk hv .nil
     have lf:ak (Ec ps [] []).2=true:=jG ps [] [] (bp gd) rfl
     have sm:aq H1 (upd H1 a (.dK (bP [] kvs))):=.upd ha
     have m2:=m1.grow sm
     have mr:Cz X.K F (upd H1 a (.dK (bP [] kvs))) (.ref a) (.Cu true (Ec ps [] []).1 (Ec ps [] []).2) [a]:=.ET (fun z=>m1.CI a z ha) ar r1 (Cj.free lf (r2.mono (S':=fun _=>True) (fun _ _=>trivial) sm))
     have na:a∉f:=fun z=>by
      obtain⟨_,u,hu⟩:=m1.Df.own a z
      rw[ha] at hu;cases hu
     obtain⟨f',m3⟩:=m2.put j mr (by rw[List.singleton_append,List.nodup_cons];exact⟨na,m1.CP⟩) (fun b hb=>by rw[List.mem_singleton.mp hb];exact m1.same.free ha) NM
     exact q3.ok.ok _ _ _ _ m3
   | _=>exact q1.no.elim
  | _=>cases hn
theorem Ej (g:CU Z CX cl xp X ex G){i j:Nat}{st:Stmt}(h:Lz st (fun x n l y=>b8 G i x&&n == "update"&&l&&b8 G j y&&decide (i≠j))=true):PS X st (RS X.K G.io ex (Dm cl (.FE i j))):=by
 obtain⟨x,px,n,apos,y,py,Cw,pos,rfl,h0⟩:=xx h
 simp only[Bool.and_eq_true] at h0
 obtain⟨⟨⟨⟨h1,h2⟩,h3⟩,h4⟩,h5⟩:=h0
 have e1:n = "update":=eq_of_beq h2
 subst e1
 have Pm:i≠j:=of_decide_eq_true h5
 refine aO (gn (rX (eW g h1) (eW g h4) rfl h3 rfl)) fun Dn σ H hh=>?_
 obtain⟨B,F,τ,f,m,q⟩:=hh
 have q0:Ck ex (Ci (nB i τ (ai τ i) (ai τ j)) fun Cr=>.ok (.nx Cr)) (Fk X.K B Dn):=q
 cases zi:ai τ i with
 | none=>rw[zi] at q0;exact q0.no.elim
 | some di=>
  cases zj:ai τ j with
  | none=>
   rw[zi,zj] at q0
   cases di with
   | Cu ow ks ds=>cases ow<;>exact q0.no.elim
   | _=>exact q0.no.elim
  | some dj=>
   rw[zi,zj] at q0
   cases di with
   | Cu ow ks ds=>
    cases ow with
    | false=>exact q0.no.elim
    | true=>
     cases dj with
     | Cu oj GU GV=>
      obtain⟨gd,q1⟩:=Ck.Co (Ck.Ci (show Ck ex (Ci (Co (aC ds&&aC GV&&a8 (ks.length+GU.length)) (.ok (τ.set i (some (.Cu true (Ec (GU.zip GV) ks ds).1 (Ec (GU.zip GV) ks ds).2))))) fun Cr=>.ok (.nx Cr)) (Fk X.K B Dn) from q0))
      rw[Bool.and_eq_true,Bool.and_eq_true] at gd
      obtain⟨l,kvs,g0,DA,hF,hl,JG,hm,hr,hp⟩:=dy m.Df zi (bp gd.1.1)
      have HU:(l::g0).Nodup:=hp.nodup_iff.mp m.CP
      have Sm:ai (τ.set i none) j=some (.Cu oj GU GV):=by
       rw[fX,if_neg fun z=>Pm z.1]
       exact zj
      obtain⟨vj,fj,gj,NN,mj,_,pj⟩:=hr.at Sm
      obtain⟨b,more,rfl,rd,NO,Pn⟩:=(mj.read (S:=fun _=>True) (fun _ _=>trivial) fun _ _=>trivial).GX
      have Sn:l≠b:=by
       rintro rfl
       cases mj with
       | GP h0 _ _ _=>exact hF h0
       | ET h0 _ _ _=>exact(List.nodup_cons.mp HU).1 (pj.mem_iff.mpr (by simp))
      subst JG
      have LI:GU.length=GV.length:=by rw[<- NO,List.length_map,<- Pn.length,List.length_map]
      obtain⟨z1,z2⟩:=kh LI
      obtain⟨r1,r2⟩:=gO more (GU.zip GV) kvs ds (by rw[z1,NO]) (by rw[z2];exact Pn) (hm.read (S:=fun _=>True) (fun _ _=>trivial) fun _ _=>trivial)
      have lf:ak (Ec (GU.zip GV) (kvs.map (·.1)) ds).2=true:=jG _ _ _ (by rw[z2];exact bp gd.1.2) (bp gd.1.1)
      obtain⟨f',m3⟩:=m.G0 (kvs':=bP kvs more) DA hF hl hr hp r1 (Cj.free lf r2)
      refine⟨.ref l,DA,l,rfl,.inl ⟨kvs,.inl hl⟩,.ref b,NN,l,b,kvs,more,rfl,rfl,Sn,hl,rd,?_,q1.ok.ok _ _ _ _ m3⟩
      have:=aT gd.2
      rw[List.length_map,<- NO,List.length_map] at this
      exact this
     | _=>exact q0.no.elim
   | _=>exact q0.no.elim
end
section
variable {Z:Sg}{CX:Dw}{cl:Nat->List D->Res D}{xp:XK->Hp->Str->Prop}{X:Cx}{ex:Str->Prop}{G:Gm}
theorem oh (g:CU Z CX cl xp X ex G){f:Nat}{x:Str}{p pos:Pos}{e e':Expr}{t:TA}(h1:bI Z G f x=true)(h2:Z.GA G f=true)(hs:notStar e=true)(Kl:notStar e'=true)(h:PA X [e,e'] t) :
  PE X (.Call (.Name x p) [e,e'] [] pos) (fun σ H Q=>t σ H fun vs H1=>Mu X.K ex cl f vs H1 Q):=by
 obtain⟨k1,k2,k3,k4⟩:=eP g h1
 obtain⟨k,Ln,fd,ps,hm,Fh,hb,F,hr,hlen⟩:=(g.fns f (dJ h2).1 (dJ h2).2 x k2).ex
 obtain⟨E,hP,hE⟩:=g.Ll
 intro pins s σ H Q I q
 refine wpAny_Call_Name_kw (ck I k1 hm ?_ k4)
 refine PySem.W.callWith_K (h₀:=X.base) I.ok.mod.G5 Fh (CF (h pos pins s σ H _ I q) fun us s1 ⟨vs,H1,I1,r,q1⟩=>⟨I1.EL,?_⟩) (ah hs [e'] X.env) (by rw[ah Kl [] X.env];rfl)
 obtain⟨Fc,ds,CI,m,q1⟩:=q1
 have hl:=hlen ex _ _ q1
 rw[br] at hl
 refine gI F hr hb hP g.G8 I1 r (by rw[m.length];exact hl) CI m ?_
 cases z:cl f (Cy ds) with
 | error er=>
  rw[z] at q1
  cases er with
  | stuck=>exact q1.no.elim
  | exc c=>exact hE c _ q1
 | ok d=>
  rw[z] at q1
  exact q1.ok
theorem DT (g:CU Z CX cl xp X ex G){j g0 f i:Nat}{a0:IR}{es:List IR}{st:Stmt}(h:Ly st (fun t xg e xf args=>isName t&&bE G (.nm j) t&&G.cm&&(bI Z G f xf&&Z.EB.contains f)&&aB Z G (es++[.v i]) args&&!(vars a0++ao es).contains i&&G.io != some i&&decide (i≠j)&&(bI Z G g0 xg&&Z.GA G g0)&&(notStar e&&Cv Z G a0 e))=true) :
  PS X st (RS X.K G.io ex (Dm cl (.EV j g0 a0 f es i))):=by
 obtain⟨t,xg,pg,e0,xf,p,args,q',qp,pos,rfl,h0⟩:=xw h
 simp only[Bool.and_eq_true] at h0
 obtain⟨⟨⟨⟨⟨⟨⟨⟨⟨hn,hT⟩,Et⟩,hf,So⟩,CS⟩,Kr⟩,Hk⟩,Pm⟩,Ss,Su⟩,Po,Sw⟩:=h0
 cases t with
 | Name y py=>
  have E5:(G.N[j]? == some y&&(G.kd[j]? == some .local||(G.df&&G.kd[j]? == some .cell)))=true:=(Bool.and_eq_true_iff.mp hT).1
  have NM:G.io≠some j:=by simpa using(Bool.and_eq_true_iff.mp hT).2
  rw[Bool.and_eq_true,Bool.or_eq_true,Bool.and_eq_true] at E5
  have hx:G.N[j]? = some y:=eq_of_beq E5.1
  have hk:=g.kd j y hx
  have GZ:Loc X.env.scope y:=E5.2.elim (fun z=>.inl (hk.trans (eq_of_beq z))) fun z=>.inr (hk.trans (eq_of_beq z.2))
  have Hs:X.fn y=true∨X.env.scope.names.lookup y=some .local:=E5.2.elim (fun z=>.inr (hk.trans (eq_of_beq z))) fun z=>.inl (g.df z.1 y)
  have Kr:(vars a0++ao es).contains i=false:=by simpa using Kr
  have pi:=og (p:=p) (pos:=q') g hf (by simpa using So) Et CS
  have pa:=aF (snd a0 X ex G e0 g Sw).1 (aF pi bF (ah (e:=.Call (.Name xf p) args [] q') rfl _ _)) (ah Po _ _)
  refine aO (jj (i:=j) (by rw[g.N];exact g.CP) (by rw[g.N];exact hx) GZ (oh (p:=pg) (pos:=qp) g Ss Su Po rfl pa) rfl Hs) fun Dn σ H hh=>?_
  obtain⟨B,F,τ,fo,m,q⟩:=hh
  have q0:Ck ex (match ai τ i with|some (.Cu true ks vs)=>Co (aC vs) (Ci (Cn cl a0 τ) fun x=>Ci (aG cl es τ) fun ds=>Ci (Ed (cl f (Cy ds++[.Cu false ks vs]))) (fR cl j g0 i x (CK (vars a0++ao es) τ)))|_=>Cq) (Fk X.K B Dn):=q
  cases zs:ai τ i with
  | none=>rw[zs] at q0;exact q0.no.elim
  | some dd=>
   rw[zs] at q0
   cases dd with
   | Cu ow ks NP=>
    cases ow with
    | false=>exact q0.no.elim
    | true=>
     obtain⟨gd,q1⟩:=Ck.Co q0
     obtain⟨F1,gg,b1,b2,b3,b4,b5,b6⟩:=cN (vars a0++ao es) m.CI m.Df m.CP
     have zf:ai (CK (vars a0++ao es) τ) i=some (.Cu true ks NP):=(eX (vars a0++ao es) τ 0 i (by rw[Nat.zero_add];exact Kr)).trans zs
     obtain⟨a,kvs,g1,DA,Ui,Sy,JG,Pp,_,_⟩:=dy b2 zf (bp gd)
     refine aI (.refl _) b6.left (Ck.Ci q1) fun x0 v0 H1 e1 _ mx q1=>?_
     refine n8 DA es e1 b6.right (Ck.Ci q1) fun ds ws H2 e2 OD ms q2=>?_
     obtain⟨c1,c2,c3⟩:=grow (fun _=>True) b1 b2 e2
     obtain⟨a',kvs',gz,Gs,LG,Ks,Sz,NQ,r0,p0⟩:=dy c2 zf (bp gd)
     rw[DA] at Gs
     cases Gs
     have Pq:=e2 _ _ Sy
     rw[Ks] at Pq
     cases Pq
     have m2:C3 X.K B (fun b=>F1 b∨(True/\H b=none/\H2 b≠none)) H2 σ (CK (vars a0++ao es) τ) gg:=m.EE (b4.trans c3 (fun x hx=>.inl (b5 x hx))) c1 c2 b3 fun b hb=>.inl (b5 b hb)
     cases zc:cl f (Cy ds++[.Cu false ks NP]) with
     | error er=>rw[zc] at q2;exact q2.no.elim
     | ok rr=>
      rw[zc] at q2
      have q3:Ck ex (fR cl j g0 i x0 (CK (vars a0++ao es) τ) rr) (Fk X.K B Dn):=q2
      obtain⟨d,Gu,Fw,rfl⟩:∃ d Gu Fw,rr=.tup [d,.Cu false Gu Fw]:=by
       unfold fR at q3
       split at q3
       ·exact⟨_,_,_,rfl⟩
       ·exact q3.no.elim
      obtain⟨Mz,q4⟩:=Ck.Co (show Ck ex (Co (aC Fw) (Ci (Ed (cl g0 [er x0,er d])) fun r=>.ok (.nx (((CK (vars a0++ao es) τ).set i (some (.Cu true Gu Fw))).set j (some r))))) (Fk X.K B Dn) from q3)
      refine⟨a,_,ws,ds,kvs,NP,rfl,⟨c1,LG,Ks,ms.step (fun b xs h r=>⟨h.elim (fun z=>.inl z) fun z=>.inr ⟨trivial,z,r.some⟩,r⟩) fun b xs h=>h,(NQ.read (S:=fun _=>True) (fun _ _=>trivial) fun _ _=>trivial).sc gd,gd⟩,d,Gu,Fw,by rw[JG];exact zc,Mz,fun v H' F' fv HV o=>?_⟩
      obtain⟨g',mF,SA,SD⟩:=sG m2 DA LG Ks r0 p0 o Mz
      have F6:Cm X.K F' H' v0 x0:=((mx.later OD).step (S':=fun b=>F1 b∨(True/\H b=none/\H2 b≠none)) (H':=H2) (fun b xs h r=>⟨h.elim (fun z=>.inl z) fun z=>.inr ⟨trivial,z,r.some⟩,r⟩) fun b xs h=>h).step (fun b u hb r=>⟨o.out.Dz b hb,o.out.same.rd (kg (fun z=>LG (z ▸ hb)) r)⟩) fun b xs h=>o.out.same.DH (gN Ks h)
      refine⟨fun b=>F' b∨b∈fv,[x0,d],fun b hb=>hb.elim (o.out.CI b) fun z=>by obtain⟨_,u,hu⟩:=o.out.rep.own b z;rw[hu];simp,.cons (F6.step (fun b u hb r=>⟨.inl hb,r⟩) fun b xs h=>h) (.cons (o.out.rep.read (fun b hb=>.inl hb) fun b hb=>.inr hb) .nil),?_⟩
      show Ck ex (cl g0 [er x0,er d]) _
      cases zg:cl g0 [er x0,er d] with
      | error er=>rw[zg] at q4;exact q4.no.elim
      | ok r=>
       rw[zg] at q4
       have q5:Fk X.K B Dn (.nx (((CK (vars a0++ao es) τ).set i (some (.Cu true Gu Fw))).set j (some r))):=q4
       intro v3 H3 F3 Uj o3
       have IA:∀ b∈g',b∉fv:=fun b hb hc=>(List.nodup_append.mp SA).2.2 b hc b hb rfl
       have r3:CN X.K F3 H3 σ ((CK (vars a0++ao es) τ).set i (some (.Cu true Gu Fw))) g':=mF.Df.step (fun b u hb rd=>⟨o3.Dz b (.inl hb),o3.same.rd rd⟩) (fun b xs h=>o3.same.DH h) fun b hb n1 n2=>by
        obtain⟨_,u,hu⟩:=mF.Df.own b hb
        refine⟨fun z=>?_,(o3.same _ _ hu).trans hu.symm⟩
        rcases o3.out b z with (z|z)|z
        ·exact n1 z
        ·exact IA b hb z
        ·exact n2 z
       have m3:C3 X.K B F3 H3 σ ((CK (vars a0++ao es) τ).set i (some (.Cu true Gu Fw))) g':=⟨o3.CI,r3,mF.CP,mF.same.trans o3.same,mF.own,fun b hb=>o3.Dz b (.inl (mF.Dz b hb)),fun b hb=>by
        rcases o3.out b hb with (z|z)|z
        ·exact mF.out b z
        ·exact .inr (SD b z)
        ·exact .inr (mF.same.free z),fun b xs hb=>⟨o3.Dz b (.inl (mF.pin b xs hb).1),o3.same.rd (mF.pin b xs hb).2⟩,fun b xs hb=>o3.same.DH (mF.GY b xs hb),mF.nm⟩
       obtain⟨f5,m5⟩:=m3.put j o3.rep (List.nodup_append.mpr ⟨o3.CP,mF.CP,fun b h1 c h2 e=>by
        subst e
        obtain⟨_,u,hu⟩:=mF.Df.own b h2
        rw[o3.new b h1] at hu
        cases hu⟩) (fun b hb=>mF.same.free (o3.new b hb)) NM
       exact q5 _ _ _ _ m5
   | _=>exact q0.no.elim
 | _=>cases hn
end
section
variable {Z:Sg}{CX:Dw}{cl:Nat->List D->Res D}{xp:XK->Hp->Str->Prop}{X:Cx}{ex:Str->Prop}{G:Gm}
theorem DU (g:CU Z CX cl xp X ex G){i:Nat}{k e:IR}{x:Str}{p sp pos:Pos}{s v:Expr}(h1:b8 G i x=true)(h2:aY s=true)(h3:Cv Z G k s=true)(h4:Cv Z G e v=true) :
  PS X (.Assign [.Subscript (.Name x p) s sp] v pos) (RS X.K G.io ex (Dm cl (.En i k e))):=by
 refine aO (mS (Kp e false X ex G v g h4) (wa (eW g h1) (snd k X ex G s g h3).1 set_list (by intro _;cases s<;>first|rfl|cases h2)) (by cases v<;>rfl) (by cases v<;>rfl) rfl) fun Dn σ H h=>?_
 obtain⟨B,F,τ,f,m,q⟩:=h
 refine m.ro (Ck.Ci q) fun p v H' F' fv f' o hp=>?_
 obtain⟨m',hb⟩:=m.ow o
 have IC:Ck ex (match ai p.2 i with|some (.lst true ds)=>(Ci (Cn cl k p.2) fun|.int z=>(match E4 ds.length z with|some j=>.ok (.nx (p.2.set i (some (.lst true (ds.set j p.1)))))|none=>Cq)|_=>Cq)|_=>Cq) (Fk X.K B Dn):=hp
 cases zs:ai p.2 i with
 | none=>rw[zs] at IC;exact IC.no.elim
 | some d=>
  rw[zs] at IC
  cases d with
  | lst ow ds=>
   cases ow with
   | false=>exact IC.no.elim
   | true=>
    obtain⟨l,xs,DA,hl,hlen⟩:=nZ m'.Df zs
    refine⟨.ref l,DA,m'.rd (Ck.Ci IC) fun y w H2 m2 e2 mw hy=>?_⟩
    cases y with
    | int z=>
     cases mw.CG
     have Hb:Ck ex (match E4 ds.length z with|some j=>.ok (.nx (p.2.set i (some (.lst true (ds.set j p.1)))))|none=>Cq) (Fk X.K B Dn):=hy
     cases hj:E4 ds.length z with
     | none=>rw[hj] at Hb;exact Hb.no.elim
     | some j=>
      rw[hj] at Hb
      obtain⟨k1,k2,k3⟩:=du m'.CI m'.Df e2
      have F7:Cz X.K F' H2 v p.1 fv:=o.rep.EE k3 fun a ha hb=>(List.nodup_append.mp o.CP).2.2 a ha a hb rfl
      have GO:H2 l=some (.lst xs):=e2 _ _ hl
      obtain⟨IB,m3⟩:=m2.write (ys:=xs.set j v) (ds':=ds.set j p.1) zs DA GO F7 o.CP hb fun fi hm=>hm.set F7 j
      exact⟨l,xs,z,j,rfl,rfl,GO,by rw[hlen];exact hj,Hb.ok _ _ _ _ m3⟩
    | _=>exact hy.no.elim
  | _=>exact IC.no.elim
theorem E0 (g:CU Z CX cl xp X ex G){i:Nat}{e:IR}{x:Str}{p apos Cw pos:Pos}{v:Expr}(h1:b8 G i x=true)(h2:(apos.endLine == Cw.line)=true)(h3:notStar v=true)(h4:Cv Z G e v=true) :
  PS X (.Expr (.Call (.Attribute (.Name x p) "append" apos) [v] [] Cw) pos) (RS X.K G.io ex (Dm cl (.app i e))):=by
 have pa:PA X [v] (d8 (RO X.K ex (De cl false e)) mV):=aF (Kp e false X ex G v g h4) bF (ah h3 _ _)
 have Fd:((backTo Cw (starEach [v] X.env)).all (fun x=>!x.1)&&(backToKw Cw (keywordEach [] X.env)).all (fun x=>x.1.isSome)&&decide ([v].length+([]:List Keyword).length+(if ([]:List Keyword).isEmpty then 0 else 1) < 30))=true:=by
  rw[ah h3]
  rfl
 refine aO (gn (jS PySem.F.plainAttrs_list PySem.F.slot_list_append PySem.F.type_list_append fJ (eW g h1) pa rfl Fd h2 (ah h3 _ _) rfl)) fun Dn σ H h=>?_
 obtain⟨B,F,τ,f,m,q⟩:=h
 have q0:Ck ex (match ai τ i with|some (.lst _ _)=>(Ci (De cl false e τ) fun p=>(match ai p.2 i with|some (.lst true ds)=>Co (cF ds.length) (.ok (.nx (p.2.set i (some (.lst true (ds++[p.1]))))))|_=>Cq))|_=>Cq) (Fk X.K B Dn):=q
 cases z0:ai τ i with
 | none=>rw[z0] at q0;exact q0.no.elim
 | some d0=>
  rw[z0] at q0
  cases d0 with
  | lst o0 R4=>
   obtain⟨v0,Uk,g0,a1,a2,a3,a4⟩:=m.Df.at z0
   have hq:∃ l xs,v0=.ref l/\DC X.K H l xs:=by
    cases a2 with
    | Gk _ b1 _=>exact⟨_,_,rfl,.inl b1⟩
    | lstK b1 _=>exact⟨_,_,rfl,b1.sq⟩
    | Ea _ b1 _=>exact⟨_,_,rfl,.inl (.inl b1)⟩
   obtain⟨l,SE,rfl,hq⟩:=hq
   refine⟨.ref l,a1,.inl ⟨rfl,SE,hq⟩,m.ro (Ck.Ci q0) fun p v H' F' fv f' o hp=>?_⟩
   obtain⟨m',hb⟩:=m.ow o
   cases zs:ai p.2 i with
   | none=>rw[zs] at hp;exact hp.no.elim
   | some d=>
    rw[zs] at hp
    cases d with
    | lst ow ds=>
     cases ow with
     | false=>exact hp.no.elim
     | true=>
      obtain⟨gd,hp⟩:=Ck.Co hp
      obtain⟨l',xs,DA,hl,hlen⟩:=nZ m'.Df zs
      rw[a1] at DA
      cases DA
      obtain⟨IB,m3⟩:=m'.write (ys:=xs++[v]) (ds':=ds++[p.1]) zs a1 hl o.rep o.CP hb fun fi hm=>hm.snoc o.rep
      exact⟨l,xs,v,rfl,rfl,hl,by rw[hlen];exact gC gd,hp.ok _ _ _ _ m3⟩
    | _=>exact hp.no.elim
  | _=>exact q0.no.elim
theorem Fk.ID {K:PySem.W.Frag}{io:Option Nat}{B:Bs io}{F F':Addr->Prop}{H H':Hp}{σ:St}{τ Cr:Ev}{f f':List Addr}{v:V}{d:D}{fv:List Addr}(m:C3 K B F H σ τ f)(o:Ow K F H f F' H' σ v d fv Cr f'):Out K B.F B.H F' H' v d fv:=by
 obtain⟨m',hb⟩:=m.ow o
 exact⟨m'.CI,m'.same,o.rep,(List.nodup_append.mp o.CP).1,hb,m'.Dz,m'.out⟩
theorem E1 (g:CU Z CX cl xp X ex G){e:IR}{v:Expr}{pos:Pos}(h:Cv Z G e v=true):PS X (.Return (some v) pos) (RS X.K G.io ex (Dm cl (.ret e))):=by
 refine aO (mO (Kp e true X ex G v g h)) fun Dn σ H ⟨B,F,τ,f,m,q⟩=>?_
 exact m.ro (Ck.Ci q) fun p v H' F' fv f' o hp=>hp.ok _ _ _ _ (Fk.ID m o)
theorem sI {pos:Pos}:PS X (.Return none pos) (RS X.K G.io ex (Dm cl .HK)):=
 aO rj fun Dn σ H ⟨B,F,τ,f,m,q⟩=>q.ok .CD H F [] ⟨m.CI,m.same,.CD,List.nodup_nil,fun a ha=>absurd ha (by simp),m.Dz,m.out⟩
theorem xB (g:CU Z CX cl xp X ex G){e:IR}{v:Expr}{pos:Pos}(hc:gM v=true)(h:Cv Z G e v=true):PS X (.Expr v pos) (RS X.K G.io ex (Dm cl (.exp e))):=by
 refine aO (gn (snd e X ex G v g h).1 (by cases v<;>first|rfl|cases hc)) fun Dn σ H ⟨B,F,τ,f,m,q⟩=>?_
 exact m.rd (Ck.Ci q) fun d v H' m' _ _ hd=>hd.ok _ _ _ _ m'
theorem F8 {c:Expr}{x y:List Stmt}{pos:Pos}{t:IR}{a b:List IS}(hc:PT X c (RT X.K ex (vars t) fun τ=>Ci (Cn cl t τ) aR))(ha:Fy X x (RS X.K G.io ex (aD cl a)))(hb:Fy X y (RS X.K G.io ex (aD cl b))):PS X (.If c x y pos) (RS X.K G.io ex (Dm cl (.Dl t a b))):=by
 refine aO (yr hc ha hb) fun Dn σ H ⟨B,F,τ,f,m,q⟩=>?_
 refine m.rt (Ck.Ci q) fun r H' m' _ hr=>?_
 cases r with
 | true=>rw[if_pos rfl] at hr ⊢;exact⟨B,F,τ,f,m',hr⟩
 | false=>rw[if_neg Bool.false_ne_true] at hr ⊢;exact⟨B,F,τ,f,m',hr⟩
theorem C3.less {K:PySem.W.Frag}{io:Option Nat}{B:Bs io}{L:Addr->LD->Prop}{T:Addr->List V ⊕ Str->Prop}{F:Addr->Prop}{H:Hp}{σ:St}{τ:Ev}{f:List Addr}(m:C3 K (⟨B.F,B.H,fun a xs=>B.L a xs∨L a xs,fun a xs=>B.T a xs∨T a xs,B.N⟩:Bs io) F H σ τ f):C3 K B F H σ τ f:=
 ⟨m.CI,m.Df,m.CP,m.same,m.own,m.Dz,m.out,fun a xs h=>m.pin a xs (.inl h),fun a xs h=>m.GY a xs (.inl h),m.nm⟩
theorem iT:∀ (ds:List D) (i:Nat),(Cy ds).drop i=Cy (ds.drop i):=by
 intro ds i
 rw[bT,bT,List.map_drop]
theorem iU {J:It}{K:PySem.W.Frag}{io:Option Nat}{B:Bs io}{F:Addr->Prop}{H:Hp}{σ:St}{τ:Ev}{f:List Addr}{T:Tg}{body:List IS}{its:List D}{Dn:Ends}(Hk:∀ j∈Ep T,io≠some j)(m:C3 K B F H σ τ f)(w:Er K F H J its)
  (q:Ck ex (forM (fun x τ=>Ci (bK T x τ) fun Cr=>aD cl body Cr) (Cy its) τ) (Fk K B Dn)) :
  ∃ W:Nat->Nat->St->Hp->Prop,(∃ m,W 0 m σ H)/\∀ i m σ H,W i m σ H->(J.stop i H/\Dn.nx σ H)∨(J.go i H/\∃ N:St->Hp->Prop,(∀ CB H',N CB H'->∃ m',m' < m/\W (i+1) m' CB H')/\
   ∀ x H',J.Ht i H x H'->gT K T x σ H' fun E9 H2=>RS K io ex (aD cl body) {Dn with nx:=N,ct:=N,bk:=Dn.nx} E9 H2):=by
 let B':Bs io:=⟨B.F,B.H,fun a xs=>B.L a xs∨(F a/\Rd H a xs.o),fun a xs=>B.T a xs∨C8 K H a xs,B.N⟩
 have m0:C3 K B' F H σ τ f:=⟨m.CI,m.Df,m.CP,m.same,m.own,m.Dz,m.out,fun a xs h=>h.elim (m.pin a xs) id,fun a xs h=>h.elim (m.GY a xs) id,m.nm⟩
 let bd:D->Ev->Res Fl:=fun x τ=>Ci (bK T x τ) fun Cr=>aD cl body Cr
 refine⟨fun i n σ H=>n=its.length - i/\i<=its.length/\∃ F τ f,C3 K B' F H σ τ f/\Ck ex (forM bd ((Cy its).drop i) τ) (Fk K B Dn),⟨its.length,by simp,Nat.zero_le _,F,τ,f,m0,by rw[List.drop_zero];exact q⟩,?_⟩
 rintro i n Oh H1 ⟨rfl,hi,F1,Ip,f1,m1,q1⟩
 have w1:Er K F1 H1 J its:=w.step (fun a xs h r=>m1.pin a xs (.inr ⟨h,r⟩)) fun a xs h=>m1.GY a xs (.inr h)
 by_cases Dk:i < its.length
 ·refine .inr ⟨w1.go Dk,fun σ H=>∃ F τ f,C3 K B' F H σ τ f/\Ck ex (forM bd ((Cy its).drop (i+1)) τ) (Fk K B Dn),fun CB H' h=>⟨its.length - (i+1),by omega,rfl,Dk,h⟩,fun x H' y=>?_⟩
  obtain⟨eH,mx⟩:=w1.Ht y (d:=its[i]) (by simp[Dk])
  have m1:=m1.grow eH
  have hd:(Cy its).drop i=er its[i]::(Cy its).drop (i+1):=by
   rw[iT,List.drop_eq_getElem_cons Dk,Cy,iT]
  rw[hd] at q1
  have q2:=Ck.Ci q1
  refine m1.gT mx.frozen (by simpa using m1.CP) (fun a ha=>absurd ha (by simp)) Hk (Ck.Ci q2) fun Cr CB f' m' h'=>?_
  refine⟨B',F1,Cr,f',m',h'.mono fun r hr=>?_⟩
  cases r with
  | nx Cr=>exact fun CB H' F' f' HQ=>⟨F',Cr,f',HQ,hr⟩
  | ct Cr=>exact fun CB H' F' f' HQ=>⟨F',Cr,f',HQ,hr⟩
  | bk Cr=>exact fun CB H' F' f' HQ=>hr.ok _ _ _ _ HQ.less
  | rt d=>exact fun v H' F' fv o=>hr.ok _ _ _ _ o
 ·have e:i=its.length:=by omega
  subst e
  refine .inl ⟨w1.stop (Nat.le_refl _),?_⟩
  have:(Cy its).drop its.length=[]:=by rw[<- br its,List.drop_length]
  rw[this] at q1
  exact q1.ok _ _ _ _ m1.less
theorem sJ (a b:Int):Cy (bb a b)=bb a b:=by
 unfold bb
 rw[bT,List.map_map]
 rfl
noncomputable def uf (cl:Nat->List D->Res D):Sr->Ev->Res (Int×Int)
 | .C4 n,τ=>Ci (Cn cl n τ) fun|.int i=>Co (aV i) (.ok (0,i))|_=>Cq
 | .DB a b,τ=>Ci (Cn cl a τ) fun x=>Ci (Cn cl b τ) fun y=>match x,y with|.int i,.int j=>Co (aV i&&aV j) (.ok (i,j))|_,_=>Cq
 | _,_=>Cq
def SF (K:PySem.W.Frag)(ex:Str->Prop)(is:List Nat)(f:Ev->Res (Int×Int)):TI:=fun σ H R=>∃ S τ,Slots K S H σ τ is/\Ck ex (f τ) fun p=>∀ H',aq H H'->R (J6 p.1 (p.2 - p.1).toNat) H'
noncomputable def om:Sr->Bool
 | .C4 _=>true
 | .DB _ _=>true
 | _=>false
theorem oq {s:Sr}(h:om s=true){τ:Ev}{k:List D->Prop}(q:Ck ex (cH cl s τ) k):Ck ex (uf cl s τ) fun p=>k (bb p.1 p.2):=by
 cases s with
 | C4 n=>
  refine Ck.mk ((Ck.Ci (show Ck ex (Ci (Cn cl n τ) fun|.int i=>Co (aV i) (.ok (bb 0 i))|_=>Cq) k from q)).mono fun d hd=>?_)
  cases d with
  | int i=>
   obtain⟨gd,hd⟩:=Ck.Co hd
   show Ck ex (Co (aV i) (.ok (0,i))) _
   unfold Co
   rw[if_pos gd]
   exact hd.ok
  | _=>exact hd.no.elim
 | DB a b=>
  refine Ck.mk ((Ck.Ci (show Ck ex (Ci (Cn cl a τ) fun x=>Ci (Cn cl b τ) fun y=>match x,y with|.int i,.int j=>Co (aV i&&aV j) (.ok (bb i j))|_,_=>Cq) k from q)).mono fun d hd=>Ck.mk ((Ck.Ci hd).mono fun e he=>?_))
  cases d with
  | int i=>
   cases e with
   | int j=>
    obtain⟨gd,he⟩:=Ck.Co he
    show Ck ex (Co (aV i&&aV j) (.ok (i,j))) _
    unfold Co
    rw[if_pos gd]
    exact he.ok
   | _=>exact he.no.elim
  | _=>cases e<;>exact he.no.elim
 | _=>first|exact aa h|cases h
theorem B7:∀ (s:Sr) (X:Cx) (ex:Str->Prop) (G:Gm) (e tg:Expr),CU Z CX cl xp X ex G->bV Z G s e=true->om s=true->PI X tg e (SF X.K ex (dg s) (uf cl s)):=by
 intro s X ex G e tg g h hr
 cases s with
 | C4 n=>
  cases e with
  | Call fn args Ee pos=>
   cases fn with
   | Name x p=>
    match args,Ee,h with
    | [a],[],h=>
     have h':(x == "range"&&G.gl.contains 15&&notStar a&&Cv Z G n a)=true:=h
     simp only[Bool.and_eq_true] at h'
     have e1:x = "range":=eq_of_beq h'.1.1.1
     subst e1
     obtain⟨k1,k2,_,_⟩:=bQ g (show aJ[15]? = some ("range" : Str) from rfl) h'.1.1.2
     refine eh (fD k1 k2 (aF (snd n X ex G a g h'.2).1 bF (ah h'.1.2 _ _)) (ah h'.1.2 _ _)) fun σ H Q ⟨S,τ,hs,q⟩=>?_
     refine aI (.refl _) hs (Ck.Ci q) fun x v H1 e1 _ m1 q1=>?_
     cases x with
     | int i=>
      cases m1.CG
      obtain⟨gd,q1⟩:=Ck.Co q1
      have Hf : -(2 ^ 62)<=i/\i < 2 ^ 62:=of_decide_eq_true gd
      refine⟨i,rfl,Hf.1,Hf.2,?_⟩
      have:=q1.ok _ e1
      rw[show (0,i).2 - (0,i).1=i from Int.sub_zero i] at this
      exact this
     | _=>exact q1.no.elim
    | [],_,h=>first|exact aa h|cases h
    | [_],_::_,h=>first|exact aa h|cases h
    | _::_::_,_,h=>first|exact aa h|cases h
   | _=>first|exact aa h|cases h
  | _=>first|exact aa h|cases h
 | DB a b=>
  cases e with
  | Call fn args Ee pos=>
   cases fn with
   | Name x p=>
    match args,Ee,h with
    | [l,r],[],h=>
     have h':(x == "range"&&G.gl.contains 15&&notStar l&&notStar r&&Cv Z G a l&&Cv Z G b r)=true:=h
     simp only[Bool.and_eq_true] at h'
     have e1:x = "range":=eq_of_beq h'.1.1.1.1.1
     subst e1
     obtain⟨k1,k2,_,_⟩:=bQ g (show aJ[15]? = some ("range" : Str) from rfl) h'.1.1.1.1.2
     have hn:=h'.1.1.1.2
     have Ek:=h'.1.1.2
     refine eh (fE k1 k2 (aF (snd a X ex G l g h'.1.2).1 (aF (snd b X ex G r g h'.2).1 bF (ah Ek _ _)) (ah hn _ _)) (by rw[ah hn,ah Ek];rfl) (ah Ek _ _)) fun σ H Q ⟨S,τ,hs,q⟩=>?_
     refine aI (.refl _) hs.left (Ck.Ci q) fun x v H1 e1 _ m1 q1=>?_
     refine aI e1 hs.right (Ck.Ci q1) fun y w H2 e2 Dc m2 q2=>?_
     cases x with
     | int i=>
      cases y with
      | int j=>
       cases m1.CG;cases m2.CG
       obtain⟨gd,q2⟩:=Ck.Co q2
       rw[Bool.and_eq_true] at gd
       have g1 : -(2 ^ 62)<=i/\i < 2 ^ 62:=of_decide_eq_true gd.1
       have g2 : -(2 ^ 62)<=j/\j < 2 ^ 62:=of_decide_eq_true gd.2
       exact⟨i,j,rfl,⟨g1.1,g1.2,g2.1,g2.2⟩,q2.ok _ e2⟩
      | _=>exact q2.no.elim
     | _=>cases y<;>exact q2.no.elim
    | [],_,h=>first|exact aa h|cases h
    | [_],_,h=>first|exact aa h|cases h
    | [_,_],_::_,h=>first|exact aa h|cases h
    | _::_::_::_,_,h=>first|exact aa h|cases h
   | _=>first|exact aa h|cases h
  | _=>first|exact aa h|cases h
 | _=>cases hr
theorem E2 (g:CU Z CX cl xp X ex G){t it:Expr}{x:List Stmt}{pos:Pos}{T:Tg}{s:Sr}{a:List IS}(Ik:(G.cm=true/\G.rs=true)/\bE G T t=true)(Kl:bV Z G s it=true/\dY s t=true)(ha:Fy X x (RS X.K G.io ex (aD cl a))):PS X (.For t it x [] pos) (RS X.K G.io ex (Dm cl (.CM T s a))):=by
 have hT:=Ik.2
 have hs:=Kl.1
 by_cases hr:om s=true
 ·refine aO (mT (g.own Ik.1.2) (g.calm Ik.1.1) (B7 s X ex G it t g hs hr) (Jy g T t hT) ha (fun x=>bR hs X.env x)) fun Dn σ H ⟨B,F,τ,f,m,q⟩=>?_
  have q0:Ck ex (Ci (iF cl s τ) fun p=>forM (fun x τ=>Ci (bK T x τ) fun Cr=>aD cl a Cr) p.1 p.2) (Fk X.K B Dn):=q
  have base:Ck ex (cH cl s τ) fun its=>Ck ex (forM (fun x τ=>Ci (bK T x τ) fun Cr=>aD cl a Cr) its τ) (Fk X.K B Dn):=by
   cases s with
   | C4 u=>exact(Ck.Ci (show Ck ex (Ci (cH cl (.C4 u) τ) fun its=>.ok (its,τ)) _ from Ck.Ci q0)).mono fun its h=>h.ok
   | DB u v=>exact(Ck.Ci (show Ck ex (Ci (cH cl (.DB u v) τ) fun its=>.ok (its,τ)) _ from Ck.Ci q0)).mono fun its h=>h.ok
   | _=>cases hr
  exact⟨fun _=>True,τ,aZ m.Df,(oq hr base).mono fun p hp H1 e1=>iU (dt T t hT) (m.grow e1) (.Gb p.1 p.2) (by rw[sJ];exact hp)⟩
 ·refine aO (mT (g.own Ik.1.2) (g.calm Ik.1.1) (sx s X ex G it t g hs Kl.2) (Jy g T t hT) ha (fun x=>bR hs X.env x)) fun Dn σ H ⟨B,F,τ,f,m,q⟩=>?_
  have q0:Ck ex (Ci (iF cl s τ) fun p=>forM (fun x τ=>Ci (bK T x τ) fun Cr=>aD cl a Cr) p.1 p.2) (Fk X.K B Dn):=q
  have q1:=Ck.Ci q0
  have NR:iF cl s τ=(Ci (cH cl s τ) fun its=>.ok (Cy its,CK (dg s) τ)):=by
   cases s with
   | val u=>rfl
   | zip u v=>rfl
   | _=>exact absurd rfl hr
  rw[NR] at q1
  obtain⟨F1,gg,b1,b2,b3,b4,b5,b6⟩:=cN (dg s) m.CI m.Df m.CP
  refine zD (.refl _) b6 (Ck.Ci q1) fun its J H1 e1 _ w1 hk=>?_
  obtain⟨c1,c2,c3⟩:=grow (fun _=>True) b1 b2 e1
  have m2:C3 X.K B (fun a=>F1 a∨(True/\H a=none/\H1 a≠none)) H1 σ (CK (dg s) τ) gg:=m.EE (b4.trans c3 (fun x hx=>.inl (b5 x hx))) c1 c2 b3 fun a ha=>.inl (b5 a ha)
  exact iU (dt T t hT) m2 (w1.step (fun a xs h r=>⟨h.elim (fun z=>.inl z) fun z=>.inr ⟨trivial,z,r.some⟩,r⟩) fun a xs h=>h) hk.ok
mutual
theorem NS:∀ (a:IS) (X:Cx) (ex:Str->Prop) (G:Gm) (s:Stmt),CU Z CX cl xp X ex G->jF Z G a s=true->PS X s (RS X.K G.io ex (Dm cl a))
 | .asg tg e,X,ex,G,s,g,h=>by
  cases s with
  | Assign ts v pos=>
   match ts,h with
   | [t],h=>
    have h':(bE G tg t&&Cv Z G e v&&(isName t||(isTup t&&notTuple v)))=true:=h
    simp only[Bool.and_eq_true] at h'
    exact EY g h'.1.1 h'.1.2 h'.2
   | [],h=>first|exact aa h|cases h
   | _::_::_,h=>first|exact aa h|cases h
  | _=>first|exact aa h|cases h
 | .par i j a b,X,ex,G,s,g,h=>by cases s<;>first|exact aa h|cases h
 | .En i k e,X,ex,G,s,g,h=>by
  cases s with
  | Assign ts v pos=>
   cases ts with
   | nil=>first|exact aa h|cases h
   | cons t ts=>
    cases ts with
    | cons _ _=>cases t<;>first|exact aa h|cases h|(rename_i o _ _;cases o<;>cases h)
    | nil=>
     cases t with
     | Subscript o s sp=>
      cases o with
      | Name x p=>
       have h':(b8 G i x&&aY s&&Cv Z G k s&&Cv Z G e v)=true:=h
       simp only[Bool.and_eq_true] at h'
       exact DU g h'.1.1.1 h'.1.1.2 h'.1.2 h'.2
      | _=>first|exact aa h|cases h
     | _=>first|exact aa h|cases h
  | _=>first|exact aa h|cases h
 | .DI i k e,X,ex,G,s,g,h=>by
  cases s with
  | Assign ts v pos=>
   cases ts with
   | nil=>first|exact aa h|cases h
   | cons t ts=>
    cases ts with
    | cons _ _=>cases t<;>first|exact aa h|cases h|(rename_i o _ _;cases o<;>cases h)
    | nil=>
     cases t with
     | Subscript o s sp=>
      cases o with
      | Name x p=>
       have h':(b8 G i x&&aY s&&Cv Z G k s&&Cv Z G e v)=true:=h
       simp only[Bool.and_eq_true] at h'
       exact Ei g h'.1.1.1 h'.1.1.2 h'.1.2 h'.2
      | _=>first|exact aa h|cases h
     | _=>first|exact aa h|cases h
  | _=>first|exact aa h|cases h
 | .ext i e,X,ex,G,s,g,h=>by cases s<;>first|exact aa h|cases h
 | .ins i k e,X,ex,G,s,g,h=>by cases s<;>first|exact aa h|cases h
 | .app i e,X,ex,G,s,g,h=>by
  cases s with
  | Expr v pos=>
   cases v with
   | Call fn args Ee Cw=>
    cases fn with
    | Attribute o name apos=>
     cases o with
     | Name x p=>
      match args,Ee,h with
      | [v],[],h=>
       have h':(b8 G i x&&name == "append"&&apos.endLine == Cw.line&&notStar v&&Cv Z G e v)=true:=h
       simp only[Bool.and_eq_true] at h'
       have e1:name = "append":=eq_of_beq h'.1.1.1.2
       subst e1
       exact E0 g h'.1.1.1.1 h'.1.1.2 h'.1.2 h'.2
      | [],_,h=>first|exact aa h|cases h
      | [_],_::_,h=>first|exact aa h|cases h
      | _::_::_,_,h=>first|exact aa h|cases h
     | _=>first|exact aa h|cases h
    | _=>first|exact aa h|cases h
   | _=>first|exact aa h|cases h
  | _=>first|exact aa h|cases h
 | .O0 i,X,ex,G,s,g,h=>by cases s<;>first|exact aa h|cases h
 | .pop j i,X,ex,G,s,g,h=>by cases s<;>first|exact aa h|cases h
 | .Jo j e,X,ex,G,s,g,h=>by
  have h1:Lx s (fun t xf args=>isName t&&bE G (.nm j) t&&xf == "dict"&&G.EC 19&&aB Z G [e] args)=true:=by cases s<;>exact h
  exact EZ g h1
 | .FE i j,X,ex,G,s,g,h=>by
  have h1:Lz s (fun x n l y=>b8 G i x&&n == "update"&&l&&b8 G j y&&decide (i≠j))=true:=by cases s<;>exact h
  exact Ej g h1
 | .O1 j f es i,X,ex,G,s,g,h=>by cases s<;>first|exact aa h|cases h
 | .EV j g0 a f es i,X,ex,G,s,g,h=>by
  have h1:Ly s (fun t xg e xf args=>isName t&&bE G (.nm j) t&&G.cm&&(bI Z G f xf&&Z.EB.contains f)&&aB Z G (es++[.v i]) args&&!(vars a++ao es).contains i&&G.io != some i&&decide (i≠j)&&(bI Z G g0 xg&&Z.GA G g0)&&(notStar e&&Cv Z G a e))=true:=by cases s<;>exact h
  exact DT g h1
 | .O6 i,X,ex,G,s,g,h=>by cases s<;>first|exact aa h|cases h
 | .Le _ _ _,X,ex,G,s,g,h=>by cases s<;>first|exact aa h|cases h
 | .exp e,X,ex,G,s,g,h=>by
  cases s with
  | Expr v pos=>
   have h':(gM v&&Cv Z G e v)=true:=by cases v<;>first|exact h|(rename_i c _ _;cases c<;>exact h)
   simp only[Bool.and_eq_true] at h'
   exact xB g h'.1 h'.2
  | _=>first|exact aa h|cases h
 | .ret e,X,ex,G,s,g,h=>by
  cases s with
  | Return v pos=>
   cases v with
   | none=>first|exact aa h|cases h
   | some v=>exact E1 g h
  | _=>first|exact aa h|cases h
 | .HK,X,ex,G,s,g,h=>by
  cases s with
  | Return v pos=>
   cases v with
   | none=>exact sI
   | some v=>first|exact aa h|cases h
  | _=>first|exact aa h|cases h
 | .Dl t a b,X,ex,G,s,g,h=>by
  cases s with
  | If c x y pos=>
   have h':(Cv Z G t c&&dw Z G a x&&dw Z G b y)=true:=h
   simp only[Bool.and_eq_true] at h'
   exact F8 (snd t X ex G c g h'.1.1).2 (sL a X ex G x g h'.1.2) (sL b X ex G y g h'.2)
  | _=>first|exact aa h|cases h
 | .CM tg s body,X,ex,G,st,g,h=>by
  cases st with
  | For t it b SG pos=>
   cases SG with
   | cons _ _=>first|exact aa h|cases h
   | nil=>
    have h':(((G.cm&&G.rs)&&bE G tg t)&&(bV Z G s it&&dY s t)&&dw Z G body b)=true:=h
    simp only[Bool.and_eq_true] at h'
    exact E2 g h'.1.1 h'.1.2 (sL body X ex G b g h'.2)
  | _=>first|exact aa h|cases h
 | .GS t body,X,ex,G,s,g,h=>by cases s<;>first|exact aa h|cases h
 | .brk,X,ex,G,s,g,h=>by
  cases s with
  | Break pos=>exact aO mM fun Dn σ H ⟨B,F,τ,f,m,q⟩=>q.ok _ _ _ _ m
  | _=>first|exact aa h|cases h
 | .cnt,X,ex,G,s,g,h=>by
  cases s with
  | Continue pos=>exact aO ik fun Dn σ H ⟨B,F,τ,f,m,q⟩=>q.ok _ _ _ _ m
  | _=>first|exact aa h|cases h
 | .pass,X,ex,G,s,g,h=>by
  cases s with
  | Pass pos=>exact aO rh fun Dn σ H ⟨B,F,τ,f,m,q⟩=>q.ok _ _ _ _ m
  | Expr v pos=>
   cases v with
   | Constant c j p=>
    cases c with
    | str z=>exact aO v7 fun Dn σ H ⟨B,F,τ,f,m,q⟩=>q.ok _ _ _ _ m
    | _=>first|exact aa h|cases h
   | _=>first|exact aa h|cases h
  | _=>first|exact aa h|cases h
 | .Dy n c w,X,ex,G,s,g,h=>by
  cases s with
  | Raise e cause pos=>
   cases cause with
   | some _=>exact aa h
   | none=>
    have h:Mw e (fun x=>G.rs&&G.cm&&bI Z G n x&&x == c&&Z.rc.contains (n,c))=true:=h
    obtain⟨x,np,w',j,p,Cw,rfl,h⟩:=xo h
    have h':(G.rs&&G.cm&&bI Z G n x&&x == c&&Z.rc.contains (n,c))=true:=h
    simp only[Bool.and_eq_true] at h'
    have e:=eq_of_beq h'.1.2
    subst e
    exact n6 g h'.1.1.1.1 h'.1.1.1.2 h'.1.1.2 (by simpa using h'.2)
  | _=>exact aa h
 | .Lg body n cs i hd,X,ex,G,s,g,h=>by cases s<;>exact aa h
 | .C6 n c e,X,ex,G,s,g,h=>by
  have h1:rev s (fun o=>Mx o fun x a=>G.rs&&G.cm&&bI Z G n x&&x == c&&Z.rc.contains (n,c)&&aB Z {G with rs:=false,tr:=false} [e] [a])=true:=by cases s<;>exact h
  obtain⟨o,pos,rfl,h2⟩:=xq h1
  obtain⟨x,np,a,Cw,rfl,h3⟩:=xr h2
  simp only[Bool.and_eq_true] at h3
  obtain⟨⟨⟨⟨⟨LB,Et⟩,hx⟩,SH⟩,SI⟩,CS⟩:=h3
  have e:=eq_of_beq SH
  subst e
  exact mz g LB Et hx (by simpa using SI) CS
 | .Lf i f es n cs k hd,X,ex,G,s,g,h=>by cases s<;>first|exact aa h|cases h
 | .never,X,ex,G,s,g,h=>aO mP fun Dn σ H ⟨B,F,τ,f,m,q⟩=>q.no.elim
theorem sL:∀ (as:List IS) (X:Cx) (ex:Str->Prop) (G:Gm) (ss:List Stmt),CU Z CX cl xp X ex G->dw Z G as ss=true->Fy X ss (RS X.K G.io ex (aD cl as))
 | [],X,ex,G,ss,g,h=>by
  cases ss with
  | nil=>exact cK gm fun Dn σ H ⟨B,F,τ,f,m,q⟩=>q.ok _ _ _ _ m
  | cons _ _=>first|exact aa h|cases h
 | a::as,X,ex,G,ss,g,h=>by
  cases ss with
  | nil=>first|exact aa h|cases h
  | cons s ss=>
   have h':(jF Z G a s&&dw Z G as ss)=true:=h
   simp only[Bool.and_eq_true] at h'
   refine cK (c6 (NS a X ex G s g h'.1) (sL as X ex G ss g h'.2)) fun Dn σ H ⟨B,F,τ,f,m,q⟩=>?_
   refine⟨B,F,τ,f,m,(Ck.Ci q).mono fun r hr=>?_⟩
   cases r with
   | nx Cr=>exact fun CB H' F' f' m'=>⟨B,F',Cr,f',m',hr⟩
   | ct Cr=>exact hr.ok
   | bk Cr=>exact hr.ok
   | rt d=>exact hr.ok
end
end
section
variable {P:Program}{w:World}
theorem gP {outer:List Env}{H:Hp}{s:Shared}{E:XK}{e:Value}{s':Shared}(x:C0 P w H s.heap)(fr:∀ b∈Dr outer,H b=none)(h:DJ P w outer (az s.heap H) s E e s'):DJ P w outer H s E e s':=by
 obtain⟨a,cls,a0,H',B,h1,h2,h3,h4,h5,_,h6,h7,h8⟩:=h
 exact⟨a,cls,a0,cC H H',B,h1,h2,h3,jA x h4,gE x h5 (dn h4) (fun b o _=>h6 b o) fr,iL,fun b o e n f=>h6 b o e (bo n) f,h7,h8⟩
theorem gQ {outer:List Env}{H:Hp}{s:Shared}{e:Value}{s':Shared}:¬ DJ P w outer H s (fun _ _ _=>False) e s':=fun ⟨_,_,_,_,_,_,_,_,_,_,_,_,_,z⟩=>z
variable {K:PySem.W.Frag}{mg:Str->Option Value}{base:Heap}{N:List Str}{qual:Str}{scope:Scope}{f:Addr}{cd:Value}{A:Around}{outer:List Env}{s:Shared}{H:Hp}{E:XK}
theorem ug {H':Hp}{B:Heap}{s2:Shared}{a:Addr}{cls a0:Value}(lt:Js H)(os:s2.os=s.os)(bare:AllBare s2.gens)(fl:Heap.FlyingW B outer a cls a0 s2.heap)(hB:C0 P w H' B)
  (kB:∀ b o,s.heap.get? b=some o->H b=none->b∉Dr outer->B.get? b=some o) (hs:∀ b o,s.heap.get? b=some o->H b=none->b∈Dr outer->∃ sl,s2.heap.get? b=some {o with slots:=sl})
  (fr:∀ b o,s.heap.get? b=some o->H b=none->H' b=none) (pz:∀ b o u,H b=some (.CK o u)->H' b=some (.CK o u)) (pt:∀ b xs,H b=some (.tup xs)->H' b=some (.tup xs)) (hE:E cls none H0):DJ P w outer H s E (.ref a) s2:=by
 refine⟨a,cls,a0,H',B,rfl,os,bare,⟨fun b o e n nf _=>fl.1 _ _ (kB b o e n nf),fun b o e n hf _=>hs b o e n hf,fun b o e n _=>fr b o e n,fun b o e _=>?_,pt,pz,fun b ps e=>?_⟩,hB,fun b o e=>(lt b o e).elim (fun ⟨ob,u,z⟩=>by subst z;exact pz _ _ _ e) fun ⟨xs,z⟩=>by subst z;exact pt _ _ e,kB,fl,hE⟩
 ·cases q:H b with
  | none=>
   by_cases hf:b∈Dr outer
   ·obtain⟨sl,h⟩:=hs b o e q hf
    exact⟨_,h⟩
   ·exact⟨_,fl.1 _ _ (kB b o e q hf)⟩
  | some u=>
   have:∃ u',H' b=some u':=by
    rcases lt b u q with ⟨ob,v,rfl⟩|⟨xs,rfl⟩
    ·exact⟨_,pz _ _ _ q⟩
    ·exact⟨_,pt _ _ q⟩
   obtain⟨u',hu⟩:=this
   obtain⟨ob,ho⟩:=(hB b u' hu).at
   exact⟨_,fl.1 _ _ ho⟩
 ·rcases lt b _ e with ⟨ob,v,z⟩|⟨xs,z⟩<;>cases z
theorem uh {b:Addr}{o:Obj}(e:s.heap.get? b=some o)(n:b∉Dr outer):b∉Dr (envOfC qual scope s.heap.objs.size f cd::outer):=fun z=>by
 unfold Dr at z n
 rcases List.mem_filterMap.mp z with ⟨env,hm,hf⟩
 rcases List.mem_cons.mp hm with rfl|hm
 ·have h1:s.heap.objs.size=b:=Option.some.inj hf
  have h2:=Heap.lt_size e
  rw[h1] at h2
  exact Nat.lt_irrefl _ h2
 ·exact n (List.mem_filterMap.mpr ⟨env,hm,hf⟩)
theorem sM (lt:Js H){ex:Str->Prop}(hE:∀ c C,ex c->PySem.W.nsIn K mainGlobals c=some (some (.ref C))->E (.ref C) none H0) :
  Passes (DJ P w) (cp (DJ P w) P w K mg base N qual scope f cd A outer s H E) (fun cls _ _=>∃ c C,ex c/\PySem.W.nsIn K mainGlobals c=some (some (.ref C))/\cls=.ref C):=by
 intro pins σ H1 s1 e s' I ⟨a,cls,a0,H',B,he,os,bare,un,hB,_,kB,fl,c,C,hc,hn,IQ⟩
 subst he IQ
 have I':=I.Ib os un (hB.kept fl.1) bare (fun b z=>absurd z (by simp))
 show wpAny _ _ (leaving _ (.ref a)) _ _ s'
 refine wpAny_leaves_onW (show (A.deeper (envOfC qual scope s.heap.objs.size f cd)).frames=some (envOfC qual scope s.heap.objs.size f cd::outer) from I.ok.frames) rfl fl fun h' SJ up=>?_
 refine ug lt I'.os I'.bare SJ hB (fun b o e n nf=>?_) (fun b o e n hf=>?_) (fun b o e n=>I'.base.free b o e n (by simp[cp])) I'.base.Dq I'.base.DK (hE c C hc hn)
 ·exact kB b o (I.base.keep b o e n nf (by simp[cp])) (I.base.free b o e n (by simp[cp])) (uh e nf)
 ·obtain⟨sl,h1⟩:=I'.base.slot b o e n hf (by simp[cp])
  obtain⟨_,o',E7,nf⟩:=I.ok.Ds.mem hf
  have E7:s.heap.get? b=some o':=E7
  rw[e] at E7
  cases E7
  obtain⟨KJ,h2⟩:=up b _ h1 nf
  exact⟨KJ,h2⟩
theorem ot (lt:Js H){pins:List (Addr×Obj)}{σ:St}{H1:Hp}{s1:Shared}{C e:Addr}{h':Heap}{vs:List Value}(hE:E (.ref C) none H0)
  (I:Inv (cp (DJ P w) P w K mg base N qual scope f cd A outer s H E) pins σ H1 s1) (hx:Heap.MadeExcOf s1.heap h' e (.ref C) vs) :
  (cp (DJ P w) P w K mg base N qual scope f cd A outer s H E).xe (.ref e) {s1 with heap:=h'}:=by
 have NT:∀ env∈(cp (DJ P w) P w K mg base N qual scope f cd A outer s H E).stack,∀ b,env.frame=some b->b∈Dr (cp (DJ P w) P w K mg base N qual scope f cd A outer s H E).stack:=fun env he b hb=>List.mem_filterMap.mpr ⟨env,he,hb⟩
 show wpAny _ _ (leaving _ (.ref e)) _ _ _
 refine wpAny_leaves_madeW (base:=PySem.W.hideAll s1.heap (Dr (cp (DJ P w) P w K mg base N qual scope f cd A outer s H E).stack)) (h:=s1.heap) (show (A.deeper (envOfC qual scope s.heap.objs.size f cd)).frames=some (envOfC qual scope s.heap.objs.size f cd::outer) from I.ok.frames) rfl (fun b o q=>PySem.W.of_hideAll _ q) (PySem.W.funFrames_hide I.stack NT) hx fun h2 t fl _ _ up=>?_
 have IM:∀ b u o,H1 b=some u->s1.heap.get? b=some o->(PySem.W.hideAll s1.heap (Dr (cp (DJ P w) P w K mg base N qual scope f cd A outer s H E).stack)).get? b=some o:=fun b u o hu ho=>PySem.W.hideAll_get _ ho fun z=>by
  rw[I.EM b z] at hu;cases hu
 refine ug (H':=H1) lt I.os I.bare fl (fun b o hb=>?_) (fun b o he n nf=>?_) (fun b o he n hf=>?_) (fun b o e n=>I.base.free b o e n (by simp[cp])) I.base.Dq I.base.DK hE
 ·refine(I.CA b o hb).D8 (fun c u hc hu=>?_) (fun _ z=>z) fun _ _ z=>z
  rcases hc with rfl|hc
  ·exact IM _ _ _ hb hu
  ·exact IM _ _ _ hc hu
 ·exact PySem.W.hideAll_get _ (I.base.keep b o he n nf (by simp[cp])) (uh he nf)
 ·obtain⟨sl,h1⟩:=I.base.slot b o he n hf (by simp[cp])
  obtain⟨_,o',E7,nf⟩:=I.ok.Ds.mem hf
  have E7:s.heap.get? b=some o':=E7
  rw[he] at E7
  cases E7
  obtain⟨KJ,h3⟩:=up b _ (hx.keeps b _ h1) nf
  exact⟨KJ,h3⟩
end
def Pt (K:PySem.W.Frag){io:Option Nat}(B:Bs io)(ex:Str->Prop)(g:Ev->Res Fl):TS:=fun Dn σ H=>∃ F τ f,C3 K B F H σ τ f/\Ck ex (g τ) (Fk K B Dn)
noncomputable def ou (Z:Sg)(G:Gm):List IS->List Stmt->Bool
 | [],[]=>true
 | a::as,s::ss=>jF Z G a s&&ou Z G as ss
 | _,_=>false
section
variable {Z:Sg}{cl:Nat->List D->Res D}{X:Cx}{ex:Str->Prop}{G:Gm}
theorem Pu (g:CU Z (DJ X.prog X.w) cl (F0 X.K) X ex G)(CS:X.stack=X.env::X.outer)(SK:X.env.frame=some X.env.locals)(lt:Js X.EK)(Hu:∀ a:Addr,∀ f∈Z.fns,f∈Z.pl->∀ x,Z.name f=some x->Ju X.prog X.w X.K X.mg X.base (DJ X.prog X.w) (X.A.mark (some (.ref a))) cl (F0 X.K) f x)
  {B0:Bs G.io} (SM:B0.N=none) (SN:B0.H=X.EK) (SO:ED B0.F B0.H) (SQ:∀ a xs,¬ B0.L a xs) (SR:∀ a xs,¬ B0.T a xs):∀ (as:List IS) (ss:List Stmt),ou Z G as ss=true->Fy X ss (Pt X.K B0 ex (aD cl as))
 | [],ss,h=>by
  cases ss with
  | nil=>exact cK gm fun Dn σ H ⟨F,τ,f,m,q⟩=>q.ok _ _ _ _ m
  | cons _ _=>cases h
 | a::as,ss,h=>by
  cases ss with
  | nil=>cases h
  | cons s ss=>
   have h':(jF Z G a s&&ou Z G as ss)=true:=h
   rw[Bool.and_eq_true] at h'
   have p1:PS X s (Pt X.K B0 ex (Dm cl a)):=by
    exact aO (NS a X ex G s g h'.1) fun Dn σ H ⟨F,τ,f,m,q⟩=>⟨B0,F,τ,f,m,q⟩
   refine cK (c6 p1 (Pu g CS SK lt Hu SM SN SO SQ SR as ss h'.2)) fun Dn σ H ⟨F,τ,f,m,q⟩=>?_
   refine⟨F,τ,f,m,(Ck.Ci q).mono fun r hr=>?_⟩
   cases r with
   | nx Cr=>exact fun CB H' F' f' m'=>⟨F',Cr,f',m',hr⟩
   | ct Cr=>exact hr.ok
   | bk Cr=>exact hr.ok
   | rt d=>exact hr.ok
end
noncomputable def ki (Z:Sg)(fn:Fn)(ps:List Str)(st:Stmt):Bool:=
 (av st).kind == .function&&!(av st).isCoroutine&&!(av st).isGenerator&&decide (fn.G.N.Nodup)&&fn.G.N.take ps.length == ps
&&ps.all (fun x=>(av st).names.lookup x == some .local||(av st).names.lookup x == some .cell)&&(av st).names.all (fun y=>y.2 != .free)
&&(List.range fn.G.N.length).all (fun i=>(fn.G.N[i]?).bind ((av st).names.lookup ·) == fn.G.kd[i]?)
&&fn.G.N.all (fun x=>!(x == "__debug__")&&!(x == "__classdict__"))
&&fn.G.gl.all (fun n=>match Z.name n with|some x=>(av st).names.lookup x == some .globalImplicit|none=>false)
&&decide (ps.length=fn.np)
noncomputable def aK (Z:Sg)(fn:Fn)(ps:List Str)(st:Stmt):Bool:=ki Z fn ps st&&(fn.io.isNone&&ou Z fn.G fn.body (aM st))
noncomputable def MA:List Stmt->(Expr->Bool)->Bool
 | [.Return (some v) _],k=>k v
 | _,_=>false
theorem xC {ss:List Stmt}{k:Expr->Bool}(h:MA ss k=true):∃ v pos,ss=[.Return (some v) pos]/\k v=true:=by
 unfold MA at h
 split at h
 ·exact⟨_,_,rfl,h⟩
 ·cases h
noncomputable def fY (Z:Sg)(G:Gm)(e:IR):List IS->List Stmt->Bool
 | [],ss=>MA ss fun v=>Cv Z G e v
 | a::as,s::ss=>jF Z G a s&&fY Z G e as ss
 | _,_=>false
noncomputable def d4 (Z:Sg)(fn:Fn)(ps:List Str)(st:Stmt):Bool:=ki Z fn ps st&&(match fn.io with
 | some e=>fY Z fn.G e fn.body (aM st)&&fn.G.io == some (fn.np - 1)&&decide (0 < fn.np)&&!fn.G.tr
 | none=>false)
structure G1 (Z:Sg)(fn:Fn)(ps:List Str)(st:Stmt):Prop where
 sc:EO fn.G.N ps (av st)
 kd:∀ (i:Nat) (x:Str),fn.G.N[i]? = some x->(av st).names.lookup x=fn.G.kd[i]?
 GB:∀ x∈fn.G.N,(x == ("__debug__" : Str))=false/\(x == ("__classdict__" : Str))=false
 gl:∀ n∈fn.G.gl,∀ x,Z.name n=some x->(av st).names.lookup x=some .globalImplicit
 np:ps.length=fn.np
structure F9 (Z:Sg)(fn:Fn)(ps:List Str)(st:Stmt):Prop extends G1 Z fn ps st where
 pl:fn.io=none
 body:ou Z fn.G fn.body (aM st)=true
structure G2 (Z:Sg)(fn:Fn)(ps:List Str)(st:Stmt):Prop extends G1 Z fn ps st where
 ex:∃ e,fn.io=some e/\fY Z fn.G e fn.body (aM st)=true/\fn.G.io=some (fn.np - 1)/\0 < fn.np/\fn.G.tr=false
theorem iV {Z:Sg}{fn:Fn}{ps:List Str}{st:Stmt}(h:ki Z fn ps st=true):G1 Z fn ps st:=by
 unfold ki at h
 simp only[Bool.and_eq_true] at h
 obtain⟨⟨⟨⟨⟨⟨⟨⟨⟨⟨h1,h2⟩,h3⟩,h4⟩,h5⟩,h6⟩,h7⟩,h8⟩,h9⟩,Ij⟩,J9⟩:=h
 rw[List.all_eq_true] at h6 h7 h8 h9 Ij
 refine⟨⟨eq_of_beq h1,by simpa using h2,by simpa using h3,of_decide_eq_true h4,eq_of_beq h5,fun x hx=>?_,fun y hy=>by simpa using h7 y hy⟩,fun i x hx=>?_,fun x hx=>by simpa using h9 x hx,fun n hn x hx=>?_,of_decide_eq_true J9⟩
 ·have:=h6 x hx
  rw[Bool.or_eq_true] at this
  exact this.elim (fun z=>.inl (eq_of_beq z)) fun z=>.inr (eq_of_beq z)
 ·have Dk:i < fn.G.N.length:=(List.getElem?_eq_some_iff.mp hx).1
  have:=eq_of_beq (h8 i (List.mem_range.mpr Dk))
  rw[hx] at this
  exact this
 ·have:=Ij n hn
  rw[hx] at this
  exact eq_of_beq this
theorem iW {Z:Sg}{fn:Fn}{ps:List Str}{st:Stmt}(h:aK Z fn ps st=true):F9 Z fn ps st:=by
 unfold aK at h
 rw[Bool.and_eq_true,Bool.and_eq_true] at h
 exact⟨iV h.1,Option.isNone_iff_eq_none.mp h.2.1,h.2.2⟩
theorem ox {Z:Sg}{fn:Fn}{ps:List Str}{st:Stmt}(h:d4 Z fn ps st=true):G2 Z fn ps st:=by
 unfold d4 at h
 rw[Bool.and_eq_true] at h
 obtain⟨h1,h2⟩:=h
 refine⟨iV h1,?_⟩
 cases z:fn.io with
 | none=>rw[z] at h2;cases h2
 | some e=>
  rw[z] at h2
  have h2:(fY Z fn.G e fn.body (aM st)&&fn.G.io == some (fn.np - 1)&&decide (0 < fn.np)&&!fn.G.tr)=true:=h2
  simp only[Bool.and_eq_true] at h2
  exact⟨e,rfl,h2.1.1.1,eq_of_beq h2.1.1.2,of_decide_eq_true h2.1.2,by simpa using h2.2⟩
structure G3 (K:PySem.W.Frag)(mg:Str->Option Value)(Z:Sg)(T:Tb)(f:Nat)(x:Str):Prop where
 ex:∃ (fn:Fn) (st:Stmt) (fa:Addr) (fd:FuncData) (ps:List Str),T f=some fn/\Ig K x x st fa fd/\mg x=some (.ref fa)/\Binds K fd ps []/\G2 Z fn ps st
structure CT (K:PySem.W.Frag)(mg:Str->Option Value)(Z:Sg)(T:Tb)(f:Nat)(x:Str):Prop where
 ex:∃ (fn:Fn) (st:Stmt) (fa:Addr) (fd:FuncData) (ps:List Str),T f=some fn/\Ig K x x st fa fd/\mg x=some (.ref fa)/\Binds K fd ps []/\F9 Z fn ps st
section
variable {P:Program}{w:World}{K:PySem.W.Frag}{mg:Str->Option Value}{base:Heap}{Z:Sg}{T:Tb}
def Pw (mg:Str->Option Value)(x:Str)(v:V):Prop:=(∃ C,v=.ref C/\mg x=some (.ref C))∨(∃ T,v=.ty T/\mg x=none/\bootBuiltins x=some (.type T))
structure EF (K:PySem.W.Frag)(mg:Str->Option Value)(Z:Sg)(T:Tb):Prop where
 Hd:∀ n x,Z.name n=some x->x≠"__name__"/\(x == ("__debug__" : Str))=false
 blt:∀ (n:Nat) (x:Str),aJ[n]? = some x->mg x=none
 cst:∀ n d x,(n,d)∈Z.Kf->Z.name n=some x->∃ u v,mg x=some u/\RelV v u/\∀ S H,Cm K S H v d
 fns:∀ f∈Z.fns,∀ x,Z.name f=some x->CT K mg Z T f x
 EB:∀ f∈Z.EB,∀ x,Z.name f=some x->G3 K mg Z T f x
 Px:∀ f∈Z.pl,∀ fn,T f=some fn->fn.G.cm=false
 Iu:∀ n∈Z.cls,∀ x,Z.name n=some x->∃ v,Pw mg x v
 Iw:∀ c n b x,(c,n,b)∈Z.xt->Z.name n=some x->∃ C,PySem.W.nsIn K mainGlobals c=some (some (.ref C))/\ExcAt K C/\∀ v,Pw mg x v->PySem.W.kitOne K (.ref C) (vv v)=some b
 Iy:∀ c n x,(c,n)∈Z.xm->Z.name n=some x->∃ C C',PySem.W.nsIn K mainGlobals c=some (some (.ref C))/\PySem.W.nsIn K mainGlobals x=some (some (.ref C'))/\nameIn K C=some c/\mg x=some (.ref C')/\PySem.W.exmOne K (.ref C) (.ref C')=some true
 He:∀ n c,(n,c)∈Z.rc->Z.name n=some c/\∃ C,mg c=some (.ref C)/\PySem.W.nsIn K mainGlobals c=some (some (.ref C))/\PySem.W.excIn K C Kh "ValueError.__new__" = true
theorem fZ {F:Addr->Prop}{H:Hp}:∀ {vs:List V}{ds:List D} (n:Nat),Cj K F H vs ds->CN K F H (vs.map some++List.replicate n none) ((Cy ds).map some++List.replicate n none) []
 | [],[],n,.nil=>by
  induction n with
  | zero=>exact .nil
  | succ n ih=>exact .none ih
 | v::vs,d::ds,n,.cons h1 h2=>.some (f:=[]) h1.frozen (fZ n h2)
structure Rm (n:Nat)(A:Around):Prop where
 dp:A.depth+3*n+5 < recursionLimit
 un:A.units+16*n+200 < cLine
theorem Rm.room {n:Nat}{A:Around}(r:Rm n A)(hn:n < 900)(h:A.handled=none):Dv n A:=⟨fun _=>h,by have:=r.dp;rw[Nat.mod_eq_of_lt (by omega)];exact this,by have:=r.un;rw[Nat.mod_eq_of_lt (by omega)];exact this⟩
theorem Rm.IE {n:Nat}{A:Around}(r:Rm n A)(hn:n < 900):Dv (1000+n) A:=⟨fun z=>by omega,by have:=r.dp;rw[show (1000+n) % 1000=n by omega];exact this,by have:=r.un;rw[show (1000+n) % 1000=n by omega];exact this⟩
theorem Rm.of {n k:Nat}{A:Around}(r:Dv k A)(h:k % 1000=n):Rm n A:=⟨by have:=r.dp;rw[h] at this;exact this,by have:=r.un;rw[h] at this;exact this⟩
theorem gR (t:EF K mg Z T){n k:Nat}{f:Nat}{fn:Fn}{x:Str}{st:Stmt}{fa:Addr}{fd:FuncData}{ps:List Str}(hk:k % 1000=n)(hn:n < 900)(h1:T f=some fn)(h2:Ig K x x st fa fd)(h5:F9 Z fn ps st)(hp:k < 1000∨fn.G.cm=false)
  (ih:∀ (A:Around),Rm n A->∀ f∈Z.fns,(A.handled=none∨f∈Z.pl)->∀ x,Z.name f=some x->Ju P w K mg base (DJ P w) A (af T n) (F0 K) f x)
  (JK:∀ (A:Around),Rm n A->∀ f∈Z.EB,A.handled=none->∀ x,Z.name f=some x->Mo P w K mg base (DJ P w) A (af T n) f x) :
  DN P w K mg base (DJ P w) (k+1) fa fd ps (Jt K (af T (n+1)) (F0 K) f ps):=by
 have Es:∀ ds,af T (n+1) f ds=cA (af T n) fn ds:=fun ds=>by
  show (match T f with|some fn=>(match fn.io with|none=>cA (af T n) fn ds|some e=>cB (af T n) fn e ds)|none=>Cq)=_
  rw[h1]
  show (match fn.io with|none=>cA (af T n) fn ds|some e=>cB (af T n) fn e ds)=_
  rw[h5.pl]
 obtain⟨oc,od,kV,doc,pm,an,Em,ct,Hv,rfl,lk,GD⟩:=h2.ex
 refine tO lk GD h5.sc (by omega) (fun vs H Q E h=>h.1) fun A outer s H vs Q E hr Ft=>?_
 obtain⟨hl,lt,F,ds,CI,m,q⟩:=Ft
 have Et:fn.G.cm=true->A.handled=none:=fun z=>hp.elim (fun h=>hr.hd h) fun h=>by rw[h] at z;cases z
 refine⟨_,Pu (Z:=Z) (cl:=af T n) (ex:=F0 K E H) (G:=fn.G) (B0:=⟨F,H,fun _ _=>False,fun _ _=>False,none⟩) ?_ rfl rfl lt (fun a f' Fq JL x' DP=>ih ((A.deeper (envOfC x (av st) s.heap.objs.size fa Em)).mark (some (.ref a))) ⟨(Rm.of hr hk).dp,(Rm.of hr hk).un⟩ f' Fq (.inr JL) x' DP) rfl rfl CI (fun _ _ z=>z) (fun _ _ z=>z) fn.body (aM st) h5.body,?_⟩
 ·refine⟨rfl,h5.sc.nd,fun z=>by show A.handled.isNone=true;rw[Et z];rfl,h5.sc.kind,?_,fun _=>PassesOwn.leaving,fun i y hy=>h5.kd i y hy,fun i y hy=>h5.GB y (List.mem_of_getElem? hy),fun m hm y hy=>h5.gl m hm y hy,t.Hd,fun _ _=>rfl,t.blt,t.cst,?_,fun f' Fq z x' DP=>JK _ (Rm.of hr hk) f' Fq (Et z) x' DP,t.Iu,t.Iw,t.Iy,t.He,?_,?_,?_,?_,?_⟩
  ·have:=hr.un
   show (A.deeper _).units+42 < cLine
   omega
  ·exact fun f' Fq hc x' DP=>ih _ (Rm.of hr hk) f' Fq (hc.elim (fun z=>.inl (Et z)) .inr) x' DP
  ·exact fun _ pins σ H1 s1 c C h' e vs I hex hn hx=>ot lt (hex C hn) I hx
  ·exact fun _=>⟨rfl,rfl,lt,fun a f' Fq JL x' DP=>ih ((A.deeper (envOfC x (av st) s.heap.objs.size fa Em)).mark (some (.ref a))) ⟨(Rm.of hr hk).dp,(Rm.of hr hk).un⟩ f' Fq (.inr JL) x' DP,fun _ _ _ _ _ _ z=>z,fun c C H' hC Ul Py=>by rw[hC] at Py;cases Py;rfl⟩
  ·exact⟨_,sM (ex:=F0 K E H) lt fun c C hc hn=>hc C hn,fun c H' hc C hn=>⟨c,C,hc,hn,rfl⟩⟩
  ·exact fun outer H s E e s' x fr h=>gP x fr h
  ·exact fun H outer s e s'=>gQ
 ·rw[Es] at q
  obtain⟨gd,q⟩:=Ck.Co q
  have Hf:(Cy ds).length=fn.np:=of_decide_eq_true gd
  have Ek:fn.G.N.length - vs.length=fn.G.N.length - fn.np:=by rw[m.length,<- br ds,Hf]
  refine⟨F,(Cy ds).map some++List.replicate (fn.G.N.length - fn.np) none,[],⟨CI,?_,List.nodup_nil,.refl _,fun a ha=>absurd ha (by simp),fun a h=>h,fun a h=>.inl h,fun a xs h=>h.elim,fun a xs h=>h.elim,fun _ _ _ z=>by cases z⟩,(Ck.Ci q).mono fun r hr=>?_⟩
  ·show CN K F H (start fn.G.N vs) _ []
   unfold start
   rw[Ek]
   exact fZ _ m
  ·cases r with
   | nx Cr=>exact fun CB H' F' f' m'=>hr.ok .CD H' F' [] ⟨m'.CI,m'.same,.CD,List.nodup_nil,fun a ha=>absurd ha (by simp),m'.Dz,m'.out⟩
   | rt d=>exact fun v H' F' fv o=>hr.ok v H' F' fv o
   | bk Cr=>exact hr.no.elim
   | ct Cr=>exact hr.no.elim
theorem iX {F:Addr->Prop}{H:Hp}{a:Addr}{d:D}(hd:Cz K F H (.ref a) d [a]):∀ {vs:List V}{ds:List D} (n:Nat),Cj K F H vs ds->CN K F H ((vs++[V.ref a]).map some++List.replicate n none) ((Cy ds++[d]).map some++List.replicate n none) [a]
 | [],[],n,.nil=>by
  have h0:CN K F H (List.replicate n none) (List.replicate n none) []:=iS (by simp)
  exact .some (f:=[a]) (g:=[]) hd h0
 | v::vs,d::ds,n,.cons h1 h2=>.some (f:=[]) h1.frozen (iX hd n h2)
theorem f6 (o:Bool)(ks:List Key)(es:List D):∀ ds:List D,md (ds++[.Cu o ks es])=ds++[.Cu true ks es]
 | []=>rfl
 | [d]=>rfl
 | d::d'::ds=>by
  show d::md (d'::ds++[.Cu o ks es])=_
  rw[f6 o ks es (d'::ds)]
  rfl
def Pz (K:PySem.W.Frag){io:Option Nat}(B:Bs io)(cl:Nat->List D->Res D)(e:IR)(as:List IS):TS:=fun Dn σ H=>∃ F τ f,C3 K B F H σ τ f/\Ck Di (aD cl as τ) fun r=>∃ Cr,r=.nx Cr/\Ck Di (De cl true e Cr) fun p=>
 ∀ CB F' H' Km JB v fv f' IB,C3 K B F' H' CB Cr f'->Ow K F' H' f' Km JB CB v p.1 fv p.2 IB->Dn.rt v JB
theorem PB {CX:Dw}{cl:Nat->List D->Res D}{xp:XK->Hp->Str->Prop}{X:Cx}{G:Gm}(g:CU Z CX cl xp X Di G)(B:Bs G.io){e:IR}:∀ (as:List IS) (ss:List Stmt),fY Z G e as ss=true->Fy X ss (Pz X.K B cl e as)
 | [],ss,h=>by
  obtain⟨v,pos,rfl,hv⟩:=xC (show MA ss (fun v=>Cv Z G e v)=true by cases ss<;>exact h)
  have p1:PS X (.Return (some v) pos) (Pz X.K B cl e []):=aO (mO (Kp e true X Di G v g hv)) fun Dn σ H ⟨F,τ,f,m,q⟩=>by
   obtain⟨Cr,e',q'⟩:=q.ok
   cases e'
   exact m.ro q' fun p v H' F' fv f' o hp=>hp σ F H F' H' v fv f f' m o
  exact cK (c6 p1 gm) fun Dn σ H ⟨F,τ,f,m,q⟩=>⟨F,τ,f,m,q⟩
 | a::as,ss,h=>by
  cases ss with
  | nil=>cases h
  | cons s ss=>
   have h':(jF Z G a s&&fY Z G e as ss)=true:=h
   rw[Bool.and_eq_true] at h'
   refine cK (c6 (NS a X Di G s g h'.1) (PB g B as ss h'.2)) fun Dn σ H ⟨F,τ,f,m,q⟩=>?_
   refine⟨B,F,τ,f,m,(Ck.Ci q).mono fun r hr=>?_⟩
   cases r with
   | nx Cr=>exact fun CB H' F' f' m'=>⟨F',Cr,f',m',hr⟩
   | ct Cr=>obtain⟨_,z,_⟩:=hr.ok;cases z
   | bk Cr=>obtain⟨_,z,_⟩:=hr.ok;cases z
   | rt d=>obtain⟨_,z,_⟩:=hr.ok;cases z
theorem oy (t:EF K mg Z T){n k:Nat}{f:Nat}{fn:Fn}{x:Str}{st:Stmt}{fa:Addr}{fd:FuncData}{ps:List Str}(hk:k % 1000=n)(hn:n < 900)(h1:T f=some fn)(h2:Ig K x x st fa fd)(h5:G2 Z fn ps st)(hp:k < 1000)
  (ih:∀ (A:Around),Rm n A->∀ f∈Z.fns,(A.handled=none∨f∈Z.pl)->∀ x,Z.name f=some x->Ju P w K mg base (DJ P w) A (af T n) (F0 K) f x)
  (JK:∀ (A:Around),Rm n A->∀ f∈Z.EB,A.handled=none->∀ x,Z.name f=some x->Mo P w K mg base (DJ P w) A (af T n) f x) :
  DN P w K mg base (DJ P w) (k+1) fa fd ps (Lk K (af T (n+1)) f ps):=by
 obtain⟨e,Hk,GI,PD,NU,Nk⟩:=h5.ex
 have Es:∀ ds,af T (n+1) f ds=cB (af T n) fn e ds:=fun ds=>by
  show (match T f with|some fn=>(match fn.io with|none=>cA (af T n) fn ds|some e=>cB (af T n) fn e ds)|none=>Cq)=_
  rw[h1]
  show (match fn.io with|none=>cA (af T n) fn ds|some e=>cB (af T n) fn e ds)=_
  rw[Hk]
 obtain⟨oc,od,kV,doc,pm,an,Em,ct,Hv,rfl,lk,GD⟩:=h2.ex
 refine tO lk GD h5.sc (by omega) (fun vs H Q E h=>h.1) fun A outer s H vs Q E hr Ft=>?_
 obtain⟨hl,a,F,ws,ds,kvs,es,rfl,AI,d,Fv,Eu,hc,NI,q⟩:=Ft
 have Et:A.handled=none:=hr.hd hp
 refine⟨_,PB (Z:=Z) (CX:=DJ P w) (cl:=af T n) (xp:=F0 K) (G:=fn.G) ?_ ⟨F,rm a H,fun _ _=>False,fun _ _=>False,some a⟩ fn.body (aM st) GI,?_⟩
 ·refine⟨rfl,h5.sc.nd,fun z=>by show A.handled.isNone=true;rw[Et];rfl,h5.sc.kind,?_,fun _=>PassesOwn.leaving,fun i y hy=>h5.kd i y hy,fun i y hy=>h5.GB y (List.mem_of_getElem? hy),fun m hm y hy=>h5.gl m hm y hy,t.Hd,fun _ _=>rfl,t.blt,t.cst,fun f' Fq hc x' DP=>ih _ (Rm.of hr hk) f' Fq (.inl Et) x' DP,fun f' Fq z x' DP=>JK _ (Rm.of hr hk) f' Fq Et x' DP,t.Iu,t.Iw,t.Iy,t.He,fun _ pins σ H1 s1 c C h' e vs I hex hn hx=>hex.elim,(fun z=>by rw[Nk] at z;cases z),⟨fun _ _ _=>False,fun pins σ H s e s' _ h=>(gQ h).elim,fun c H z=>z.elim⟩,fun outer H s E e s' x fr h=>gP x fr h,fun H outer s e s'=>gQ⟩
  have:=hr.un
  show (A.deeper _).units+42 < cLine
  omega
 ·rw[Es] at hc
  unfold cB at hc
  obtain⟨gd,hc⟩:=gA hc
  have Hf:(Cy ds++[D.Cu false (kvs.map (·.1)) es]).length=fn.np:=of_decide_eq_true gd
  rw[f6] at hc
  obtain⟨r,PF,hc⟩:=bL hc
  have PH:ws.length=fn.np - 1:=by
   rw[List.length_append,br] at Hf
   rw[AI.ws.length,<- Hf]
   simp
  have Ek:fn.G.N.length - (ws++[V.ref a]).length=fn.G.N.length - fn.np:=by
   rw[List.length_append,PH]
   show fn.G.N.length - (fn.np - 1+1)=_
   rw[Nat.sub_add_cancel NU]
  have m0:Cz K F H (.ref a) (.Cu true (kvs.map (·.1)) es) [a]:=.ET AI.nF AI.at_ rfl (Cj.free (bp AI.lf) AI.vs)
  refine⟨F,(Cy ds++[D.Cu true (kvs.map (·.1)) es]).map some++List.replicate (fn.G.N.length - fn.np) none,[a],⟨AI.CI,?_,by simp,zK,fun b hb=>by rw[List.mem_singleton.mp hb];exact bX,fun b h=>h,fun b h=>.inl h,fun b xs h=>h.elim,fun b xs h=>h.elim,fun j b e1 e2=>?_⟩,?_⟩
  ·show CN K F H (start fn.G.N (ws++[.ref a])) _ [a]
   unfold start
   rw[Ek]
   exact iX m0 _ AI.ws
  ·rw[PD] at e1
   cases e1
   cases e2
   show (start fn.G.N (ws++[.ref a]))[fn.np - 1]? = _
   unfold start
   rw[<- PH,List.map_append,List.append_assoc,List.getElem?_append_right (by simp)]
   simp
  ·rw[PF]
   cases r with
   | nx Cr=>
    obtain⟨p,IC,hc⟩:=bL (show Ci (De (af T n) true e Cr) (Li (fn.np - 1))=.ok _ from hc)
    refine⟨Cr,rfl,?_⟩
    rw[IC]
    intro CB F' H' Km JB v fv f' IB m o
    unfold Li at hc
    split at hc
    ·rename_i Gu Um zs
     obtain⟨gs,hc⟩:=gA hc
     cases hc
     obtain⟨mo,hb⟩:=m.ow o
     obtain⟨l,HV,g1,DA,hF,hH,JG,Pp,Ir,SU⟩:=dy mo.Df zs (bp gs)
     have PJ:=mo.nm _ _ PD rfl
     rw[DA] at PJ
     cases PJ
     refine q v JB Km fv HV ⟨Fk.ID m o,hF,fun z=>?_,hH,JG,(Pp.read (S:=fun _=>True) (fun _ _=>trivial) fun _ _=>trivial).sc gs⟩
     exact(List.nodup_append.mp o.CP).2.2 _ z _ (SU.mem_iff.mpr (List.mem_cons.mpr (.inl rfl))) rfl
    ·cases hc
   | bk _=>cases hc
   | ct _=>cases hc
   | rt _=>cases hc
theorem eY (t:EF K mg Z T):∀ (n:Nat),n < 900->(∀ (A:Around),Rm n A->∀ f∈Z.fns,(A.handled=none∨f∈Z.pl)->∀ x,Z.name f=some x->Ju P w K mg base (DJ P w) A (af T n) (F0 K) f x)/\
  ∀ (A:Around),Rm n A->∀ f∈Z.EB,A.handled=none->∀ x,Z.name f=some x->Mo P w K mg base (DJ P w) A (af T n) f x
 | 0,h9=>by
  refine⟨fun A hr f hf hc x hx=>?_,fun A hr f hf hc x hx=>?_⟩
  ·obtain⟨fn,st,fa,fd,ps,h1,h2,h3,h4,h5⟩:=(t.fns f hf x hx).ex
   have no:∀ vs H Q E,¬ Jt K (af T 0) (F0 K) f ps vs H Q E:=fun vs H Q E ⟨_,_,F,ds,_,_,h⟩=>h
   exact⟨1000+0,fa,fd,ps,h3,h2.kp,h4,⟨fun vs H Q E h=>h.1,fun A outer s H args us vs Q E _ _ _ _ h=>(no _ _ _ _ h).elim⟩,hr.IE h9,fun ex ds k h=>h.elim⟩
  ·obtain⟨fn,st,fa,fd,ps,h1,h2,h3,h4,h5⟩:=(t.EB f hf x hx).ex
   have no:∀ vs H Q E,¬ Lk K (af T 0) f ps vs H Q E:=fun vs H Q E ⟨_,a,F,ws,ds,kvs,es,_,_,d,Fv,Eu,h,_⟩=>by cases h
   exact⟨0,fa,fd,ps,h3,h2.kp,h4,⟨fun vs H Q E h=>h.1,fun A outer s H args us vs Q E _ _ _ _ h=>(no _ _ _ _ h).elim⟩,hr.room h9 hc,fun ds r h=>by cases h⟩
 | n+1,h9=>by
  obtain⟨ih,JK⟩:=eY t n (by omega)
  refine⟨fun A hr f hf hc x hx=>?_,fun A hr f hf hc x hx=>?_⟩
  ·obtain⟨fn,st,fa,fd,ps,h1,h2,h3,h4,h5⟩:=(t.fns f hf x hx).ex
   have hlen:∀ (ex:Str->Prop) ds (k:D->Prop),Ck ex (af T (n+1) f ds) k->ds.length=ps.length:=fun ex ds k h=>by
    have Es:af T (n+1) f ds=cA (af T n) fn ds:=by
     show (match T f with|some fn=>(match fn.io with|none=>cA (af T n) fn ds|some e=>cB (af T n) fn e ds)|none=>Cq)=_
     rw[h1]
     show (match fn.io with|none=>cA (af T n) fn ds|some e=>cB (af T n) fn e ds)=_
     rw[h5.pl]
    rw[Es] at h
    obtain⟨gd,_⟩:=Ck.Co h
    rw[of_decide_eq_true gd,h5.np]
   by_cases Hu:f∈Z.pl
   ·exact⟨1000+n+1,fa,fd,ps,h3,h2.kp,h4,gR t (k:=1000+n) (n:=n) (by omega) (by omega) h1 h2 h5 (.inr (t.Px f Hu fn h1)) ih JK,hr.IE h9,hlen⟩
   ·exact⟨n+1,fa,fd,ps,h3,h2.kp,h4,gR t (k:=n) (n:=n) (by omega) (by omega) h1 h2 h5 (.inl (by omega)) ih JK,hr.room h9 (hc.elim id fun z=>absurd z Hu),hlen⟩
  ·obtain⟨fn,st,fa,fd,ps,h1,h2,h3,h4,h5⟩:=(t.EB f hf x hx).ex
   obtain⟨e,Hk,_⟩:=h5.ex
   refine⟨n+1,fa,fd,ps,h3,h2.kp,h4,oy t (k:=n) (n:=n) (by omega) (by omega) h1 h2 h5 (by omega) ih JK,hr.room h9 hc,fun ds r h=>?_⟩
   have Es:af T (n+1) f ds=cB (af T n) fn e ds:=by
    show (match T f with|some fn=>(match fn.io with|none=>cA (af T n) fn ds|some e=>cB (af T n) fn e ds)|none=>Cq)=_
    rw[h1]
    show (match fn.io with|none=>cA (af T n) fn ds|some e=>cB (af T n) fn e ds)=_
    rw[Hk]
   rw[Es] at h
   obtain⟨gd,_⟩:=gA h
   rw[of_decide_eq_true gd,h5.np]
theorem sN (t:EF K mg Z T)(n:Nat)(hn:n < 900):∀ (A:Around),Rm n A->∀ f∈Z.fns,(A.handled=none∨f∈Z.pl)->∀ x,Z.name f=some x->Ju P w K mg base (DJ P w) A (af T n) (F0 K) f x:=(eY t n hn).1
end
section
variable {P:Program}{w:World}{K:PySem.W.Frag}{mg:Str->Option Value}{base:Heap}{Z:Sg}{T:Tb}
noncomputable def Kv (K:PySem.W.Frag)(cl:Nat->List D->Res D)(f:Nat)(ps:List Str):Sp:=fun vs H Q E=>vs.length=ps.length/\∃ F ds,ED F H/\Cj K F H vs ds/\
 Ck Di (cl f (Cy ds)) fun d=>∀ v H' F' fv,Out K F H F' H' v d fv->Q v H'
theorem oz {cl:Nat->List D->Res D}{k f:Nat}{fa:Addr}{fd:FuncData}{ps:List Str}(F:DN P w K mg base (DJ P w) k fa fd ps (Jt K cl (F0 K) f ps)):DN P w K mg base (DJ P w) k fa fd ps (Kv K cl f ps):=by
 refine⟨fun vs H Q E h=>h.1,fun A outer s H args us vs Q E hr e0 bd r Ft=>?_⟩
 obtain⟨hl,Fc,ds,CI,m,q⟩:=Ft
 have e1:FC P w K mg base A outer s (az s.heap H):=⟨e0.frames,e0.mod,fun b o e=>⟨(e0.bs b o e).1,bo (e0.bs b o e).2⟩,e0.Gv,e0.Ds,fun b hb=>bo (e0.Fs b hb),jz e0.CA,e0.bare⟩
 have hq:Ck (F0 K E (az s.heap H)) (cl f (Cy ds)) fun d=>∀ v H' F' fv,Out K Fc H F' H' v d fv->Q v H':=by
  cases z:cl f (Cy ds) with
  | ok d=>rw[z] at q;exact q
  | error er=>
   rw[z] at q
   cases er with
   | stuck=>exact q.no.elim
   | exc c=>exact False.elim q
 have hs:Jt K cl (F0 K) f ps vs (az s.heap H) (fun v H'=>Fo s.heap (az s.heap H) H'->Q v (cC H H')) E:=
  ⟨hl,nN _ _,_,ds,fun a h=>h.2,gG e0.CA m,hq.mono fun d hd v H' F' fv o p=>hd v _ _ fv (gH e0.CA CI p o)⟩
 refine codeAny_mono (F.run A outer s (az s.heap H) args us vs _ E hr e1 bd r hs) fun r' s' hq=>?_
 cases r' with
 | error e=>exact gP e0.CA e0.Fs hq
 | ok fl=>
  cases fl with
  | ret u=>
   obtain⟨v,H',a1,a2,a3,a4,a5,a6⟩:=hq
   exact⟨v,cC H H',a1,a2,jA e0.CA a3,gE e0.CA a4 (dn a3) (fs:=Dr outer) (fun b o _ e n f=>a3.keep b o e n f (by simp)) e0.Fs,a5,a6 (dn a3)⟩
  | next=>exact hq
  | brk=>exact hq
  | cont=>exact hq
theorem xD (t:EF K mg Z T)(n:Nat)(hn:n < 900){f:Nat}{fn:Fn}{x:Str}{st:Stmt}{fa:Addr}{fd:FuncData}{ps:List Str}(h1:T f=some fn)(h2:Ig K x x st fa fd)(h5:F9 Z fn ps st):DN P w K mg base (DJ P w) (n+1) fa fd ps (Kv K (af T (n+1)) f ps):=
 oz (gR t (k:=n) (n:=n) (by omega) hn h1 h2 h5 (.inl (by omega)) (sN t n hn) (eY t n hn).2)
theorem xE {f n:Nat}{x:Str}{a:Addr}{H:Hp}{ns:List Int}(hS:Ls K H a (ns.map V.int))(hl:af T n f [.lst false (ns.map .int)]=.ok (.bl true)) :
  Kv K (af T n) f [x] [.ref a] H (fun v _=>v=.bl true) fun _ _ _=>False:=by
 have m:Cj K (fun a=>H a≠none) H [.ref a] [.lst false (ns.map .int)]:=by
  refine .cons ?_ .nil
  rcases hS with hS|hS
  ·exact .lst hS.some hS (Cj.ofInts ns)
  ·exact .lstK hS (Cj.ofInts ns)
 refine⟨rfl,fun a=>H a≠none,[.lst false (ns.map .int)],fun a h=>h,m,?_⟩
 have he:Cy [.lst false (ns.map .int)]=[D.lst false (ns.map .int)]:=by
  rw[Cy,Cy,er,bT,List.map_map]
  rfl
 rw[he,hl]
 intro v H' F' fv o
 cases o.rep
 rfl
theorem oA {l:PySem.W.OpenLaw}{q:Program}{loose:List Str}{XP:(Str->Option Value)->Heap->Prop}{YP:World->Heap->Prop}{d:DefRec}{K:Params->PySem.W.Frag}{T:Tb}{n f:Nat}{x:Str}(hn:l.most=some 63)(KW:d.params.defaults=[])(hr:Dv (n+1) callerA)
  (hY:∀ (w:World) (h:Heap),YP w h->(K w.params).In h)
  (F:∀ (w:World) (mg:Str->Option Value) (fa:Addr) (h:Heap),(K w.params).In h->h.Ns mainGlobals mg->mg d.name=some (.ref fa)->
   ∃ fd:FuncData,(∀ (s:Shared) (u:Value),BindsTo s fd ⟨[u],[]⟩ [(x,u)])/\∀ base:Heap,(K w.params).In base->base.Ns mainGlobals mg->DN l.prog w (K w.params) mg base (DJ l.prog w) (n+1) fa fd [x] (Kv (K w.params) (af T (n+1)) f [x]))
  (hl:∀ ns:List Int,ns.length<=63->af T (n+1) f [.lst false (ns.map .int)]=.ok (.bl true)) :
  PySem.W.WalkO q loose XP YP l.row.toRowW d [] (fun f vs=>PySem.call f vs):=
 L2.rG (n:=63) (k:=n+1) (x:=x) (CX:=fun w=>DJ l.prog w) (sp:=fun w=>Kv (K w.params) (af T (n+1)) f [x]) hn (by decide) KW hr hY F (fun w H a ns h1 _ hS=>xE hS (hl ns h1)) fun _ _ _ _ _ z=>gQ z
end
namespace Ev
section
variable {α β:Type}{cl:Nat->List D->Res D}{τ:Ev}{mv:Bool}
theorem oB {a:α}{f:α->Res β}:Ci (.ok a) f=f a:=rfl
theorem ui {x:Res α}:Co true x=x:=rfl
theorem PK {d:D}:Cn cl (.c d) τ=.ok d:=rfl
theorem PL {n:Nat}{d:D}:Cn cl (.g n d) τ=.ok d:=rfl
theorem PM {i:Nat}:Cn cl (.v i) τ=(match ai τ i with|some d=>.ok d|none=>Cq):=rfl
noncomputable def zM (cl:Nat->List D->Res D)(op:GQ)(b:IR)(τ:Ev)(x:D):Res D:=Ci (Cn cl b τ) (D6 op x)
theorem oC {op:GQ}{b:IR}{x:D}:zM cl op b τ x=Ci (Cn cl b τ) (D6 op x):=rfl
theorem uj {op:GQ}{a b:IR}:Cn cl (.bin op a b) τ=Ci (Cn cl a τ) (zM cl op b τ):=rfl
noncomputable def zN:D->Res D
 | .int i=>.ok (.int (-i))
 | _=>Cq
theorem uk {a:IR}:Cn cl (.neg a) τ=Ci (Cn cl a τ) zN:=rfl
theorem oE {i:Int}:zN (.int i)=.ok (.int (-i)):=rfl
noncomputable def NV (r:Bool):Res D:=.ok (.bl r)
theorem um {r:Bool}:NV r=.ok (.bl r):=rfl
noncomputable def oF (op:Gy)(x y:D):Res D:=Ci (FG op x y) NV
theorem kj {op:Gy}{x y:D}:oF op x y=Ci (FG op x y) NV:=rfl
noncomputable def zO (cl:Nat->List D->Res D)(op:Gy)(b:IR)(τ:Ev)(x:D):Res D:=Ci (Cn cl b τ) (oF op x)
theorem oG {op:Gy}{b:IR}{x:D}:zO cl op b τ x=Ci (Cn cl b τ) (oF op x):=rfl
theorem uo {op:Gy}{a b:IR}:Cn cl (.cmp op a b) τ=Ci (Cn cl a τ) (zO cl op b τ):=rfl
noncomputable def oH (cl:Nat->List D->Res D)(b:IR)(τ:Ev)(x:D)(r:Bool):Res D:=if r=true then Cn cl b τ else .ok x
theorem kl {b:IR}{x:D}{r:Bool}:oH cl b τ x r=if r=true then Cn cl b τ else .ok x:=rfl
noncomputable def zP (cl:Nat->List D->Res D)(b:IR)(τ:Ev)(x:D):Res D:=Ci (aR x) (oH cl b τ x)
theorem oI {b:IR}{x:D}:zP cl b τ x=Ci (aR x) (oH cl b τ x):=rfl
theorem uq {a b:IR}:Cn cl (.DQ a b) τ=Ci (Cn cl a τ) (zP cl b τ):=rfl
noncomputable def xF (cl:Nat->List D->Res D)(b:IR)(τ:Ev)(x:D)(r:Bool):Res D:=if r=true then .ok x else Cn cl b τ
theorem oJ {b:IR}{x:D}{r:Bool}:xF cl b τ x r=if r=true then .ok x else Cn cl b τ:=rfl
noncomputable def PN (cl:Nat->List D->Res D)(b:IR)(τ:Ev)(x:D):Res D:=Ci (aR x) (xF cl b τ x)
theorem ur {b:IR}{x:D}:PN cl b τ x=Ci (aR x) (xF cl b τ x):=rfl
theorem zQ {a b:IR}:Cn cl (.Fj a b) τ=Ci (Cn cl a τ) (PN cl b τ):=rfl
noncomputable def oK (r:Bool):Res D:=.ok (.bl !r)
theorem ko {r:Bool}:oK r=.ok (.bl !r):=rfl
noncomputable def zR (x:D):Res D:=Ci (aR x) oK
theorem oM {x:D}:zR x=Ci (aR x) oK:=rfl
theorem uu {a:IR}:Cn cl (.EU a) τ=Ci (Cn cl a τ) zR:=rfl
noncomputable def tupK (ds:List D):Res D:=Co (a8 ds.length) (.ok (.tup ds))
theorem oO {ds:List D}:tupK ds=Co (a8 ds.length) (.ok (.tup ds)):=rfl
theorem uv {es:List IR}:Cn cl (.tup es) τ=Ci (aG cl es τ) tupK:=rfl
noncomputable def lstK (ds:List D):Res D:=Co (a8 ds.length) (.ok (.lst true ds))
theorem oP {ds:List D}:lstK ds=Co (a8 ds.length) (.ok (.lst true ds)):=rfl
theorem uw {es:List IR}:Cn cl (.lst es) τ=Ci (aG cl es τ) lstK:=rfl
noncomputable def zS (cl:Nat->List D->Res D)(i:IR)(τ:Ev)(x:D):Res D:=Ci (Cn cl i τ) (bg x)
theorem oQ {i:IR}{x:D}:zS cl i τ x=Ci (Cn cl i τ) (bg x):=rfl
theorem ux {a i:IR}:Cn cl (.idx a i) τ=Ci (Cn cl a τ) (zS cl i τ):=rfl
noncomputable def xG (cl:Nat->List D->Res D)(hi:Option IR)(τ:Ev)(x:D)(l:Option Int):Res D:=Ci (gy cl hi τ) (fx x l)
theorem oR {hi:Option IR}{x:D}{l:Option Int}:xG cl hi τ x l=Ci (gy cl hi τ) (fx x l):=rfl
noncomputable def PQ (cl:Nat->List D->Res D)(lo hi:Option IR)(τ:Ev)(x:D):Res D:=Ci (gy cl lo τ) (xG cl hi τ x)
theorem uy {lo hi:Option IR}{x:D}:PQ cl lo hi τ x=Ci (gy cl lo τ) (xG cl hi τ x):=rfl
theorem zT {a:IR}{lo hi:Option IR}:Cn cl (.sl a lo hi) τ=Ci (Cn cl a τ) (PQ cl lo hi τ):=rfl
noncomputable def uz (cl:Nat->List D->Res D)(f:Nat)(ds:List D):Res D:=cl f (Cy ds)
theorem kq {f:Nat}{ds:List D}:uz cl f ds=cl f (Cy ds):=rfl
theorem oS {f:Nat}{es:List IR}:Cn cl (.call f es) τ=Ci (aG cl es τ) (uz cl f):=rfl
theorem zU {f:Bi}{es:List IR}:Cn cl (.bi f es) τ=Ci (aG cl es τ) (cv f):=rfl
noncomputable def zV (k:Kd)(x:D):Res D:=Co (iB x) (.ok (.bl (fy k x)))
theorem oT {k:Kd}{x:D}:zV k x=Co (iB x) (.ok (.bl (fy k x))):=rfl
theorem zW {i:Int}:iB (.int i)=true:=rfl
theorem oU {a:IR}:Cn cl (.D5 a) τ=Ci (Cn cl a τ) r6:=rfl
noncomputable def uA (cl:Nat->List D->Res D)(k:IR)(τ:Ev)(x:D):Res D:=Ci (Cn cl k τ) (iD x)
theorem kr {k:IR}{x:D}:uA cl k τ x=Ci (Cn cl k τ) (iD x):=rfl
theorem oV {a k:IR}:Cn cl (.C2 a k) τ=Ci (Cn cl a τ) (uA cl k τ):=rfl
noncomputable def xH (n:Bool)(y x:D):Res D:=iE n x y
noncomputable def zX (cl:Nat->List D->Res D)(n:Bool)(a:IR)(τ:Ev)(y:D):Res D:=Ci (Cn cl a τ) (xH n y)
theorem oW {n:Bool}{a:IR}{y:D}:zX cl n a τ y=Ci (Cn cl a τ) (xH n y):=rfl
theorem uB {n:Bool}{k a:IR}:Cn cl (.G9 n k a) τ=Ci (Cn cl k τ) (zX cl n a τ):=rfl
theorem oX {a:IR}:Cn cl (.ER a) τ=Ci (Cn cl a τ) jW:=rfl
theorem oY {a:IR}:Cn cl (.Fm a) τ=Ci (Cn cl a τ) jV:=rfl
theorem uC {a:IR}{k:Kd}:Cn cl (.Io a k) τ=Ci (Cn cl a τ) (zV k):=rfl
noncomputable def zY (cl:Nat->List D->Res D)(m:Mt)(es:List IR)(τ:Ev)(x:D):Res D:=Co (cV x) (Ci (aG cl es τ) (eE m x))
theorem oZ {m:Mt}{es:List IR}{x:D}:zY cl m es τ x=Co (cV x) (Ci (aG cl es τ) (eE m x)):=rfl
theorem uD {m:Mt}{o:IR}{es:List IR}:Cn cl (.Ha m o es) τ=Ci (Cn cl o τ) (zY cl m es τ):=rfl
noncomputable def xI (ds:List D):Res D:=.ok (.lst true ds)
theorem o4 {ds:List D}:xI ds=.ok (.lst true ds):=rfl
noncomputable def uE (cl:Nat->List D->Res D)(G:Gm)(fr:List Nat)(T:Tg)(I:List IR)(E:IR)(τ:Ev)(its:List D):Res D:=Co (cF its.length) (Ci (Ed (aW (aQ cl T I E (FJ G fr τ)) its)) xI)
theorem ku {G:Gm}{fr:List Nat}{T:Tg}{I:List IR}{E:IR}{its:List D}:uE cl G fr T I E τ its=Co (cF its.length) (Ci (Ed (aW (aQ cl T I E (FJ G fr τ)) its)) xI):=rfl
theorem o5 {G:Gm}{fr:List Nat}{T:Tg}{s:Sr}{I:List IR}{E:IR}:Cn cl (.comp G fr T s I E) τ=Ci (cH cl s τ) (uE cl G fr T I E τ):=rfl
theorem zZ:aG cl [] τ=.ok []:=rfl
noncomputable def o6 (d:D)(ds:List D):Res (List D):=.ok (d::ds)
theorem kx {d:D}{ds:List D}:o6 d ds=.ok (d::ds):=rfl
noncomputable def PR (cl:Nat->List D->Res D)(es:List IR)(τ:Ev)(d:D):Res (List D):=Ci (aG cl es τ) (o6 d)
theorem uF {es:List IR}{d:D}:PR cl es τ d=Ci (aG cl es τ) (o6 d):=rfl
theorem Aa {e:IR}{es:List IR}:aG cl (e::es) τ=Ci (Cn cl e τ) (PR cl es τ):=rfl
noncomputable def Ab:D->Res (Option Int)
 | .int i=>.ok (some i)
 | _=>Cq
theorem o7 {i:Int}:Ab (.int i)=.ok (some i):=rfl
theorem Ac:gy cl none τ=.ok none:=rfl
theorem Ad {e:IR}:gy cl (some e) τ=Ci (Cn cl e τ) Ab:=rfl
theorem Ae:cW cl [] τ=.ok true:=rfl
noncomputable def PU (cl:Nat->List D->Res D)(es:List IR)(τ:Ev)(r:Bool):Res Bool:=if r=true then cW cl es τ else .ok false
theorem uG {es:List IR}{r:Bool}:PU cl es τ r=if r=true then cW cl es τ else .ok false:=rfl
theorem Af {e:IR}{es:List IR}:cW cl (e::es) τ=Ci (Ci (Cn cl e τ) aR) (PU cl es τ):=rfl
noncomputable def uH:D->Res (List D)
 | .int i=>Co (aV i) (.ok (bb 0 i))
 | _=>Cq
noncomputable def o8:D->D->Res (List D)
 | .int i,.int j=>Co (aV i&&aV j) (.ok (bb i j))
 | _,_=>Cq
theorem ky {i:Int}:uH (.int i)=Co (aV i) (.ok (bb 0 i)):=rfl
theorem kz {i j:Int}:o8 (.int i) (.int j)=Co (aV i&&aV j) (.ok (bb i j)):=rfl
theorem Ag {n:IR}:cH cl (.C4 n) τ=Ci (Cn cl n τ) uH:=rfl
noncomputable def PV (cl:Nat->List D->Res D)(b:IR)(τ:Ev)(x:D):Res (List D):=Ci (Cn cl b τ) (o8 x)
theorem uI {b:IR}{x:D}:PV cl b τ x=Ci (Cn cl b τ) (o8 x):=rfl
theorem Ah {a b:IR}:cH cl (.DB a b) τ=Ci (Cn cl a τ) (PV cl b τ):=rfl
theorem uJ {e:IR}:cH cl (.val e) τ=Ci (Cn cl e τ) eF:=rfl
theorem Ai {o:Bool}{ds:List D}:eF (.lst o ds)=.ok ds:=rfl
theorem Aj {ds:List D}:eF (.tup ds)=.ok ds:=rfl
theorem PX {t:IR}:Lh cl t τ=Ci (Cn cl t τ) aR:=rfl
theorem Ms {i:Nat}:De cl mv (.v i) τ=(match ai τ i with|some d=>if mv=true then .ok (d,τ.set i none) else .ok (er d,τ.set i (some (er d)))|none=>Cq):=rfl
noncomputable def uK (p:List D×Ev):Res (D×Ev):=Co (a8 p.1.length) (.ok (.tup p.1,p.2))
theorem kC {p:List D×Ev}:uK p=Co (a8 p.1.length) (.ok (.tup p.1,p.2)):=rfl
theorem F4 {es:List IR}:De cl mv (.tup es) τ=Ci (eG cl mv es τ) uK:=rfl
noncomputable def uL (p:List D×Ev):Res (D×Ev):=Co (a8 p.1.length) (.ok (.lst true p.1,p.2))
theorem kD {p:List D×Ev}:uL p=Co (a8 p.1.length) (.ok (.lst true p.1,p.2)):=rfl
theorem F5 {es:List IR}:De cl mv (.lst es) τ=Ci (eG cl mv es τ) uL:=rfl
noncomputable def gU (es:List IR)(τ:Ev)(d:D):Res (D×Ev):=if aw d=true then .ok (d,τ) else .ok (d,CK (ao es) τ)
theorem f7 {es:List IR}{d:D}:gU es τ d=if aw d=true then .ok (d,τ) else .ok (d,CK (ao es) τ):=rfl
noncomputable def o9 (cl:Nat->List D->Res D)(f:Nat)(es:List IR)(τ:Ev)(ds:List D):Res (D×Ev):=Ci (cl f (Cy ds)) (gU es τ)
theorem iY {f:Nat}{es:List IR}{ds:List D}:o9 cl f es τ ds=Ci (cl f (Cy ds)) (gU es τ):=rfl
theorem EW {f:Nat}{es:List IR}:De cl mv (.call f es) τ=Ci (aG cl es τ) (o9 cl f es τ):=rfl
noncomputable def cI (e:IR)(τ:Ev)(d:D):Res (D×Ev):=.ok (aN e d τ)
theorem kE {e:IR}{d:D}:cI e τ d=.ok (aN e d τ):=rfl
theorem PY {d:D}:De cl mv (.c d) τ=Ci (Cn cl (.c d) τ) (cI (.c d) τ):=rfl
theorem PZ {n:Nat}{d:D}:De cl mv (.g n d) τ=Ci (Cn cl (.g n d) τ) (cI (.g n d) τ):=rfl
theorem uM {op:GQ}{a b:IR}:De cl mv (.bin op a b) τ=Ci (Cn cl (.bin op a b) τ) (cI (.bin op a b) τ):=rfl
theorem uN {a b:IR}:De cl mv (.DQ a b) τ=Ci (Cn cl (.DQ a b) τ) (cI (.DQ a b) τ):=rfl
theorem uO {a i:IR}:De cl mv (.idx a i) τ=Ci (Cn cl (.idx a i) τ) (cI (.idx a i) τ):=rfl
theorem Ak {a:IR}{lo hi:Option IR}:De cl mv (.sl a lo hi) τ=Ci (Cn cl (.sl a lo hi) τ) (cI (.sl a lo hi) τ):=rfl
theorem Am {f:Bi}{es:List IR}:De cl mv (.bi f es) τ=Ci (Cn cl (.bi f es) τ) (cI (.bi f es) τ):=rfl
theorem pd {a:IR}:De cl mv (.D5 a) τ=Ci (Cn cl (.D5 a) τ) (cI (.D5 a) τ):=rfl
theorem EX:De cl mv .D4 τ=.ok (.Cu true [] [],τ):=rfl
theorem uP {m:Mt}{o:IR}{es:List IR}:De cl mv (.Ha m o es) τ=Ci (Cn cl (.Ha m o es) τ) (cI (.Ha m o es) τ):=rfl
theorem pk {G:Gm}{fr:List Nat}{T:Tg}{s:Sr}{I:List IR}{E:IR}:De cl mv (.comp G fr T s I E) τ=Ci (Cn cl (.comp G fr T s I E) τ) (cI (.comp G fr T s I E) τ):=rfl
theorem An:eG cl mv [] τ=.ok ([],τ):=rfl
noncomputable def xJ (d:D)(q:List D×Ev):Res (List D×Ev):=.ok (d::q.1,q.2)
theorem pq {d:D}{q:List D×Ev}:xJ d q=.ok (d::q.1,q.2):=rfl
noncomputable def P0 (cl:Nat->List D->Res D)(mv:Bool)(es:List IR)(p:D×Ev):Res (List D×Ev):=Ci (eG cl mv es p.2) (xJ p.1)
theorem uQ {es:List IR}{p:D×Ev}:P0 cl mv es p=Ci (eG cl mv es p.2) (xJ p.1):=rfl
theorem Ao {e:IR}{es:List IR}:eG cl mv (e::es) τ=Ci (De cl mv e τ) (P0 cl mv es):=rfl
noncomputable def NW (d:D):Res (Option D):=.ok (some d)
theorem uR {d:D}:NW d=.ok (some d):=rfl
noncomputable def xK (cl:Nat->List D->Res D)(E:IR)(τ:Ev)(r:Bool):Res (Option D):=if r=true then Ci (Cn cl E τ) NW else .ok none
theorem pv {E:IR}{r:Bool}:xK cl E τ r=if r=true then Ci (Cn cl E τ) NW else .ok none:=rfl
noncomputable def P1 (cl:Nat->List D->Res D)(I:List IR)(E:IR)(τ:Ev):Res (Option D):=Ci (cW cl I τ) (xK cl E τ)
theorem uS {I:List IR}{E:IR}:P1 cl I E τ=Ci (cW cl I τ) (xK cl E τ):=rfl
theorem kF {T:Tg}{I:List IR}{E:IR}{x:D}:aQ cl T I E τ x=Ci (bK T x τ) (P1 cl I E):=rfl
theorem pC {G:Gm}{fr:List Nat}:FJ G fr τ=fr.map (ai τ)++List.replicate (G.N.length - fr.length) none:=rfl
theorem P2 {e:IR}{i:Int}:aN e (.int i) τ=(.int i,τ):=rfl
theorem P4 {e:IR}{x:Str}:aN e (.str x) τ=(.str x,τ):=rfl
theorem P5 {e:IR}{b:Bool}:aN e (.bl b) τ=(.bl b,τ):=rfl
theorem P6 {e:IR}:aN e .CD τ=(.CD,τ):=rfl
noncomputable def Kw (Cr:Ev):Res Fl:=.ok (.nx Cr)
theorem uT:Kw τ=.ok (.nx τ):=rfl
noncomputable def Ap (tg:Tg)(p:D×Ev):Res Fl:=Ci (bK tg p.1 p.2) Kw
theorem pD {tg:Tg}{p:D×Ev}:Ap tg p=Ci (bK tg p.1 p.2) Kw:=rfl
theorem EY {tg:Tg}{e:IR}:Dm cl (.asg tg e) τ=Ci (De cl false e τ) (Ap tg):=rfl
noncomputable def pE (i:Nat)(p:D×Ev)(ds:List D):D->Res Fl
 | .int z=>(match E4 ds.length z with
  | some j=>.ok (.nx (p.2.set i (some (.lst true (ds.set j p.1)))))
  | none=>Cq)
 | _=>Cq
noncomputable def xM (cl:Nat->List D->Res D)(i:Nat)(k:IR)(p:D×Ev):Option D->Res Fl
 | some (.lst true ds)=>Ci (Cn cl k p.2) (pE i p ds)
 | _=>Cq
theorem pF {i:Nat}{k:IR}{p:D×Ev}{ds:List D}:xM cl i k p (some (.lst true ds))=Ci (Cn cl k p.2) (pE i p ds):=rfl
theorem kG {i:Nat}{p:D×Ev}{ds:List D}{z:Int}:pE i p ds (.int z)=(match E4 ds.length z with|some j=>.ok (.nx (p.2.set i (some (.lst true (ds.set j p.1)))))|none=>Cq):=rfl
noncomputable def pG (cl:Nat->List D->Res D)(i:Nat)(k:IR)(p:D×Ev):Res Fl:=xM cl i k p (ai p.2 i)
theorem iZ {i:Nat}{k:IR}{p:D×Ev}:pG cl i k p=xM cl i k p (ai p.2 i):=rfl
theorem DU {i:Nat}{k e:IR}:Dm cl (.En i k e) τ=Ci (De cl false e τ) (pG cl i k):=rfl
noncomputable def xN (i:Nat)(p:D×Ev):Option D->Res Fl
 | some (.lst true ds)=>Co (cF ds.length) (.ok (.nx (p.2.set i (some (.lst true (ds++[p.1]))))))
 | _=>Cq
noncomputable def xO (i:Nat)(p:D×Ev):Res Fl:=xN i p (ai p.2 i)
theorem pH {i:Nat}{p:D×Ev}:xO i p=xN i p (ai p.2 i):=rfl
noncomputable def Aq (cl:Nat->List D->Res D)(i:Nat)(e:IR)(τ:Ev):Option D->Res Fl
 | some (.lst _ _)=>Ci (De cl false e τ) (xO i)
 | _=>Cq
theorem pI {i:Nat}{e:IR}{o:Bool}{ds:List D}:Aq cl i e τ (some (.lst o ds))=Ci (De cl false e τ) (xO i):=rfl
theorem pJ {i:Nat}{p:D×Ev}{ds:List D}:xN i p (some (.lst true ds))=Co (cF ds.length) (.ok (.nx (p.2.set i (some (.lst true (ds++[p.1])))))):=rfl
noncomputable def cJ (cl:Nat->List D->Res D)(i:Nat)(k:IR)(τ:Ev)(d:D):Option D->Res Fl
 | some (.Cu true ks ds)=>Ci (Cn cl k τ) fun y=>(match cz y with|some q=>Co (aw d&&ak ds&&cF ks.length) (.ok (.nx (τ.set i (some (.Cu true (bM ks q) (bx ks ds q d))))))|none=>Cq)
 | _=>Cq
theorem d5 {i:Nat}{k:IR}{d:D}{ks:List Key}{ds:List D}{x:Str}(h:Cn cl k τ=.ok (.str x))(hl:(aw d&&ak ds&&cF ks.length)=true):cJ cl i k τ d (some (.Cu true ks ds))=.ok (.nx (τ.set i (some (.Cu true (bM ks (.inr x)) (bx ks ds (.inr x) d))))):=by
 show (Ci (Cn cl k τ) fun y=>(match cz y with|some q=>Co (aw d&&ak ds&&cF ks.length) (.ok (Fl.nx (τ.set i (some (.Cu true (bM ks q) (bx ks ds q d))))))|none=>Cq))=_
 rw[h]
 show Co _ _=_
 rw[hl]
 rfl
noncomputable def uU (cl:Nat->List D->Res D)(i:Nat)(k:IR)(τ:Ev)(d:D):Res Fl:=cJ cl i k τ d (ai τ i)
theorem kH {i:Nat}{k:IR}{d:D}:uU cl i k τ d=cJ cl i k τ d (ai τ i):=rfl
theorem Ei {i:Nat}{k e:IR}:Dm cl (.DI i k e) τ=Ci (Cn cl e τ) (uU cl i k τ):=rfl
noncomputable def Ar (j:Nat)(τ:Ev)(d:D):Res Fl:=Ci (l9 j τ d) Kw
theorem pK {j:Nat}{d:D}:Ar j τ d=Ci (l9 j τ d) Kw:=rfl
theorem EZ {j:Nat}{e:IR}:Dm cl (.Jo j e) τ=Ci (Cn cl e τ) (Ar j τ):=rfl
theorem Ej {i j:Nat}:Dm cl (.FE i j) τ=Ci (nB i τ (ai τ i) (ai τ j)) Kw:=rfl
noncomputable def As (cl:Nat->List D->Res D)(j g:Nat)(a:IR)(f:Nat)(es:List IR)(i:Nat)(τ:Ev):Option D->Res Fl
 | some (.Cu true ks vs)=>Co (aC vs) (Ci (Cn cl a τ) fun x=>Ci (aG cl es τ) fun ds=>Ci (Ed (cl f (Cy ds++[D.Cu false ks vs]))) (fR cl j g i x (CK (vars a++ao es) τ)))
 | _=>Cq
theorem DT {j g:Nat}{a:IR}{f:Nat}{es:List IR}{i:Nat}:Dm cl (.EV j g a f es i) τ=As cl j g a f es i τ (ai τ i):=by
 show (match ai τ i with|some (.Cu true ks vs)=>Co (aC vs) (Ci (Cn cl a τ) fun x=>Ci (aG cl es τ) fun ds=>Ci (Ed (cl f (Cy ds++[D.Cu false ks vs]))) (fR cl j g i x (CK (vars a++ao es) τ)))|_=>Cq)=_
 rcases ai τ i with _|d
 ·rfl
 ·cases d<;>first|rfl|(rename_i o ks ds;cases o<;>rfl)
theorem E0 {i:Nat}{e:IR}:Dm cl (.app i e) τ=Aq cl i e τ (ai τ i):=rfl
noncomputable def P7 (p:D×Ev):Res Fl:=.ok (.rt p.1)
theorem uV {p:D×Ev}:P7 p=.ok (.rt p.1):=rfl
theorem E1 {e:IR}:Dm cl (.ret e) τ=Ci (De cl true e τ) P7:=rfl
noncomputable def P8 (cl:Nat->List D->Res D)(a b:List IS)(τ:Ev)(r:Bool):Res Fl:=if r=true then aD cl a τ else aD cl b τ
theorem uW {a b:List IS}{r:Bool}:P8 cl a b τ r=if r=true then aD cl a τ else aD cl b τ:=rfl
theorem pL {n:Nat}{c w:Str}:Dm cl (.Dy n c w) τ=.error (.exc c):=rfl
noncomputable def Au (c:Str)(d:D):Res Fl:=.error (.exc c)
theorem pM {c:Str}{d:D}:Au c d=.error (.exc c):=rfl
theorem kI {n:Nat}{c:Str}{e:IR}:Dm cl (.C6 n c e) τ=Ci (Ed (Cn cl e τ)) (Au c):=rfl
theorem uX {x:Str}{a:IR}{y:Option Str}:Cn cl (.Gz x a y) τ=Ci (Cn cl a τ) (nC x y):=rfl
theorem pN {x:Str}{y:Option Str}{z:Str}:nC x y (.str z)=Co (a8 (x.length+(reprText z).length+(y.getD Str.empty).length)) (.ok (.str (x++reprText z++y.getD Str.empty))):=rfl
theorem uY {α β:Type}{c:Str}{f:α->Res β}:Ci (.error (.exc c)) f=.error (.exc c):=rfl
theorem F8 {t:IR}{a b:List IS}:Dm cl (.Dl t a b) τ=Ci (Lh cl t τ) (P8 cl a b τ):=rfl
noncomputable def turn (cl:Nat->List D->Res D)(tg:Tg)(body:List IS)(x:D)(τ:Ev):Res Fl:=Ci (bK tg x τ) (aD cl body)
theorem ay {tg:Tg}{body:List IS}{x:D}:turn cl tg body x τ=Ci (bK tg x τ) (aD cl body):=rfl
noncomputable def Av (cl:Nat->List D->Res D)(tg:Tg)(body:List IS)(p:List D×Ev):Res Fl:=forM (turn cl tg body) p.1 p.2
theorem pO {tg:Tg}{body:List IS}{p:List D×Ev}:Av cl tg body p=forM (turn cl tg body) p.1 p.2:=rfl
theorem E2 {tg:Tg}{s:Sr}{body:List IS}:Dm cl (.CM tg s body) τ=Ci (iF cl s τ) (Av cl tg body):=rfl
noncomputable def i0 (f:Ev->Res Fl):Fl->Res Fl
 | .nx Cr=>f Cr
 | .ct Cr=>.ok (.ct Cr)
 | .bk Cr=>.ok (.bk Cr)
 | .rt d=>.ok (.rt d)
theorem Aw:aD cl [] τ=.ok (.nx τ):=rfl
theorem Ax {s:IS}{r:List IS}:aD cl (s::r) τ=Ci (Dm cl s τ) (i0 (aD cl r)):=rfl
theorem uZ {f:Ev->Res Fl}:i0 f (.nx τ)=f τ:=rfl
theorem u0 {f:Ev->Res Fl}{d:D}:i0 f (.rt d)=.ok (.rt d):=rfl
noncomputable def xP (τ:Ev)(its:List D):Res (List D×Ev):=.ok (its,τ)
theorem pP {its:List D}:xP τ its=.ok (its,τ):=rfl
noncomputable def u3 (e:IR)(τ:Ev)(its:List D):Res (List D×Ev):=.ok (Cy its,CK (vars e) τ)
theorem kJ {e:IR}{its:List D}:u3 e τ its=.ok (Cy its,CK (vars e) τ):=rfl
theorem u4 {n:IR}:iF cl (.C4 n) τ=Ci (cH cl (.C4 n) τ) (xP τ):=rfl
theorem u5 {a b:IR}:iF cl (.DB a b) τ=Ci (cH cl (.DB a b) τ) (xP τ):=rfl
theorem u6 {e:IR}:iF cl (.val e) τ=Ci (cH cl (.val e) τ) (u3 e τ):=rfl
noncomputable def Ay (body:D->Ev->Res Fl)(xs:List D):Fl->Res Fl
 | .nx Cr=>forM body xs Cr
 | .ct Cr=>forM body xs Cr
 | .bk Cr=>.ok (.nx Cr)
 | .rt d=>.ok (.rt d)
theorem bN {body:D->Ev->Res Fl}{x:D}{xs:List D}:forM body (x::xs) τ=Ci (body x τ) (Ay body xs):=rfl
theorem Az {body:D->Ev->Res Fl}{xs:List D}:Ay body xs (.nx τ)=forM body xs τ:=rfl
theorem AB {i:Nat}{d:D}:bK (.nm i) d τ=.ok (τ.set i (some d)):=rfl
theorem AD {ts:List Tg}{ds:List D}:bK (.tp ts) (.tup ds) τ=Co (decide (ds.length=ts.length)) (c9 ts ds τ):=rfl
theorem u7:c9 [] [] τ=.ok τ:=rfl
theorem u9 {t:Tg}{ts:List Tg}{d:D}{ds:List D}:c9 (t::ts) (d::ds) τ=Ci (bK t d τ) (c9 ts ds):=rfl
theorem AE {o:Option D}:ai (o::τ) 0=o:=by unfold ai;simp
theorem AF {o:Option D}{i:Nat}:ai (o::τ) (i+1)=ai τ i:=bf
theorem vc {o p:Option D}:(o::τ).set 0 p=p::τ:=rfl
theorem ve {o p:Option D}{i:Nat}:(o::τ).set (i+1) p=o::τ.set i p:=rfl
theorem vf {a b:Int}:D6 .add (.int a) (.int b)=.ok (.int (a+b)):=rfl
theorem jH {a b:Str}:D6 .add (.str a) (.str b)=Co (a8 (a.length+b.length)) (.ok (.str (a++b))):=rfl
theorem pQ {o o':Bool}{a b:List D}:D6 .add (.lst o a) (.lst o' b)=Co (a8 (a.length+b.length)) (.ok (.lst true (a++b))):=rfl
theorem vg {a b:Int}:D6 .sub (.int a) (.int b)=.ok (.int (a - b)):=rfl
theorem vi {a b:Int}:D6 .mul (.int a) (.int b)=Co (decide (-(2 ^ 64) < a/\a < 2 ^ 64)||decide (-(2 ^ 64) < b/\b < 2 ^ 64)) (.ok (.int (a*b))):=rfl
theorem xQ {a b:Int}:D6 .fdiv (.int a) (.int b)=Co (decide (0 < b/\b < 1073741824)) (.ok (.int (a / b))):=rfl
theorem AG {a b:Int}:D6 .mod (.int a) (.int b)=Co (decide (0 < b)) (.ok (.int (a % b))):=rfl
theorem LJ {o:Bool}{ds:List D}{i:Int}:bg (.lst o ds) (.int i)=(match DW ds i with|some d=>.ok d|none=>Cq):=rfl
theorem MB {ds:List D}{i:Int}:bg (.tup ds) (.int i)=(match DW ds i with|some d=>.ok d|none=>Cq):=rfl
theorem SV {z:Str}{i:Int}:bg (.str z) (.int i)=Co (a8 z.length) (match DW z.cps.toList i with|some c=>.ok (.str ⟨#[c]⟩)|none=>Cq):=rfl
theorem sO {o:Bool}{ds:List D}{lo hi:Option Int}:fx (.lst o ds) lo hi=.ok (.lst true (cE ds lo hi)):=rfl
theorem AH {z:Str}{lo hi:Option Int}:fx (.str z) lo hi=Co (a8 z.length) (.ok (.str (Txt.slice z lo hi))):=rfl
theorem AJ {b:Bool}:aR (.bl b)=.ok b:=rfl
theorem AK {a b:D}:FG .eq a b=CY 40 a b:=by cases a<;>cases b<;>rfl
noncomputable def AL (r:Bool):Res Bool:=.ok !r
theorem pR {r:Bool}:AL r=.ok !r:=rfl
theorem AM {a b:D}:FG .ne a b=Ci (CY 40 a b) AL:=by cases a<;>cases b<;>rfl
theorem AN {n:Nat}{a b:Int}:CY (n+1) (.int a) (.int b)=.ok (a == b):=rfl
theorem AO {n:Nat}{a b:Str}:CY (n+1) (.str a) (.str b)=.ok (a == b):=rfl
theorem AQ {n:Nat}{o o':Bool}{a b:List D}:CY (n+1) (.lst o a) (.lst o' b)=bD (CY n) a b:=rfl
theorem AR {f:D->D->Res Bool}:bD f [] []=.ok true:=rfl
theorem AS {f:D->D->Res Bool}{a:D}{r:List D}:bD f (a::r) []=.ok false:=rfl
theorem AU {a b:Int}:FG .lt (.int a) (.int b)=.ok (decide (a < b)):=rfl
theorem AV {a b:Int}:FG .le (.int a) (.int b)=.ok (decide (a<=b)):=rfl
theorem AW {a b:Int}:FG .gt (.int a) (.int b)=.ok (decide (b < a)):=rfl
theorem AX {a:D}:FG .Im a .CD=.ok (fQ a):=by cases a<;>rfl
theorem vm {x:Str}:cv .len [.str x]=Co (a8 x.length) (.ok (.int x.length)):=rfl
theorem vn {o:Bool}{ds:List D}:cv .len [.lst o ds]=.ok (.int ds.length):=rfl
theorem pS {a b:Int}:cv .min2 [.int a,.int b]=.ok (.int (if b < a then b else a)):=rfl
theorem pT {a b:Int}:cv .max2 [.int a,.int b]=.ok (.int (if b > a then b else a)):=rfl
theorem i9 {o:Bool}{ds:List D}:cv .list [.lst o ds]=.ok (.lst true ds):=rfl
theorem pU (ns:List Int):bc (ns.map .int)=some ns:=by
 induction ns with
 | nil=>rfl
 | cons n ns ih=>
  show (bc (ns.map .int)).map (n::·)=_
  rw[ih]
  rfl
theorem ja (ns:List Str):bw (ns.map .str)=some ns:=by
 induction ns with
 | nil=>rfl
 | cons n ns ih=>
  show (bw (ns.map .str)).map (n::·)=_
  rw[ih]
  rfl
theorem pV {o:Bool}{ns:List Int}(h:ns.length<=1000000):cv .sum [.lst o (ns.map .int)]=.ok (.int ns.sum):=by
 show (match bc (ns.map .int) with|some ns=>Co (decide (ns.length<=1000000)) (.ok (.int ns.sum))|none=>Cq)=(_:Res D)
 rw[pU]
 show Co (decide (ns.length<=1000000)) _=_
 rw[decide_eq_true h]
 rfl
theorem sP {x:Str}{o:Bool}{ys:List Str}(h:(ys.map (·.length)).sum+ys.length*x.length<=16777216):eE .join (.str x) [.lst o (ys.map .str)]=.ok (.str (Txt.join x ys)):=by
 show (match bw (ys.map .str) with|some ys=>Co (decide ((ys.map (fun y:Str=>y.length)).sum+ys.length*x.length<=16777216)) (.ok (.str (Txt.join x ys)))|none=>Cq)=(_:Res D)
 rw[ja]
 show Co (decide _) _=_
 rw[decide_eq_true h]
 rfl
theorem vp {x:Str}:cV (.str x)=true:=rfl
theorem pW {x:Int}:fy .int (.int x)=true:=rfl
theorem pX {x:Int}:fy .bool (.int x)=false:=rfl
theorem B8 (ns:List Int):ak (ns.map .int)=true:=by
 rw[aX,List.all_map,List.all_eq_true]
 intro x _
 rfl
theorem sQ (ns:List Str):ak (ns.map .str)=true:=by
 rw[aX,List.all_map,List.all_eq_true]
 intro x _
 rfl
theorem AY {i:Int}:er (.int i)=.int i:=by rw[er]
theorem AZ {i:Str}:er (.str i)=.str i:=by rw[er]
theorem A1 {ds:List D}:er (.tup ds)=.tup (Cy ds):=by rw[er]
theorem A4 {o:Bool}{ds:List D}:er (.lst o ds)=.lst false (Cy ds):=by rw[er]
theorem vq:Cy []=[]:=by rw[Cy]
theorem vt {d:D}{ds:List D}:Cy (d::ds)=er d::Cy ds:=by rw[Cy]
theorem gV (ns:List Int):Cy (ns.map .int)=ns.map .int:=bt (B8 ns)
theorem jI (ns:List Str):Cy (ns.map .str)=ns.map .str:=bt (sQ ns)
theorem vw {i:Int}:aw (.int i)=true:=rfl
theorem vx {ds:List D}:aw (.tup ds)=ak ds:=rfl
theorem vy {o:Bool}{ds:List D}:aw (.lst o ds)=false:=rfl
theorem pY:ak []=true:=rfl
theorem pZ {d:D}{ds:List D}:ak (d::ds)=(aw d&&ak ds):=rfl
noncomputable def mB:Fl->Res D
 | .nx _=>.ok .CD
 | .rt d=>.ok d
 | _=>Cq
theorem run {fn:Fn}{ds:List D}(h:ds.length=fn.np):cA cl fn ds=Ci (aD cl fn.body (ds.map some++List.replicate (fn.G.N.length - fn.np) none)) mB:=by
 unfold cA
 rw[decide_eq_true h]
 rfl
theorem p5 {d:D}:mB (.rt d)=.ok d:=rfl
theorem call {T:Tb}{n f:Nat}{fn:Fn}{ds:List D}(h:T f=some fn)(h0:fn.io=none):af T (n+1) f ds=cA (af T n) fn ds:=by
 show (match T f with|some fn=>(match fn.io with|none=>cA (af T n) fn ds|some e=>cB (af T n) fn e ds)|none=>Cq)=_
 rw[h]
 show (match fn.io with|none=>cA (af T n) fn ds|some e=>cB (af T n) fn e ds)=_
 rw[h0]
noncomputable def P9 (cl:Nat->List D->Res D)(e:IR)(p:Nat):Fl->Res D
 | .nx τ=>Ci (De cl true e τ) (Li p)
 | _=>Cq
theorem SW {T:Tb}{n f:Nat}{fn:Fn}{ds:List D}{m k:Nat}{body:List IS}{e:IR}(h:T f=some fn)(h0:fn.io=some e)(h1:fn.np=m)(h2:fn.G.N.length=k)(h3:fn.body=body)(hl:ds.length=m) :
  af T (n+1) f ds=Ci (aD (af T n) body ((md ds).map some++List.replicate (k - m) none)) (P9 (af T n) e (m - 1)):=by
 show (match T f with|some fn=>(match fn.io with|none=>cA (af T n) fn ds|some e=>cB (af T n) fn e ds)|none=>Cq)=_
 rw[h]
 show (match fn.io with|none=>cA (af T n) fn ds|some e=>cB (af T n) fn e ds)=_
 rw[h0]
 show cB (af T n) fn e ds=_
 unfold cB
 rw[decide_eq_true (show ds.length=fn.np by rw[hl,h1]),h1,h2,h3]
 show Ci _ _=Ci _ _
 congr 1
theorem go {T:Tb}{n f:Nat}{fn:Fn}{ds:List D}{m k:Nat}{body:List IS}(h:T f=some fn)(h0:fn.io=none)(h1:fn.np=m)(h2:fn.G.N.length=k)(h3:fn.body=body)(hl:ds.length=m) :
  af T (n+1) f ds=Ci (aD (af T n) body (ds.map some++List.replicate (k - m) none)) mB:=by
 rw[call h h0,run (by rw[hl,h1]),h1,h2,h3]
end
end Ev
namespace Ev
section
variable {cl:Nat->List D->Res D}{τ:Ev}
theorem line:sizeLine=16777216:=sizeLine_eq
theorem p6 {a b:Int}(h1 : -18446744073709551616 < a)(h2:a < 18446744073709551616):D6 .mul (.int a) (.int b)=.ok (.int (a*b)):=by
 rw[vi,decide_eq_true (show -(2 ^ 64) < a/\a < 2 ^ 64 from ⟨by omega,by omega⟩)]
 rfl
theorem p7 {a b:Int}(h1 : -18446744073709551616 < b)(h2:b < 18446744073709551616):D6 .mul (.int a) (.int b)=.ok (.int (a*b)):=by
 rw[vi,decide_eq_true (show -(2 ^ 64) < b/\b < 2 ^ 64 from ⟨by omega,by omega⟩),Bool.or_true]
 rfl
theorem p8 {a b:Int}(h1:0 < b)(h2:b < 1073741824):D6 .fdiv (.int a) (.int b)=.ok (.int (a / b)):=by
 rw[xQ,decide_eq_true ⟨h1,h2⟩]
 rfl
theorem vz {a b:Int}(h1:0 < b):D6 .mod (.int a) (.int b)=.ok (.int (a % b)):=by
 rw[AG,decide_eq_true h1]
 rfl
theorem dO {n:Nat}(h:n<=16777216):a8 n=true:=decide_eq_true (by rw[line];exact h)
theorem gW {n:Nat}(h:n < 16777216):cF n=true:=decide_eq_true (by rw[line];exact h)
theorem kK {i:Int}(h1 : -4611686018427387904<=i)(h2:i < 4611686018427387904):aV i=true:=decide_eq_true ⟨by omega,by omega⟩
theorem sR {α β:Type}(f:α->β)(xs:List α)(i:Int):DW (xs.map f) i=(DW xs i).map f:=by
 unfold DW
 rw[List.length_map]
 cases E4 xs.length i with
 | none=>rfl
 | some j=>exact List.getElem?_map ..
theorem gX {α:Type}{xs:List α}{i:Int}(d:α)(h0:0<=i)(h1:i < xs.length):DW xs i=some (xs.getD i.toNat d):=by
 unfold DW E4
 rw[if_pos h0,if_pos h1]
 show xs[i.toNat]? = _
 have:i.toNat < xs.length:=by omega
 rw[List.getD_eq_getElem?_getD,List.getElem?_eq_getElem this]
 rfl
theorem Kx {o:Bool}{xs:List Int}{i:Int}(h0:0<=i)(h1:i < xs.length):bg (.lst o (xs.map .int)) (.int i)=.ok (.int (xs.getD i.toNat 0)):=by
 rw[LJ,sR,gX 0 h0 h1]
 rfl
theorem NX {z:Str}{i:Int}(h0:0<=i)(h1:i < z.length)(hz:z.length<=16777216):bg (.str z) (.int i)=.ok (.str ⟨#[z.cps.toList.getD i.toNat 0]⟩):=by
 rw[SV,dO hz]
 have hl:z.cps.toList.length=z.length:=by simp[Str.length]
 rw[gX 0 h0 (by rw[hl];exact h1)]
 rfl
noncomputable def fz:Bool->Option D->Option D
 | true,some d=>some (er d)
 | true,none=>none
 | false,o=>o
theorem A5 {d:D}:fz true (some d)=some (er d):=rfl
theorem A6 {o:Option D}:fz false o=o:=rfl
theorem vA {is:List Nat}{k:Nat}:dI is k []=[]:=rfl
theorem vB {is:List Nat}{k:Nat}{o:Option D}{τ:Ev}:dI is k (o::τ)=fz (is.contains k) o::dI is (k+1) τ:=by
 show (if is.contains k then o.map er else o)::dI is (k+1) τ=_
 cases is.contains k<;>cases o<;>rfl
theorem A7 {d:D}:vars (.c d)=[]:=rfl
theorem A8 {n:Nat}{d:D}:vars (.g n d)=[]:=rfl
theorem A9 {i:Nat}:vars (.v i)=[i]:=rfl
theorem p9 {o:GQ}{a b:IR}:vars (.bin o a b)=vars a++vars b:=rfl
theorem qa {es:List IR}:vars (.lst es)=ao es:=rfl
theorem kL {f:Nat}{es:List IR}:vars (.call f es)=ao es:=rfl
theorem vC {f:Bi}{es:List IR}:vars (.bi f es)=ao es:=rfl
theorem qb {a i:IR}:vars (.idx a i)=vars a++vars i:=rfl
theorem vD:ao []=[]:=rfl
theorem vE {e:IR}{es:List IR}:ao (e::es)=vars e++ao es:=rfl
theorem kM {G:Gm}{fr:List Nat}{t:Tg}{s:Sr}{i:List IR}{e:IR}:aU (.comp G fr t s i e)=true:=rfl
theorem qc {a b:IR}:aU (.bin .add a b)=true:=rfl
theorem vF {a:IR}{b c:Option IR}:aU (.sl a b c)=true:=rfl
theorem qd {a i:IR}:aU (.idx a i)=false:=rfl
theorem Ba {e:IR}{o:Bool}{ds:List D}{τ:Ev}:aN e (.lst o ds) τ=cond (aU e) (cond (ak ds) (.lst true ds,τ) (.lst true (Cy ds),CK (vars e) τ)) (.lst false (Cy ds),CK (vars e) τ):=by
 unfold aN
 rw[if_neg (show ¬ aw (.lst o ds)=true by intro z;cases z)]
 cases aU e
 ·exact Prod.ext (by show er (.lst o ds)=_;rw[er];rfl) rfl
 ·show (if ak ds=true then _ else _)=_
  cases ak ds<;>rfl
theorem kN {body:D->Ev->Res Fl}(P:Nat->Ev->Prop):∀ (its:List D) (k:Nat) (τ:Ev),P k τ->(∀ (i:Nat) (x:D) (τ:Ev),its[i]? = some x->P (k+i) τ->∃ Cr,body x τ=.ok (.nx Cr)/\P (k+i+1) Cr)->∃ Cr,forM body its τ=.ok (.nx Cr)/\P (k+its.length) Cr
 | [],k,τ,h,_=>⟨τ,rfl,h⟩
 | x::xs,k,τ,h,hb=>by
  obtain⟨Ip,e1,h1⟩:=hb 0 x τ rfl h
  obtain⟨JH,e2,h2⟩:=kN P xs (k+1) Ip h1 fun i y σ hy hp=>by
   obtain⟨Cr,e',h'⟩:=hb (i+1) y σ (by simpa using hy) (by rw[show k+(i+1)=k+1+i by omega];exact hp)
   exact⟨Cr,e',by rw[show k+1+i+1=k+(i+1)+1 by omega];exact h'⟩
  refine⟨JH,?_,by rw[List.length_cons,show k+(xs.length+1)=k+1+xs.length by omega];exact h2⟩
  rw[bN,e1,oB,Az,e2]
theorem gY {body:D->Ev->Res Fl}(P:Nat->Ev->Prop){its:List D}{τ:Ev}(h:P 0 τ)(hb:∀ (i:Nat)(x:D)(τ:Ev),its[i]? = some x->P i τ->∃ Cr,body x τ=.ok (.nx Cr)/\P (i+1) Cr):∃ Cr,forM body its τ=.ok (.nx Cr)/\P its.length Cr:=by
 obtain⟨Cr,h1,h2⟩:=kN P its 0 τ h fun i x τ hx hp=>by
  rw[Nat.zero_add] at hp ⊢
  exact hb i x τ hx hp
 exact⟨Cr,h1,by rw[Nat.zero_add] at h2;exact h2⟩
theorem bC {α β:Type}{g:D->Res (Option D)}(Hl:α->D)(out:α->β)(JM:β->D):∀ (xs:List α),(∀ x∈xs,g (Hl x)=.ok (some (JM (out x))))->aW g (xs.map Hl)=.ok ((xs.map out).map JM)
 | [],_=>rfl
 | x::xs,h=>by
  show Ci (g (Hl x)) _=_
  rw[h x (by simp)]
  show Ci (aW g (xs.map Hl)) _=_
  rw[bC Hl out JM xs fun y hy=>h y (List.mem_cons_of_mem _ hy)]
  rfl
theorem vG {α:Type}{a:α}:Ed (.ok a:Res α)=.ok a:=rfl
theorem qe (a b:Int):bb a b=((List.range (b - a).toNat).map fun k=>a+(k:Nat)).map .int:=by
 unfold bb
 rw[List.map_map]
 rfl
end
end Ev
theorem CL:type_of% (And.intro (And.intro (And.intro (And.intro (And.intro (And.intro (And.intro @Ev.oB (And.intro @Ev.ui @Ev.PK)) (And.intro (And.intro @Ev.PL @Ev.PM) (And.intro @Ev.oC @Ev.uj))) (And.intro (And.intro (And.intro @Ev.uk @Ev.oE) (And.intro @Ev.um @Ev.kj)) (And.intro (And.intro @Ev.oG @Ev.uo) (And.intro @Ev.kl @Ev.oI)))) (And.intro (And.intro (And.intro @Ev.uq (And.intro @Ev.oJ @Ev.ur)) (And.intro (And.intro @Ev.zQ @Ev.ko) (And.intro @Ev.oM @Ev.uu))) (And.intro (And.intro (And.intro @Ev.oO @Ev.uv) (And.intro @Ev.oP @Ev.uw)) (And.intro (And.intro @Ev.oQ @Ev.ux) (And.intro @Ev.oR @Ev.uy))))) (And.intro (And.intro (And.intro (And.intro @Ev.zT (And.intro @Ev.kq @Ev.oS)) (And.intro (And.intro @Ev.zU @Ev.oT) (And.intro @Ev.zW @Ev.oU))) (And.intro (And.intro (And.intro @Ev.kr @Ev.oV) (And.intro @Ev.oW @Ev.uB)) (And.intro (And.intro @Ev.oX @Ev.oY) (And.intro @Ev.uC @Ev.oZ)))) (And.intro (And.intro (And.intro (And.intro @Ev.uD @Ev.o4) (And.intro @Ev.ku @Ev.o5)) (And.intro (And.intro @Ev.zZ @Ev.kx) (And.intro @Ev.uF @Ev.Aa))) (And.intro (And.intro (And.intro @Ev.o7 @Ev.Ac) (And.intro @Ev.Ad @Ev.Ae)) (And.intro (And.intro @Ev.uG @Ev.Af) (And.intro @Ev.ky @Ev.kz)))))) (And.intro (And.intro (And.intro (And.intro (And.intro @Ev.Ag (And.intro @Ev.uI @Ev.Ah)) (And.intro (And.intro @Ev.uJ @Ev.Ai) (And.intro @Ev.Aj @Ev.PX))) (And.intro (And.intro (And.intro @Ev.Ms @Ev.kC) (And.intro @Ev.F4 @Ev.kD)) (And.intro (And.intro @Ev.F5 @Ev.f7) (And.intro @Ev.iY @Ev.EW)))) (And.intro (And.intro (And.intro (And.intro @Ev.kE @Ev.PY) (And.intro @Ev.PZ @Ev.uM)) (And.intro (And.intro @Ev.uN @Ev.uO) (And.intro @Ev.Ak @Ev.Am))) (And.intro (And.intro (And.intro @Ev.pd @Ev.EX) (And.intro @Ev.uP @Ev.pk)) (And.intro (And.intro @Ev.An @Ev.pq) (And.intro @Ev.uQ @Ev.Ao))))) (And.intro (And.intro (And.intro (And.intro @Ev.uR (And.intro @Ev.pv @Ev.uS)) (And.intro (And.intro @Ev.kF @Ev.pC) (And.intro @Ev.P2 @Ev.P4))) (And.intro (And.intro (And.intro @Ev.P5 @Ev.P6) (And.intro @Ev.uT @Ev.pD)) (And.intro (And.intro @Ev.EY @Ev.pF) (And.intro @Ev.kG @Ev.iZ)))) (And.intro (And.intro (And.intro (And.intro @Ev.DU @Ev.pH) (And.intro @Ev.pI @Ev.pJ)) (And.intro (And.intro @Ev.d5 @Ev.kH) (And.intro @Ev.Ei @Ev.pK))) (And.intro (And.intro (And.intro @Ev.EZ @Ev.Ej) (And.intro @Ev.DT @Ev.E0)) (And.intro (And.intro @Ev.uV @Ev.E1) (And.intro @Ev.uW @Ev.pL))))))) (And.intro (And.intro (And.intro (And.intro (And.intro (And.intro @Ev.pM (And.intro @Ev.kI @Ev.uX)) (And.intro (And.intro @Ev.pN @Ev.uY) (And.intro @Ev.F8 @Ev.pO))) (And.intro (And.intro (And.intro @Ev.E2 @Ev.Aw) (And.intro @Ev.Ax @Ev.uZ)) (And.intro (And.intro @Ev.u0 @Ev.pP) (And.intro @Ev.kJ @Ev.u4)))) (And.intro (And.intro (And.intro (And.intro @Ev.u5 @Ev.u6) (And.intro @Ev.bN @Ev.AB)) (And.intro (And.intro @Ev.AD @Ev.u7) (And.intro @Ev.u9 @Ev.AE))) (And.intro (And.intro (And.intro @Ev.AF @Ev.vc) (And.intro @Ev.ve @Ev.vf)) (And.intro (And.intro @Ev.jH @Ev.pQ) (And.intro @Ev.vg @Ev.MB))))) (And.intro (And.intro (And.intro (And.intro @Ev.sO (And.intro @Ev.AH @Ev.AJ)) (And.intro (And.intro @Ev.AK @Ev.pR) (And.intro @Ev.AM @Ev.AN))) (And.intro (And.intro (And.intro @Ev.AO @Ev.AQ) (And.intro @Ev.AR @Ev.AS)) (And.intro (And.intro @Ev.AU @Ev.AV) (And.intro @Ev.AW @Ev.AX)))) (And.intro (And.intro (And.intro (And.intro @Ev.vm @Ev.vn) (And.intro @Ev.pS @Ev.pT)) (And.intro (And.intro @Ev.i9 @Ev.vp) (And.intro @Ev.pW @Ev.pX))) (And.intro (And.intro (And.intro @Ev.AY @Ev.AZ) (And.intro @Ev.A1 @Ev.A4)) (And.intro (And.intro @Ev.vq @Ev.vt) (And.intro @Ev.gV @Ev.jI)))))) (And.intro (And.intro (And.intro (And.intro (And.intro @Ev.vw (And.intro @Ev.vx @Ev.vy)) (And.intro (And.intro @Ev.pY @Ev.pZ) (And.intro @Ev.p5 @Ev.p6))) (And.intro (And.intro (And.intro @Ev.p7 @Ev.p8) (And.intro @Ev.vz @Ev.dO)) (And.intro (And.intro @Ev.gW @Ev.kK) (And.intro @Ev.Kx @Ev.NX)))) (And.intro (And.intro (And.intro (And.intro @Ev.vG @Ev.A5) (And.intro @Ev.A6 @Ev.vA)) (And.intro (And.intro @Ev.vB @Ev.A7) (And.intro @Ev.A8 @Ev.A9))) (And.intro (And.intro (And.intro @Ev.p9 @Ev.qa) (And.intro @Ev.kL @Ev.vC)) (And.intro (And.intro @Ev.qb @Ev.vD) (And.intro @Ev.vE @Ev.kM))))) (And.intro (And.intro (And.intro (And.intro @Ev.qc (And.intro @Ev.vF @Ev.qd)) (And.intro (And.intro @Ev.Ba @cond_true.{1}) (And.intro @cond_false.{1} @Ev.sQ))) (And.intro (And.intro (And.intro @List.contains_cons.{0} @List.contains_nil.{0}) (And.intro @Bool.or_false @Bool.or_true)) (And.intro (And.intro @Bool.true_or @Bool.false_or) (And.intro @List.map_cons.{0,0} @List.map_nil.{0,0})))) (And.intro (And.intro (And.intro (And.intro @List.cons_append.{0} @List.nil_append.{0}) (And.intro @List.replicate_succ.{0} @List.replicate_zero.{0})) (And.intro (And.intro @List.length_cons.{0} @List.length_nil.{0}) (And.intro @Nat.zero_add @decide_true))) (And.intro (And.intro (And.intro @Bool.and_self @Bool.not_true) (And.intro @Bool.not_false @Bool.and_true)) (And.intro (And.intro @beq_self_eq_true.{0} @if_true.{1}) (And.intro @if_false.{1} @Bool.false_eq_true)))))))):=⟨⟨⟨⟨⟨⟨⟨@Ev.oB,⟨@Ev.ui,@Ev.PK⟩⟩,⟨⟨@Ev.PL,@Ev.PM⟩,⟨@Ev.oC,@Ev.uj⟩⟩⟩,⟨⟨⟨@Ev.uk,@Ev.oE⟩,⟨@Ev.um,@Ev.kj⟩⟩,⟨⟨@Ev.oG,@Ev.uo⟩,⟨@Ev.kl,@Ev.oI⟩⟩⟩⟩,⟨⟨⟨@Ev.uq,⟨@Ev.oJ,@Ev.ur⟩⟩,⟨⟨@Ev.zQ,@Ev.ko⟩,⟨@Ev.oM,@Ev.uu⟩⟩⟩,⟨⟨⟨@Ev.oO,@Ev.uv⟩,⟨@Ev.oP,@Ev.uw⟩⟩,⟨⟨@Ev.oQ,@Ev.ux⟩,⟨@Ev.oR,@Ev.uy⟩⟩⟩⟩⟩,⟨⟨⟨⟨@Ev.zT,⟨@Ev.kq,@Ev.oS⟩⟩,⟨⟨@Ev.zU,@Ev.oT⟩,⟨@Ev.zW,@Ev.oU⟩⟩⟩,⟨⟨⟨@Ev.kr,@Ev.oV⟩,⟨@Ev.oW,@Ev.uB⟩⟩,⟨⟨@Ev.oX,@Ev.oY⟩,⟨@Ev.uC,@Ev.oZ⟩⟩⟩⟩,⟨⟨⟨⟨@Ev.uD,@Ev.o4⟩,⟨@Ev.ku,@Ev.o5⟩⟩,⟨⟨@Ev.zZ,@Ev.kx⟩,⟨@Ev.uF,@Ev.Aa⟩⟩⟩,⟨⟨⟨@Ev.o7,@Ev.Ac⟩,⟨@Ev.Ad,@Ev.Ae⟩⟩,⟨⟨@Ev.uG,@Ev.Af⟩,⟨@Ev.ky,@Ev.kz⟩⟩⟩⟩⟩⟩,⟨⟨⟨⟨⟨@Ev.Ag,⟨@Ev.uI,@Ev.Ah⟩⟩,⟨⟨@Ev.uJ,@Ev.Ai⟩,⟨@Ev.Aj,@Ev.PX⟩⟩⟩,⟨⟨⟨@Ev.Ms,@Ev.kC⟩,⟨@Ev.F4,@Ev.kD⟩⟩,⟨⟨@Ev.F5,@Ev.f7⟩,⟨@Ev.iY,@Ev.EW⟩⟩⟩⟩,⟨⟨⟨⟨@Ev.kE,@Ev.PY⟩,⟨@Ev.PZ,@Ev.uM⟩⟩,⟨⟨@Ev.uN,@Ev.uO⟩,⟨@Ev.Ak,@Ev.Am⟩⟩⟩,⟨⟨⟨@Ev.pd,@Ev.EX⟩,⟨@Ev.uP,@Ev.pk⟩⟩,⟨⟨@Ev.An,@Ev.pq⟩,⟨@Ev.uQ,@Ev.Ao⟩⟩⟩⟩⟩,⟨⟨⟨⟨@Ev.uR,⟨@Ev.pv,@Ev.uS⟩⟩,⟨⟨@Ev.kF,@Ev.pC⟩,⟨@Ev.P2,@Ev.P4⟩⟩⟩,⟨⟨⟨@Ev.P5,@Ev.P6⟩,⟨@Ev.uT,@Ev.pD⟩⟩,⟨⟨@Ev.EY,@Ev.pF⟩,⟨@Ev.kG,@Ev.iZ⟩⟩⟩⟩,⟨⟨⟨⟨@Ev.DU,@Ev.pH⟩,⟨@Ev.pI,@Ev.pJ⟩⟩,⟨⟨@Ev.d5,@Ev.kH⟩,⟨@Ev.Ei,@Ev.pK⟩⟩⟩,⟨⟨⟨@Ev.EZ,@Ev.Ej⟩,⟨@Ev.DT,@Ev.E0⟩⟩,⟨⟨@Ev.uV,@Ev.E1⟩,⟨@Ev.uW,@Ev.pL⟩⟩⟩⟩⟩⟩⟩,⟨⟨⟨⟨⟨⟨@Ev.pM,⟨@Ev.kI,@Ev.uX⟩⟩,⟨⟨@Ev.pN,@Ev.uY⟩,⟨@Ev.F8,@Ev.pO⟩⟩⟩,⟨⟨⟨@Ev.E2,@Ev.Aw⟩,⟨@Ev.Ax,@Ev.uZ⟩⟩,⟨⟨@Ev.u0,@Ev.pP⟩,⟨@Ev.kJ,@Ev.u4⟩⟩⟩⟩,⟨⟨⟨⟨@Ev.u5,@Ev.u6⟩,⟨@Ev.bN,@Ev.AB⟩⟩,⟨⟨@Ev.AD,@Ev.u7⟩,⟨@Ev.u9,@Ev.AE⟩⟩⟩,⟨⟨⟨@Ev.AF,@Ev.vc⟩,⟨@Ev.ve,@Ev.vf⟩⟩,⟨⟨@Ev.jH,@Ev.pQ⟩,⟨@Ev.vg,@Ev.MB⟩⟩⟩⟩⟩,⟨⟨⟨⟨@Ev.sO,⟨@Ev.AH,@Ev.AJ⟩⟩,⟨⟨@Ev.AK,@Ev.pR⟩,⟨@Ev.AM,@Ev.AN⟩⟩⟩,⟨⟨⟨@Ev.AO,@Ev.AQ⟩,⟨@Ev.AR,@Ev.AS⟩⟩,⟨⟨@Ev.AU,@Ev.AV⟩,⟨@Ev.AW,@Ev.AX⟩⟩⟩⟩,⟨⟨⟨⟨@Ev.vm,@Ev.vn⟩,⟨@Ev.pS,@Ev.pT⟩⟩,⟨⟨@Ev.i9,@Ev.vp⟩,⟨@Ev.pW,@Ev.pX⟩⟩⟩,⟨⟨⟨@Ev.AY,@Ev.AZ⟩,⟨@Ev.A1,@Ev.A4⟩⟩,⟨⟨@Ev.vq,@Ev.vt⟩,⟨@Ev.gV,@Ev.jI⟩⟩⟩⟩⟩⟩,⟨⟨⟨⟨⟨@Ev.vw,⟨@Ev.vx,@Ev.vy⟩⟩,⟨⟨@Ev.pY,@Ev.pZ⟩,⟨@Ev.p5,@Ev.p6⟩⟩⟩,⟨⟨⟨@Ev.p7,@Ev.p8⟩,⟨@Ev.vz,@Ev.dO⟩⟩,⟨⟨@Ev.gW,@Ev.kK⟩,⟨@Ev.Kx,@Ev.NX⟩⟩⟩⟩,⟨⟨⟨⟨@Ev.vG,@Ev.A5⟩,⟨@Ev.A6,@Ev.vA⟩⟩,⟨⟨@Ev.vB,@Ev.A7⟩,⟨@Ev.A8,@Ev.A9⟩⟩⟩,⟨⟨⟨@Ev.p9,@Ev.qa⟩,⟨@Ev.kL,@Ev.vC⟩⟩,⟨⟨@Ev.qb,@Ev.vD⟩,⟨@Ev.vE,@Ev.kM⟩⟩⟩⟩⟩,⟨⟨⟨⟨@Ev.qc,⟨@Ev.vF,@Ev.qd⟩⟩,⟨⟨@Ev.Ba,@cond_true.{1}⟩,⟨@cond_false.{1},@Ev.sQ⟩⟩⟩,⟨⟨⟨@List.contains_cons.{0},@List.contains_nil.{0}⟩,⟨@Bool.or_false,@Bool.or_true⟩⟩,⟨⟨@Bool.true_or,@Bool.false_or⟩,⟨@List.map_cons.{0,0},@List.map_nil.{0,0}⟩⟩⟩⟩,⟨⟨⟨⟨@List.cons_append.{0},@List.nil_append.{0}⟩,⟨@List.replicate_succ.{0},@List.replicate_zero.{0}⟩⟩,⟨⟨@List.length_cons.{0},@List.length_nil.{0}⟩,⟨@Nat.zero_add,@decide_true⟩⟩⟩,⟨⟨⟨@Bool.and_self,@Bool.not_true⟩,⟨@Bool.not_false,@Bool.and_true⟩⟩,⟨⟨@beq_self_eq_true.{0},@if_true.{1}⟩,⟨@if_false.{1},@Bool.false_eq_true⟩⟩⟩⟩⟩⟩⟩⟩
namespace Fr
noncomputable def vH:List IS:=[(.Dl (.cmp .lt (.v 1) (.bi .len [(.v 0)])) [(.ret (.idx (.v 0) (.v 1)))] []),(.ret (.c (.int 0)))]
end Fr
end L2
namespace Law
open PySem L2
noncomputable def top (i:Nat):Stmt:=PySem.Challenge.pw_flagroll_k12_places_moved.main.body.getD i (.Pass ⟨0,0,0,0⟩)
noncomputable def Z:Sg:={nm:=(["PLACES","run_size","run_parted","run_joined","allot_new","shares_of","wanted_shares","rows_shrunk","rows_grown","allot_changed","_law_cell_at","_law_stream","_law_names","_law_whole","_law_told_shares","faces_by_place","places_moved","_law_allot","Twice","TooMuch","NoFace","BadShare","_law_common","_law_moved","law"]:List Str),Kf:=[(20,(.int 10007))],fns:=[21,22,23,24,25,26,27,28,29,35,36,30,31,33,32,37,42,43,44],cls:=[],xt:=[],pl:=[],rc:=[(38,"Twice"),(39,"TooMuch"),(40,"NoFace"),(41,"BadShare")],xm:=[],EB:=[34]}
noncomputable def NY:List IS:=
 [(.ret (.bi .sum [(.comp {N:=["low","high"],kd:=[.local,.local],gl:=[],df:=false} [] (.tp [(.nm 0),(.nm 1)]) (.val (.v 0)) [] (.bin .sub (.v 1) (.v 0)))]))]
noncomputable def JN:Fn:={np:=1,G:={N:=["run"],kd:=[.local],gl:=[1],df:=true},body:=NY}
noncomputable def SX:List IS:=
 [(.asg (.nm 2) (.lst [])),(.asg (.nm 3) (.lst [])),(.asg (.nm 4) (.v 1)),(.CM (.tp [(.nm 5),(.nm 6)]) (.val (.v 0)) [(.asg (.nm 7) (.bi .min2 [(.bin .add (.v 5) (.v 4)),(.v 6)])),(.Dl (.cmp .lt (.v 5) (.v 7)) [(.app 2 (.tup [(.v 5),(.v 7)]))] []),(.Dl (.cmp .lt (.v 7) (.v 6)) [(.app 3 (.tup [(.v 7),(.v 6)]))] []),(.asg (.nm 4) (.bin .sub (.v 4) (.bin .sub (.v 7) (.v 5))))]),(.ret (.tup [(.v 2),(.v 3)]))]
noncomputable def NZ:Fn:={np:=2,G:={N:=["run","many","first","rest","wanted","low","high","cut"],kd:=[.local,.local,.local,.local,.local,.local,.local,.local],gl:=[2],df:=true},body:=SX}
noncomputable def SY:List IS:=
 [(.Dl (.Fj (.cmp .eq (.v 0) (.lst [])) (.Fj (.cmp .eq (.v 1) (.lst [])) (.cmp .ne (.idx (.idx (.v 0) (.neg (.c (.int 1)))) (.c (.int 1))) (.idx (.idx (.v 1) (.c (.int 0))) (.c (.int 0)))))) [(.ret (.bin .add (.v 0) (.v 1)))] []),(.asg (.nm 2) (.tup [(.idx (.idx (.v 0) (.neg (.c (.int 1)))) (.c (.int 0))),(.idx (.idx (.v 1) (.c (.int 0))) (.c (.int 1)))])),(.ret (.bin .add (.bin .add (.sl (.v 0) none (some (.neg (.c (.int 1))))) (.lst [(.v 2)])) (.sl (.v 1) (some (.c (.int 1))) none)))]
noncomputable def N0:Fn:={np:=2,G:={N:=["one","other","seam"],kd:=[.local,.local,.local],gl:=[],df:=true},body:=SY}
noncomputable def N1:List IS:=
 [(.Dl (.cmp .lt (.ER (.v 0)) (.bi .len [(.v 0)])) [(.Dy 38 "Twice" "a face stands twice among the faces")] []),(.ret (.tup [(.comp {N:=["face"],kd:=[.local],gl:=[],df:=false} [] (.nm 0) (.val (.v 0)) [] (.tup [(.v 0),(.lst [])])),(.lst [(.tup [(.c (.int 0)),(.g 20 (.int 10007))])])]))]
noncomputable def JO:Fn:={np:=1,G:={N:=["faces"],kd:=[.local],gl:=[0,12,38,20],df:=true},body:=N1}
noncomputable def N2:List IS:=
 [(.ret (.comp {N:=["face","run"],kd:=[.local,.local],gl:=[21],df:=false} [] (.tp [(.nm 0),(.nm 1)]) (.val (.idx (.v 0) (.c (.int 0)))) [] (.tup [(.v 0),(.call 21 [(.v 1)])])))]
noncomputable def JP:Fn:={np:=1,G:={N:=["allot"],kd:=[.local],gl:=[],df:=true},body:=N2}
noncomputable def P':List IS:=
 [(.Jo 2 (.call 25 [(.v 0)])),(.asg (.nm 3) .D4),(.CM (.tp [(.nm 4),(.nm 5)]) (.val (.v 1)) [(.Dl (.G9 true (.v 4) (.v 2)) [(.C6 40 "NoFace" (.Gz "the allotment has no face " (.v 4) none))] []),(.Dl (.G9 false (.v 4) (.v 3)) [(.C6 38 "Twice" (.Gz "the face " (.v 4) (some " is told twice")))] []),(.Dl (.cmp .lt (.v 5) (.c (.int 0))) [(.C6 41 "BadShare" (.Gz "the face " (.v 4) (some " is to have fewer places than none")))] []),(.DI 3 (.v 4) (.v 5))]),(.FE 2 3),(.Dl (.cmp .gt (.Fm (.v 2)) (.g 20 (.int 10007))) [(.Dy 39 "TooMuch" "the faces together would have more places than there are")] []),(.ret (.v 2))]
noncomputable def JQ:Fn:={np:=2,G:={N:=["allot","shares","wanted","told","face","places"],kd:=[.local,.local,.local,.local,.local,.local],gl:=[19,25,40,38,41,1,20,39],df:=true},body:=P'}
noncomputable def Qa:List IS:=
 [(.asg (.nm 3) (.lst [])),(.CM (.tp [(.nm 4),(.nm 5)]) (.val (.v 0)) [(.asg (.nm 6) (.call 22 [(.v 5),(.bi .min2 [(.C2 (.v 2) (.v 4)),(.call 21 [(.v 5)])])])),(.app 3 (.tup [(.v 4),(.idx (.v 6) (.c (.int 0)))])),(.asg (.nm 1) (.call 23 [(.idx (.v 6) (.c (.int 1))),(.v 1)]))]),(.ret (.tup [(.v 3),(.v 1)]))]
noncomputable def JR:Fn:={np:=3,G:={N:=["rows","free","wanted","kept_rows","face","run","parted"],kd:=[.local,.local,.local,.local,.local,.local,.local],gl:=[22,2,21,23],df:=true},body:=Qa}
noncomputable def Qb:List IS:=
 [(.asg (.nm 3) (.lst [])),(.CM (.tp [(.nm 4),(.nm 5)]) (.val (.v 0)) [(.asg (.nm 6) (.call 22 [(.v 1),(.bin .sub (.C2 (.v 2) (.v 4)) (.call 21 [(.v 5)]))])),(.app 3 (.tup [(.v 4),(.call 23 [(.v 5),(.idx (.v 6) (.c (.int 0)))])])),(.asg (.nm 1) (.idx (.v 6) (.c (.int 1))))]),(.ret (.tup [(.v 3),(.v 1)]))]
noncomputable def JS:Fn:={np:=3,G:={N:=["rows","free","wanted","grown_rows","face","run","parted"],kd:=[.local,.local,.local,.local,.local,.local,.local],gl:=[22,21,23],df:=true},body:=Qb}
noncomputable def Qc:List IS:=
 [(.asg (.nm 2) (.call 26 [(.v 0),(.v 1)])),(.asg (.nm 3) (.call 27 [(.idx (.v 0) (.c (.int 0))),(.bi .list [(.idx (.v 0) (.c (.int 1)))]),(.v 2)])),(.ret (.call 28 [(.idx (.v 3) (.c (.int 0))),(.idx (.v 3) (.c (.int 1))),(.v 2)]))]
noncomputable def JT:Fn:={np:=2,G:={N:=["allot","shares","wanted","shrunk"],kd:=[.local,.local,.local,.local],gl:=[26,27,5,28],df:=true},body:=Qc}
noncomputable def Qd:List IS:=
 [(.asg (.nm 1) (.bin .mul (.lst [(.c .CD)]) (.g 20 (.int 10007)))),(.CM (.tp [(.nm 2),(.nm 3)]) (.val (.idx (.v 0) (.c (.int 0)))) [(.CM (.tp [(.nm 4),(.nm 5)]) (.val (.v 3)) [(.CM (.nm 6) (.DB (.v 4) (.v 5)) [(.En 1 (.v 6) (.v 2))])])]),(.ret (.v 1))]
noncomputable def JU:Fn:={np:=1,G:={N:=["allot","faces","face","run","low","high","place"],kd:=[.local,.local,.local,.local,.local,.local,.local],gl:=[20,15],df:=true},body:=Qd}
noncomputable def Qe:List IS:=
 [(.asg (.nm 2) (.call 35 [(.v 0)])),(.asg (.nm 3) (.call 35 [(.v 1)])),(.ret (.bi .len [(.comp {N:=["faces","other_faces","place"],kd:=[.cell,.cell,.local],gl:=[],df:=false} [2,3] (.nm 2) (.C4 (.g 20 (.int 10007))) [(.cmp .ne (.idx (.v 0) (.v 2)) (.idx (.v 1) (.v 2)))] (.v 2))]))]
noncomputable def JV:Fn:={np:=2,G:={N:=["one","other","faces","other_faces"],kd:=[.local,.local,.cell,.cell],gl:=[35,0,15,20],df:=true},body:=Qe}
noncomputable def S1:List IS:=
 [(.Dl (.cmp .lt (.v 1) (.bi .len [(.v 0)])) [(.ret (.idx (.v 0) (.v 1)))] []),(.ret (.c (.int 0)))]
noncomputable def Ky:Fn:={np:=2,G:={N:=["_law_script","_law_k"],kd:=[.local,.local],gl:=[0],df:=true},body:=S1}
noncomputable def S2:List IS:=
 [(.asg (.nm 2) (.lst [])),(.asg (.nm 3) (.bin .add (.bin .mod (.v 0) (.c (.int 2147483647))) (.c (.int 1)))),(.CM (.nm 4) (.C4 (.v 1)) [(.asg (.nm 3) (.bin .mod (.bin .add (.bin .add (.bin .mul (.v 3) (.c (.int 48271))) (.bin .mul (.bin .mul (.c (.int 7)) (.v 4)) (.v 4))) (.c (.int 3))) (.c (.int 2147483647)))),(.app 2 (.bin .fdiv (.v 3) (.c (.int 16))))]),(.ret (.v 2))]
noncomputable def MC:Fn:={np:=2,G:={N:=["_law_cell","_law_many","_law_found","_law_number","_law_k"],kd:=[.local,.local,.local,.local,.local],gl:=[15],df:=true},body:=S2}
noncomputable def N3:List IS:=
 [(.ret (.DQ (.Io (.v 0) .int) (.EU (.Io (.v 0) .bool))))]
noncomputable def JW:Fn:={np:=1,G:={N:=["_law_found"],kd:=[.local],gl:=[14,8,16],df:=true},body:=N3}
noncomputable def LK:List IS:=
 [(.asg (.nm 2) (.c (.str "abcdefghijklmnopqrstuvwxyz"))),(.asg (.nm 3) (.Ha .join (.c (.str "")) [(.comp {N:=["_law_abc","_law_number"],kd:=[.cell,.local],gl:=[],df:=false} [2] (.nm 1) (.val (.call 31 [(.bin .fdiv (.v 0) (.c (.int 3))),(.c (.int 8))])) [] (.idx (.v 0) (.bin .mod (.v 1) (.c (.int 26)))))])),(.Dl (.DQ (.cmp .eq (.bin .mod (.v 0) (.c (.int 3))) (.c (.int 1))) (.cmp .le (.v 1) (.c (.int 8)))) [(.ret (.comp {N:=["_law_base","_law_k"],kd:=[.cell,.local],gl:=[],df:=false} [3] (.nm 1) (.C4 (.v 1)) [] (.sl (.v 0) none (some (.bin .add (.v 1) (.c (.int 1)))))))] []),(.asg (.nm 3) (.sl (.v 3) none (some (.bin .add (.c (.int 1)) (.bin .mod (.bin .fdiv (.v 0) (.c (.int 3))) (.c (.int 8))))))),(.asg (.nm 4) (.bin .mod (.bin .fdiv (.v 0) (.c (.int 24))) (.bi .len [(.v 3)]))),(.ret (.comp {N:=["_law_base","_law_at","_law_abc","_law_cell","_law_k"],kd:=[.cell,.cell,.cell,.cell,.local],gl:=[],df:=false} [3,4,2,0] (.nm 4) (.C4 (.v 1)) [] (.bin .add (.bin .add (.sl (.v 0) none (some (.v 1))) (.idx (.v 2) (.bin .mod (.bin .add (.bin .fdiv (.v 3) (.c (.int 3))) (.bin .mul (.c (.int 7)) (.v 4))) (.c (.int 26))))) (.sl (.v 0) (some (.bin .add (.v 1) (.c (.int 1)))) none))))]
noncomputable def GC:Fn:={np:=2,G:={N:=["_law_cell","_law_many","_law_abc","_law_base","_law_at"],kd:=[.cell,.local,.cell,.cell,.cell],gl:=[31,15,0],df:=true},body:=LK}
noncomputable def Qf:List IS:=
 [(.asg (.nm 3) (.call 31 [(.v 0),(.bin .add (.bin .mul (.c (.int 3)) (.bi .len [(.v 1)])) (.c (.int 2)))])),(.asg (.nm 4) (.lst [])),(.CM (.nm 5) (.C4 (.bi .len [(.v 1)])) [(.asg (.nm 6) (.idx (.v 1) (.bin .mod (.bin .add (.v 5) (.idx (.v 3) (.c (.int 0)))) (.bi .len [(.v 1)])))),(.asg (.nm 7) (.bin .sub (.c (.int 10007)) (.bi .sum [(.comp {N:=["_law_due","_law_face","_law_own"],kd:=[.cell,.cell,.local],gl:=[],df:=false} [2,6] (.nm 2) (.val (.v 1)) [(.cmp .ne (.v 2) (.v 1))] (.C2 (.v 0) (.v 2)))]))),(.Dl (.cmp .gt (.bin .mod (.idx (.v 3) (.bin .add (.bin .mul (.c (.int 3)) (.v 5)) (.c (.int 2)))) (.c (.int 3))) (.c (.int 0))) [(.asg (.nm 8) (.bi .max2 [(.c (.int 0)),(.bin .sub (.C2 (.v 2) (.v 6)) (.bin .mod (.idx (.v 3) (.bin .add (.bin .mul (.c (.int 3)) (.v 5)) (.c (.int 4)))) (.c (.int 5))))])),(.asg (.nm 9) (.idx (.lst [(.bin .mod (.idx (.v 3) (.bin .add (.bin .mul (.c (.int 3)) (.v 5)) (.c (.int 3)))) (.bin .add (.v 7) (.c (.int 1)))),(.v 7),(.c (.int 0)),(.v 8)]) (.bin .mod (.bin .fdiv (.idx (.v 3) (.bin .add (.bin .mul (.c (.int 3)) (.v 5)) (.c (.int 4)))) (.c (.int 8))) (.c (.int 4))))),(.Dl (.cmp .eq (.bin .mod (.bin .fdiv (.idx (.v 3) (.bin .add (.bin .mul (.c (.int 3)) (.v 5)) (.c (.int 4)))) (.c (.int 32))) (.c (.int 3))) (.c (.int 0))) [(.asg (.nm 9) (.bi .min2 [(.v 7),(.bin .add (.C2 (.v 2) (.v 6)) (.bin .mod (.idx (.v 3) (.bin .add (.bin .mul (.c (.int 3)) (.v 5)) (.c (.int 3)))) (.c (.int 7))))]))] []),(.DI 2 (.v 6) (.v 9)),(.app 4 (.tup [(.v 6),(.v 9)]))] [])])]
noncomputable def JX:Fn:={np:=3,G:={N:=["_law_cell","_law_faces","_law_due","_law_xs","_law_told","_law_k","_law_face","_law_room","_law_less","_law_places"],kd:=[.local,.local,.cell,.local,.local,.local,.cell,.local,.local,.local],gl:=[31,0,15,1,3,2],df:=true,io:=some 2},body:=Qf,io:=some (.v 4)}
noncomputable def Qg:List IS:=
 [(.asg (.nm 2) .D4),(.CM (.nm 3) (.val (.v 1)) [(.DI 2 (.v 3) (.c (.int 0)))]),(.asg (.nm 4) (.call 24 [(.bi .list [(.v 1)])])),(.CM (.nm 5) (.C4 (.c (.int 2))) [(.Dl (.cmp .ne (.v 1) (.lst [])) [(.EV 4 29 (.v 4) 34 [(.bin .fdiv (.v 0) (.bin .add (.c (.int 1)) (.bin .mul (.c (.int 6)) (.v 5)))),(.v 1)] 2)] [])]),(.Dl (.cmp .ne (.call 25 [(.v 4)]) (.comp {N:=["_law_due","_law_face"],kd:=[.cell,.local],gl:=[],df:=false} [2] (.nm 1) (.val (.v 1)) [] (.tup [(.v 1),(.C2 (.v 0) (.v 1))]))) [(.ret (.c .CD))] []),(.ret (.v 4))]
noncomputable def JY:Fn:={np:=2,G:={N:=["_law_cell","_law_faces","_law_due","_law_face","_law_allot_here","_law_k"],kd:=[.local,.local,.cell,.local,.local,.local],gl:=[24,5,15,29,34,25],df:=true},body:=Qg}
noncomputable def Qh:List IS:=
 [(.asg (.nm 2) (.c (.int 0))),(.CM (.tp [(.nm 3),(.nm 4)]) (.val (.v 0)) [(.CM (.tp [(.nm 5),(.nm 6)]) (.val (.v 1)) [(.asg (.nm 2) (.bin .add (.v 2) (.bi .max2 [(.c (.int 0)),(.bin .sub (.bi .min2 [(.v 4),(.v 6)]) (.bi .max2 [(.v 3),(.v 5)]))])))])]),(.ret (.v 2))]
noncomputable def JZ:Fn:={np:=2,G:={N:=["_law_one","_law_other","_law_same","_law_low","_law_high","_law_begin","_law_end"],kd:=[.local,.local,.local,.local,.local,.local,.local],gl:=[3,2],df:=true},body:=Qh}
noncomputable def Qi:List IS:=
 [(.asg (.nm 2) (.call 42 [(.idx (.v 0) (.c (.int 1))),(.idx (.v 1) (.c (.int 1)))])),(.CM (.tp [(.nm 3),(.nm 4)]) (.val (.idx (.v 0) (.c (.int 0)))) [(.CM (.tp [(.nm 5),(.nm 6)]) (.val (.idx (.v 1) (.c (.int 0)))) [(.Dl (.cmp .eq (.v 3) (.v 5)) [(.asg (.nm 2) (.bin .add (.v 2) (.call 42 [(.v 4),(.v 6)])))] [])])]),(.ret (.bin .sub (.c (.int 10007)) (.v 2)))]
noncomputable def J0:Fn:={np:=2,G:={N:=["_law_one","_law_other","_law_same","_law_face","_law_run","_law_own","_law_there"],kd:=[.local,.local,.local,.local,.local,.local,.local],gl:=[42],df:=true},body:=Qi}
noncomputable def Qj:List IS:=
 [(.asg (.nm 1) (.call 32 [(.call 30 [(.v 0),(.c (.int 0))]),(.c (.int 8))])),(.asg (.nm 2) (.call 30 [(.v 0),(.c (.int 1))])),(.asg (.nm 3) (.sl (.v 1) (some (.bin .mod (.v 2) (.c (.int 3)))) (some (.bin .add (.bin .mod (.v 2) (.c (.int 3))) (.bin .mod (.bin .fdiv (.v 2) (.c (.int 3))) (.c (.int 6))))))),(.asg (.nm 4) (.D5 (.sl (.v 1) (some (.bin .mod (.bin .fdiv (.v 2) (.c (.int 18))) (.c (.int 4)))) (some (.bin .add (.bin .mod (.bin .fdiv (.v 2) (.c (.int 18))) (.c (.int 4))) (.bin .mod (.bin .fdiv (.v 2) (.c (.int 72))) (.c (.int 5)))))))),(.asg (.nm 5) (.call 37 [(.call 30 [(.v 0),(.c (.int 2))]),(.v 3)])),(.asg (.nm 6) (.call 37 [(.call 30 [(.v 0),(.c (.int 3))]),(.v 4)])),(.Dl (.Fj (.cmp .Im (.v 5) (.c .CD)) (.cmp .Im (.v 6) (.c .CD))) [(.ret (.c (.bl false)))] []),(.asg (.nm 7) (.comp {N:=["_law_told"],kd:=[.local],gl:=[5],df:=false} [] (.nm 0) (.val (.tup [(.v 5),(.v 6)])) [] (.tup [(.comp {N:=["_law_face","_law_run"],kd:=[.local,.local],gl:=[5],df:=false} [] (.tp [(.nm 0),(.nm 1)]) (.val (.idx (.v 0) (.c (.int 0)))) [] (.tup [(.v 0),(.bi .list [(.v 1)])])),(.bi .list [(.idx (.v 0) (.c (.int 1)))])]))),(.asg (.nm 8) (.call 36 [(.v 5),(.v 6)])),(.Dl (.Fj (.EU (.call 33 [(.v 8)])) (.Fj (.cmp .ne (.v 8) (.call 43 [(.v 5),(.v 6)])) (.cmp .ne (.call 36 [(.v 6),(.v 5)]) (.v 8)))) [(.ret (.c (.bl false)))] []),(.ret (.DQ (.cmp .eq (.call 36 [(.v 5),(.v 5)]) (.c (.int 0))) (.cmp .eq (.lst [(.v 5),(.v 6)]) (.v 7))))]
noncomputable def IF:Fn:={np:=1,G:={N:=["_law_script","_law_names_here","_law_cell","_law_ones","_law_others","_law_one","_law_other","_law_kept","_law_found"],kd:=[.local,.local,.local,.local,.local,.local,.local,.local,.local],gl:=[32,30,5,18,37,36,33,43],df:=true},body:=Qj}
noncomputable def T:Tb:=fun n=>match n with
 | 21=>some JN
 | 22=>some NZ
 | 23=>some N0
 | 24=>some JO
 | 25=>some JP
 | 26=>some JQ
 | 27=>some JR
 | 28=>some JS
 | 29=>some JT
 | 35=>some JU
 | 36=>some JV
 | 30=>some Ky
 | 31=>some MC
 | 33=>some JW
 | 32=>some GC
 | 34=>some JX
 | 37=>some JY
 | 42=>some JZ
 | 43=>some J0
 | 44=>some IF
 | _=>none
theorem c21:aK Z JN ["run"] (top 8)=true:=by decide +kernel
theorem c22:aK Z NZ ["run","many"] (top 9)=true:=by decide +kernel
theorem c23:aK Z N0 ["one","other"] (top 10)=true:=by decide +kernel
theorem c24:aK Z JO ["faces"] (top 12)=true:=by decide +kernel
theorem c25:aK Z JP ["allot"] (top 13)=true:=by decide +kernel
theorem c26:aK Z JQ ["allot","shares"] (top 14)=true:=by decide +kernel
theorem c27:aK Z JR ["rows","free","wanted"] (top 15)=true:=by decide +kernel
theorem c28:aK Z JS ["rows","free","wanted"] (top 16)=true:=by decide +kernel
theorem c29:aK Z JT ["allot","shares"] (top 17)=true:=by decide +kernel
theorem c35:aK Z JU ["allot"] (top 18)=true:=by decide +kernel
theorem c36:aK Z JV ["one","other"] (top 19)=true:=by decide +kernel
theorem c30:aK Z Ky ["_law_script","_law_k"] (top 21)=true:=by decide +kernel
theorem c31:aK Z MC ["_law_cell","_law_many"] (top 22)=true:=by decide +kernel
theorem c33:aK Z JW ["_law_found"] (top 23)=true:=by decide +kernel
theorem c32:aK Z GC ["_law_cell","_law_many"] (top 24)=true:=by decide +kernel
theorem c34:d4 Z JX ["_law_cell","_law_faces","_law_due"] (top 25)=true:=by decide +kernel
theorem c37:aK Z JY ["_law_cell","_law_faces"] (top 26)=true:=by decide +kernel
theorem c42:aK Z JZ ["_law_one","_law_other"] (top 27)=true:=by decide +kernel
theorem c43:aK Z J0 ["_law_one","_law_other"] (top 28)=true:=by decide +kernel
theorem Qk:aK Z IF ["_law_script"] (top 29)=true:=by decide +kernel
theorem xR:∀ n x,Z.name n=some x->x≠"__name__"/\(x == ("__debug__" : Str))=false:=by
 have h:(aJ++Z.nm).all (fun x=>!(x == "__name__")&&!(x == "__debug__"))=true:=by decide +kernel
 intro n x hx
 have:=List.all_eq_true.mp h x (List.mem_of_getElem? hx)
 simpa using this
theorem ln1 {fd:FuncData}{ps:List Str}(h:∀ x0:Value,bindArgs fd ⟨[x0],[]⟩=pure (ps.zip [x0]))(us:List Value)(e:us.length=1):bindArgs fd ⟨us,[]⟩=pure (ps.zip us):=by
 match us,e with
 | [x0],_=>exact h x0
theorem ln2 {fd:FuncData}{ps:List Str}(h:∀ x0 x1:Value,bindArgs fd ⟨[x0,x1],[]⟩=pure (ps.zip [x0,x1]))(us:List Value)(e:us.length=2):bindArgs fd ⟨us,[]⟩=pure (ps.zip us):=by
 match us,e with
 | [x0,x1],_=>exact h x0 x1
theorem ln3 {fd:FuncData}{ps:List Str}(h:∀ x0 x1 x2:Value,bindArgs fd ⟨[x0,x1,x2],[]⟩=pure (ps.zip [x0,x1,x2]))(us:List Value)(e:us.length=3):bindArgs fd ⟨us,[]⟩=pure (ps.zip us):=by
 match us,e with
 | [x0,x1,x2],_=>exact h x0 x1 x2
theorem dfo {f:Nat}{x:Str}{fn:Fn}{st:Stmt}{fa:Addr}{ps:List Str}{K:W.Frag}{h:Heap}{mg:Str->Option Value}{oc:Value}{od an:Option Addr}{sl:Array (Option Value)}{kV dc pm cd ct:Value}(c:aK Z fn ps st=true)(hT:T f=some fn)(b:∀ (kV dc pm:Value)(an:Option Addr)(cd ct:Value)(us:List Value),us.length=ps.length->bindArgs (W.fnOf x x (bH st) (aM st) (av st) .none kV dc pm an cd ct) ⟨us,[]⟩=pure (ps.zip us))(X:K.In h)(G:h.Ns mainGlobals mg)
  (a:W.nsIn K mainGlobals x=some (some (.ref fa))) (l:K.lookup fa=some ⟨oc,od,.func (W.fnOf x x (bH st) (aM st) (av st) .none kV dc pm an cd ct),sl⟩) (e:W.codeIn K cd x=true) (k:W.keepIn K (.ref fa)=true):CT K mg Z T f x:=⟨fn,st,fa,_,ps,hT,d9 l e k,W.mg_of X G a,(d9 l e k).binds b,iW c⟩
theorem B9 {f:Nat}{x:Str}{fn:Fn}{st:Stmt}{fa:Addr}{ps:List Str}{K:W.Frag}{h:Heap}{mg:Str->Option Value}{oc:Value}{od an:Option Addr}{sl:Array (Option Value)}{kV dc pm cd ct:Value}(c:d4 Z fn ps st=true)(hT:T f=some fn)(b:∀ (kV dc pm:Value)(an:Option Addr)(cd ct:Value)(us:List Value),us.length=ps.length->bindArgs (W.fnOf x x (bH st) (aM st) (av st) .none kV dc pm an cd ct) ⟨us,[]⟩=pure (ps.zip us))(X:K.In h)(G:h.Ns mainGlobals mg)
  (a:W.nsIn K mainGlobals x=some (some (.ref fa))) (l:K.lookup fa=some ⟨oc,od,.func (W.fnOf x x (bH st) (aM st) (av st) .none kV dc pm an cd ct),sl⟩) (e:W.codeIn K cd x=true) (k:W.keepIn K (.ref fa)=true):G3 K mg Z T f x:=⟨fn,st,fa,_,ps,hT,d9 l e k,W.mg_of X G a,(d9 l e k).binds b,ox c⟩
noncomputable def sS:Nat:=44
noncomputable def sT:Str:="_law_script"
theorem all_mk {l:PySem.W.OpenLaw}{w:World}{fa:Addr}{Hm Hn Ho Hq:Addr}{K:W.Frag}{h:Heap}{mg:Str->Option Value}{N4:Addr}{N5 LL:Option Addr}{N6:Array (Option Value)}{N7 LM LN LO J1 LP:Value}{S3:Tok}(X:K.In h)(G:h.Ns mainGlobals mg)(S4:mg "law" = some (.ref fa))
  (S5:CT K mg Z T 21 "run_size")
  (S6:CT K mg Z T 22 "run_parted")
  (S7:CT K mg Z T 23 "run_joined")
  (S8:CT K mg Z T 24 "allot_new")
  (S9:CT K mg Z T 25 "shares_of")
  (Ta:CT K mg Z T 26 "wanted_shares")
  (Tc:CT K mg Z T 27 "rows_shrunk")
  (Td:CT K mg Z T 28 "rows_grown")
  (Te:CT K mg Z T 29 "allot_changed")
  (Tf:CT K mg Z T 35 "faces_by_place")
  (Th:CT K mg Z T 36 "places_moved")
  (Ti:CT K mg Z T 30 "_law_cell_at")
  (Tj:CT K mg Z T 31 "_law_stream")
  (Tn:CT K mg Z T 33 "_law_whole")
  (To:CT K mg Z T 32 "_law_names")
  (Tp:G3 K mg Z T 34 "_law_told_shares")
  (Tq:CT K mg Z T 37 "_law_allot")
  (Tr:CT K mg Z T 42 "_law_common")
  (Ts:CT K mg Z T 43 "_law_moved")
  (a44:W.nsIn K mainGlobals "law" = some (some (.ref N4))) (l44:K.lookup N4=some ⟨N7,N5,.func (W.fnOf "law" "law" (bH (top 29)) (aM (top 29)) (av (top 29)) .none LM LN LO LL J1 LP),N6⟩) (e44:W.codeIn K J1 "law" = true) (k44:W.keepIn K (.ref N4)=true)
  (q20:W.nsIn K mainGlobals "PLACES" = some (some (.int 10007 S3)))
  (u38:W.nsIn K mainGlobals "Twice" = some (some (.ref Hm)))
  (u39:W.nsIn K mainGlobals "TooMuch" = some (some (.ref Hn)))
  (u40:W.nsIn K mainGlobals "NoFace" = some (some (.ref Ho)))
  (u41:W.nsIn K mainGlobals "BadShare" = some (some (.ref Hq)))
  (vn38:nameIn K Hm=some "Twice")
  (vg38:W.findIn K (.ref Hm) "__getattribute__" = some (some (.builtin "BaseException.__getattribute__")))
  (vo38:W.findIn K (.ref Hm) "__getattr__" = some none)
  (vc38:W.findIn K (.ref Hm) "__class__" = some (some (.builtin "object.__class__")))
  (vb38:W.mroIn K Hm (.type "BaseException")=some true)
  (vj38:W.mroIn K Hm (.type "object")=some true)
  (vi38:(W.clsIn K Hm).isSome=true)
  (vx38:W.excIn K Hm Kh "ValueError.__new__" = true)
  (vn39:nameIn K Hn=some "TooMuch")
  (vg39:W.findIn K (.ref Hn) "__getattribute__" = some (some (.builtin "BaseException.__getattribute__")))
  (vo39:W.findIn K (.ref Hn) "__getattr__" = some none)
  (vc39:W.findIn K (.ref Hn) "__class__" = some (some (.builtin "object.__class__")))
  (vb39:W.mroIn K Hn (.type "BaseException")=some true)
  (vj39:W.mroIn K Hn (.type "object")=some true)
  (vi39:(W.clsIn K Hn).isSome=true)
  (vx39:W.excIn K Hn Kh "ValueError.__new__" = true)
  (vn40:nameIn K Ho=some "NoFace")
  (vg40:W.findIn K (.ref Ho) "__getattribute__" = some (some (.builtin "BaseException.__getattribute__")))
  (vo40:W.findIn K (.ref Ho) "__getattr__" = some none)
  (vc40:W.findIn K (.ref Ho) "__class__" = some (some (.builtin "object.__class__")))
  (vb40:W.mroIn K Ho (.type "BaseException")=some true)
  (vj40:W.mroIn K Ho (.type "object")=some true)
  (vi40:(W.clsIn K Ho).isSome=true)
  (vx40:W.excIn K Ho Kh "ValueError.__new__" = true)
  (vn41:nameIn K Hq=some "BadShare")
  (vg41:W.findIn K (.ref Hq) "__getattribute__" = some (some (.builtin "BaseException.__getattribute__")))
  (vo41:W.findIn K (.ref Hq) "__getattr__" = some none)
  (vc41:W.findIn K (.ref Hq) "__class__" = some (some (.builtin "object.__class__")))
  (vb41:W.mroIn K Hq (.type "BaseException")=some true)
  (vj41:W.mroIn K Hq (.type "object")=some true)
  (vi41:(W.clsIn K Hq).isSome=true)
  (vx41:W.excIn K Hq Kh "ValueError.__new__" = true)
  (z0:W.nsIn K mainGlobals "len" = some none)
  (z1:W.nsIn K mainGlobals "sum" = some none)
  (z2:W.nsIn K mainGlobals "min" = some none)
  (z3:W.nsIn K mainGlobals "max" = some none)
  (z4:W.nsIn K mainGlobals "sorted" = some none)
  (z5:W.nsIn K mainGlobals "list" = some none)
  (z6:W.nsIn K mainGlobals "tuple" = some none)
  (z7:W.nsIn K mainGlobals "ord" = some none)
  (z8:W.nsIn K mainGlobals "int" = some none)
  (z9:W.nsIn K mainGlobals "all" = some none)
  (z10:W.nsIn K mainGlobals "any" = some none)
  (z11:W.nsIn K mainGlobals "str" = some none)
  (z12:W.nsIn K mainGlobals "set" = some none)
  (z13:W.nsIn K mainGlobals "abs" = some none)
  (z14:W.nsIn K mainGlobals "isinstance" = some none)
  (z15:W.nsIn K mainGlobals "range" = some none)
  (z16:W.nsIn K mainGlobals "bool" = some none)
  (z17:W.nsIn K mainGlobals "zip" = some none)
  (z18:W.nsIn K mainGlobals "reversed" = some none)
  (z19:W.nsIn K mainGlobals "dict" = some none) :
  ∃ fd:FuncData,(∀ (s:Shared) (v:Value),BindsTo s fd ⟨[v],[]⟩ [(sT,v)])/\∀ base:Heap,K.In base->base.Ns mainGlobals mg->DN l.prog w K mg base (DJ l.prog w) (12+1) fa fd [sT] (Kv K (af T (12+1)) sS [sT]):=by
 have e:=S4.symm.trans (PySem.W.mg_of X G a44)
 cases e
 have t:EF K mg Z T:=by
  constructor
  case Hd=>
   exact xR
  case blt=>
   exact fun n x hx=>by
    have key:∀ y∈aJ,mg y=none:=by
     intro y hy
     simp only[aJ,List.mem_cons,List.not_mem_nil,or_false] at hy
     rcases hy with rfl|rfl|rfl|rfl|rfl|rfl|rfl|rfl|rfl|rfl|rfl|rfl|rfl|rfl|rfl|rfl|rfl|rfl|rfl|rfl
     ·exact W.mg_none_of X G z0
     ·exact W.mg_none_of X G z1
     ·exact W.mg_none_of X G z2
     ·exact W.mg_none_of X G z3
     ·exact W.mg_none_of X G z4
     ·exact W.mg_none_of X G z5
     ·exact W.mg_none_of X G z6
     ·exact W.mg_none_of X G z7
     ·exact W.mg_none_of X G z8
     ·exact W.mg_none_of X G z9
     ·exact W.mg_none_of X G z10
     ·exact W.mg_none_of X G z11
     ·exact W.mg_none_of X G z12
     ·exact W.mg_none_of X G z13
     ·exact W.mg_none_of X G z14
     ·exact W.mg_none_of X G z15
     ·exact W.mg_none_of X G z16
     ·exact W.mg_none_of X G z17
     ·exact W.mg_none_of X G z18
     ·exact W.mg_none_of X G z19
    exact key x (List.mem_of_getElem? hx)
  case cst=>
   exact fun n d x hm hx=>by
    have Hh:(n,d)∈([(20,(.int 10007))]:List (Nat×D)):=hm
    simp only[List.mem_cons,List.not_mem_nil,or_false,Prod.mk.injEq] at Hh
    rcases Hh with ⟨rfl,rfl⟩
    ·cases hx;exact⟨_,.int _,PySem.W.mg_of X G q20,⟨_,rfl⟩,fun _ _=>.int _⟩
  case fns=>
   exact fun f hf x hx=>by
    have Fq:f∈([21,22,23,24,25,26,27,28,29,35,36,30,31,33,32,37,42,43,44]:List Nat):=hf
    simp only[List.mem_cons,List.not_mem_nil,or_false] at Fq
    rcases Fq with rfl|rfl|rfl|rfl|rfl|rfl|rfl|rfl|rfl|rfl|rfl|rfl|rfl|rfl|rfl|rfl|rfl|rfl|rfl
    ·cases hx;exact S5
    ·cases hx;exact S6
    ·cases hx;exact S7
    ·cases hx;exact S8
    ·cases hx;exact S9
    ·cases hx;exact Ta
    ·cases hx;exact Tc
    ·cases hx;exact Td
    ·cases hx;exact Te
    ·cases hx;exact Tf
    ·cases hx;exact Th
    ·cases hx;exact Ti
    ·cases hx;exact Tj
    ·cases hx;exact Tn
    ·cases hx;exact To
    ·cases hx;exact Tq
    ·cases hx;exact Tr
    ·cases hx;exact Ts
    ·cases hx;exact dfo Qk rfl (fun _ _ _ _ _ _=>ln1 fun _=>rfl) X G a44 l44 e44 k44
  case EB=>
   exact fun f hf x hx=>by
    have Fq:f∈([34]:List Nat):=hf
    simp only[List.mem_cons,List.not_mem_nil,or_false] at Fq
    rcases Fq with rfl
    ·cases hx;exact Tp
  case Px=>
   exact fun f hf=>absurd (show f∈([]:List Nat) from hf) (by simp)
  case Iu=>
   exact fun n hn=>absurd (show n∈([]:List Nat) from hn) (by simp)
  case Iw=>
   exact fun c n b x hm=>absurd (show (c,n,b)∈([]:List (Str×Nat×Bool)) from hm) (by simp)
  case Iy=>
   exact fun c n x hm=>absurd (show (c,n)∈([]:List (Str×Nat)) from hm) (by simp)
  case He=>
   exact fun n c hm=>by
    have Hh:(n,c)∈([(38,"Twice"),(39,"TooMuch"),(40,"NoFace"),(41,"BadShare")]:List (Nat×Str)):=hm
    simp only[List.mem_cons,List.not_mem_nil,or_false,Prod.mk.injEq] at Hh
    rcases Hh with ⟨rfl,rfl⟩|⟨rfl,rfl⟩|⟨rfl,rfl⟩|⟨rfl,rfl⟩
    ·exact⟨rfl,Hm,PySem.W.mg_of X G u38,u38,vx38⟩
    ·exact⟨rfl,Hn,PySem.W.mg_of X G u39,u39,vx39⟩
    ·exact⟨rfl,Ho,PySem.W.mg_of X G u40,u40,vx40⟩
    ·exact⟨rfl,Hq,PySem.W.mg_of X G u41,u41,vx41⟩
 exact⟨PySem.W.fnOf "law" "law" (bH (top 29)) (aM (top 29)) (av (top 29)) .none LM LN LO LL J1 LP,fun s v=>.of_eq rfl,fun base _ _=>xD t 12 (by decide) (f:=44) (fn:=IF) rfl (d9 (st:=top 29) l44 e44 k44) (iW Qk)⟩
end Law
namespace L2
open PySem PySem.Spec PyProof.Rows PySem.SeqAt
namespace Fr
variable {T:Tb}
theorem cell {f:Nat}{fn:Fn}(hT:T f=some fn)(h0:fn.io=none)(h1:fn.np=2)(h2:fn.G.N.length=2)(h3:fn.body=vH)(n:Nat)(ns:List Int)(k:Int)(hk:0<=k):af T (n+1) f [.lst false (ns.map .int),.int k]=.ok (.int (ns.getD k.toNat 0)):=by
 rw[Ev.go hT h0 h1 h2 h3 rfl]
 unfold vH
 by_cases h:k < (ns.length:Int)
 ·have hd:decide (k < (((ns.map D.int).length:Nat):Int))=true:=decide_eq_true (by rw[List.length_map];exact h)
  simp -implicitDefEqProofs (disch:=omega) only[CL,Nat.reduceBEq,Nat.reduceSub,Nat.reduceAdd,reduceIte,hd]
 ·have hd:decide (k < (((ns.map D.int).length:Nat):Int))=false:=decide_eq_false (by rw[List.length_map];exact h)
  simp -implicitDefEqProofs (disch:=omega) only[CL,Nat.reduceBEq,Nat.reduceSub,Nat.reduceAdd,reduceIte,hd]
  rw[List.getD_eq_getElem?_getD,List.getElem?_eq_none (by omega)]
  rfl
noncomputable def gZ:List IS:=[(.asg (.nm 3) (.bin .mod (.bin .add (.bin .add (.bin .mul (.v 3) (.c (.int 48271))) (.bin .mul (.bin .mul (.c (.int 7)) (.v 4)) (.v 4))) (.c (.int 3))) (.c (.int 2147483647)))),(.app 2 (.bin .fdiv (.v 3) (.c (.int 16))))]
noncomputable def kO:List IS:=[(.asg (.nm 2) (.lst [])),(.asg (.nm 3) (.bin .add (.bin .mod (.v 0) (.c (.int 2147483647))) (.c (.int 1)))),(.CM (.nm 4) (.C4 (.v 1)) gZ),(.ret (.v 2))]
theorem stream {f:Nat}{fn:Fn}(hT:T f=some fn)(h0:fn.io=none)(h1:fn.np=2)(h2:fn.G.N.length=5)(h3:fn.body=kO)(n:Nat)(c m:Int)(Uo:0<=m)(hm:m<=1000) :
  ∃ xs:List Int,af T (n+1) f [.int c,.int m]=.ok (.lst true (xs.map .int))/\xs.length=m.toNat/\∀ x∈xs,0<=x:=by
 rw[Ev.go hT h0 h1 h2 h3 rfl]
 unfold kO
 obtain⟨Cr,e,xs,num,kk,rfl,hl,hx,hn⟩:=Ev.gY (its:=bb 0 m) (τ:=[some (.int c),some (.int m),some (.lst true []),some (.int (c % 2147483647+1)),none]) (body:=Ev.turn (af T n) (.nm 4) gZ)
  (fun i τ=>∃ (xs:List Int) (num:Int) (kk:Option D),τ=[some (.int c),some (.int m),some (.lst true (xs.map .int)),some (.int num),kk]/\xs.length=i/\(∀ x∈xs,0<=x)/\0<=num)
  ⟨[],_,none,rfl,rfl,fun x hx=>absurd hx (by simp),by have:=Int.emod_nonneg c (show (2147483647:Int)≠0 by decide);omega⟩ (by
   rintro i x τ hx ⟨xs,num,kk,rfl,hl,Tt,hn⟩
   have hi:i < m.toNat:=by
    have:=(List.getElem?_eq_some_iff.mp hx).1
    rw[bA] at this
    omega
   unfold bb at hx
   rw[List.getElem?_map,List.getElem?_range (by omega)] at hx
   have DP:D.int (0+(i:Nat))=x:=Option.some.inj hx
   subst DP
   refine⟨[some (.int c),some (.int m),some (.lst true ((xs++[(num*48271+7*(0+(i:Int))*(0+(i:Int))+3) % 2147483647 / 16]).map .int)),some (.int ((num*48271+7*(0+(i:Int))*(0+(i:Int))+3) % 2147483647)),some (.int (0+(i:Nat)))],?_,_,_,_,rfl,by rw[List.length_append,List.length_singleton,hl],fun x hx=>?_,Int.emod_nonneg _ (by decide)⟩
   ·unfold gZ
    simp -implicitDefEqProofs (disch:=omega) only[CL,Nat.reduceBEq,Nat.reduceSub,Nat.reduceAdd,reduceIte,Ev.ay,List.map_append,List.length_map]
   ·rcases List.mem_append.mp hx with hx|hx
    ·exact Tt x hx
    ·rw[List.mem_singleton] at hx
     rw[hx]
     exact Int.ediv_nonneg (Int.emod_nonneg _ (by decide)) (by decide))
 refine⟨xs,?_,?_,hx⟩
 ·simp -implicitDefEqProofs (disch:=omega) only[CL,Nat.reduceBEq,Nat.reduceSub,Nat.reduceAdd,reduceIte,e]
 ·rw[hl,bA];omega
noncomputable def one (c:Nat):Str:=⟨#[c]⟩
noncomputable def CZ (cs:List Nat):Str:=⟨cs.toArray⟩
theorem qf:(Str.ofString "abcdefghijklmnopqrstuvwxyz").cps.toList=List.range' 97 26:=by decide +kernel
theorem kP:(Str.ofString "abcdefghijklmnopqrstuvwxyz").length=26:=by decide +kernel
theorem qg {i:Int}(h0:0<=i)(h1:i < 26):bg (.str "abcdefghijklmnopqrstuvwxyz") (.int i)=.ok (.str (one (97+i.toNat))):=by
 rw[Ev.NX h0 (by rw[kP];exact h1) (by rw[kP];decide),qf]
 have:(List.range' 97 26).getD i.toNat 0=97+i.toNat:=by
  rw[List.getD_eq_getElem?_getD,List.getElem?_range' (by omega)]
  show 97+1*i.toNat=_
  omega
 rw[this]
 rfl
theorem cO (cs:List Nat):(CZ cs).length=cs.length:=by unfold CZ Str.length;simp
theorem sU (c:Nat):(one c).length=1:=rfl
theorem f9:∀ (cs:List Nat) (acc:Array Nat),(cs.map one).foldl (fun acc p=>acc++(Str.ofString "").cps++p.cps) acc=acc++cs.toArray
 | [],acc=>by simp
 | c::cs,acc=>by
  have e:(Str.ofString "").cps = #[]:=by decide +kernel
  rw[List.map_cons,List.foldl_cons,f9 cs,e]
  show acc++#[]++#[c]++cs.toArray=_
  simp
theorem join_one (cs:List Nat):Txt.join "" (cs.map one)=CZ cs:=by
 show (⟨((cs.map one).drop 1).foldl (fun acc p=>acc++(Str.ofString "").cps++p.cps) ((cs.map one).headD Str.empty).cps⟩:Str)=_
 cases cs with
 | nil=>rfl
 | cons c cs=>
  rw[List.map_cons,List.drop_succ_cons,List.drop_zero,List.headD_cons,f9]
  unfold CZ one
  simp
theorem sV (cs:List Nat):((cs.map one).map (fun y:Str=>y.length)).sum=cs.length:=by
 induction cs with
 | nil=>rfl
 | cons c cs ih=>
  rw[List.map_cons,List.map_cons,List.sum_cons,ih,List.length_cons,sU]
  omega
theorem sW {o:Bool}{cs:List Nat}(h:cs.length<=1000):eE .join (.str "") [.lst o ((cs.map one).map .str)]=.ok (.str (CZ cs)):=by
 have e:(Str.ofString "").length=0:=by decide +kernel
 rw[Ev.sP (by rw[sV,List.length_map,e];omega),join_one]
theorem eZ {cs:List Nat}{j:Int}(h0:0<=j)(h1:j<=cs.length):Txt.slice (CZ cs) none (some j)=CZ (cs.take j.toNat):=by
 have:=StrLaws.sliceText_to (x:=CZ cs) (j:=j) ⟨h0,by show j<=(cs.toArray.toList.length:Nat);simpa using h1⟩
 refine this.trans ?_
 show (⟨((cs.toArray.toList.drop 0).take (j - 0).toNat).toArray⟩:Str)=⟨(cs.take j.toNat).toArray⟩
 rw[List.toList_toArray,List.drop_zero,Int.sub_zero]
theorem jJ {cs:List Nat}{i:Int}(h0:0<=i)(h1:i<=cs.length):Txt.slice (CZ cs) (some i) none=CZ (cs.drop i.toNat):=by
 have:=StrLaws.sliceText_from (x:=CZ cs) (i:=i) ⟨h0,by show i<=(cs.toArray.toList.length:Nat);simpa using h1⟩
 refine this.trans ?_
 show (⟨((cs.toArray.toList.drop i.toNat).take ((cs.toArray.toList.length:Int) - i).toNat).toArray⟩:Str)=⟨(cs.drop i.toNat).toArray⟩
 rw[List.toList_toArray,List.take_of_length_le (by rw[List.length_drop];omega)]
theorem sX (a b:List Nat):CZ a++CZ b=CZ (a++b):=by
 show (⟨a.toArray++b.toArray⟩:Str)=⟨(a++b).toArray⟩
 rw[List.append_toArray]
theorem kQ {a b:List Nat}(h:a.length+b.length<=1000):D6 .add (.str (CZ a)) (.str (CZ b))=.ok (.str (CZ (a++b))):=by
 rw[Ev.jH,Ev.dO (by rw[cO,cO];omega),sX]
 rfl
end Fr
end L2
namespace Law
open PySem PySem.Spec L2 L2.Fr
theorem kR {a b:List Nat}(h:CZ a=CZ b):a=b:=by
 unfold CZ at h
 injection h with h
 simpa using congrArg Array.toList h
theorem c5 (fs:List Str):Cy (fs.map .str)=fs.map D.str:=Ev.jI fs
theorem g8 (fs:List Str):ak (fs.map D.str)=true:=Ev.sQ fs
noncomputable def ch (c k:Int):Nat:=97+((c / 3+7*k) % 26).toNat
theorem g9 {α β:Type} [DecidableEq β](f:α->β):∀ {l:List α},l.Nodup->(∀ x∈l,∀ y∈l,f x=f y->x=y)->(l.map f).Nodup
 | [],_,_=>.nil
 | a::l,h,hf=>by
  rw[List.nodup_cons] at h
  rw[List.map_cons,List.nodup_cons]
  refine⟨fun z=>?_,g9 f h.2 fun x hx y hy=>hf x (List.mem_cons_of_mem _ hx) y (List.mem_cons_of_mem _ hy)⟩
  obtain⟨x,hx,e⟩:=List.mem_map.mp z
  have:=hf x (List.mem_cons_of_mem _ hx) a (by simp) e
  exact h.1 (this ▸ hx)
noncomputable def ks (m:Int):List Int:=(List.range (m - 0).toNat).map fun k=>0+((k:Nat):Int)
theorem vI (m:Int):(ks m).Nodup:=g9 _ List.nodup_range fun x _ y _ e=>by omega
theorem gb {m x:Int}(h:x∈ks m):0<=x/\x < m:=by
 obtain⟨k,hk,rfl⟩:=List.mem_map.mp h
 have:=List.mem_range.mp hk
 omega
theorem jK (m:Int):(ks m).length=(m - 0).toNat:=by unfold ks;rw[List.length_map,List.length_range]
structure Tu (m:Int)(fs:List Str):Prop where
 len:fs.length=(m - 0).toNat
 CP:fs.Nodup
 rep:∀ f∈fs,(reprText f).length<=1000
theorem kS {cs:List Nat}(h:∀ c∈cs,c < 1000)(hl:cs.length<=90):(reprText (CZ cs)).length<=1000:=by
 have h1:=StrLaws.reprText_len (CZ cs) (fun c hc=>by have:=h c (by simpa[CZ] using hc);omega)
 rw[cO] at h1
 omega
theorem qi (n:Nat)(c m:Int)(h0:0<=m)(h1:m<=12):∃ fs:List Str,af T (n+2) 32 [.int c,.int m]=.ok (.lst true (fs.map .str))/\Tu m fs:=by
 obtain⟨xs,ex,lx,px⟩:=stream (show T 31=some MC from rfl) rfl rfl rfl rfl n (c / 3) 8 (by omega) (by omega)
 have e1:aW (aQ (af T (n+1)) (.nm 1) [] (.idx (.v 0) (.bin .mod (.v 1) (.c (.int 26)))) [some (.str "abcdefghijklmnopqrstuvwxyz"),none]) (xs.map .int)=.ok (((xs.map fun x=>97+(x % 26).toNat).map one).map .str):=by
  have hg:(xs.map fun x=>97+(x % 26).toNat).map one=xs.map fun x:Int=>one (97+(x % 26).toNat):=by
   rw[List.map_map]
   rfl
  rw[hg]
  refine Ev.bC D.int (fun x:Int=>one (97+(x % 26).toNat)) .str _ fun x hx=>?_
  have Up:=Int.emod_nonneg x (show (26:Int)≠0 by decide)
  have Tv:=Int.emod_lt_of_pos x (show (0:Int) < 26 by decide)
  simp -implicitDefEqProofs (disch:=omega) only[CL,Nat.reduceBEq,Nat.reduceSub,Nat.reduceAdd,reduceIte,qg]
 have lb:(xs.map fun x=>97+(x % 26).toNat).length=8:=by rw[List.length_map,lx];rfl
 have Ql:∀ c∈(xs.map fun x=>97+(x % 26).toNat),c < 1000:=fun c hc=>by
  obtain⟨x,_,rfl⟩:=List.mem_map.mp hc
  have Tv:=Int.emod_lt_of_pos x (show (0:Int) < 26 by decide)
  omega
 generalize (xs.map fun x=>97+(x % 26).toNat)=cs at *
 have N8:(xs.map D.int).length=8:=by rw[List.length_map,lx];rfl
 have je:∀ o:Bool,eE .join (.str "") [.lst o ((cs.map one).map .str)]=.ok (.str (CZ cs)):=fun o=>sW (by omega)
 generalize (cs.map one).map D.str=J at *
 generalize xs.map D.int=X at *
 have rk:bb 0 m=(ks m).map .int:=Ev.qe 0 m
 have lk:((ks m).map D.int).length=(m - 0).toNat:=by rw[List.length_map,jK]
 by_cases hb:c % 3=1/\m<=8
 ·have b1:(c % 3 == 1)=true:=by rw[hb.1];rfl
  have b2:decide (m<=8)=true:=decide_eq_true hb.2
  have e2:aW (aQ (af T (n+1)) (.nm 1) [] (.sl (.v 0) none (some (.bin .add (.v 1) (.c (.int 1))))) [some (.str (CZ cs)),none]) ((ks m).map .int)=.ok (((ks m).map fun k=>CZ (cs.take (k+1).toNat)).map .str):=by
   refine Ev.bC D.int (fun k:Int=>CZ (cs.take (k+1).toNat)) .str _ fun k hk=>?_
   obtain⟨k0,k1⟩:=gb hk
   have es:=eZ (cs:=cs) (j:=k+1) (by omega) (by omega)
   have sl:=cO cs
   have s8:(CZ cs).length<=16777216:=by omega
   simp -implicitDefEqProofs (disch:=omega) only[CL,Nat.reduceBEq,Nat.reduceSub,Nat.reduceAdd,reduceIte,es]
  refine⟨(ks m).map fun k=>CZ (cs.take (k+1).toNat),?_,by rw[List.length_map,jK],g9 _ (vI m) fun x hx y hy e=>?_,fun f hf=>?_⟩
  ·rw[Ev.go (show T 32=some GC from rfl) (show GC.io=none from rfl) (show GC.np=2 from rfl) (show GC.G.N.length=5 from rfl) (show GC.body=LK from rfl) rfl];unfold LK
   generalize ((ks m).map fun k=>CZ (cs.take (k+1).toNat))=F at *
   have ff:=g8 F
   generalize (ks m).map D.int=KK at *
   simp -implicitDefEqProofs (disch:=omega) only[CL,Nat.reduceBEq,Nat.reduceSub,Nat.reduceAdd,reduceIte,ex,e1,je,b1,b2,rk,e2,N8,lk,ff]
  ·obtain⟨x0,x1⟩:=gb hx
   obtain⟨y0,y1⟩:=gb hy
   have:=congrArg List.length (kR e)
   rw[List.length_take,List.length_take] at this
   omega
  ·obtain⟨k,_,rfl⟩:=List.mem_map.mp hf
   exact kS (fun c hc=>Ql c (List.mem_of_mem_take hc)) (by rw[List.length_take];omega)
 ·have b3:((c % 3 == 1)&&decide (m<=8))=false:=by
   rw[Bool.and_eq_false_iff]
   by_cases hc:c % 3=1
   ·exact .inr (decide_eq_false fun z=>hb ⟨hc,z⟩)
   ·exact .inl (by simpa using hc)
  have m0:=Int.emod_nonneg (c / 3) (show (8:Int)≠0 by decide)
  have m1:=Int.emod_lt_of_pos (c / 3) (show (0:Int) < 8 by decide)
  have es:=eZ (cs:=cs) (j:=1+c / 3 % 8) (by omega) (by omega)
  have Uq:(cs.take (1+c / 3 % 8).toNat).length=(1+c / 3 % 8).toNat:=by rw[List.length_take];omega
  have sl:=cO cs
  have hB:∀ c'∈cs.take (1+c / 3 % 8).toNat,c' < 1000:=fun c' hc=>Ql c' (List.mem_of_mem_take hc)
  generalize cs.take (1+c / 3 % 8).toNat=B at *
  have Tw:=cO B
  have hlen:((CZ B).length:Int)=1+c / 3 % 8:=by rw[Tw];omega
  have a0:=Int.emod_nonneg (c / 24) (show ((CZ B).length:Int)≠0 by omega)
  have a1:=Int.emod_lt_of_pos (c / 24) (show (0:Int) < ((CZ B).length:Int) by omega)
  generalize Jm:c / 24 % ((CZ B).length:Int)=at' at *
  have Fw:=eZ (cs:=B) (j:=at') (by omega) (by omega)
  have Tx:=jJ (cs:=B) (i:=at' + 1) (by omega) (by omega)
  have la:(B.take at'.toNat).length<=8:=by rw[List.length_take];omega
  have lc:(B.drop (at' + 1).toNat).length<=8:=by rw[List.length_drop];omega
  have hA:∀ c'∈B.take at'.toNat,c' < 1000:=fun c' hc=>hB c' (List.mem_of_mem_take hc)
  have hC:∀ c'∈B.drop (at' + 1).toNat,c' < 1000:=fun c' hc=>hB c' (List.mem_of_mem_drop hc)
  generalize B.take at'.toNat=A at *
  generalize B.drop (at' + 1).toNat=C at *
  have e2:aW (aQ (af T (n+1)) (.nm 4) [] (.bin .add (.bin .add (.sl (.v 0) none (some (.v 1))) (.idx (.v 2) (.bin .mod (.bin .add (.bin .fdiv (.v 3) (.c (.int 3))) (.bin .mul (.c (.int 7)) (.v 4))) (.c (.int 26))))) (.sl (.v 0) (some (.bin .add (.v 1) (.c (.int 1)))) none)) [some (.str (CZ B)),some (.int at'),some (.str "abcdefghijklmnopqrstuvwxyz"),some (.int c),none]) ((ks m).map .int)=.ok (((ks m).map fun k=>CZ (A++[ch c k]++C)).map .str):=by
   refine Ev.bC D.int (fun k:Int=>CZ (A++[ch c k]++C)) .str _ fun k hk=>?_
   obtain⟨k0,k1⟩:=gb hk
   have r0:=Int.emod_nonneg (c / 3+7*k) (show (26:Int)≠0 by decide)
   have r1:=Int.emod_lt_of_pos (c / 3+7*k) (show (0:Int) < 26 by decide)
   have f0:=qg r0 r1
   rw[show one (97+((c / 3+7*k) % 26).toNat)=CZ [ch c k] from rfl] at f0
   have f1:D6 .add (.str (CZ A)) (.str (CZ [ch c k]))=.ok (.str (CZ (A++[ch c k]))):=kQ (by rw[List.length_cons,List.length_nil];omega)
   have f2:D6 .add (.str (CZ (A++[ch c k]))) (.str (CZ C))=.ok (.str (CZ (A++[ch c k]++C))):=kQ (by rw[List.length_append,List.length_cons,List.length_nil];omega)
   generalize CZ (A++[ch c k]++C)=W3 at *
   generalize CZ (A++[ch c k])=W2 at *
   generalize CZ [ch c k]=W1 at *
   have s8:(CZ B).length<=16777216:=by omega
   simp -implicitDefEqProofs (disch:=omega) only[CL,Nat.reduceBEq,Nat.reduceSub,Nat.reduceAdd,reduceIte,Fw,Tx,f0,f1,f2]
  refine⟨(ks m).map fun k=>CZ (A++[ch c k]++C),?_,by rw[List.length_map,jK],g9 _ (vI m) fun x hx y hy e=>?_,fun f hf=>?_⟩
  ·rw[Ev.go (show T 32=some GC from rfl) (show GC.io=none from rfl) (show GC.np=2 from rfl) (show GC.G.N.length=5 from rfl) (show GC.body=LK from rfl) rfl];unfold LK
   generalize ((ks m).map fun k=>CZ (A++[ch c k]++C))=F at *
   have ff:=g8 F
   generalize (ks m).map D.int=KK at *
   have s8:(CZ cs).length<=16777216:=by omega
   have s9:(CZ B).length<=16777216:=by omega
   have sp:(0:Int) < ((CZ B).length:Int):=by omega
   cases q1:(c % 3 == 1) with
   | true=>
    cases q2:decide (m<=8) with
    | true=>rw[q1,q2] at b3;cases b3
    | false=>simp -implicitDefEqProofs (disch:=omega) only[CL,Nat.reduceBEq,Nat.reduceSub,Nat.reduceAdd,reduceIte,ex,e1,je,q1,q2,rk,e2,N8,lk,ff,es,Jm]
   | false=>simp -implicitDefEqProofs (disch:=omega) only[CL,Nat.reduceBEq,Nat.reduceSub,Nat.reduceAdd,reduceIte,ex,e1,je,q1,rk,e2,N8,lk,ff,es,Jm]
  ·obtain⟨x0,x1⟩:=gb hx
   obtain⟨y0,y1⟩:=gb hy
   have e3:=kR e
   rw[List.append_assoc,List.append_assoc] at e3
   have e4:=List.append_cancel_left e3
   have e5:ch c x=ch c y:=by
    rw[List.singleton_append,List.singleton_append] at e4
    exact(List.cons.inj e4).1
   unfold ch at e5
   omega
  ·obtain⟨k,_,rfl⟩:=List.mem_map.mp hf
   have r1:=Int.emod_lt_of_pos (c / 3+7*k) (show (0:Int) < 26 by decide)
   refine kS (fun c' hc=>?_) (by simp only[List.length_append,List.length_cons,List.length_nil];omega)
   rcases List.mem_append.mp hc with hc|hc
   ·rcases List.mem_append.mp hc with hc|hc
    ·exact hA c' hc
    ·rw[List.mem_singleton.mp hc]
     unfold ch
     omega
   ·exact hC c' hc
theorem kT:∀ (l σ:List Str),(σ++l).Nodup->l.foldl Sx.dd σ=σ++l
 | [],σ,_=>by simp
 | v::l,σ,h=>by
  have hv:¬ (σ.any (· == v))=true:=fun z=>by
   obtain⟨a,ha,e⟩:=List.any_eq_true.mp z
   have e':a=v:=by simpa using e
   subst e'
   exact(List.nodup_append.mp h).2.2 a ha a (by simp) rfl
  have e:Sx.dd σ v=σ++[v]:=by unfold Sx.dd;rw[if_neg hv]
  rw[List.foldl_cons,e,kT l (σ++[v]) (by rw[List.append_assoc];exact h),List.append_assoc]
  rfl
theorem xS {fs:List Str}(h:fs.Nodup)(hl:fs.length < 1000)(o:Bool):jW (.lst o (fs.map .str))=.ok (.int (fs.length:Nat)):=by
 show (match bw (fs.map .str) with|some ys=>Co (decide (ys.length < 1000)) (.ok (.int ((ys.foldl Sx.dd []).length:Nat)))|none=>Cq)=(_:Res D)
 rw[Ev.ja]
 show Co (decide _) _=_
 rw[decide_eq_true hl,kT fs [] h]
 rfl
noncomputable def row (f:Str):D:=.tup [.str f,.lst false []]
noncomputable def MD (fs:List Str):D:=.tup [.lst true (fs.map row),.lst true [.tup [.int 0,.int 10007]]]
theorem sY (cl:Nat->List D->Res D)(fs:List Str):aW (aQ cl (.nm 0) [] (.tup [(.v 0),(.lst [])]) [none]) (fs.map .str)=.ok (fs.map fun f=>.tup [.str f,.lst true []]):=by
 have:=Ev.bC (g:=aQ cl (.nm 0) [] (.tup [(.v 0),(.lst [])]) [none]) D.str (fun f:Str=>f) (fun f=>D.tup [.str f,.lst true []]) fs fun f _=>by
  simp -implicitDefEqProofs (disch:=omega) only[CL,Nat.reduceBEq,Nat.reduceSub,Nat.reduceAdd,reduceIte]
 rw[this,List.map_id']
theorem sZ (fs:List Str):Cy (fs.map fun f=>D.tup [.str f,.lst true []])=fs.map row:=by
 rw[bT,List.map_map]
 rfl
theorem tf (fs:List Str):ak (fs.map fun f=>D.tup [.str f,.lst true []])=fs.isEmpty:=by
 cases fs<;>rfl
theorem xT (n:Nat)(fs:List Str)(h:fs.Nodup)(hl:fs.length<=50):af T (n+1) 24 [.lst false (fs.map .str)]=.ok (MD fs):=by
 have e1:=xS h (by omega)
 have e2:=sY (af T n) fs
 have e3:=sZ fs
 have e4:=tf fs
 have lm:(fs.map D.str).length=fs.length:=List.length_map _
 have hd:decide ((fs.length:Int) < (fs.length:Int))=false:=decide_eq_false (by omega)
 have el:fs.isEmpty=true->(fs.map fun f=>D.tup [.str f,.lst true []])=fs.map row:=fun z=>by
  cases fs with
  | nil=>rfl
  | cons _ _=>cases z
 unfold MD
 rw[Ev.go (show T 24=some JO from rfl) (show JO.io=none from rfl) (show JO.np=1 from rfl) (show JO.G.N.length=1 from rfl) (show JO.body=N1 from rfl) rfl];unfold N1
 generalize (fs.map fun f=>D.tup [.str f,.lst true []])=R at *
 generalize fs.map row=R' at *
 generalize fs.map D.str=S at *
 cases z:fs.isEmpty with
 | true=>
  have Tz:=el z
  rw[z] at e4
  subst Tz
  simp -implicitDefEqProofs (disch:=omega) only[CL,Nat.reduceBEq,Nat.reduceSub,Nat.reduceAdd,reduceIte,e1,e2,e3,e4,lm,hd]
 | false=>
  rw[z] at e4
  simp -implicitDefEqProofs (disch:=omega) only[CL,Nat.reduceBEq,Nat.reduceSub,Nat.reduceAdd,reduceIte,e1,e2,e3,e4,lm,hd]
end Law
namespace L2
open PySem PySem.Spec PyProof.Rows PySem.SeqAt
namespace Rn
variable {T:Tb}
noncomputable abbrev Pr:=Int×Int
noncomputable def Cs (p:Pr):D:=.tup [.int p.1,.int p.2]
theorem kU (run:List Pr):ak (run.map Cs)=true:=by
 rw[aX,List.all_map,List.all_eq_true]
 intro x _
 rfl
theorem ba (run:List Pr):Cy (run.map Cs)=run.map Cs:=bt (kU run)
noncomputable def cnt:List Pr->Int
 | []=>0
 | p::r=>(p.2 - p.1)+cnt r
noncomputable def CH (p:Pr)(w:Int):Int:=if p.2 < p.1+w then p.2 else p.1+w
noncomputable def bS:List Pr->List Pr->List Pr->Int->List Pr×List Pr
 | [],A,B,_=>(A,B)
 | p::r,A,B,w=>bS r (if p.1 < CH p w then A++[(p.1,CH p w)] else A) (if CH p w < p.2 then B++[(CH p w,p.2)] else B) (w - (CH p w - p.1))
theorem jb:∀ (r A B:List Pr) (w:Int),(bS r A B w).1.length<=A.length+r.length/\(bS r A B w).2.length<=B.length+r.length
 | [],A,B,w=>⟨Nat.le_refl _,Nat.le_refl _⟩
 | p::r,A,B,w=>by
  obtain⟨h1,h2⟩:=jb r (if p.1 < CH p w then A++[(p.1,CH p w)] else A) (if CH p w < p.2 then B++[(CH p w,p.2)] else B) (w - (CH p w - p.1))
  have a1:(if p.1 < CH p w then A++[(p.1,CH p w)] else A).length<=A.length+1:=by split<;>simp
  have a2:(if CH p w < p.2 then B++[(CH p w,p.2)] else B).length<=B.length+1:=by split<;>simp
  unfold bS
  rw[List.length_cons]
  exact⟨by omega,by omega⟩
noncomputable def IG:List IS:=[(.asg (.nm 7) (.bi .min2 [(.bin .add (.v 5) (.v 4)),(.v 6)])),(.Dl (.cmp .lt (.v 5) (.v 7)) [(.app 2 (.tup [(.v 5),(.v 7)]))] []),(.Dl (.cmp .lt (.v 7) (.v 6)) [(.app 3 (.tup [(.v 7),(.v 6)]))] []),(.asg (.nm 4) (.bin .sub (.v 4) (.bin .sub (.v 7) (.v 5))))]
noncomputable def Qm:List IS:=[(.asg (.nm 2) (.lst [])),(.asg (.nm 3) (.lst [])),(.asg (.nm 4) (.v 1)),(.CM (.tp [(.nm 5),(.nm 6)]) (.val (.v 0)) IG),(.ret (.tup [(.v 2),(.v 3)]))]
theorem dP (A:List Pr)(p:Pr):(A++[p]).map Cs=A.map Cs++[.tup [.int p.1,.int p.2]]:=by rw[List.map_append];rfl
theorem tj {cl:Nat->List D->Res D}(r0 m0:D)(A B:List Pr)(hA:A.length<=1000)(hB:B.length<=1000)(w:Int)(p:Pr)(x y z:Option D) :
  Ev.turn cl (.tp [(.nm 5),(.nm 6)]) IG (Cs p) [some r0,some m0,some (.lst true (A.map Cs)),some (.lst true (B.map Cs)),some (.int w),x,y,z]=.ok (.nx [some r0,some m0,some (.lst true ((if p.1 < CH p w then A++[(p.1,CH p w)] else A).map Cs)),some (.lst true ((if CH p w < p.2 then B++[(CH p w,p.2)] else B).map Cs)),some (.int (w - (CH p w - p.1))),some (.int p.1),some (.int p.2),some (.int (CH p w))]):=by
 have hc:(if p.2 < p.1+w then p.2 else p.1+w)=CH p w:=rfl
 rw[show Cs p=.tup [.int p.1,.int p.2] from rfl]
 generalize CH p w=c at *
 by_cases c1:p.1 < c<;>by_cases c2:c < p.2
 ·have d1:decide (p.1 < c)=true:=decide_eq_true c1
  have d2:decide (c < p.2)=true:=decide_eq_true c2
  rw[if_pos c1,if_pos c2,dP,dP]
  unfold IG
  simp -implicitDefEqProofs (disch:=omega) only[CL,Nat.reduceBEq,Nat.reduceSub,Nat.reduceAdd,reduceIte,Ev.ay,hc,d1,d2,List.length_map]
 ·have d1:decide (p.1 < c)=true:=decide_eq_true c1
  have d2:decide (c < p.2)=false:=decide_eq_false c2
  rw[if_pos c1,if_neg c2,dP]
  unfold IG
  simp -implicitDefEqProofs (disch:=omega) only[CL,Nat.reduceBEq,Nat.reduceSub,Nat.reduceAdd,reduceIte,Ev.ay,hc,d1,d2,List.length_map]
 ·have d1:decide (p.1 < c)=false:=decide_eq_false c1
  have d2:decide (c < p.2)=true:=decide_eq_true c2
  rw[if_neg c1,if_pos c2,dP]
  unfold IG
  simp -implicitDefEqProofs (disch:=omega) only[CL,Nat.reduceBEq,Nat.reduceSub,Nat.reduceAdd,reduceIte,Ev.ay,hc,d1,d2,List.length_map]
 ·have d1:decide (p.1 < c)=false:=decide_eq_false c1
  have d2:decide (c < p.2)=false:=decide_eq_false c2
  rw[if_neg c1,if_neg c2]
  unfold IG
  simp -implicitDefEqProofs (disch:=omega) only[CL,Nat.reduceBEq,Nat.reduceSub,Nat.reduceAdd,reduceIte,Ev.ay,hc,d1,d2,List.length_map]
theorem kW {cl:Nat->List D->Res D}(r0 m0:D):∀ (run A B:List Pr) (w:Int) (x y z:Option D),A.length+run.length<=1000->B.length+run.length<=1000->
  ∃ v x' y' z',forM (Ev.turn cl (.tp [(.nm 5),(.nm 6)]) IG) (run.map Cs) [some r0,some m0,some (.lst true (A.map Cs)),some (.lst true (B.map Cs)),some (.int w),x,y,z]=.ok (.nx [some r0,some m0,some (.lst true ((bS run A B w).1.map Cs)),some (.lst true ((bS run A B w).2.map Cs)),v,x',y',z'])
 | [],A,B,w,x,y,z,_,_=>⟨_,_,_,_,rfl⟩
 | p::r,A,B,w,x,y,z,h1,h2=>by
  rw[List.length_cons] at h1 h2
  rw[List.map_cons,Ev.bN,tj r0 m0 A B (by omega) (by omega)]
  have a1:(if p.1 < CH p w then A++[(p.1,CH p w)] else A).length<=A.length+1:=by split<;>simp
  have a2:(if CH p w < p.2 then B++[(CH p w,p.2)] else B).length<=B.length+1:=by split<;>simp
  exact kW r0 m0 r _ _ _ _ _ _ (by omega) (by omega)
theorem Bb {f:Nat}{fn:Fn}(hT:T f=some fn)(h0:fn.io=none)(h1:fn.np=2)(h2:fn.G.N.length=8)(h3:fn.body=Qm)(n:Nat)(run:List Pr)(hl:run.length<=1000)(w:Int):af T (n+1) f [.lst false (run.map Cs),.int w]=.ok (.tup [.lst true ((bS run [] [] w).1.map Cs),.lst true ((bS run [] [] w).2.map Cs)]):=by
 rw[Ev.go hT h0 h1 h2 h3 rfl]
 unfold Qm
 have pe:=ba run
 obtain⟨v,x',y',z',e⟩:=kW (cl:=af T n) (.lst false (run.map Cs)) (.int w) run [] [] w none none none (by simpa using hl) (by simpa using hl)
 generalize IG=tb at *
 rw[List.map_nil] at e
 simp -implicitDefEqProofs (disch:=omega) only[CL,Nat.reduceBEq,Nat.reduceSub,Nat.reduceAdd,reduceIte,pe,e]
end Rn
namespace Rn
variable {T:Tb}
theorem cP (a b:List Pr):cnt (a++b)=cnt a+cnt b:=by
 induction a with
 | nil=>show cnt b=0+cnt b;omega
 | cons p r ih=>show (p.2 - p.1)+cnt (r++b)=(p.2 - p.1)+cnt r+cnt b;rw[ih];omega
def Pos (run:List Pr):Prop:=∀ p∈run,p.1 < p.2
theorem hG {run:List Pr}(h:Pos run):0<=cnt run:=by
 induction run with
 | nil=>exact Int.le_refl _
 | cons p r ih=>
  have:=ih fun q hq=>h q (List.mem_cons_of_mem _ hq)
  have h1:=h p (.head _)
  show 0<=(p.2 - p.1)+cnt r
  omega
noncomputable def mI (x a b:Int):Int:=if a<=x/\x < b then 1 else 0
noncomputable def mc (x:Int):List Pr->Int
 | []=>0
 | p::r=>mI x p.1 p.2+mc x r
theorem dQ (x:Int)(a b:List Pr):mc x (a++b)=mc x a+mc x b:=by
 induction a with
 | nil=>show mc x b=0+mc x b;omega
 | cons p r ih=>show mI x p.1 p.2+mc x (r++b)=mI x p.1 p.2+mc x r+mc x b;rw[ih];omega
theorem qj {a b c:Int}(x:Int)(h1:a<=b)(h2:b<=c):mI x a b+mI x b c=mI x a c:=by
 unfold mI
 split<;>split<;>split<;>omega
theorem Bc {a b:Int}(x:Int)(h:b<=a):mI x a b=0:=if_neg (by omega)
theorem tm (xs:List D)(y:D):bD (CY 39) (xs++[y]) []=.ok false:=by cases xs<;>rfl
noncomputable def Qn:List IS:=[(.Dl (.Fj (.cmp .eq (.v 0) (.lst [])) (.Fj (.cmp .eq (.v 1) (.lst [])) (.cmp .ne (.idx (.idx (.v 0) (.neg (.c (.int 1)))) (.c (.int 1))) (.idx (.idx (.v 1) (.c (.int 0))) (.c (.int 0)))))) [(.ret (.bin .add (.v 0) (.v 1)))] []),(.asg (.nm 2) (.tup [(.idx (.idx (.v 0) (.neg (.c (.int 1)))) (.c (.int 0))),(.idx (.idx (.v 1) (.c (.int 0))) (.c (.int 1)))])),(.ret (.bin .add (.bin .add (.sl (.v 0) none (some (.neg (.c (.int 1))))) (.lst [(.v 2)])) (.sl (.v 1) (some (.c (.int 1))) none)))]
theorem qm (xs:List D)(y:D):cE (xs++[y]) none (some (-1))=xs:=by
 show ((xs++[y]).drop 0).take (((-1:Int)+(((xs++[y]).length:Nat):Int)).toNat - 0)=xs
 rw[List.drop_zero,Nat.sub_zero,List.length_append,List.length_singleton,show ((-1:Int)+((xs.length+1:Nat):Int)).toNat=xs.length by omega]
 exact List.take_left
theorem qo (x:D)(ys:List D):cE (x::ys) (some 1) none=ys:=by
 show ((x::ys).drop (min 1 (ys.length+1))).take ((ys.length+1) - min 1 (ys.length+1))=ys
 rw[show min 1 (ys.length+1)=1 from Nat.min_eq_left (by omega)]
 exact List.take_length
theorem Bd {f:Nat}{fn:Fn}(hT:T f=some fn)(h0:fn.io=none)(h1:fn.np=2)(h2:fn.G.N.length=3)(h3:fn.body=Qn)(n:Nat)(l r:List Pr)(ll:l.length<=1000)(lr:r.length<=1000):∃ j:List Pr,af T (n+1) f [.lst false (l.map Cs),.lst false (r.map Cs)]=.ok (.lst true (j.map Cs))/\cnt j=cnt l+cnt r/\(Pos l->Pos r->Pos j/\∀ x,mc x j=mc x l+mc x r)/\j.length<=l.length+r.length:=by
 rw[Ev.go hT h0 h1 h2 h3 rfl]
 unfold Qn
 have Qo:∀ a b:List Pr,ak (a.map Cs++b.map Cs)=true:=fun a b=>by rw[<- List.map_append];exact kU _
 rcases List.eq_nil_or_concat l with rfl|⟨c,q,rfl⟩
 ·refine⟨r,?_,by show _=0+_;omega,fun _ h=>⟨h,fun x=>by show _=0+_;omega⟩,by simp⟩
  have lf:=kU r
  have lR:(r.map Cs).length<=1000:=by rw[List.length_map];exact lr
  rw[List.map_nil]
  generalize r.map Cs=R at *
  simp -implicitDefEqProofs (disch:=omega) only[CL,Nat.reduceBEq,Nat.reduceSub,Nat.reduceAdd,reduceIte,lf]
 ·rw[List.concat_eq_append] at *
  obtain⟨ql,qh⟩:=q
  have hlen:((c++[(ql,qh)]).map Cs).length=c.length+1:=by simp
  have Qp:c.length+1<=1000:=by simpa using ll
  have Ez:bD (CY 39) ((c++[(ql,qh)]).map Cs) []=.ok false:=by rw[List.map_append];exact tm _ _
  have ME:bg (.lst false ((c++[(ql,qh)]).map Cs)) (.int (-1))=.ok (.tup [.int ql,.int qh]):=by
   rw[Ev.LJ]
   unfold DW
   rw[hlen]
   unfold E4
   rw[if_neg (by omega),if_pos (by omega),show ((-1+((c.length+1:Nat):Int))).toNat=c.length by omega]
   simp[Cs]
  have a0:∀ a b:Int,DW [D.int a,.int b] 0=some (.int a):=fun _ _=>rfl
  have a1:∀ a b:Int,DW [D.int a,.int b] 1=some (.int b):=fun _ _=>rfl
  cases r with
  | nil=>
   refine⟨c++[(ql,qh)],?_,by show _=_+0;omega,fun h _=>⟨h,fun x=>by show _=_+0;omega⟩,by simp⟩
   have lf:=kU (c++[(ql,qh)])
   generalize (c++[(ql,qh)]).map Cs=L at *
   simp -implicitDefEqProofs (disch:=omega) only[CL,Nat.reduceBEq,Nat.reduceSub,Nat.reduceAdd,reduceIte,Ez,List.append_nil,lf]
  | cons p rs=>
   obtain⟨pl,ph⟩:=p
   have hz:∀ zs:List D,bg (.lst false (.tup [.int pl,.int ph]::zs)) (.int 0)=.ok (.tup [.int pl,.int ph]):=by
    intro zs
    rw[Ev.LJ,Ev.gX .CD (Int.le_refl 0) (by rw[List.length_cons];omega)]
    rfl
   have Ur:rs.length+1<=1000:=by simpa using lr
   have hc:(rs.map Cs).length=rs.length:=List.length_map ..
   by_cases e:qh=pl
   ·have eb:(qh == pl)=true:=by simpa using e
    refine⟨(c++[(ql,ph)])++rs,?_,?_,fun h1 h2=>⟨fun p hp=>?_,fun x=>?_⟩,by simp<;>omega⟩
    rotate_left
    ·rw[cP,cP,cP]
     show cnt c+(ph - ql+0)+cnt rs=cnt c+(qh - ql+0)+(ph - pl+cnt rs)
     omega
    ·have a1:=h1 (ql,qh) (by simp)
     have a2:=h2 (pl,ph) (by simp)
     have a1:ql < qh:=a1
     have a2:pl < ph:=a2
     rcases List.mem_append.mp hp with hp|hp
     ·rcases List.mem_append.mp hp with hp|hp
      ·exact h1 p (List.mem_append_left _ hp)
      ·rw[List.mem_singleton.mp hp]
       show ql < ph
       omega
     ·exact h2 p (List.mem_cons_of_mem _ hp)
    ·have a1:ql < qh:=h1 (ql,qh) (by simp)
     have a2:pl < ph:=h2 (pl,ph) (by simp)
     rw[dQ,dQ,dQ]
     show mc x c+(mI x ql ph+0)+mc x rs=mc x c+(mI x ql qh+0)+(mI x pl ph+mc x rs)
     rw[e,<- qj x (a:=ql) (b:=pl) (c:=ph) (by omega) (by omega)]
     omega
    have lf:=Qo (c++[(ql,ph)]) rs
    have N9:cE ((c++[(ql,qh)]).map Cs) none (some (-1))=c.map Cs:=by rw[List.map_append];exact qm _ _
    have Qq:(c.map Cs).length=c.length:=List.length_map ..
    have TB:=qo (.tup [.int pl,.int ph]) (rs.map Cs)
    rw[List.map_append (l₁:=c++[(ql,ph)]),dP c (ql,ph)]
    rw[dP c (ql,ph)] at lf
    rw[show ((pl,ph)::rs).map Cs=.tup [.int pl,.int ph]::rs.map Cs from rfl]
    generalize rs.map Cs=R at *
    generalize (c++[(ql,qh)]).map Cs=L at *
    generalize c.map Cs=C at *
    simp -implicitDefEqProofs (disch:=omega) only[CL,Nat.reduceBEq,Nat.reduceSub,Nat.reduceAdd,reduceIte,Ez,ME,hz,a0,a1,eb,Ev.MB,lf,hlen,hc,Qq,N9,TB,List.length_append]
   ·have eb:(qh == pl)=false:=by simpa using e
    refine⟨(c++[(ql,qh)])++((pl,ph)::rs),?_,cP _ _,fun h1 h2=>⟨fun p hp=>(List.mem_append.mp hp).elim (h1 p) (h2 p),fun x=>dQ x _ _⟩,by rw[List.length_append];exact Nat.le_refl _⟩
    have lf:=Qo (c++[(ql,qh)]) ((pl,ph)::rs)
    rw[List.map_append (l₁:=c++[(ql,qh)]) (l₂:=(pl,ph)::rs),show ((pl,ph)::rs).map Cs=.tup [.int pl,.int ph]::rs.map Cs from rfl]
    rw[show ((pl,ph)::rs).map Cs=.tup [.int pl,.int ph]::rs.map Cs from rfl] at lf
    generalize rs.map Cs=R at *
    generalize (c++[(ql,qh)]).map Cs=L at *
    simp -implicitDefEqProofs (disch:=omega) only[CL,Nat.reduceBEq,Nat.reduceSub,Nat.reduceAdd,reduceIte,Ez,ME,hz,a0,a1,eb,Ev.MB,lf,hlen,hc]
end Rn
end L2
namespace Law
open PySem PySem.Spec L2 L2.Fr L2.Rn
theorem tq (run:List Pr):(run.map fun p:Pr=>p.2 - p.1).sum=cnt run:=by
 induction run with
 | nil=>rfl
 | cons p r ih=>rw[List.map_cons,List.sum_cons,ih];rfl
theorem hJ (n:Nat)(run:List Pr)(hl:run.length<=1000):af T (n+1) 21 [.lst false (run.map Cs)]=.ok (.int (cnt run)):=by
 rw[Ev.go (show T 21=some JN from rfl) (show JN.io=none from rfl) (show JN.np=1 from rfl) (show JN.G.N.length=1 from rfl) (show JN.body=NY from rfl) rfl];unfold NY
 have lc:(run.map Cs).length=run.length:=List.length_map ..
 have e1:aW (aQ (af T n) (.tp [(.nm 0),(.nm 1)]) [] (.bin .sub (.v 1) (.v 0)) [none,none]) (run.map Cs)=.ok ((run.map fun p:Pr=>p.2 - p.1).map .int):=by
  refine Ev.bC Cs (fun p:Pr=>p.2 - p.1) .int run fun p _=>?_
  obtain⟨l,h⟩:=p
  unfold Cs
  simp -implicitDefEqProofs (disch:=omega) only[CL,Nat.reduceBEq,Nat.reduceSub,Nat.reduceAdd,reduceIte]
 have e2:∀ o,cv .sum [.lst o ((run.map fun p:Pr=>p.2 - p.1).map .int)]=.ok (.int (cnt run)):=fun o=>by rw[Ev.pV (by rw[List.length_map];omega),tq]
 simp -implicitDefEqProofs (disch:=omega) only[CL,Nat.reduceBEq,Nat.reduceSub,Nat.reduceAdd,reduceIte,e1,e2]
noncomputable abbrev Rw:=Str×List Pr
noncomputable def au (o:Bool)(p:Rw):D:=.tup [.str p.1,.lst o (p.2.map Cs)]
noncomputable def alt (o o' HS:Bool)(rows:List Rw)(free:List Pr):D:=.tup [.lst o (rows.map (au o')),.lst HS (free.map Cs)]
theorem xU (o:Bool)(p:Rw):er (au o p)=au false p:=by
 unfold au
 rw[er,Cy,Cy,Cy,er,er,ba]
theorem bJ (o:Bool)(rows:List Rw):Cy (rows.map (au o))=rows.map (au false):=by
 rw[bT,List.map_map]
 exact List.map_congr_left fun p _=>xU o p
theorem bj (o o' HS:Bool)(rows:List Rw)(free:List Pr):er (alt o o' HS rows free)=alt false false false rows free:=by
 unfold alt
 rw[er,Cy,Cy,Cy,er,er,ba,bJ]
noncomputable abbrev Sh:=Str×Int
noncomputable def CO (p:Sh):D:=.tup [.str p.1,.int p.2]
theorem vJ (ps:List Sh):ak (ps.map CO)=true:=by
 rw[aX,List.all_map,List.all_eq_true]
 intro x _
 rfl
theorem qr (ps:List Sh):Cy (ps.map CO)=ps.map CO:=bt (vJ ps)
noncomputable def E6 (rows:List Rw):List Sh:=rows.map fun p=>(p.1,cnt p.2)
theorem gc (n:Nat)(rows:List Rw)(free:List Pr)(hl:rows.length<=1000)(hr:∀ p∈rows,p.2.length<=1000):af T (n+2) 25 [alt false false false rows free]=.ok (.lst true ((E6 rows).map CO)):=by
 have e1:aW (aQ (af T (n+1)) (.tp [(.nm 0),(.nm 1)]) [] (.tup [(.v 0),(.call 21 [(.v 1)])]) [none,none]) (rows.map (au false))=.ok ((rows.map fun p:Rw=>(p.1,cnt p.2)).map CO):=by
  refine Ev.bC (au false) (fun p:Rw=>(p.1,cnt p.2)) CO rows fun p hp=>?_
  have e:=hJ n p.2 (hr p hp)
  have pe:=ba p.2
  unfold au CO
  simp -implicitDefEqProofs (disch:=omega) only[CL,Nat.reduceBEq,Nat.reduceSub,Nat.reduceAdd,reduceIte,e,pe]
 have x0:bg (alt false false false rows free) (.int 0)=.ok (.lst false (rows.map (au false))):=rfl
 have lm:(rows.map (au false)).length=rows.length:=List.length_map _
 have lf:=vJ (E6 rows)
 unfold E6 at *
 rw[Ev.go (show T 25=some JP from rfl) (show JP.io=none from rfl) (show JP.np=1 from rfl) (show JP.G.N.length=1 from rfl) (show JP.body=N2 from rfl) rfl];unfold N2
 generalize alt false false false rows free=A at *
 generalize (rows.map fun p:Rw=>(p.1,cnt p.2)).map CO=Q at *
 generalize rows.map (au false)=R at *
 simp -implicitDefEqProofs (disch:=omega) only[CL,Nat.reduceBEq,Nat.reduceSub,Nat.reduceAdd,reduceIte,x0,e1,lm,lf]
theorem qt:∀ (r A B:List Pr) (w:Int),Pos r->0<=w->Pos A->Pos B->cnt (bS r A B w).1=cnt A+(if w < cnt r then w else cnt r)/\cnt (bS r A B w).2=cnt B+cnt r - (if w < cnt r then w else cnt r)/\Pos (bS r A B w).1/\Pos (bS r A B w).2
 | [],A,B,w,_,hw,hA,hB=>by
  show cnt A=cnt A+(if w < 0 then w else 0)/\cnt B=cnt B+0 - (if w < 0 then w else 0)/\Pos A/\Pos B
  rw[if_neg (by omega)]
  exact⟨by omega,by omega,hA,hB⟩
 | p::r,A,B,w,hp,hw,hA,hB=>by
  have h1:p.1 < p.2:=hp p (.head _)
  have hr:Pos r:=fun q hq=>hp q (List.mem_cons_of_mem _ hq)
  have hc:=hG hr
  have c1:p.1<=CH p w/\CH p w<=p.2:=by unfold CH;split<;>omega
  have c2:CH p w - p.1=if w < p.2 - p.1 then w else p.2 - p.1:=by unfold CH;split<;>split<;>omega
  have pA:Pos (if p.1 < CH p w then A++[(p.1,CH p w)] else A):=by
   split
   ·intro q hq
    rcases List.mem_append.mp hq with hq|hq
    ·exact hA q hq
    ·rw[List.mem_singleton.mp hq];assumption
   ·exact hA
  have pB:Pos (if CH p w < p.2 then B++[(CH p w,p.2)] else B):=by
   split
   ·intro q hq
    rcases List.mem_append.mp hq with hq|hq
    ·exact hB q hq
    ·rw[List.mem_singleton.mp hq];assumption
   ·exact hB
  obtain⟨i1,i2,i3,i4⟩:=qt r _ _ (w - (CH p w - p.1)) hr (by rw[c2];split<;>omega) pA pB
  have sA:cnt (if p.1 < CH p w then A++[(p.1,CH p w)] else A)=cnt A+(CH p w - p.1):=by
   split
   ·rw[cP];show cnt A+(CH p w - p.1+0)=_;omega
   ·omega
  have sB:cnt (if CH p w < p.2 then B++[(CH p w,p.2)] else B)=cnt B+(p.2 - CH p w):=by
   split
   ·rw[cP];show cnt B+(p.2 - CH p w+0)=_;omega
   ·omega
  unfold bS
  have ec:cnt (p::r)=(p.2 - p.1)+cnt r:=rfl
  refine⟨?_,?_,i3,i4⟩
  ·rw[i1,sA,ec,c2]
   split<;>split<;>split<;>omega
  ·rw[i2,sB,ec]
   have:CH p w=p.1+if w < p.2 - p.1 then w else p.2 - p.1:=by omega
   rw[this]
   split<;>split<;>split<;>omega
theorem kX:∀ (r A B:List Pr) (w:Int),Pos r->0<=w->(bS r A B w).1.length+(bS r A B w).2.length<=A.length+B.length+r.length+1/\(w=0->(bS r A B w).1.length+(bS r A B w).2.length<=A.length+B.length+r.length)
 | [],A,B,w,_,_=>⟨by show A.length+B.length<=_;rw[List.length_nil];omega,fun _=>by show A.length+B.length<=_;rw[List.length_nil];omega⟩
 | p::r,A,B,w,hp,hw=>by
  have h1:p.1 < p.2:=hp p (.head _)
  have hr:Pos r:=fun q hq=>hp q (List.mem_cons_of_mem _ hq)
  have c2:CH p w - p.1=if w < p.2 - p.1 then w else p.2 - p.1:=by unfold CH;split<;>split<;>omega
  have TC:0<=w - (CH p w - p.1):=by rw[c2];split<;>omega
  obtain⟨i1,i2⟩:=kX r (if p.1 < CH p w then A++[(p.1,CH p w)] else A) (if CH p w < p.2 then B++[(CH p w,p.2)] else B) (w - (CH p w - p.1)) hr TC
  have lA:(if p.1 < CH p w then A++[(p.1,CH p w)] else A).length=A.length+if p.1 < CH p w then 1 else 0:=by split<;>simp
  have lB:(if CH p w < p.2 then B++[(CH p w,p.2)] else B).length=B.length+if CH p w < p.2 then 1 else 0:=by split<;>simp
  rw[lA,lB] at i1 i2
  unfold bS
  rw[List.length_cons]
  have kA:(if p.1 < CH p w then 1 else 0)<=1:=by split<;>omega
  have kB:(if CH p w < p.2 then 1 else 0)<=1:=by split<;>omega
  have zA:¬ p.1 < CH p w->(if p.1 < CH p w then 1 else 0)=0:=fun h=>if_neg h
  have zB:¬ CH p w < p.2->(if CH p w < p.2 then 1 else 0)=0:=fun h=>if_neg h
  generalize (bS r _ _ _).1.length=l1 at *
  generalize (bS r _ _ _).2.length=l2 at *
  generalize (if p.1 < CH p w then 1 else 0)=d1 at *
  generalize (if CH p w < p.2 then 1 else 0)=d2 at *
  by_cases hz:w < p.2 - p.1
  ·rw[if_pos hz] at c2
   have i2:=i2 (by omega)
   exact⟨by omega,fun e=>by have:=zA (by omega);omega⟩
  ·rw[if_neg hz] at c2
   have:=zB (by omega)
   exact⟨by omega,fun e=>by omega⟩
theorem qu (x:Int):∀ (r A B:List Pr) (w:Int),Pos r->0<=w->mc x (bS r A B w).1+mc x (bS r A B w).2=mc x A+mc x B+mc x r
 | [],A,B,w,_,_=>by show mc x A+mc x B=mc x A+mc x B+0;omega
 | p::r,A,B,w,hp,hw=>by
  have h1:p.1 < p.2:=hp p (.head _)
  have hr:Pos r:=fun q hq=>hp q (List.mem_cons_of_mem _ hq)
  have c1:p.1<=CH p w/\CH p w<=p.2:=by unfold CH;split<;>omega
  have c2:CH p w - p.1=if w < p.2 - p.1 then w else p.2 - p.1:=by unfold CH;split<;>split<;>omega
  have i:=qu x r (if p.1 < CH p w then A++[(p.1,CH p w)] else A) (if CH p w < p.2 then B++[(CH p w,p.2)] else B) (w - (CH p w - p.1)) hr (by rw[c2];split<;>omega)
  have sA:mc x (if p.1 < CH p w then A++[(p.1,CH p w)] else A)=mc x A+mI x p.1 (CH p w):=by
   split
   ·rw[dQ];show mc x A+(mI x p.1 (CH p w)+0)=_;omega
   ·rw[Bc x (by omega)];omega
  have sB:mc x (if CH p w < p.2 then B++[(CH p w,p.2)] else B)=mc x B+mI x (CH p w) p.2:=by
   split
   ·rw[dQ];show mc x B+(mI x (CH p w) p.2+0)=_;omega
   ·rw[Bc x (by omega)];omega
  unfold bS
  rw[i,sA,sB]
  show _=_+(mI x p.1 p.2+mc x r)
  rw[<- qj x c1.1 c1.2]
  omega
theorem kY (n:Nat)(run:List Pr)(w:Int)(hl:run.length<=1000)(hp:Pos run)(hw:0<=w):∃ a b:List Pr,af T (n+1) 22 [.lst false (run.map Cs),.int w]=.ok (.tup [.lst true (a.map Cs),.lst true (b.map Cs)])/\
  cnt a=(if w < cnt run then w else cnt run)/\cnt b=cnt run - (if w < cnt run then w else cnt run)/\Pos a/\Pos b/\a.length<=run.length/\b.length<=run.length/\a.length+b.length<=run.length+1/\∀ x,mc x a+mc x b=mc x run:=by
 obtain⟨h1,h2,h3,h4⟩:=qt run [] [] w hp hw (fun _ h=>by cases h) (fun _ h=>by cases h)
 obtain⟨l1,l2⟩:=jb run [] [] w
 refine⟨_,_,Bb (show T 22=some NZ from rfl) rfl rfl rfl rfl n run hl w,?_,?_,h3,h4,by simpa using l1,by simpa using l2,by have:=(kX run [] [] w hp hw).1;simpa using this,fun x=>by rw[qu x run [] [] w hp hw];show 0+0+_=_;omega⟩
 ·rw[h1];show 0+_=_;omega
 ·rw[h2];show 0+_ - _=_;omega
theorem kZ (n:Nat)(l r:List Pr)(ll:l.length<=1000)(lr:r.length<=1000):∃ j:List Pr,af T (n+1) 23 [.lst false (l.map Cs),.lst false (r.map Cs)]=.ok (.lst true (j.map Cs))/\cnt j=cnt l+cnt r/\(Pos l->Pos r->Pos j/\∀ x,mc x j=mc x l+mc x r)/\j.length<=l.length+r.length:=
 Bd (show T 23=some N0 from rfl) rfl rfl rfl rfl n l r ll lr
noncomputable def kf (f:Str):Key:=.inr f
noncomputable def iv (v:Str->Int)(f:Str):D:=.int (v f)
noncomputable def dF (o:Bool)(fs:List Str)(v:Str->Int):D:=.Cu o (fs.map kf) (fs.map (iv v))
noncomputable def up (v:Str->Int)(f:Str)(x:Int):Str->Int:=fun g=>if g=f then x else v g
noncomputable def ups:(Str->Int)->List Sh->Str->Int
 | v,[]=>v
 | v,p::ps=>ups (up v p.1 p.2) ps
theorem kf_eq {f g:Str}:(kf f=kf g)=(f=g):=by
 unfold kf
 exact propext ⟨fun h=>Sum.inr.inj h,fun h=>by rw[h]⟩
theorem jL (v:Str->Int){f:Str}:∀ {fs:List Str},f∈fs->look (fs.map kf) (fs.map (iv v)) (kf f)=some (.int (v f))
 | g::fs,h=>by
  show (if kf g=kf f then some (iv v g) else look (fs.map kf) (fs.map (iv v)) (kf f))=_
  by_cases e:g=f
  ·rw[if_pos (by rw[e]),e];rfl
  ·rw[if_neg (by rw[kf_eq];exact e)]
   exact jL v ((List.mem_cons.mp h).resolve_left fun z=>e z.symm)
theorem qv (v:Str->Int){f:Str}:∀ {fs:List Str},f∉fs->look (fs.map kf) (fs.map (iv v)) (kf f)=none
 | [],_=>rfl
 | g::fs,h=>by
  show (if kf g=kf f then some (iv v g) else look (fs.map kf) (fs.map (iv v)) (kf f))=_
  rw[if_neg (by rw[kf_eq];exact fun e=>h (by rw[e];exact .head _))]
  exact qv v fun z=>h (List.mem_cons_of_mem _ z)
theorem mC (v:Str->Int)(f:Str)(fs:List Str):(look (fs.map kf) (fs.map (iv v)) (kf f)).isSome=decide (f∈fs):=by
 by_cases h:f∈fs
 ·rw[jL v h,decide_eq_true h];rfl
 ·rw[qv v h,decide_eq_false h];rfl
theorem qw (f:Str):∀ fs:List Str,iC (fs.map kf) (kf f)=decide (f∈fs)
 | []=>rfl
 | g::fs=>by
  have ih:=qw f fs
  unfold iC at *
  rw[List.map_cons,List.any_cons,ih]
  by_cases e:g=f
  ·rw[e];simp
  ·have:decide (kf g=kf f)=false:=decide_eq_false (by rw[kf_eq];exact e)
   rw[this,Bool.false_or]
   have e':¬ f=g:=fun z=>e z.symm
   simp[e']
theorem k6 (v:Str->Int)(x:Int){f:Str}{fs:List Str}(h:f∈fs):bM (fs.map kf) (kf f)=fs.map kf/\bx (fs.map kf) (fs.map (iv v)) (kf f) (.int x)=fs.map (iv (up v f x)):=by
 unfold bM bx
 rw[qw,decide_eq_true h,if_pos rfl,if_pos rfl]
 refine⟨rfl,?_⟩
 clear h
 induction fs with
 | nil=>rfl
 | cons g fs ih=>
  rw[List.map_cons,List.map_cons,List.zipWith_cons_cons,ih,List.map_cons]
  congr 1
  unfold iv up
  by_cases e:g=f
  ·rw[if_pos (by rw[e]),if_pos e]
  ·rw[if_neg (by rw[kf_eq];exact e),if_neg e]
theorem Be (v:Str->Int)(x:Int){f:Str}{fs:List Str}(h:f∉fs):fs.map (iv (up v f x))=fs.map (iv v):=
 List.map_congr_left fun g hg=>by
  unfold iv up
  rw[if_neg fun e=>h (by rw[<- e];exact hg)]
theorem k7 (v:Str->Int)(x:Int){f:Str}{fs:List Str}(h:f∉fs):bM (fs.map kf) (kf f)=(fs++[f]).map kf/\bx (fs.map kf) (fs.map (iv v)) (kf f) (.int x)=(fs++[f]).map (iv (up v f x)):=by
 unfold bM bx
 rw[qw,decide_eq_false h,if_neg Bool.false_ne_true,if_neg Bool.false_ne_true,List.map_append,List.map_append,Be v x h]
 refine⟨rfl,?_⟩
 congr 1
 show [D.int x]=[.int (if f=f then x else v f)]
 rw[if_pos rfl]
theorem qx (v:Str->Int)(fs:List Str):ak (fs.map (iv v))=true:=by
 rw[aX,List.all_map,List.all_eq_true]
 intro x _
 rfl
theorem gf (v:Str->Int)(fs:List Str):aC (fs.map (iv v))=true:=by
 unfold aC
 rw[List.all_map,List.all_eq_true]
 intro x _
 rfl
theorem Bf (v:Str->Int)(fs:List Str):Cy (fs.map (iv v))=fs.map (iv v):=bt (qx v fs)
theorem k8 (o:Bool)(fs:List Str)(v:Str->Int):er (dF o fs v)=dF false fs v:=by
 unfold dF
 rw[er,Bf]
theorem k9 (v:Str->Int):∀ fs:List Str,bc (fs.map (iv v))=some (fs.map v)
 | []=>rfl
 | f::fs=>by
  show (bc (fs.map (iv v))).map (v f::·)=_
  rw[k9 v fs]
  rfl
theorem Bg (o:Bool)(fs:List Str)(v:Str->Int):jV (dF o fs v)=.ok (.int (fs.map v).sum):=by
 show (match bc (fs.map (iv v)) with|some ns=>(.ok (.int ns.sum):Res D)|none=>Cq)=_
 rw[k9]
theorem jc (o:Bool){fs:List Str}(v:Str->Int){f:Str}(h:f∈fs):iD (dF o fs v) (.str f)=.ok (.int (v f)):=by
 show (match look (fs.map kf) (fs.map (iv v)) (kf f) with|some d=>(.ok d:Res D)|none=>Cq)=_
 rw[jL v h]
theorem Bh (o n:Bool)(fs:List Str)(v:Str->Int)(f:Str):Ev.xH n (.str f) (dF o fs v)=.ok (.bl (n != decide (f∈fs))):=by
 show (.ok (.bl (n != (look (fs.map kf) (fs.map (iv v)) (kf f)).isSome)):Res D)=_
 rw[mC]
noncomputable def Kz (c:Str->Int)(ns:List Str)(u:Str->Int):Str->Int:=fun f=>if f∈ns then u f else c f
theorem qy:∀ (ps:List Sh) (v v':Str->Int) (f:Str),f∈ps.map (·.1)->ups v ps f=ups v' ps f
 | [],_,_,_,h=>by cases h
 | p::ps,v,v',f,h=>by
  show ups (up v p.1 p.2) ps f=ups (up v' p.1 p.2) ps f
  by_cases e:f∈ps.map (·.1)
  ·exact qy ps _ _ f e
  ·have ef:f=p.1:=(List.mem_cons.mp h).resolve_right e
   have key:∀ (ps:List Sh) (w:Str->Int),f∉ps.map (·.1)->ups w ps f=w f:=by
    intro ps
    induction ps with
    | nil=>intro w _;rfl
    | cons q ps ih=>
     intro w hn
     show ups (up w q.1 q.2) ps f=w f
     rw[ih _ fun z=>hn (List.mem_cons_of_mem _ z)]
     unfold up
     rw[if_neg fun z=>hn (by rw[z];exact .head _)]
   rw[key ps _ e,key ps _ e]
   unfold up
   rw[if_pos ef,if_pos ef]
theorem lh:∀ (ps:List Sh) (w:Str->Int) (f:Str),f∉ps.map (·.1)->ups w ps f=w f
 | [],_,_,_=>rfl
 | q::ps,w,f,hn=>by
  show ups (up w q.1 q.2) ps f=w f
  rw[lh ps _ f fun z=>hn (List.mem_cons_of_mem _ z)]
  unfold up
  rw[if_neg fun z=>hn (by rw[z];exact .head _)]
theorem tu (c z:Str->Int)(ps:List Sh)(f:Str):Kz c (ps.map (·.1)) (ups z ps) f=ups c ps f:=by
 unfold Kz
 by_cases h:f∈ps.map (·.1)
 ·rw[if_pos h];exact qy ps _ _ f h
 ·rw[if_neg h,lh ps c f h]
theorem qz (fs:List Str)(u:Str->Int):∀ (ns:List Str) (c:Str->Int),(∀ f∈ns,f∈fs)->Ec (ns.map fun f=>(kf f,iv u f)) (fs.map kf) (fs.map (iv c))=(fs.map kf,fs.map (iv (Kz c ns u)))
 | [],c,_=>rfl
 | f::ns,c,h=>by
  show Ec (ns.map fun f=>(kf f,iv u f)) (bM (fs.map kf) (kf f)) (bx (fs.map kf) (fs.map (iv c)) (kf f) (.int (u f)))=_
  obtain⟨h1,h2⟩:=k6 c (u f) (h f (.head _))
  rw[h1,h2,qz fs u ns _ fun g hg=>h g (List.mem_cons_of_mem _ hg)]
  congr 1
  refine List.map_congr_left fun g _=>?_
  unfold iv Kz up
  by_cases a:g∈ns
  ·rw[if_pos a,if_pos (List.mem_cons_of_mem _ a)]
  ·rw[if_neg a]
   by_cases b:g=f
   ·rw[if_pos b,if_pos (by rw[b];exact .head _),b]
   ·rw[if_neg b,if_neg fun z=>(List.mem_cons.mp z).elim b a]
theorem lq (c:Str->Int):∀ (gs ns:List Str),(ns++gs).Nodup->Ec (gs.map fun f=>(kf f,iv c f)) (ns.map kf) (ns.map (iv c))=((ns++gs).map kf,(ns++gs).map (iv c))
 | [],ns,_=>by rw[List.append_nil];rfl
 | f::gs,ns,h=>by
  show Ec (gs.map fun f=>(kf f,iv c f)) (bM (ns.map kf) (kf f)) (bx (ns.map kf) (ns.map (iv c)) (kf f) (.int (c f)))=_
  have nf:f∉ns:=fun z=>(List.nodup_append.mp h).2.2 f z f (.head _) rfl
  obtain⟨h1,h2⟩:=k7 c (c f) nf
  have e:(ns++[f]).map (iv (up c f (c f)))=(ns++[f]).map (iv c):=List.map_congr_left fun g _=>by
   unfold iv up
   by_cases b:g=f
   ·rw[if_pos b,b]
   ·rw[if_neg b]
  have h':((ns++[f])++gs).Nodup:=by rw[List.append_assoc];exact h
  rw[h1,h2,e,lq c gs (ns++[f]) h',List.append_assoc]
  rfl
theorem vK (c:Str->Int):∀ fs:List Str,c8 ((fs.map fun f=>((f,c f):Sh)).map CO)=some (fs.map fun f=>(kf f,iv c f))
 | []=>rfl
 | f::fs=>by
  show (match cz (.str f),c8 ((fs.map fun f=>((f,c f):Sh)).map CO) with|some q,some ps=>some ((q,D.int (c f))::ps)|_,_=>none)=_
  rw[vK c fs]
  rfl
theorem Bj (j:Nat)(τ:Ev)(o:Bool)(c:Str->Int){fs:List Str}(h:fs.Nodup):l9 j τ (.lst o ((fs.map fun f=>((f,c f):Sh)).map CO))=.ok (τ.set j (some (dF true fs c))):=by
 have e:=lq c fs [] h
 have e:Ec (fs.map fun f=>(kf f,iv c f)) [] []=(fs.map kf,fs.map (iv c)):=e
 have s:aC ((fs.map fun f=>(kf f,iv c f)).map (·.2))=true:=by
  rw[List.map_map]
  exact gf c fs
 show (match c8 ((fs.map fun f=>((f,c f):Sh)).map CO) with|some ps=>Co (aC (ps.map (fun p:Key×D=>p.2))) (.ok (τ.set j (some (D.Cu true (Ec ps [] []).1 (Ec ps [] []).2))))|none=>Cq)=_
 rw[vK]
 show Co (aC ((fs.map fun f=>(kf f,iv c f)).map (·.2))) _=_
 rw[s,e]
 rfl
theorem vL (u:Str->Int):∀ ns:List Str,(ns.map kf).zip (ns.map (iv u))=ns.map fun f=>(kf f,iv u f)
 | []=>rfl
 | f::ns=>by rw[List.map_cons,List.map_cons,List.zip_cons_cons,vL u ns];rfl
theorem Bl (i:Nat)(τ:Ev)(o:Bool)(c u:Str->Int){fs ns:List Str}(h:∀ f∈ns,f∈fs)(hl:fs.length+ns.length<=1000):nB i τ (some (dF true fs c)) (some (dF o ns u))=.ok (τ.set i (some (dF true fs (Kz c ns u)))):=by
 show Co (aC (fs.map (iv c))&&aC (ns.map (iv u))&&a8 ((fs.map kf).length+(ns.map kf).length)) (.ok (τ.set i (some (.Cu true (Ec ((ns.map kf).zip (ns.map (iv u))) (fs.map kf) (fs.map (iv c))).1 (Ec ((ns.map kf).zip (ns.map (iv u))) (fs.map kf) (fs.map (iv c))).2))))=_
 rw[gf,gf,List.length_map,List.length_map,Ev.dO (by omega),vL,qz fs u ns c h]
 rfl
theorem tw (cl:Nat->List D->Res D)(i:Nat)(k:IR)(τ:Ev){f:Str}{fs:List Str}{v:Str->Int}{x:Int}(hk:Cn cl k τ=.ok (.str f))(h:f∈fs)(hl:fs.length<=1000):Ev.cJ cl i k τ (.int x) (some (dF true fs v))=.ok (.nx (τ.set i (some (dF true fs (up v f x))))):=by
 obtain⟨h1,h2⟩:=k6 v x h
 show Ev.cJ cl i k τ (.int x) (some (.Cu true (fs.map kf) (fs.map (iv v))))=_
 rw[Ev.d5 hk (by rw[qx,List.length_map,Ev.gW (by omega)];rfl)]
 show (.ok (.nx (τ.set i (some (.Cu true (bM (fs.map kf) (kf f)) (bx (fs.map kf) (fs.map (iv v)) (kf f) (.int x)))))):Res Fl)=_
 rw[h1,h2]
 rfl
theorem lu (cl:Nat->List D->Res D)(i:Nat)(k:IR)(τ:Ev){f:Str}{fs:List Str}{v:Str->Int}{x:Int}(hk:Cn cl k τ=.ok (.str f))(h:f∉fs)(hl:fs.length<=1000):Ev.cJ cl i k τ (.int x) (some (dF true fs v))=.ok (.nx (τ.set i (some (dF true (fs++[f]) (up v f x))))):=by
 obtain⟨h1,h2⟩:=k7 v x h
 show Ev.cJ cl i k τ (.int x) (some (.Cu true (fs.map kf) (fs.map (iv v))))=_
 rw[Ev.d5 hk (by rw[qx,List.length_map,Ev.gW (by omega)];rfl)]
 show (.ok (.nx (τ.set i (some (.Cu true (bM (fs.map kf) (kf f)) (bx (fs.map kf) (fs.map (iv v)) (kf f) (.int x)))))):Res Fl)=_
 rw[h1,h2]
 rfl
noncomputable def dR (fs:List Str):List Sh->List Str->Option Str
 | [],_=>none
 | p::r,seen=>if p.1∉fs then some "NoFace" else if p.1∈seen then some "Twice" else if p.2 < 0 then some "BadShare" else dR fs r (seen++[p.1])
noncomputable def tW:List IS:=[(.Dl (.G9 true (.v 4) (.v 2)) [(.C6 40 "NoFace" (.Gz "the allotment has no face " (.v 4) none))] []),(.Dl (.G9 false (.v 4) (.v 3)) [(.C6 38 "Twice" (.Gz "the face " (.v 4) (some " is told twice")))] []),(.Dl (.cmp .lt (.v 5) (.c (.int 0))) [(.C6 41 "BadShare" (.Gz "the face " (.v 4) (some " is to have fewer places than none")))] []),(.DI 3 (.v 4) (.v 5))]
theorem jM (x:Str)(y:Option Str)(z:Str)(hx:x.length<=100)(hy:(y.getD Str.empty).length<=100)(hz:(reprText z).length<=1000):∃ m,nC x y (.str z)=.ok (.str m):=by
 rw[Ev.pN,Ev.dO (by omega)]
 exact⟨_,rfl⟩
theorem xV (cl:Nat->List D->Res D)(a0 s0:D){fs seen:List Str}(c u:Str->Int)(p:Sh)(hl:seen.length<=1000)(hz:(reprText p.1).length<=1000)(x y:Option D) :
  Ev.turn cl (.tp [(.nm 4),(.nm 5)]) tW (CO p) [some a0,some s0,some (dF true fs c),some (dF true seen u),x,y] =
   if p.1∉fs then .error (.exc "NoFace") else if p.1∈seen then .error (.exc "Twice") else if p.2 < 0 then .error (.exc "BadShare") else .ok (.nx [some a0,some s0,some (dF true fs c),some (dF true (seen++[p.1]) (up u p.1 p.2)),some (.str p.1),some (.int p.2)]):=by
 obtain⟨f,v⟩:=p
 obtain⟨m1,f1⟩:=jM "the allotment has no face " none f (by decide +kernel) (by decide +kernel) hz
 obtain⟨m2,f2⟩:=jM "the face " (some " is told twice") f (by decide +kernel) (by decide +kernel) hz
 obtain⟨m3,f3⟩:=jM "the face " (some " is to have fewer places than none") f (by decide +kernel) (by decide +kernel) hz
 have i1:=Bh true true fs c f
 have i2:=Bh true false seen u f
 have st:f∉seen->∀ (τ:Ev),Cn cl (.v 4) τ=.ok (.str f)->Ev.cJ cl 3 (.v 4) τ (.int v) (some (dF true seen u))=.ok (.nx (τ.set 3 (some (dF true (seen++[f]) (up u f v))))):=fun h τ hk=>lu cl 3 (.v 4) τ hk h hl
 have Fz:f∉seen->Ev.cJ cl 3 (.v 4) [some a0,some s0,some (dF true fs c),some (dF true seen u),some (.str f),some (.int v)] (.int v) (some (dF true seen u))=.ok (.nx [some a0,some s0,some (dF true fs c),some (dF true (seen++[f]) (up u f v)),some (.str f),some (.int v)]):=fun h=>st h _ rfl
 show Ev.turn cl (.tp [(.nm 4),(.nm 5)]) tW (.tup [.str f,.int v]) _=if f∉fs then _ else if f∈seen then _ else if v < 0 then _ else _
 by_cases h1:f∈fs
 ·rw[if_neg (fun z=>z h1)]
  rw[decide_eq_true h1] at i1
  by_cases h2:f∈seen
  ·rw[if_pos h2]
   rw[decide_eq_true h2] at i2
   generalize dF true fs c=W at *
   generalize dF true seen u=S at *
   unfold tW
   simp -implicitDefEqProofs (disch:=omega) only[CL,Nat.reduceBEq,Nat.reduceSub,Nat.reduceAdd,reduceIte,Ev.ay,i1,i2,f2,bne_self_eq_false,Bool.false_bne]
  ·rw[if_neg h2]
   rw[decide_eq_false h2] at i2
   have G6:=Fz h2
   by_cases h3:v < 0
   ·rw[if_pos h3]
    have d3:decide (v < 0)=true:=decide_eq_true h3
    generalize dF true fs c=W at *
    generalize dF true seen u=S at *
    unfold tW
    simp -implicitDefEqProofs (disch:=omega) only[CL,Nat.reduceBEq,Nat.reduceSub,Nat.reduceAdd,reduceIte,Ev.ay,i1,i2,f3,d3,bne_self_eq_false,Bool.false_bne]
   ·rw[if_neg h3]
    have d3:decide (v < 0)=false:=decide_eq_false h3
    generalize dF true fs c=W at *
    generalize dF true seen u=S at *
    generalize dF true (seen++[f]) (up u f v)=S' at *
    unfold tW
    simp -implicitDefEqProofs (disch:=omega) only[CL,Nat.reduceBEq,Nat.reduceSub,Nat.reduceAdd,reduceIte,Ev.ay,i1,i2,d3,G6,bne_self_eq_false,Bool.false_bne]
 ·rw[if_pos h1]
  rw[decide_eq_false h1] at i1
  generalize dF true fs c=W at *
  generalize dF true seen u=S at *
  unfold tW
  simp -implicitDefEqProofs (disch:=omega) only[CL,Nat.reduceBEq,Nat.reduceSub,Nat.reduceAdd,reduceIte,Ev.ay,i1,f1,Bool.true_bne,Bool.not_false]
theorem qA (cl:Nat->List D->Res D)(a0 s0:D){fs:List Str}(c:Str->Int):∀ (ps:List Sh) (seen:List Str) (u:Str->Int) (x y:Option D),seen.length+ps.length<=1000->(∀ p∈ps,(reprText p.1).length<=1000)->
  (∀ e,dR fs ps seen=some e->forM (Ev.turn cl (.tp [(.nm 4),(.nm 5)]) tW) (ps.map CO) [some a0,some s0,some (dF true fs c),some (dF true seen u),x,y]=.error (.exc e))/\
  (dR fs ps seen=none->(∃ x' y',forM (Ev.turn cl (.tp [(.nm 4),(.nm 5)]) tW) (ps.map CO) [some a0,some s0,some (dF true fs c),some (dF true seen u),x,y]=.ok (.nx [some a0,some s0,some (dF true fs c),some (dF true (seen++ps.map (·.1)) (ups u ps)),x',y']))/\∀ p∈ps,p.1∈fs/\0<=p.2)
 | [],seen,u,x,y,_,_=>⟨(fun e h=>by cases h),fun _=>⟨⟨x,y,by rw[List.map_nil,List.map_nil,List.append_nil];rfl⟩,(fun p h=>by cases h)⟩⟩
 | p::ps,seen,u,x,y,hl,hz=>by
  rw[List.length_cons] at hl
  have ht:=xV cl a0 s0 (fs:=fs) (seen:=seen) c u p (by omega) (hz p (.head _)) x y
  rw[List.map_cons,Ev.bN]
  unfold dR
  by_cases h1:p.1∈fs
  ·rw[if_neg (fun z=>z h1)] at ht ⊢
   by_cases h2:p.1∈seen
   ·rw[if_pos h2] at ht ⊢
    exact⟨(fun e h=>by cases h;rw[ht];rfl),(fun h=>by cases h)⟩
   ·rw[if_neg h2] at ht ⊢
    by_cases h3:p.2 < 0
    ·rw[if_pos h3] at ht ⊢
     exact⟨(fun e h=>by cases h;rw[ht];rfl),(fun h=>by cases h)⟩
    ·rw[if_neg h3] at ht ⊢
     obtain⟨i1,i2⟩:=qA cl a0 s0 (fs:=fs) c ps (seen++[p.1]) (up u p.1 p.2) (some (.str p.1)) (some (.int p.2)) (by rw[List.length_append,List.length_singleton];omega) fun q hq=>hz q (List.mem_cons_of_mem _ hq)
     rw[ht]
     refine⟨fun e h=>i1 e h,fun h=>?_⟩
     obtain⟨⟨x',y',e⟩,hp⟩:=i2 h
     refine⟨⟨x',y',?_⟩,fun q hq=>?_⟩
     ·rw[List.append_assoc] at e
      exact e
     ·rcases List.mem_cons.mp hq with rfl|hq
      ·exact⟨h1,by omega⟩
      ·exact hp q hq
  ·rw[if_pos h1] at ht ⊢
   exact⟨(fun e h=>by cases h;rw[ht];rfl),(fun h=>by cases h)⟩
noncomputable def lsum (rows:List Rw):Nat:=(rows.map fun p=>p.2.length).sum
noncomputable def DV (x:Int)(rows:List Rw):Int:=(rows.map fun p=>mc x p.2).sum
theorem hU:∀ {rows:List Rw}{p:Rw},p∈rows->p.2.length<=lsum rows
 | q::rows,p,h=>by
  show _<=q.2.length+lsum rows
  rcases List.mem_cons.mp h with rfl|h
  ·omega
  ·have:=hU h
   omega
structure Al (fs:List Str)(c:Str->Int)(rows:List Rw)(free:List Pr)(L:Nat):Prop where
 CP:fs.Nodup
 LQ:fs.length<=6
 rep:∀ f∈fs,(reprText f).length<=1000
 sz:E6 rows=fs.map fun f=>(f,c f)
 pos:∀ p∈rows,Pos p.2
 HW:Pos free
 len:lsum rows+free.length<=L
 Ex:(fs.map c).sum+cnt free=10007
 LR:∀ x,DV x rows+mc x free=mI x 0 10007
theorem Al.G4 {fs:List Str}{c:Str->Int}{rows:List Rw}{free:List Pr}{L:Nat}(a:Al fs c rows free L):rows.length=fs.length:=by
 have:=congrArg List.length a.sz
 unfold E6 at this
 rwa [List.length_map,List.length_map] at this
theorem tx (n:Nat){fs:List Str}{c:Str->Int}{rows:List Rw}{free:List Pr}{L:Nat}(a:Al fs c rows free L)(hL:L<=1000)(ps:List Sh)(hp:ps.length<=100)(hz:∀ p∈ps,(reprText p.1).length<=1000) :
  (∀ e,dR fs ps []=some e->af T (n+3) 26 [alt false false false rows free,.lst false (ps.map CO)]=.error (.exc e))/\
  (dR fs ps []=none->(10007 < (fs.map (ups c ps)).sum->af T (n+3) 26 [alt false false false rows free,.lst false (ps.map CO)]=.error (.exc "TooMuch"))/\
   ((fs.map (ups c ps)).sum<=10007->af T (n+3) 26 [alt false false false rows free,.lst false (ps.map CO)]=.ok (dF true fs (ups c ps)))):=by
 have Qr:=a.G4
 have hf:=a.LQ
 have e1:=gc n rows free (by omega) fun p h=>by have h1:=hU h;have h2:=a.len;omega
 rw[a.sz] at e1
 have ae:=bj false false false rows free
 have e2:=Bj (j:=2) (τ:=[some (alt false false false rows free),some (.lst false (ps.map CO)),none,none,none,none]) (o:=true) c a.CP
 have pe:=qr ps
 obtain⟨i1,i2⟩:=qA (af T (n+2)) (alt false false false rows free) (.lst false (ps.map CO)) (fs:=fs) c ps [] (fun _=>0) none none (by rw[List.length_nil];omega) hz
 have TF:dF true [] (fun _=>0)=.Cu true [] []:=rfl
 rw[TF] at i1 i2
 have body:P'=[(.Jo 2 (.call 25 [(.v 0)])),(.asg (.nm 3) .D4),(.CM (.tp [(.nm 4),(.nm 5)]) (.val (.v 1)) tW),(.FE 2 3),(.Dl (.cmp .gt (.Fm (.v 2)) (.g 20 (.int 10007))) [(.Dy 39 "TooMuch" "the faces together would have more places than there are")] []),(.ret (.v 2))]:=rfl
 rw[Ev.go (show T 26=some JQ from rfl) (show JQ.io=none from rfl) (show JQ.np=2 from rfl) (show JQ.G.N.length=6 from rfl) (show JQ.body=_ from body) rfl]
 have Dc:l9 2 [some (alt false false false rows free),some (.lst false (ps.map CO)),none,none,none,none] (.lst true ((fs.map fun f=>((f,c f):Sh)).map CO))=.ok [some (alt false false false rows free),some (.lst false (ps.map CO)),some (dF true fs c),none,none,none]:=e2
 generalize (fs.map fun f=>((f,c f):Sh)).map CO=Q at *
 refine⟨fun e h=>?_,fun h=>?_⟩
 ·have i:=i1 e h
  generalize alt false false false rows free=A at *
  generalize tW=tb at *
  generalize ps.map CO=PS at *
  simp -implicitDefEqProofs (disch:=omega) only[CL,Nat.reduceBEq,Nat.reduceSub,Nat.reduceAdd,reduceIte,e1,Dc,ae,pe,i]
 ·obtain⟨⟨x',y',i⟩,NT⟩:=i2 h
  have N':∀ f∈ps.map (·.1),f∈fs:=fun f hf=>by
   obtain⟨p,hp,rfl⟩:=List.mem_map.mp hf
   exact(NT p hp).1
  rw[List.nil_append] at i
  have e3:nB 2 [some (alt false false false rows free),some (.lst false (ps.map CO)),some (dF true fs c),some (dF true (ps.map (·.1)) (ups (fun _=>0) ps)),x',y'] (some (dF true fs c)) (some (dF true (ps.map (·.1)) (ups (fun _=>0) ps)))=.ok [some (alt false false false rows free),some (.lst false (ps.map CO)),some (dF true fs (ups c ps)),some (dF true (ps.map (·.1)) (ups (fun _=>0) ps)),x',y']:=by
   have:=Bl 2 [some (alt false false false rows free),some (.lst false (ps.map CO)),some (dF true fs c),some (dF true (ps.map (·.1)) (ups (fun _=>0) ps)),x',y'] true c (ups (fun _=>0) ps) N' (by rw[List.length_map];omega)
   rw[this]
   have TH:Kz c (ps.map (·.1)) (ups (fun _=>0) ps)=ups c ps:=funext fun f=>tu c _ ps f
   rw[TH]
   rfl
  have e4:=Bg true fs (ups c ps)
  refine⟨fun hs=>?_,fun hs=>?_⟩
  ·have d1:decide ((10007:Int) < (fs.map (ups c ps)).sum)=true:=decide_eq_true hs
   generalize (fs.map (ups c ps)).sum=SS at *
   generalize dF true fs (ups c ps)=W' at *
   generalize dF true fs c=W at *
   generalize dF true (ps.map (·.1)) (ups (fun _=>0) ps)=TD at *
   generalize alt false false false rows free=A at *
   generalize tW=tb at *
   generalize ps.map CO=PS at *
   simp -implicitDefEqProofs (disch:=omega) only[CL,Nat.reduceBEq,Nat.reduceSub,Nat.reduceAdd,reduceIte,e1,Dc,ae,pe,i,e3,e4,d1]
  ·have d1:decide ((10007:Int) < (fs.map (ups c ps)).sum)=false:=decide_eq_false (by omega)
   generalize (fs.map (ups c ps)).sum=SS at *
   generalize dF true fs (ups c ps)=W' at *
   generalize dF true fs c=W at *
   generalize dF true (ps.map (·.1)) (ups (fun _=>0) ps)=TD at *
   generalize alt false false false rows free=A at *
   generalize tW=tb at *
   generalize ps.map CO=PS at *
   simp -implicitDefEqProofs (disch:=omega) only[CL,Nat.reduceBEq,Nat.reduceSub,Nat.reduceAdd,reduceIte,e1,Dc,ae,pe,i,e3,e4,d1]
noncomputable def mn (a b:Int):Int:=if b < a then b else a
noncomputable def tS:List IS:=[(.asg (.nm 6) (.call 22 [(.v 5),(.bi .min2 [(.C2 (.v 2) (.v 4)),(.call 21 [(.v 5)])])])),(.app 3 (.tup [(.v 4),(.idx (.v 6) (.c (.int 0)))])),(.asg (.nm 1) (.call 23 [(.idx (.v 6) (.c (.int 1))),(.v 1)]))]
noncomputable def tG:List IS:=[(.asg (.nm 6) (.call 22 [(.v 1),(.bin .sub (.C2 (.v 2) (.v 4)) (.call 21 [(.v 5)]))])),(.app 3 (.tup [(.v 4),(.call 23 [(.v 5),(.idx (.v 6) (.c (.int 0)))])])),(.asg (.nm 1) (.idx (.v 6) (.c (.int 1))))]
theorem lC (o:Bool)(K:List Rw)(p:Rw):(K++[p]).map (au o)=K.map (au o)++[.tup [.str p.1,.lst o (p.2.map Cs)]]:=by rw[List.map_append];rfl
theorem xW (n:Nat)(r0:D){fs:List Str}{v:Str->Int}(K:List Rw)(hK:K.length<=1000)(free:List Pr)(o1:Bool)(f:Str)(run:List Pr)(hf:f∈fs)(hr:run.length+free.length<=990)(pr:Pos run)(h0:0<=v f)(x y z:Option D) :
  ∃ a b j:List Pr,Ev.turn (af T (n+1)) (.tp [(.nm 4),(.nm 5)]) tS (au false (f,run)) [some r0,some (.lst o1 (free.map Cs)),some (dF false fs v),some (.lst true (K.map (au false))),x,y,z] =
   .ok (.nx [some r0,some (.lst true (j.map Cs)),some (dF false fs v),some (.lst true ((K++[(f,a)]).map (au false))),some (.str f),some (.lst false (run.map Cs)),some (.tup [.lst false (a.map Cs),.lst false (b.map Cs)])])/\
   cnt a=mn (v f) (cnt run)/\cnt a+cnt j=cnt run+cnt free/\Pos a/\(Pos free->Pos j/\∀ x,mc x a+mc x j=mc x run+mc x free)/\a.length+j.length<=run.length+free.length+1:=by
 have hc:=hG pr
 have e1:=hJ n run (by omega)
 obtain⟨a,b,e2,ca,cb,pa,pb,la,lb,TJ,Oa⟩:=kY n run (if cnt run < v f then cnt run else v f) (by omega) pr (by split<;>omega)
 obtain⟨j,e3,cj,pj,lj⟩:=kZ n b free (by omega) (by omega)
 refine⟨a,b,j,?_,?_,?_,pa,fun h=>⟨(pj pb h).1,fun x=>by rw[(pj pb h).2 x,<- Oa x];omega⟩,by omega⟩
 ·have g:=jc false v hf
  have de:=k8 false fs v
  have p1:=ba run
  have p2:=ba a
  have p3:=ba b
  have p4:=ba free
  have lm:(K.map (au false)).length=K.length:=List.length_map _
  rw[lC,show au false (f,run)=.tup [.str f,.lst false (run.map Cs)] from rfl]
  have x0:∀ (P Q:D),bg (.tup [P,Q]) (.int 0)=.ok P:=fun _ _=>rfl
  have x1:∀ (P Q:D),bg (.tup [P,Q]) (.int 1)=.ok Q:=fun _ _=>rfl
  have vd:vars ((IR.v 2).C2 (IR.v 4))=[2,4]:=rfl
  show Ev.turn (af T (n+1)) (.tp [(.nm 4),(.nm 5)]) tS (.tup [.str f,.lst false (run.map Cs)]) _=.ok (.nx [_,_,_,some (.lst true (K.map (au false)++[.tup [.str f,.lst false (a.map Cs)]])),_,_,_])
  generalize dF false fs v=W at *
  generalize K.map (au false)=KK at *
  generalize run.map Cs=RR at *
  generalize free.map Cs=FF at *
  generalize a.map Cs=AA at *
  generalize b.map Cs=BB at *
  generalize j.map Cs=JJ at *
  generalize cnt run=cr at *
  unfold tS
  simp -implicitDefEqProofs (disch:=omega) only[CL,Nat.reduceBEq,Nat.reduceSub,Nat.reduceAdd,reduceIte,Ev.ay,vd,g,e1,e2,e3,de,p1,p2,p3,p4,x0,x1,lm]
 ·rw[ca]
  unfold mn
  split<;>split<;>omega
 ·rw[cj,cb,ca]
  omega
noncomputable def Ex (rows:List Rw):Int:=(rows.map fun p=>cnt p.2).sum
theorem qB (n:Nat)(r0:D){fs:List Str}{v:Str->Int}(hv:∀ f∈fs,0<=v f):∀ (rows K:List Rw) (free:List Pr) (o1:Bool) (x y z:Option D),K.length+rows.length<=6->(∀ p∈rows,p.1∈fs/\Pos p.2)->Pos free->lsum rows+free.length+rows.length<=980->
  ∃ (K':List Rw) (Ct:List Pr) (o':Bool) (x' y' z':Option D),forM (Ev.turn (af T (n+1)) (.tp [(.nm 4),(.nm 5)]) tS) (rows.map (au false)) [some r0,some (.lst o1 (free.map Cs)),some (dF false fs v),some (.lst true (K.map (au false))),x,y,z]=.ok (.nx [some r0,some (.lst o' (Ct.map Cs)),some (dF false fs v),some (.lst true ((K++K').map (au false))),x',y',z'])/\
   E6 K'=rows.map (fun p=>(p.1,mn (v p.1) (cnt p.2)))/\Ex K' + cnt Ct=Ex rows+cnt free/\(∀ p∈K',Pos p.2)/\Pos Ct/\lsum K' + Ct.length<=lsum rows+free.length+rows.length/\∀ x,DV x K' + mc x Ct=DV x rows+mc x free
 | [],K,free,o1,x,y,z,_,_,pf,hl=>⟨[],free,o1,x,y,z,by rw[List.append_nil];rfl,rfl,rfl,(fun p h=>by cases h),pf,by simp,fun _=>rfl⟩
 | (f,run)::rows,K,free,o1,x,y,z,hk,hp,pf,hl=>by
  obtain⟨h1,h2⟩:=hp (f,run) (.head _)
  rw[List.length_cons] at hk hl
  have hl:run.length+lsum rows+free.length+(rows.length+1)<=980:=hl
  obtain⟨a,b,j,e,ca,cj,pa,pj,lj⟩:=xW n r0 (fs:=fs) (v:=v) K (by omega) free o1 f run h1 (by omega) h2 (hv f h1) x y z
  obtain⟨K',Ct,o',x',y',z',i1,i2,i3,i4,i5,i6,i7⟩:=qB n r0 hv rows (K++[(f,a)]) j true (some (.str f)) (some (.lst false (run.map Cs))) (some (.tup [.lst false (a.map Cs),.lst false (b.map Cs)])) (by rw[List.length_append,List.length_singleton];omega) (fun p h=>hp p (List.mem_cons_of_mem _ h)) (pj pf).1 (by omega)
  refine⟨(f,a)::K',Ct,o',x',y',z',?_,?_,?_,fun p h=>?_,i5,by rw[List.length_cons];show a.length+lsum K' + Ct.length<=run.length+lsum rows+free.length+(rows.length+1);omega,fun w=>?_⟩
  ·rw[List.map_cons,Ev.bN,e]
   rw[List.append_assoc] at i1
   exact i1
  ·show (f,cnt a)::E6 K'=_
   rw[i2,ca]
   rfl
  ·show cnt a+Ex K' + cnt Ct=cnt run+Ex rows+cnt free
   omega
  ·rcases List.mem_cons.mp h with rfl|h
   ·exact pa
   ·exact i4 p h
  ·have:=i7 w
   have:=(pj pf).2 w
   show mc w a+DV w K' + mc w Ct=mc w run+DV w rows+mc w free
   omega
theorem mD (n:Nat){fs:List Str}{v:Str->Int}(hv:∀ f∈fs,0<=v f)(rows:List Rw)(free:List Pr)(hk:rows.length<=6)(hp:∀ p∈rows,p.1∈fs/\Pos p.2)(pf:Pos free)(lf:lsum rows+free.length<=970) :
  ∃ (K':List Rw) (Ct:List Pr) (o':Bool),af T (n+2) 27 [.lst false (rows.map (au false)),.lst false (free.map Cs),dF false fs v]=.ok (alt true false o' K' Ct)/\E6 K'=rows.map (fun p=>(p.1,mn (v p.1) (cnt p.2)))/\Ex K' + cnt Ct=Ex rows+cnt free/\(∀ p∈K',Pos p.2)/\Pos Ct/\lsum K' + Ct.length<=lsum rows+free.length+6/\∀ x,DV x K' + mc x Ct=DV x rows+mc x free:=by
 obtain⟨K',Ct,o',x',y',z',i1,i2,i3,i4,i5,i6,i7⟩:=qB n (.lst false (rows.map (au false))) hv rows [] free false none none none (by rw[List.length_nil];omega) hp pf (by omega)
 refine⟨K',Ct,o',?_,i2,i3,i4,i5,by omega,i7⟩
 have body:Qa=[(.asg (.nm 3) (.lst [])),(.CM (.tp [(.nm 4),(.nm 5)]) (.val (.v 0)) tS),(.ret (.tup [(.v 3),(.v 1)]))]:=rfl
 rw[Ev.go (show T 27=some JR from rfl) (show JR.io=none from rfl) (show JR.np=3 from rfl) (show JR.G.N.length=7 from rfl) (show JR.body=_ from body) rfl]
 rw[List.nil_append,List.map_nil] at i1
 have re:=bJ false rows
 have pe:=ba free
 unfold alt
 generalize dF false fs v=W at *
 generalize K'.map (au false)=KK at *
 generalize rows.map (au false)=RR at *
 generalize free.map Cs=FF at *
 generalize Ct.map Cs=TK at *
 generalize tS=tb at *
 simp -implicitDefEqProofs (disch:=omega) only[CL,Nat.reduceBEq,Nat.reduceSub,Nat.reduceAdd,reduceIte,re,pe,i1]
theorem xX (n:Nat)(r0:D){fs:List Str}{v:Str->Int}(K:List Rw)(hK:K.length<=1000)(free:List Pr)(o1:Bool)(f:Str)(run:List Pr)(hf:f∈fs)(hr:run.length+free.length<=990)(pr:Pos run)(pf:Pos free)(h0:cnt run<=v f)(h1:v f - cnt run<=cnt free)(x y z:Option D) :
  ∃ a b j:List Pr,Ev.turn (af T (n+1)) (.tp [(.nm 4),(.nm 5)]) tG (au false (f,run)) [some r0,some (.lst o1 (free.map Cs)),some (dF false fs v),some (.lst true (K.map (au true))),x,y,z] =
   .ok (.nx [some r0,some (.lst false (b.map Cs)),some (dF false fs v),some (.lst true ((K++[(f,j)]).map (au true))),some (.str f),some (.lst false (run.map Cs)),some (.tup [.lst false (a.map Cs),.lst false (b.map Cs)])])/\
   cnt j=v f/\cnt b=cnt free - (v f - cnt run)/\Pos j/\Pos b/\j.length+b.length<=run.length+free.length+1/\∀ x,mc x j+mc x b=mc x run+mc x free:=by
 have e1:=hJ n run (by omega)
 obtain⟨a,b,e2,ca,cb,pa,pb,la,lb,TJ,Oa⟩:=kY n free (v f - cnt run) (by omega) pf (by omega)
 obtain⟨j,e3,cj,pj,lj⟩:=kZ n run a (by omega) (by omega)
 refine⟨a,b,j,?_,?_,?_,(pj pr pa).1,pb,by omega,fun x=>by rw[(pj pr pa).2 x,<- Oa x];omega⟩
 ·have g:=jc false v hf
  have de:=k8 false fs v
  have p1:=ba run
  have p2:=ba a
  have p3:=ba b
  have p4:=ba free
  have lm:(K.map (au true)).length=K.length:=List.length_map _
  rw[lC,show au false (f,run)=.tup [.str f,.lst false (run.map Cs)] from rfl]
  have x0:∀ (P Q:D),bg (.tup [P,Q]) (.int 0)=.ok P:=fun _ _=>rfl
  have x1:∀ (P Q:D),bg (.tup [P,Q]) (.int 1)=.ok Q:=fun _ _=>rfl
  have vd:vars ((IR.v 2).C2 (IR.v 4))=[2,4]:=rfl
  show Ev.turn (af T (n+1)) (.tp [(.nm 4),(.nm 5)]) tG (.tup [.str f,.lst false (run.map Cs)]) _=.ok (.nx [_,_,_,some (.lst true (K.map (au true)++[.tup [.str f,.lst true (j.map Cs)]])),_,_,_])
  generalize dF false fs v=W at *
  generalize K.map (au true)=KK at *
  generalize run.map Cs=RR at *
  generalize free.map Cs=FF at *
  generalize a.map Cs=AA at *
  generalize b.map Cs=BB at *
  generalize j.map Cs=JJ at *
  generalize cnt run=cr at *
  unfold tG
  simp -implicitDefEqProofs (disch:=omega) only[CL,Nat.reduceBEq,Nat.reduceSub,Nat.reduceAdd,reduceIte,Ev.ay,vd,g,e1,e2,e3,de,p1,p2,p3,p4,x0,x1,lm]
 ·rw[cj,ca]
  split<;>omega
 ·rw[cb]
  split<;>omega
theorem qC (n:Nat)(r0:D){fs:List Str}{v:Str->Int}:∀ (rows K:List Rw) (free:List Pr) (o1:Bool) (x y z:Option D),K.length+rows.length<=6->(∀ p∈rows,p.1∈fs/\Pos p.2/\cnt p.2<=v p.1)->Pos free->lsum rows+free.length+rows.length<=980->(rows.map fun p=>v p.1).sum<=Ex rows+cnt free->
  ∃ (K':List Rw) (Ct:List Pr) (o':Bool) (x' y' z':Option D),forM (Ev.turn (af T (n+1)) (.tp [(.nm 4),(.nm 5)]) tG) (rows.map (au false)) [some r0,some (.lst o1 (free.map Cs)),some (dF false fs v),some (.lst true (K.map (au true))),x,y,z]=.ok (.nx [some r0,some (.lst o' (Ct.map Cs)),some (dF false fs v),some (.lst true ((K++K').map (au true))),x',y',z'])/\
   E6 K'=rows.map (fun p=>(p.1,v p.1))/\(rows.map fun p=>v p.1).sum+cnt Ct=Ex rows+cnt free/\(∀ p∈K',Pos p.2)/\Pos Ct/\lsum K' + Ct.length<=lsum rows+free.length+rows.length/\(o1=false->o'=false)/\∀ x,DV x K' + mc x Ct=DV x rows+mc x free
 | [],K,free,o1,x,y,z,_,_,pf,hl,_=>⟨[],free,o1,x,y,z,by rw[List.append_nil];rfl,rfl,rfl,(fun p h=>by cases h),pf,by simp,id,fun _=>rfl⟩
 | (f,run)::rows,K,free,o1,x,y,z,hk,hp,pf,hl,hs=>by
  obtain⟨h1,h2,h4⟩:=hp (f,run) (.head _)
  rw[List.length_cons] at hk hl
  have hl:run.length+lsum rows+free.length+(rows.length+1)<=980:=hl
  have h4:cnt run<=v f:=h4
  have hs:v f+(rows.map fun p=>v p.1).sum<=cnt run+Ex rows+cnt free:=hs
  have Qs:Ex rows<=(rows.map fun p=>v p.1).sum:=by
   have key:∀ rs:List Rw,(∀ p∈rs,cnt p.2<=v p.1)->Ex rs<=(rs.map fun p=>v p.1).sum:=by
    intro rs
    induction rs with
    | nil=>intro _;exact Int.le_refl _
    | cons q rs ih=>
     intro h
     have a1:=h q (.head _)
     have a2:=ih fun p hp=>h p (List.mem_cons_of_mem _ hp)
     show cnt q.2+Ex rs<=v q.1+(rs.map fun p=>v p.1).sum
     omega
   exact key rows fun p h=>(hp p (List.mem_cons_of_mem _ h)).2.2
  obtain⟨a,b,j,e,ca,cj,pa,pj,la,lj⟩:=xX n r0 (fs:=fs) (v:=v) K (by omega) free o1 f run h1 (by omega) h2 pf h4 (by omega) x y z
  obtain⟨K',Ct,o',x',y',z',i1,i2,i3,i4,i5,i6,i7,i8⟩:=qC n r0 rows (K++[(f,j)]) b false (some (.str f)) (some (.lst false (run.map Cs))) (some (.tup [.lst false (a.map Cs),.lst false (b.map Cs)])) (by rw[List.length_append,List.length_singleton];omega) (fun p h=>hp p (List.mem_cons_of_mem _ h)) pj (by omega) (by omega)
  refine⟨(f,j)::K',Ct,o',x',y',z',?_,?_,?_,fun p h=>?_,i5,by rw[List.length_cons];show j.length+lsum K' + Ct.length<=run.length+lsum rows+free.length+(rows.length+1);omega,fun _=>i7 rfl,fun w=>?_⟩
  ·rw[List.map_cons,Ev.bN,e]
   rw[List.append_assoc] at i1
   exact i1
  ·show (f,cnt j)::E6 K'=_
   rw[i2,ca]
   rfl
  ·show v f+(rows.map fun p=>v p.1).sum+cnt Ct=cnt run+Ex rows+cnt free
   omega
  ·rcases List.mem_cons.mp h with rfl|h
   ·exact pa
   ·exact i4 p h
  ·have:=i8 w
   have:=lj w
   show mc w j+DV w K' + mc w Ct=mc w run+DV w rows+mc w free
   omega
theorem qD (n:Nat){fs:List Str}{v:Str->Int}(rows:List Rw)(free:List Pr)(hk:rows.length<=6)(hp:∀ p∈rows,p.1∈fs/\Pos p.2/\cnt p.2<=v p.1)(pf:Pos free)(lf:lsum rows+free.length<=970)(hs:(rows.map fun p=>v p.1).sum<=Ex rows+cnt free) :
  ∃ (K':List Rw) (Ct:List Pr),af T (n+2) 28 [.lst false (rows.map (au false)),.lst false (free.map Cs),dF false fs v]=.ok (alt true true false K' Ct)/\E6 K'=rows.map (fun p=>(p.1,v p.1))/\(rows.map fun p=>v p.1).sum+cnt Ct=Ex rows+cnt free/\(∀ p∈K',Pos p.2)/\Pos Ct/\lsum K' + Ct.length<=lsum rows+free.length+6/\∀ x,DV x K' + mc x Ct=DV x rows+mc x free:=by
 obtain⟨K',Ct,o',x',y',z',i1,i2,i3,i4,i5,i6,i7,i8⟩:=qC n (.lst false (rows.map (au false))) rows [] free false none none none (by rw[List.length_nil];omega) hp pf (by omega) hs
 have eo:=i7 rfl
 subst eo
 refine⟨K',Ct,?_,i2,i3,i4,i5,by omega,i8⟩
 have body:Qb=[(.asg (.nm 3) (.lst [])),(.CM (.tp [(.nm 4),(.nm 5)]) (.val (.v 0)) tG),(.ret (.tup [(.v 3),(.v 1)]))]:=rfl
 rw[Ev.go (show T 28=some JS from rfl) (show JS.io=none from rfl) (show JS.np=3 from rfl) (show JS.G.N.length=7 from rfl) (show JS.body=_ from body) rfl]
 rw[List.nil_append,List.map_nil] at i1
 have re:=bJ false rows
 have pe:=ba free
 unfold alt
 generalize dF false fs v=W at *
 generalize K'.map (au true)=KK at *
 generalize rows.map (au false)=RR at *
 generalize free.map Cs=FF at *
 generalize Ct.map Cs=TK at *
 generalize tG=tb at *
 simp -implicitDefEqProofs (disch:=omega) only[CL,Nat.reduceBEq,Nat.reduceSub,Nat.reduceAdd,reduceIte,re,pe,i1]
theorem lD (rows:List Rw):(E6 rows).map (·.1)=rows.map (·.1):=by
 unfold E6
 rw[List.map_map]
 rfl
theorem tD (rows:List Rw):(E6 rows).map (·.2)=rows.map fun p=>cnt p.2:=by
 unfold E6
 rw[List.map_map]
 rfl
section
variable {fs:List Str}{c:Str->Int}{rows:List Rw}{free:List Pr}{L:Nat}
theorem Al.names (a:Al fs c rows free L):rows.map (·.1)=fs:=by
 rw[<- lD,a.sz,List.map_map]
 exact List.map_id' fs
theorem Al.total (a:Al fs c rows free L):Law.Ex rows=(fs.map c).sum:=by
 unfold Law.Ex
 rw[<- tD,a.sz,List.map_map]
 rfl
theorem Al.Dz (a:Al fs c rows free L){p:Rw}(h:p∈rows):p.1∈fs/\cnt p.2=c p.1:=by
 have h1:(p.1,cnt p.2)∈E6 rows:=List.mem_map.mpr ⟨p,h,rfl⟩
 rw[a.sz] at h1
 obtain⟨f,hf,e⟩:=List.mem_map.mp h1
 have e1:f=p.1:=congrArg Prod.fst e
 have e2:c f=cnt p.2:=congrArg Prod.snd e
 rw[<- e1]
 exact⟨hf,e2.symm⟩
theorem Al.nn (a:Al fs c rows free L){f:Str}(h:f∈fs):0<=c f:=by
 rw[<- a.names] at h
 obtain⟨p,hp,rfl⟩:=List.mem_map.mp h
 rw[<- (a.Dz hp).2]
 exact hG (a.pos p hp)
theorem lE:∀ (ps:List Sh) (seen:List Str),dR fs ps seen=none->∀ p∈ps,p.1∈fs/\0<=p.2
 | [],_,_,p,h=>by cases h
 | q::ps,seen,h,p,hp=>by
  unfold dR at h
  by_cases h1:q.1∈fs
  ·rw[if_neg (fun z=>z h1)] at h
   by_cases h2:q.1∈seen
   ·rw[if_pos h2] at h;cases h
   ·rw[if_neg h2] at h
    by_cases h3:q.2 < 0
    ·rw[if_pos h3] at h;cases h
    ·rw[if_neg h3] at h
     rcases List.mem_cons.mp hp with rfl|hp
     ·exact⟨h1,by omega⟩
     ·exact lE ps _ h p hp
  ·rw[if_pos h1] at h;cases h
theorem qE:∀ (ps:List Sh) (c:Str->Int),(∀ p∈ps,0<=p.2)->∀ f,0<=c f->0<=ups c ps f
 | [],c,_,f,h=>h
 | p::ps,c,hp,f,h=>by
  refine qE ps (up c p.1 p.2) (fun q hq=>hp q (List.mem_cons_of_mem _ hq)) f ?_
  unfold up
  split
  ·exact hp p (.head _)
  ·exact h
theorem Bm (a b:Int):mn a b<=a:=by unfold mn;split<;>omega
theorem jN (n:Nat)(a:Al fs c rows free L)(hL:L<=900)(ps:List Sh)(hp:ps.length<=100)(hz:∀ p∈ps,(reprText p.1).length<=1000) :
  (∀ e,dR fs ps []=some e->af T (n+4) 29 [alt false false false rows free,.lst false (ps.map CO)]=.error (.exc e))/\
  (dR fs ps []=none->(10007 < (fs.map (ups c ps)).sum->af T (n+4) 29 [alt false false false rows free,.lst false (ps.map CO)]=.error (.exc "TooMuch"))/\
   ((fs.map (ups c ps)).sum<=10007->∃ Dh Ct,af T (n+4) 29 [alt false false false rows free,.lst false (ps.map CO)]=.ok (alt true true false Dh Ct)/\Al fs (ups c ps) Dh Ct (L+12))):=by
 obtain⟨w1,w2⟩:=tx n a (by omega) ps hp hz
 have ae:=bj false false false rows free
 have pe:=qr ps
 have body:Qc=[(.asg (.nm 2) (.call 26 [(.v 0),(.v 1)])),(.asg (.nm 3) (.call 27 [(.idx (.v 0) (.c (.int 0))),(.bi .list [(.idx (.v 0) (.c (.int 1)))]),(.v 2)])),(.ret (.call 28 [(.idx (.v 3) (.c (.int 0))),(.idx (.v 3) (.c (.int 1))),(.v 2)]))]:=rfl
 rw[Ev.go (show T 29=some JT from rfl) (show JT.io=none from rfl) (show JT.np=2 from rfl) (show JT.G.N.length=4 from rfl) (show JT.body=_ from body) rfl]
 have err:∀ e,af T (n+3) 26 [alt false false false rows free,.lst false (ps.map CO)]=.error (.exc e)->Ci (aD (af T (n+3)) [(.asg (.nm 2) (.call 26 [(.v 0),(.v 1)])),(.asg (.nm 3) (.call 27 [(.idx (.v 0) (.c (.int 0))),(.bi .list [(.idx (.v 0) (.c (.int 1)))]),(.v 2)])),(.ret (.call 28 [(.idx (.v 3) (.c (.int 0))),(.idx (.v 3) (.c (.int 1))),(.v 2)]))] (List.map some [alt false false false rows free,.lst false (ps.map CO)]++List.replicate (4 - 2) none)) Ev.mB=.error (.exc e):=fun e h=>by
  generalize alt false false false rows free=A at *
  generalize ps.map CO=PS at *
  simp -implicitDefEqProofs (disch:=omega) only[CL,Nat.reduceBEq,Nat.reduceSub,Nat.reduceAdd,reduceIte,h,ae,pe]
 refine⟨fun e h=>err e (w1 e h),fun h=>⟨fun hs=>err _ ((w2 h).1 hs),fun hs=>?_⟩⟩
 have hw:=(w2 h).2 hs
 have GJ:=lE ps [] h
 have hv:∀ f∈fs,0<=ups c ps f:=fun f hf=>qE ps c (fun p hp=>(GJ p hp).2) f (a.nn hf)
 have Qr:=a.G4
 have Fd:=a.LQ
 have Qp:=a.len
 obtain⟨K,f1,o1,s1,s2,s3,s4,s5,s6,s7⟩:=mD (n+1) hv rows free (by omega) (fun p h=>⟨(a.Dz h).1,a.pos p h⟩) a.HW (by omega)
 have kn:K.map (·.1)=fs:=by
  rw[<- lD,s2,List.map_map]
  exact a.names
 have G5:∀ p∈K,p.1∈fs/\Pos p.2/\cnt p.2<=ups c ps p.1:=fun p h=>by
  refine⟨by rw[<- kn];exact List.mem_map.mpr ⟨p,h,rfl⟩,s4 p h,?_⟩
  have h1:(p.1,cnt p.2)∈E6 K:=List.mem_map.mpr ⟨p,h,rfl⟩
  rw[s2] at h1
  obtain⟨q,hq,e⟩:=List.mem_map.mp h1
  have e1:q.1=p.1:=(Prod.mk.inj e).1
  have e2:mn (ups c ps q.1) (cnt q.2)=cnt p.2:=(Prod.mk.inj e).2
  rw[<- e2,<- e1]
  exact Bm _ _
 have TL:(K.map fun p=>ups c ps p.1).sum=(fs.map (ups c ps)).sum:=by
  rw[<- kn,List.map_map]
  rfl
 have TM:K.length=fs.length:=by rw[<- kn,List.length_map]
 have ht:=a.total
 have Us:=a.Ex
 obtain⟨R,f2,g1,g2,g3,g4,g5,g6,g7⟩:=qD (n+1) (fs:=fs) (v:=ups c ps) K f1 (by omega) G5 s5 (by omega) (by omega)
 refine⟨R,f2,?_,⟨a.CP,a.LQ,a.rep,?_,fun p h=>g4 p h,g5,by omega,by omega,fun x=>by rw[g7 x,s7 x];exact a.LR x⟩⟩
 ·have x0:bg (alt false false false rows free) (.int 0)=.ok (.lst false (rows.map (au false))):=rfl
  have x1:bg (alt false false false rows free) (.int 1)=.ok (.lst false (free.map Cs)):=rfl
  have y0:bg (alt true false o1 K f1) (.int 0)=.ok (.lst true (K.map (au false))):=rfl
  have y1:bg (alt true false o1 K f1) (.int 1)=.ok (.lst o1 (f1.map Cs)):=rfl
  have l1:aw (dF true fs (ups c ps))=false:=rfl
  have l2:aw (alt true false o1 K f1)=false:=rfl
  have l3:aw (alt true true false R f2)=false:=rfl
  have de:=k8 true fs (ups c ps)
  have df:=k8 false fs (ups c ps)
  have re:=bJ false rows
  have TN:=bJ false K
  have p1:=ba free
  have p2:=ba f1
  generalize alt false false false rows free=A at *
  generalize alt true false o1 K f1=B at *
  generalize alt true true false R f2=C at *
  generalize dF true fs (ups c ps)=W at *
  generalize dF false fs (ups c ps)=W' at *
  generalize ps.map CO=PS at *
  generalize rows.map (au false)=RR at *
  generalize K.map (au false)=KK at *
  generalize free.map Cs=FF at *
  generalize f1.map Cs=Ut at *
  simp -implicitDefEqProofs (disch:=omega) only[CL,Nat.reduceBEq,Nat.reduceSub,Nat.reduceAdd,reduceIte,hw,ae,pe,x0,x1,y0,y1,l1,l2,l3,de,df,re,TN,p1,p2,s1,g1]
 ·rw[g2,<- kn,List.map_map]
  rfl
end
noncomputable def C7 (fs:List Str)(f:Str)(u:Str->Int):List Int:=(fs.filter fun g=>!(g == f)).map u
theorem lF (cl:Nat->List D->Res D)(o:Bool){fs:List Str}(u:Str->Int)(f:Str):∀ gs:List Str,(∀ g∈gs,g∈fs)->aW (aQ cl (.nm 2) [(.cmp .ne (.v 2) (.v 1))] (.C2 (.v 0) (.v 2)) [some (dF o fs u),some (.str f),none]) (gs.map .str)=.ok ((C7 gs f u).map .int)
 | [],_=>rfl
 | g::gs,h=>by
  have ih:=lF cl o u f gs fun q hq=>h q (List.mem_cons_of_mem _ hq)
  have hg:=jc o u (h g (.head _))
  unfold C7 at *
  rw[List.map_cons,List.filter_cons]
  show Ci (aQ cl (.nm 2) [(.cmp .ne (.v 2) (.v 1))] (.C2 (.v 0) (.v 2)) [some (dF o fs u),some (.str f),none] (.str g)) _=_
  cases e:(g == f) with
  | true=>
   have e1:aQ cl (.nm 2) [(.cmp .ne (.v 2) (.v 1))] (.C2 (.v 0) (.v 2)) [some (dF o fs u),some (.str f),none] (.str g)=.ok none:=by
    generalize dF o fs u=W at *
    simp -implicitDefEqProofs (disch:=omega) only[CL,Nat.reduceBEq,Nat.reduceSub,Nat.reduceAdd,reduceIte,hg,e]
   rw[e1]
   exact ih
  | false=>
   have e1:aQ cl (.nm 2) [(.cmp .ne (.v 2) (.v 1))] (.C2 (.v 0) (.v 2)) [some (dF o fs u),some (.str f),none] (.str g)=.ok (some (.int (u g))):=by
    generalize dF o fs u=W at *
    simp -implicitDefEqProofs (disch:=omega) only[CL,Nat.reduceBEq,Nat.reduceSub,Nat.reduceAdd,reduceIte,hg,e]
   rw[e1]
   show Ci (aW _ _) _=_
   rw[ih]
   rfl
theorem lG {f:Str}(u:Str->Int):∀ {fs:List Str},f∉fs->C7 fs f u=fs.map u
 | [],_=>rfl
 | g::fs,h=>by
  have e:(g == f)=false:=by simpa using fun z:g=f=>h (by rw[z];exact .head _)
  unfold C7
  rw[List.filter_cons,e]
  show u g::C7 fs f u=_
  rw[lG u fun z=>h (List.mem_cons_of_mem _ z)]
  rfl
theorem hW {f:Str}(u:Str->Int):∀ {fs:List Str},f∈fs->fs.Nodup->(fs.map u).sum=u f+(C7 fs f u).sum
 | g::fs,h,nd=>by
  rw[List.nodup_cons] at nd
  by_cases e:g=f
  ·have eb:(g == f)=true:=by simpa using e
   have ef:C7 (g::fs) f u=C7 fs f u:=by unfold C7;rw[List.filter_cons,eb];rfl
   rw[ef,lG u (by rw[<- e];exact nd.1),List.map_cons,List.sum_cons,e]
  ·have eb:(g == f)=false:=by simpa using e
   have ef:C7 (g::fs) f u=u g::C7 fs f u:=by unfold C7;rw[List.filter_cons,eb];rfl
   have:=hW u ((List.mem_cons.mp h).resolve_left fun z=>e z.symm) nd.2
   rw[ef,List.map_cons,List.sum_cons,List.sum_cons,this]
   omega
theorem xY (u:Str->Int)(x:Int)(f:Str):∀ fs:List Str,C7 fs f (up u f x)=C7 fs f u:=fun fs=>by
 unfold C7
 refine List.map_congr_left fun g hg=>?_
 have:(!(g == f))=true:=(List.mem_filter.mp hg).2
 unfold up
 rw[if_neg (by simpa using this)]
theorem qF:∀ ns:List Int,(∀ x∈ns,0<=x)->0<=ns.sum
 | [],_=>Int.le_refl _
 | n::ns,h=>by
  have a1:=h n (.head _)
  have a2:=qF ns fun x hx=>h x (List.mem_cons_of_mem _ hx)
  rw[List.sum_cons]
  omega
theorem qG (ps:List Sh)(f:Str)(x:Int):(ps++[(f,x)]).map CO=ps.map CO++[.tup [.str f,.int x]]:=by rw[List.map_append];rfl
noncomputable def tT:List IS:=[(.asg (.nm 6) (.idx (.v 1) (.bin .mod (.bin .add (.v 5) (.idx (.v 3) (.c (.int 0)))) (.bi .len [(.v 1)])))),(.asg (.nm 7) (.bin .sub (.c (.int 10007)) (.bi .sum [(.comp {N:=["_law_due","_law_face","_law_own"],kd:=[.cell,.cell,.local],gl:=[],df:=false} [2,6] (.nm 2) (.val (.v 1)) [(.cmp .ne (.v 2) (.v 1))] (.C2 (.v 0) (.v 2)))]))),(.Dl (.cmp .gt (.bin .mod (.idx (.v 3) (.bin .add (.bin .mul (.c (.int 3)) (.v 5)) (.c (.int 2)))) (.c (.int 3))) (.c (.int 0))) [(.asg (.nm 8) (.bi .max2 [(.c (.int 0)),(.bin .sub (.C2 (.v 2) (.v 6)) (.bin .mod (.idx (.v 3) (.bin .add (.bin .mul (.c (.int 3)) (.v 5)) (.c (.int 4)))) (.c (.int 5))))])),(.asg (.nm 9) (.idx (.lst [(.bin .mod (.idx (.v 3) (.bin .add (.bin .mul (.c (.int 3)) (.v 5)) (.c (.int 3)))) (.bin .add (.v 7) (.c (.int 1)))),(.v 7),(.c (.int 0)),(.v 8)]) (.bin .mod (.bin .fdiv (.idx (.v 3) (.bin .add (.bin .mul (.c (.int 3)) (.v 5)) (.c (.int 4)))) (.c (.int 8))) (.c (.int 4))))),(.Dl (.cmp .eq (.bin .mod (.bin .fdiv (.idx (.v 3) (.bin .add (.bin .mul (.c (.int 3)) (.v 5)) (.c (.int 4)))) (.c (.int 32))) (.c (.int 3))) (.c (.int 0))) [(.asg (.nm 9) (.bi .min2 [(.v 7),(.bin .add (.C2 (.v 2) (.v 6)) (.bin .mod (.idx (.v 3) (.bin .add (.bin .mul (.c (.int 3)) (.v 5)) (.c (.int 3)))) (.c (.int 7))))]))] []),(.DI 2 (.v 6) (.v 9)),(.app 4 (.tup [(.v 6),(.v 9)]))] [])]
theorem Bn (a r l i:Int)(h0:0<=i)(h1:i < 4)(ha:0<=a/\a<=r)(hr:0<=r)(hl:0<=l/\l<=r):∃ p,bg (.lst true [.int a,.int r,.int 0,.int l]) (.int i)=.ok (.int p)/\0<=p/\p<=r:=by
 have:i=0∨i=1∨i=2∨i=3:=by omega
 rcases this with rfl|rfl|rfl|rfl
 ·exact⟨a,rfl,ha⟩
 ·exact⟨r,rfl,hr,Int.le_refl _⟩
 ·exact⟨0,rfl,Int.le_refl _,hr⟩
 ·exact⟨l,rfl,hl⟩
theorem xZ (o:Bool)(fs:List Str){i:Int}(h0:0<=i)(h1:i < fs.length):bg (.lst o (fs.map .str)) (.int i)=.ok (.str (fs.getD i.toNat Str.empty)):=by
 rw[Ev.LJ,Ev.gX .CD h0 (by rw[List.length_map];exact h1)]
 have Dk:i.toNat < fs.length:=by omega
 simp[Dk]
theorem ya (cl:Nat->List D->Res D)(cell:Int){fs:List Str}(nd:fs.Nodup)(hn:fs.length<=6)(u:Str->Int)(hu:∀ f∈fs,0<=u f)(hs:(fs.map u).sum<=10007)(xs:List Int)(lx:xs.length=3*fs.length+2)(px:∀ x∈xs,0<=x)(ps:List Sh)(hp:ps.length<=100)(k:Nat)(hk:k < fs.length)(x5 x6 x7 x8 x9:Option D) :
  ∃ q6 q7 q8 q9,(Ev.turn cl (.nm 5) tT (.int (0+(k:Nat))) [some (.int cell),some (.lst false (fs.map .str)),some (dF true fs u),some (.lst true (xs.map .int)),some (.lst true (ps.map CO)),x5,x6,x7,x8,x9]=.ok (.nx [some (.int cell),some (.lst false (fs.map .str)),some (dF true fs u),some (.lst true (xs.map .int)),some (.lst true (ps.map CO)),some (.int (0+(k:Nat))),q6,q7,q8,q9]))∨
   ∃ x,0<=x/\x<=10007 - (C7 fs (fs.getD (((k:Int)+xs.getD 0 0) % fs.length).toNat Str.empty) u).sum/\Ev.turn cl (.nm 5) tT (.int (0+(k:Nat))) [some (.int cell),some (.lst false (fs.map .str)),some (dF true fs u),some (.lst true (xs.map .int)),some (.lst true (ps.map CO)),x5,x6,x7,x8,x9]=.ok (.nx [some (.int cell),some (.lst false (fs.map .str)),some (dF true fs (up u (fs.getD (((k:Int)+xs.getD 0 0) % fs.length).toNat Str.empty) x)),some (.lst true (xs.map .int)),some (.lst true ((ps++[(fs.getD (((k:Int)+xs.getD 0 0) % fs.length).toNat Str.empty,x)]).map CO)),some (.int (0+(k:Nat))),q6,q7,q8,q9]):=by
 have m0:=Int.emod_nonneg ((k:Int)+xs.getD 0 0) (show (fs.length:Int)≠0 by omega)
 have m1:=Int.emod_lt_of_pos ((k:Int)+xs.getD 0 0) (show (0:Int) < fs.length by omega)
 have fi:=xZ false fs m0 m1
 have hf:fs.getD (((k:Int)+xs.getD 0 0) % fs.length).toNat Str.empty∈fs:=by
  rw[List.getD_eq_getElem?_getD,List.getElem?_eq_getElem (by omega)]
  exact List.getElem_mem _
 generalize fs.getD (((k:Int)+xs.getD 0 0) % fs.length).toNat Str.empty=f at *
 have g:=jc true u hf
 have e1:=lF cl true u f fs fun g h=>h
 have TQ:=hW u hf nd
 have Uu:=hu f hf
 have Qp:(C7 fs f u).length<=1000:=by
  unfold C7
  rw[List.length_map]
  exact Nat.le_trans (List.length_filter_le _ _) (by omega)
 have ho:0<=(C7 fs f u).sum:=qF _ fun x hx=>by
  unfold C7 at hx
  obtain⟨g,hg,rfl⟩:=List.mem_map.mp hx
  exact hu g (List.mem_filter.mp hg).1
 have e2:∀ o,cv .sum [.lst o ((C7 fs f u).map .int)]=.ok (.int (C7 fs f u).sum):=fun o=>Ev.pV (by omega)
 have lm:(fs.map D.str).length=fs.length:=List.length_map _
 have lp:(ps.map CO).length=ps.length:=List.length_map _
 have y2:=Ev.Kx (o:=true) (xs:=xs) (i:=3*(0+(k:Int))+2) (by omega) (by omega)
 have y3:=Ev.Kx (o:=true) (xs:=xs) (i:=3*(0+(k:Int))+3) (by omega) (by omega)
 have y4:=Ev.Kx (o:=true) (xs:=xs) (i:=3*(0+(k:Int))+4) (by omega) (by omega)
 have y0:=Ev.Kx (o:=true) (xs:=xs) (i:=0) (by omega) (by omega)
 have z3:0<=xs.getD (3*(0+(k:Int))+3).toNat 0:=px _ (by
  rw[List.getD_eq_getElem?_getD,List.getElem?_eq_getElem (by omega)]
  exact List.getElem_mem _)
 have z4:0<=xs.getD (3*(0+(k:Int))+4).toNat 0:=px _ (by
  rw[List.getD_eq_getElem?_getD,List.getElem?_eq_getElem (by omega)]
  exact List.getElem_mem _)
 rw[show (0:Int).toNat=0 from rfl] at y0
 have Ob:bg (.lst false (fs.map .str)) (.int ((0+(k:Int)+xs.getD 0 0) % (fs.length:Int)))=.ok (.str f):=by rw[Int.zero_add];exact fi
 have hr:0<=10007 - (C7 fs f u).sum:=by omega
 have Uv:u f<=10007 - (C7 fs f u).sum:=by omega
 have nz:(0:Int) < (fs.length:Int):=by omega
 generalize (C7 fs f u).sum=S at *
 generalize xs.getD (3*(0+(k:Int))+2).toNat 0=w2 at *
 generalize xs.getD (3*(0+(k:Int))+3).toNat 0=w3 at *
 generalize xs.getD (3*(0+(k:Int))+4).toNat 0=w4 at *
 by_cases c1:0 < w2 % 3
 ·have d1:decide (0 < w2 % 3)=true:=decide_eq_true c1
  have a0:=Int.emod_nonneg w3 (show (10007 - S+1:Int)≠0 by omega)
  have a1:=Int.emod_lt_of_pos w3 (show (0:Int) < 10007 - S+1 by omega)
  have b0:=Int.emod_nonneg (w4 / 8) (show (4:Int)≠0 by decide)
  have b1:=Int.emod_lt_of_pos (w4 / 8) (show (0:Int) < 4 by decide)
  have c0:=Int.emod_nonneg w4 (show (5:Int)≠0 by decide)
  have g0:=Int.emod_nonneg w3 (show (7:Int)≠0 by decide)
  obtain⟨p,ep,p0,p1⟩:=Bn (w3 % (10007 - S+1)) (10007 - S) (if u f - w4 % 5 > 0 then u f - w4 % 5 else 0) (w4 / 8 % 4) b0 b1 ⟨a0,by omega⟩ hr (by split<;>exact⟨by omega,by omega⟩)
  have nr:(0:Int) < 10007 - S+1:=by omega
  have MF:∀ (v:Int),Ev.cJ cl 2 (.v 6) [some (.int cell),some (.lst false (fs.map .str)),some (dF true fs u),some (.lst true (xs.map .int)),some (.lst true (ps.map CO)),some (.int (0+(k:Nat))),some (.str f),some (.int (10007 - S)),some (.int (if u f - w4 % 5 > 0 then u f - w4 % 5 else 0)),some (.int v)] (.int v) (some (dF true fs u))=.ok (.nx [some (.int cell),some (.lst false (fs.map .str)),some (dF true fs (up u f v)),some (.lst true (xs.map .int)),some (.lst true (ps.map CO)),some (.int (0+(k:Nat))),some (.str f),some (.int (10007 - S)),some (.int (if u f - w4 % 5 > 0 then u f - w4 % 5 else 0)),some (.int v)]):=fun v=>tw cl 2 (.v 6) _ rfl hf (by omega)
  cases c2:(w4 / 32 % 3 == 0) with
  | true=>
   refine⟨some (.str f),some (.int (10007 - S)),some (.int (if u f - w4 % 5 > 0 then u f - w4 % 5 else 0)),some (.int (if u f+w3 % 7 < 10007 - S then u f+w3 % 7 else 10007 - S)),.inr ⟨if u f+w3 % 7 < 10007 - S then u f+w3 % 7 else 10007 - S,by split<;>omega,by split<;>omega,?_⟩⟩
   rw[qG]
   have st:=MF (if u f+w3 % 7 < 10007 - S then u f+w3 % 7 else 10007 - S)
   clear MF
   generalize hv:(if u f+w3 % 7 < 10007 - S then u f+w3 % 7 else 10007 - S)=v at *
   generalize dF true fs u=W at *
   generalize dF true fs (up u f v)=W' at *
   generalize (C7 fs f u).map D.int=OO at *
   generalize fs.map D.str=FF at *
   generalize xs.map D.int=XX at *
   generalize ps.map CO=PP at *
   generalize Oc:(if u f - w4 % 5 > 0 then u f - w4 % 5 else 0)=less at *
   unfold tT
   simp -implicitDefEqProofs (disch:=omega) only[CL,Nat.reduceBEq,Nat.reduceSub,Nat.reduceAdd,reduceIte,Ev.ay,Ob,g,e1,e2,lm,lp,y0,y2,y3,y4,d1,ep,c2,st,hv,Oc]
  | false=>
   refine⟨some (.str f),some (.int (10007 - S)),some (.int (if u f - w4 % 5 > 0 then u f - w4 % 5 else 0)),some (.int p),.inr ⟨p,p0,p1,?_⟩⟩
   rw[qG]
   have st:=MF p
   clear MF
   generalize p=v at *
   generalize dF true fs u=W at *
   generalize dF true fs (up u f v)=W' at *
   generalize (C7 fs f u).map D.int=OO at *
   generalize fs.map D.str=FF at *
   generalize xs.map D.int=XX at *
   generalize ps.map CO=PP at *
   generalize Oc:(if u f - w4 % 5 > 0 then u f - w4 % 5 else 0)=less at *
   unfold tT
   simp -implicitDefEqProofs (disch:=omega) only[CL,Nat.reduceBEq,Nat.reduceSub,Nat.reduceAdd,reduceIte,Ev.ay,Ob,g,e1,e2,lm,lp,y0,y2,y3,y4,d1,ep,c2,st,Oc]
 ·have d1:decide (0 < w2 % 3)=false:=decide_eq_false c1
  refine⟨some (.str f),some (.int (10007 - S)),x8,x9,.inl ?_⟩
  generalize dF true fs u=W at *
  generalize (C7 fs f u).map D.int=OO at *
  generalize fs.map D.str=FF at *
  generalize xs.map D.int=XX at *
  generalize ps.map CO=PP at *
  unfold tT
  simp -implicitDefEqProofs (disch:=omega) only[CL,Nat.reduceBEq,Nat.reduceSub,Nat.reduceAdd,reduceIte,Ev.ay,Ob,g,e1,e2,lm,lp,y0,y2,y3,y4,d1]
theorem dz (q:Sh):∀ (ps:List Sh) (c:Str->Int),ups c (ps++[q])=up (ups c ps) q.1 q.2
 | [],c=>rfl
 | p::ps,c=>dz q ps (up c p.1 p.2)
theorem qH {fs:List Str}:∀ (ps:List Sh) (seen:List Str),(∀ p∈ps,p.1∈fs/\0<=p.2)->(ps.map (·.1)).Nodup->(∀ p∈ps,p.1∉seen)->dR fs ps seen=none
 | [],_,_,_,_=>rfl
 | p::ps,seen,h1,h2,h3=>by
  unfold dR
  rw[List.map_cons,List.nodup_cons] at h2
  have a:=h1 p (.head _)
  rw[if_neg (fun z=>z a.1),if_neg (h3 p (.head _)),if_neg (by omega)]
  refine qH ps _ (fun q hq=>h1 q (List.mem_cons_of_mem _ hq)) h2.2 fun q hq z=>?_
  rcases List.mem_append.mp z with z|z
  ·exact h3 q (List.mem_cons_of_mem _ hq) z
  ·exact h2.1 (by rw[<- List.mem_singleton.mp z];exact List.mem_map.mpr ⟨q,hq,rfl⟩)
noncomputable def fc (fs:List Str)(x0:Int)(k:Nat):Str:=fs.getD (((k:Int)+x0) % fs.length).toNat Str.empty
theorem Bo {fs:List Str}{x0:Int}{k:Nat}(h:k < fs.length):fc fs x0 k∈fs:=by
 have m0:=Int.emod_nonneg ((k:Int)+x0) (show (fs.length:Int)≠0 by omega)
 have m1:=Int.emod_lt_of_pos ((k:Int)+x0) (show (0:Int) < fs.length by omega)
 unfold fc
 rw[List.getD_eq_getElem?_getD,List.getElem?_eq_getElem (by omega)]
 exact List.getElem_mem _
theorem Bp {fs:List Str}(nd:fs.Nodup){x0:Int}{j k:Nat}(hj:j < k)(hk:k < fs.length):fc fs x0 j≠fc fs x0 k:=by
 have m0:=Int.emod_nonneg ((k:Int)+x0) (show (fs.length:Int)≠0 by omega)
 have m1:=Int.emod_lt_of_pos ((k:Int)+x0) (show (0:Int) < fs.length by omega)
 have n0:=Int.emod_nonneg ((j:Int)+x0) (show (fs.length:Int)≠0 by omega)
 have n1:=Int.emod_lt_of_pos ((j:Int)+x0) (show (0:Int) < fs.length by omega)
 have Ez:(((j:Int)+x0) % fs.length).toNat≠(((k:Int)+x0) % fs.length).toNat:=by
  intro e
  have e':((j:Int)+x0) % fs.length=((k:Int)+x0) % fs.length:=by omega
  have h1:((k:Int)+x0 - ((j:Int)+x0)) % fs.length=0:=by
   rw[Int.sub_emod,e',Int.sub_self]
   exact Int.zero_emod _
  have h2:((k:Int)+x0 - ((j:Int)+x0))=(k:Int) - j:=by omega
  rw[h2,Int.emod_eq_of_lt (by omega) (by omega)] at h1
  omega
 unfold fc
 rw[List.getD_eq_getElem?_getD,List.getD_eq_getElem?_getD,List.getElem?_eq_getElem (show (((j:Int)+x0) % fs.length).toNat < fs.length by omega),List.getElem?_eq_getElem (show (((k:Int)+x0) % fs.length).toNat < fs.length by omega)]
 have pw:=List.pairwise_iff_getElem.mp nd
 show fs[(((j:Int)+x0) % fs.length).toNat]≠fs[(((k:Int)+x0) % fs.length).toNat]
 rcases Nat.lt_or_gt_of_ne Ez with h|h
 ·exact pw _ _ _ _ h
 ·exact fun e=>pw _ _ (by omega) (by omega) h e.symm
theorem yb {fs:List Str}(nd:fs.Nodup){f:Str}(hf:f∈fs)(u:Str->Int)(x:Int):(fs.map (up u f x)).sum=x+(C7 fs f u).sum:=by
 rw[hW (up u f x) hf nd,xY]
 unfold up
 rw[if_pos rfl]
theorem tE (n:Nat)(cell:Int){fs:List Str}(nd:fs.Nodup)(hn:fs.length<=6)(c:Str->Int)(hc:∀ f,0<=c f)(hs:(fs.map c).sum<=10007) :
  ∃ ps:List Sh,af T (n+2) 34 [.int cell,.lst false (fs.map .str),dF false fs c]=.ok (.tup [.lst true (ps.map CO),dF false fs (ups c ps)])/\dR fs ps []=none/\ps.length<=6/\(fs.map (ups c ps)).sum<=10007/\(∀ p∈ps,p.1∈fs)/\∀ f,0<=ups c ps f:=by
 obtain⟨xs,ex,lx,px⟩:=stream (show T 31=some MC from rfl) rfl rfl rfl rfl n cell (3*(fs.length:Int)+2) (by omega) (by omega)
 have lx:xs.length=3*fs.length+2:=by rw[lx];omega
 obtain⟨Cr,e,ps,x5,x6,x7,x8,x9,rfl,h1,h2,h3,h4,h5⟩:=Ev.gY (its:=bb 0 (fs.length:Int)) (τ:=[some (.int cell),some (.lst false (fs.map .str)),some (dF true fs c),some (.lst true (xs.map .int)),some (.lst true []),none,none,none,none,none]) (body:=Ev.turn (af T (n+1)) (.nm 5) tT)
  (fun i τ=>∃ (ps:List Sh) (x5 x6 x7 x8 x9:Option D),τ=[some (.int cell),some (.lst false (fs.map .str)),some (dF true fs (ups c ps)),some (.lst true (xs.map .int)),some (.lst true (ps.map CO)),x5,x6,x7,x8,x9]/\ps.length<=i/\(∀ p∈ps,p.1∈fs/\0<=p.2/\∃ j,j < i/\p.1=fc fs (xs.getD 0 0) j)/\(ps.map (·.1)).Nodup/\(fs.map (ups c ps)).sum<=10007/\∀ f,0<=ups c ps f)
  ⟨[],none,none,none,none,none,rfl,Nat.le_refl _,(fun p h=>by cases h),List.nodup_nil,hs,hc⟩ (by
   rintro i x τ hx ⟨ps,x5,x6,x7,x8,x9,rfl,h1,h2,h3,h4,h5⟩
   have hi:i < fs.length:=by
    have:=(List.getElem?_eq_some_iff.mp hx).1
    rw[bA] at this
    omega
   unfold bb at hx
   rw[List.getElem?_map,List.getElem?_range (by omega)] at hx
   have DP:D.int (0+(i:Nat))=x:=Option.some.inj hx
   subst DP
   have weak:∀ p∈ps,p.1∈fs/\0<=p.2/\∃ j,j < i+1/\p.1=fc fs (xs.getD 0 0) j:=fun p hp=>by
    obtain⟨a1,a2,j,a3,a4⟩:=h2 p hp
    exact⟨a1,a2,j,by omega,a4⟩
   obtain⟨q6,q7,q8,q9,ht|⟨v,v0,v1,ht⟩⟩:=ya (af T (n+1)) cell nd hn (ups c ps) (fun f _=>h5 f) h4 xs lx px ps (by omega) i hi x5 x6 x7 x8 x9
   ·exact⟨_,ht,ps,_,q6,q7,q8,q9,rfl,by omega,weak,h3,h4,h5⟩
   ·have hf:fc fs (xs.getD 0 0) i∈fs:=Bo hi
    have E5:Ev.turn (af T (n+1)) (.nm 5) tT (.int (0+(i:Nat))) [some (.int cell),some (.lst false (fs.map .str)),some (dF true fs (ups c ps)),some (.lst true (xs.map .int)),some (.lst true (ps.map CO)),x5,x6,x7,x8,x9]=.ok (.nx [some (.int cell),some (.lst false (fs.map .str)),some (dF true fs (ups c (ps++[(fc fs (xs.getD 0 0) i,v)]))),some (.lst true (xs.map .int)),some (.lst true ((ps++[(fc fs (xs.getD 0 0) i,v)]).map CO)),some (.int (0+(i:Nat))),q6,q7,q8,q9]):=by
     rw[dz]
     exact ht
    refine⟨_,E5,ps++[(fc fs (xs.getD 0 0) i,v)],_,q6,q7,q8,q9,rfl,by rw[List.length_append,List.length_singleton];omega,fun p hp=>?_,?_,?_,fun f=>?_⟩
    ·rcases List.mem_append.mp hp with hp|hp
     ·exact weak p hp
     ·rw[List.mem_singleton.mp hp]
      exact⟨hf,v0,i,by omega,rfl⟩
    ·rw[List.map_append,List.nodup_append]
     refine⟨h3,by simp,fun a ha b hb=>?_⟩
     obtain⟨p,hp,rfl⟩:=List.mem_map.mp ha
     obtain⟨_,_,j,hj,e⟩:=h2 p hp
     have hb:b=fc fs (xs.getD 0 0) i:=by simpa using hb
     rw[hb,e]
     exact Bp nd hj hi
    ·rw[dz,yb nd hf]
     have v1:v<=10007 - (C7 fs (fc fs (xs.getD 0 0) i) (ups c ps)).sum:=v1
     show v+(C7 fs (fc fs (xs.getD 0 0) i) (ups c ps)).sum<=10007
     omega
    ·rw[dz]
     unfold up
     split
     ·exact v0
     ·exact h5 f)
 rw[bA] at h1 h2
 refine⟨ps,?_,qH ps [] (fun p hp=>⟨(h2 p hp).1,(h2 p hp).2.1⟩) h3 (fun p _ h=>by cases h),by omega,h4,fun p hp=>(h2 p hp).1,h5⟩
 have body:Qf=[(.asg (.nm 3) (.call 31 [(.v 0),(.bin .add (.bin .mul (.c (.int 3)) (.bi .len [(.v 1)])) (.c (.int 2)))])),(.asg (.nm 4) (.lst [])),(.CM (.nm 5) (.C4 (.bi .len [(.v 1)])) tT)]:=rfl
 rw[Ev.SW (show T 34=some JX from rfl) (show JX.io=some (.v 4) from rfl) (show JX.np=3 from rfl) (show JX.G.N.length=10 from rfl) (show JX.body=_ from body) rfl]
 have eo:md [.int cell,.lst false (fs.map .str),dF false fs c]=[.int cell,.lst false (fs.map .str),dF true fs c]:=rfl
 have fin:∀ (d:D) (t0 t1 t3 t4 t5 t6 t7 t8 t9:Option D),Li 2 (d,[t0,t1,some (dF true fs (ups c ps)),t3,t4,t5,t6,t7,t8,t9])=.ok (.tup [d,dF false fs (ups c ps)]):=fun d t0 t1 t3 t4 t5 t6 t7 t8 t9=>by
  show Co (aC (fs.map (iv (ups c ps)))) (.ok (D.tup [d,dF false fs (ups c ps)]))=_
  rw[gf]
  rfl
 have se:=c5 fs
 have lm:(fs.map D.str).length=fs.length:=List.length_map _
 rw[eo]
 generalize dF true fs c=W at *
 generalize dF true fs (ups c ps)=W1 at *
 generalize dF false fs (ups c ps)=W2 at *
 generalize fs.map D.str=FF at *
 generalize xs.map D.int=XX at *
 generalize ps.map CO=PP at *
 generalize tT=tb at *
 generalize hR:bb 0 (fs.length:Int)=R at *
 simp -implicitDefEqProofs (disch:=omega) only[CL,Nat.reduceBEq,Nat.reduceSub,Nat.reduceAdd,reduceIte,Ev.P9,ex,e,se,lm,hR,fin]
noncomputable def z0:Str->Int:=fun _=>0
theorem Ca (f:Str):up z0 f 0=z0:=by
 funext g
 unfold up z0
 split<;>rfl
theorem qI (cl:Nat->List D->Res D)(q0 q1:Option D):∀ (gs ns:List Str) (x3:Option D),(ns++gs).Nodup->ns.length+gs.length<=100->
  ∃ y3,forM (Ev.turn cl (.nm 3) [(.DI 2 (.v 3) (.c (.int 0)))]) (gs.map .str) [q0,q1,some (dF true ns z0),x3,none,none]=.ok (.nx [q0,q1,some (dF true (ns++gs) z0),y3,none,none])
 | [],ns,x3,_,_=>⟨x3,by rw[List.append_nil];rfl⟩
 | g::gs,ns,x3,nd,hl=>by
  rw[List.length_cons] at hl
  have nf:g∉ns:=fun z=>(List.nodup_append.mp nd).2.2 g z g (.head _) rfl
  have st:=lu cl 2 (.v 3) [q0,q1,some (dF true ns z0),some (.str g),none,none] (f:=g) (fs:=ns) (v:=z0) (x:=0) rfl nf (by omega)
  rw[Ca] at st
  have e:Ev.turn cl (.nm 3) [(.DI 2 (.v 3) (.c (.int 0)))] (.str g) [q0,q1,some (dF true ns z0),x3,none,none]=.ok (.nx [q0,q1,some (dF true (ns++[g]) z0),some (.str g),none,none]):=by
   have Fz:Ev.cJ cl 2 (.v 3) [q0,q1,some (dF true ns z0),some (.str g),none,none] (.int 0) (some (dF true ns z0))=.ok (.nx [q0,q1,some (dF true (ns++[g]) z0),some (.str g),none,none]):=st
   generalize dF true ns z0=W at *
   generalize dF true (ns++[g]) z0=W' at *
   simp -implicitDefEqProofs (disch:=omega) only[CL,Nat.reduceBEq,Nat.reduceSub,Nat.reduceAdd,reduceIte,Ev.ay,Fz]
  obtain⟨y3,i⟩:=qI cl q0 q1 gs (ns++[g]) (some (.str g)) (by rw[List.append_assoc];exact nd) (by rw[List.length_append,List.length_singleton];omega)
  refine⟨y3,?_⟩
  rw[List.map_cons,Ev.bN,e]
  rw[List.append_assoc] at i
  exact i
theorem tF (fs:List Str):MD fs=alt true false true (fs.map fun f=>(f,[])) [(0,10007)]:=by
 unfold MD alt
 rw[List.map_map]
 rfl
theorem Bq:∀ l:List Str,(l.map z0).sum=0
 | []=>rfl
 | f::l=>by rw[List.map_cons,List.sum_cons,Bq l];rfl
theorem Cb {fs:List Str}(nd:fs.Nodup)(hl:fs.length<=6)(hr:∀ f∈fs,(reprText f).length<=1000):Al fs z0 (fs.map fun f=>(f,[])) [(0,10007)] 1:=by
 refine⟨nd,hl,hr,?_,fun p h=>?_,fun p h=>?_,?_,?_,fun x=>?_⟩
 ·unfold E6
  rw[List.map_map]
  rfl
 ·obtain⟨f,_,rfl⟩:=List.mem_map.mp h
  intro q hq
  cases hq
 ·rw[List.mem_singleton.mp h]
  decide
 ·have:∀ l:List Str,lsum (l.map fun f=>((f,[]):Rw))=0:=by
   intro l
   induction l with
   | nil=>rfl
   | cons f l ih=>show 0+lsum (l.map fun f=>((f,[]):Rw))=0;rw[ih]
  rw[this]
  simp
 ·rw[Bq]
  rfl
 ·have:∀ l:List Str,DV x (l.map fun f=>((f,[]):Rw))=0:=by
   intro l
   induction l with
   | nil=>rfl
   | cons f l ih=>show 0+DV x (l.map fun f=>((f,[]):Rw))=0;rw[ih];rfl
  rw[this]
  show 0+(mI x 0 10007+0)=_
  omega
noncomputable def eC:IR:=.bin .fdiv (.v 0) (.bin .add (.c (.int 1)) (.bin .mul (.c (.int 6)) (.v 5)))
noncomputable def tC:List IS:=[(.EV 4 29 (.v 4) 34 [eC,(.v 1)] 2)]
noncomputable def tA:List IS:=[(.Dl (.cmp .ne (.v 1) (.lst [])) tC [])]
theorem tH (cl:Nat->List D->Res D)(cell v k:Int){x3:Option D}{fs:List Str}{c:Str->Int}{ps:List Sh}{rows Dh:List Rw}{free Ct:List Pr}(o1 o2 o3:Bool)
  (e:cl 34 [.int v,.lst false (fs.map .str),dF false fs c]=.ok (.tup [.lst true (ps.map CO),dF false fs (ups c ps)])) (e29:cl 29 [alt false false false rows free,.lst false (ps.map CO)]=.ok (alt true true false Dh Ct))
  (hv:Cn cl eC [some (.int cell),some (.lst false (fs.map .str)),some (dF true fs c),x3,some (alt o1 o2 o3 rows free),some (.int k)]=.ok (.int v)) :
  aD cl tC [some (.int cell),some (.lst false (fs.map .str)),some (dF true fs c),x3,some (alt o1 o2 o3 rows free),some (.int k)]=.ok (.nx [some (.int cell),some (.lst false (fs.map .str)),some (dF true fs (ups c ps)),x3,some (alt true true false Dh Ct),some (.int k)]):=by
 unfold tC
 show Ci (Dm cl (.EV 4 29 (.v 4) 34 [eC,(.v 1)] 2) _) (Ev.i0 (aD cl []))=_
 have key:Dm cl (.EV 4 29 (.v 4) 34 [eC,(.v 1)] 2) [some (.int cell),some (.lst false (fs.map .str)),some (dF true fs c),x3,some (alt o1 o2 o3 rows free),some (.int k)]=.ok (.nx [some (.int cell),some (.lst false (fs.map .str)),some (dF true fs (ups c ps)),x3,some (alt true true false Dh Ct),some (.int k)]):=by
  rw[Ev.DT]
  have r0:Cn cl (.v 4) [some (.int cell),some (.lst false (fs.map .str)),some (dF true fs c),x3,some (alt o1 o2 o3 rows free),some (.int k)]=.ok (alt o1 o2 o3 rows free):=by
   generalize dF true fs c=W at *
   generalize alt o1 o2 o3 rows free=A at *
   simp -implicitDefEqProofs (disch:=omega) only[CL,Nat.reduceBEq,Nat.reduceSub,Nat.reduceAdd,reduceIte]
  have r1:aG cl [eC,(.v 1)] [some (.int cell),some (.lst false (fs.map .str)),some (dF true fs c),x3,some (alt o1 o2 o3 rows free),some (.int k)]=.ok [.int v,.lst false (fs.map .str)]:=by
   generalize dF true fs c=W at *
   generalize alt o1 o2 o3 rows free=A at *
   generalize eC=E at *
   generalize fs.map D.str=FF at *
   simp -implicitDefEqProofs (disch:=omega) only[CL,Nat.reduceBEq,Nat.reduceSub,Nat.reduceAdd,reduceIte,hv]
  have se:=c5 fs
  have r2:Cy [.int v,.lst false (fs.map .str)]++[dF false fs c]=[.int v,.lst false (fs.map .str),dF false fs c]:=by
   rw[Cy,Cy,Cy,er,er,se]
   rfl
  show Co (aC (fs.map (iv c))) (Ci (Cn cl (.v 4) _) fun x=>Ci (aG cl [eC,(.v 1)] _) fun ds=>Ci (Ed (cl 34 (Cy ds++[dF false fs c]))) _)=_
  rw[gf,r0]
  show Ci (aG cl [eC,(.v 1)] _) _=_
  rw[r1]
  show Ci (Ed (cl 34 (Cy [.int v,.lst false (fs.map .str)]++[dF false fs c]))) _=_
  rw[r2,e]
  have fz:CK (vars (.v 4)++ao [eC,(.v 1)]) [some (.int cell),some (.lst false (fs.map .str)),some (dF true fs c),x3,some (alt o1 o2 o3 rows free),some (.int k)]=[some (.int cell),some (.lst false (fs.map .str)),some (dF true fs c),x3,some (alt false false false rows free),some (.int k)]:=by
   show [some (er (.int cell)),some (er (.lst false (fs.map .str))),some (dF true fs c),x3,some (er (alt o1 o2 o3 rows free)),some (er (.int k))]=_
   rw[er,er,se,bj,er]
  rw[fz]
  show Co (aC (fs.map (iv (ups c ps)))) (Ci (Ed (cl 29 [er (alt o1 o2 o3 rows free),er (.lst true (ps.map CO))])) _)=_
  rw[gf,bj,er,qr,e29]
  rfl
 rw[key]
 rfl
theorem yd {fs:List Str}{c:Str->Int}{rows:List Rw}{free:List Pr}{L:Nat}(a:Al fs c rows free L):(fs.map c).sum<=10007:=by
 have h1:=a.Ex
 have h2:=hG a.HW
 omega
theorem ne_nil (f:Str)(gs:List Str):bD (CY 39) ((f::gs).map D.str) []=.ok false:=rfl
theorem qJ (n:Nat)(cell k:Int)(hk:k=0∨k=1){fs:List Str}{c:Str->Int}{rows:List Rw}{free:List Pr}{L:Nat}(a:Al fs c rows free L)(hc:∀ f,0<=c f)(hL:L<=900)(o1 o2 o3:Bool)(x3 x5:Option D) :
  ∃ (c':Str->Int) (Dh:List Rw) (Ct:List Pr) (p1 p2 p3:Bool),Ev.turn (af T (n+5)) (.nm 5) tA (.int k) [some (.int cell),some (.lst false (fs.map .str)),some (dF true fs c),x3,some (alt o1 o2 o3 rows free),x5]=.ok (.nx [some (.int cell),some (.lst false (fs.map .str)),some (dF true fs c'),x3,some (alt p1 p2 p3 Dh Ct),some (.int k)])/\Al fs c' Dh Ct (L+12)/\∀ f,0<=c' f:=by
 cases fs with
 | nil=>
  refine⟨c,rows,free,o1,o2,o3,?_,⟨a.CP,a.LQ,a.rep,a.sz,a.pos,a.HW,by have:=a.len;omega,a.Ex,a.LR⟩,hc⟩
  unfold tA
  generalize dF true [] c=W at *
  generalize alt o1 o2 o3 rows free=A at *
  generalize tC=tb at *
  simp -implicitDefEqProofs (disch:=omega) only[CL,Nat.reduceBEq,Nat.reduceSub,Nat.reduceAdd,reduceIte,Ev.ay]
 | cons f gs=>
  have hv:∃ v:Int,Cn (af T (n+5)) eC [some (.int cell),some (.lst false ((f::gs).map .str)),some (dF true (f::gs) c),x3,some (alt o1 o2 o3 rows free),some (.int k)]=.ok (.int v):=by
   unfold eC
   generalize dF true (f::gs) c=W at *
   generalize alt o1 o2 o3 rows free=A at *
   rcases hk with rfl|rfl
   ·exact⟨cell / (1+6*0),by simp -implicitDefEqProofs (disch:=omega) only[CL,Nat.reduceBEq,Nat.reduceSub,Nat.reduceAdd,reduceIte]⟩
   ·exact⟨cell / (1+6*1),by simp -implicitDefEqProofs (disch:=omega) only[CL,Nat.reduceBEq,Nat.reduceSub,Nat.reduceAdd,reduceIte]⟩
  obtain⟨v,hv⟩:=hv
  obtain⟨ps,t1,t2,t3,t4,t5,t6⟩:=tE (n+3) v a.CP a.LQ c hc (yd a)
  obtain⟨_,ch⟩:=jN (n+1) a hL ps (by omega) fun p hp=>a.rep _ (t5 p hp)
  obtain⟨Dh,Ct,e29,al⟩:=(ch t2).2 t4
  have cg:=tH (af T (n+5)) cell v k (x3:=x3) o1 o2 o3 t1 e29 hv
  refine⟨ups c ps,Dh,Ct,true,true,false,?_,al,t6⟩
  have hn:=ne_nil f gs
  unfold tA
  generalize dF true (f::gs) c=W at *
  generalize dF true (f::gs) (ups c ps)=W' at *
  generalize alt o1 o2 o3 rows free=A at *
  generalize alt true true false Dh Ct=A' at *
  generalize (f::gs).map D.str=FF at *
  generalize tC=tb at *
  simp -implicitDefEqProofs (disch:=omega) only[CL,Nat.reduceBEq,Nat.reduceSub,Nat.reduceAdd,reduceIte,Ev.ay,hn,cg]
theorem lH {α:Type}(n:Nat)(g g':α->D)(h:∀ a,CY n (g a) (g' a)=.ok true):∀ l:List α,bD (CY n) (l.map g) (l.map g')=.ok true
 | []=>rfl
 | a::l=>by
  show Ci (CY n (g a) (g' a)) (fun x=>Ci (bD (CY n) (l.map g) (l.map g')) fun y=>.ok (x&&y))=_
  rw[h a,lH n g g' h l]
  rfl
theorem Br (n:Nat)(p:Sh):CY (n+2) (CO p) (CO p)=.ok true:=by
 show Ci (.ok (p.1 == p.1)) (fun x=>Ci (Ci (.ok (p.2 == p.2)) fun x=>Ci (.ok true) fun y=>.ok (x&&y)) fun y=>(.ok (x&&y):Res Bool))=_
 rw[beq_self_eq_true,beq_self_eq_true]
 rfl
theorem yf (cl:Nat->List D->Res D)(o:Bool)(c:Str->Int){fs:List Str}:aW (aQ cl (.nm 1) [] (.tup [(.v 1),(.C2 (.v 0) (.v 1))]) [some (dF o fs c),none]) (fs.map .str)=.ok ((fs.map fun f=>((f,c f):Sh)).map CO):=by
 refine Ev.bC D.str (fun f=>((f,c f):Sh)) CO fs fun f hf=>?_
 have g:=jc o c hf
 unfold CO
 generalize dF o fs c=W at *
 simp -implicitDefEqProofs (disch:=omega) only[CL,Nat.reduceBEq,Nat.reduceSub,Nat.reduceAdd,reduceIte,g]
theorem jd (n:Nat)(cell:Int){fs:List Str}(nd:fs.Nodup)(hl:fs.length<=6)(hr:∀ f∈fs,(reprText f).length<=1000) :
  ∃ (c:Str->Int) (rows:List Rw) (free:List Pr) (o1 o2 o3:Bool),af T (n+6) 37 [.int cell,.lst false (fs.map .str)]=.ok (alt o1 o2 o3 rows free)/\Al fs c rows free 25:=by
 have nw:=xT (n+4) fs nd (by omega)
 rw[tF] at nw
 obtain⟨y3,zl⟩:=qI (af T (n+5)) (some (.int cell)) (some (.lst false (fs.map .str))) fs [] none (by rw[List.nil_append];exact nd) (by rw[List.length_nil];omega)
 rw[List.nil_append] at zl
 obtain⟨c1,Qt,Qu,a1,a2,a3,t1,Ga,TR⟩:=qJ n cell 0 (.inl rfl) (Cb nd hl hr) (fun _=>Int.le_refl _) (by omega) true false true y3 none
 obtain⟨c2,EG,EH,b1,b2,b3,t2,FL,Qq⟩:=qJ n cell 1 (.inr rfl) Ga TR (by omega) a1 a2 a3 y3 (some (.int 0))
 refine⟨c2,EG,EH,b1,b2,b3,?_,FL⟩
 have hf:forM (Ev.turn (af T (n+5)) (.nm 5) tA) (bb 0 2) [some (.int cell),some (.lst false (fs.map .str)),some (dF true fs z0),y3,some (alt true false true (fs.map fun f=>((f,[]):Rw)) [(0,10007)]),none]=.ok (.nx [some (.int cell),some (.lst false (fs.map .str)),some (dF true fs c2),y3,some (alt b1 b2 b3 EG EH),some (.int 1)]):=by
  rw[show bb 0 2=[.int 0,.int 1] from rfl,Ev.bN,t1]
  show forM _ [.int 1] _=_
  rw[Ev.bN,t2]
  rfl
 have Qr:=FL.G4
 have sh:=gc (n+3) EG EH (by omega) fun p h=>by have h1:=hU h;have h2:=FL.len;omega
 rw[FL.sz] at sh
 have fe:=yf (af T (n+5)) true c2 (fs:=fs)
 have ae:=bj b1 b2 b3 EG EH
 have se:=c5 fs
 have eq:=lH 39 CO CO (Br 37) (fs.map fun f=>((f,c2 f):Sh))
 have lm:(fs.map D.str).length=fs.length:=List.length_map _
 have l2:aw (alt true false true (fs.map fun f=>((f,[]):Rw)) [(0,10007)])=false:=rfl
 have body:Qg=[(.asg (.nm 2) .D4),(.CM (.nm 3) (.val (.v 1)) [(.DI 2 (.v 3) (.c (.int 0)))]),(.asg (.nm 4) (.call 24 [(.bi .list [(.v 1)])])),(.CM (.nm 5) (.C4 (.c (.int 2))) tA),(.Dl (.cmp .ne (.call 25 [(.v 4)]) (.comp {N:=["_law_due","_law_face"],kd:=[.cell,.local],gl:=[],df:=false} [2] (.nm 1) (.val (.v 1)) [] (.tup [(.v 1),(.C2 (.v 0) (.v 1))]))) [(.ret (.c .CD))] []),(.ret (.v 4))]:=rfl
 rw[Ev.go (show T 37=some JY from rfl) (show JY.io=none from rfl) (show JY.np=2 from rfl) (show JY.G.N.length=6 from rfl) (show JY.body=_ from body) rfl]
 have TU:forM (Ev.turn (af T (n+5)) (.nm 3) [(.DI 2 (.v 3) (.c (.int 0)))]) (fs.map .str) [some (.int cell),some (.lst false (fs.map .str)),some (.Cu true [] []),none,none,none]=.ok (.nx [some (.int cell),some (.lst false (fs.map .str)),some (dF true fs z0),y3,none,none]):=zl
 clear zl t1 t2
 generalize (fs.map fun f=>((f,c2 f):Sh)).map CO=Q at *
 generalize alt true false true (fs.map fun f=>((f,[]):Rw)) [(0,10007)]=A0 at *
 generalize alt b1 b2 b3 EG EH=A2 at *
 generalize alt false false false EG EH=A3 at *
 generalize dF true fs z0=W0 at *
 generalize dF true fs c2=W2 at *
 generalize fs.map D.str=FF at *
 generalize tA=tb at *
 generalize [IS.DI 2 (.v 3) (.c (.int 0))]=td at *
 simp -implicitDefEqProofs (disch:=omega) only[CL,Nat.reduceBEq,Nat.reduceSub,Nat.reduceAdd,reduceIte,TU,nw,hf,sh,fe,ae,se,eq,lm,l2]
noncomputable def oD:Option Str->D
 | none=>.CD
 | some s=>.str s
noncomputable def fl (N:Nat)(F:Nat->Option Str):List D:=(List.range N).map fun x=>oD (F x)
theorem e6 (N:Nat)(F:Nat->Option Str):(fl N F).length=N:=by unfold fl;rw[List.length_map,List.length_range]
theorem lI {N:Nat}{F:Nat->Option Str}{j:Nat}(h:j < N):(fl N F)[j]? = some (oD (F j)):=by
 unfold fl
 rw[List.getElem?_map,List.getElem?_range h]
 rfl
theorem yg {N:Nat}{F:Nat->Option Str}{j:Nat}(f:Str)(h:j < N):(fl N F).set j (.str f)=fl N fun x=>if x=j then some f else F x:=by
 apply List.ext_getElem?
 intro i
 rw[List.getElem?_set,e6]
 by_cases hi:i < N
 ·by_cases e:j=i
  ·subst e
   rw[if_pos rfl,if_pos h,lI hi,if_pos rfl]
   rfl
  ·rw[if_neg e,lI hi,lI hi,if_neg (show ¬ i=j from fun z=>e z.symm)]
 ·rw[List.getElem?_eq_none (l:=fl N _) (by rw[e6];omega),if_neg (by omega),List.getElem?_eq_none (by rw[e6];omega)]
theorem tI (n:Nat):(List.replicate n [D.CD]).flatten=fl n fun _=>none:=by
 unfold fl
 induction n with
 | zero=>rfl
 | succ n ih=>
  rw[List.replicate_succ',List.flatten_append,ih,List.range_succ,List.map_append]
  rfl
noncomputable def t3:List IS:=[(.En 1 (.v 6) (.v 2))]
noncomputable def t2:List IS:=[(.CM (.nm 6) (.DB (.v 4) (.v 5)) t3)]
noncomputable def t1:List IS:=[(.CM (.tp [(.nm 4),(.nm 5)]) (.val (.v 3)) t2)]
theorem vM {N:Nat}{z:Int}(h0:0<=z)(h1:z < N):E4 N z=some z.toNat:=by
 unfold E4
 rw[if_pos h0,if_pos h1]
theorem f3 (cl:Nat->List D->Res D)(N:Nat)(a0 r0:D)(f:Str)(F:Nat->Option Str)(l h:Int)(h0:0<=l)(h1:h<=N)(x6:Option D) :
  ∃ y6,forM (Ev.turn cl (.nm 6) t3) (bb l h) [some a0,some (.lst true (fl N F)),some (.str f),some r0,some (.int l),some (.int h),x6] =
   .ok (.nx [some a0,some (.lst true (fl N fun x=>if 0 < mI x l h then some f else F x)),some (.str f),some r0,some (.int l),some (.int h),y6]):=by
 obtain⟨Cr,e,y6,rfl⟩:=Ev.gY (its:=bb l h) (τ:=[some a0,some (.lst true (fl N F)),some (.str f),some r0,some (.int l),some (.int h),x6]) (body:=Ev.turn cl (.nm 6) t3)
  (fun i τ=>∃ y6,τ=[some a0,some (.lst true (fl N fun x=>if l<=(x:Nat)/\(x:Int) < l+(i:Nat) then some f else F x)),some (.str f),some r0,some (.int l),some (.int h),y6])
  ⟨x6,by
   have:(fun x:Nat=>if l<=(x:Int)/\(x:Int) < l+((0:Nat):Int) then some f else F x)=F:=funext fun x=>if_neg (by omega)
   rw[this]⟩ (by
   rintro i x τ hx ⟨y6,rfl⟩
   have hi:i < (h - l).toNat:=by
    have:=(List.getElem?_eq_some_iff.mp hx).1
    rwa [bA] at this
   unfold bb at hx
   rw[List.getElem?_map,List.getElem?_range (by omega)] at hx
   have DP:D.int (l+(i:Nat))=x:=Option.some.inj hx
   subst DP
   have Dk:(l+(i:Nat)).toNat < N:=by omega
   have hs:=yg (F:=fun x=>if l<=(x:Nat)/\(x:Int) < l+(i:Nat) then some f else F x) f Dk
   have ME:E4 (fl N fun x=>if l<=(x:Nat)/\(x:Int) < l+(i:Nat) then some f else F x).length (l+(i:Nat))=some (l+(i:Nat)).toNat:=by
    rw[e6]
    exact vM (by omega) (by omega)
   have he:(fun x:Nat=>if x=(l+(i:Nat)).toNat then some f else if l<=(x:Nat)/\(x:Int) < l+(i:Nat) then some f else F x)=fun x:Nat=>if l<=(x:Nat)/\(x:Int) < l+((i+1:Nat):Int) then some f else F x:=by
    funext x
    by_cases Qv:x=(l+(i:Nat)).toNat
    ·rw[if_pos Qv,if_pos (by omega)]
    ·rw[if_neg Qv]
     by_cases hz:l<=(x:Int)/\(x:Int) < l+(i:Nat)
     ·rw[if_pos hz,if_pos (by omega)]
     ·rw[if_neg hz,if_neg (by omega)]
   rw[he] at hs
   refine⟨_,?_,some (.int (l+(i:Nat))),rfl⟩
   generalize (fl N fun x=>if l<=(x:Nat)/\(x:Int) < l+(i:Nat) then some f else F x)=DS at *
   generalize (fl N fun x=>if l<=(x:Nat)/\(x:Int) < l+((i+1:Nat):Int) then some f else F x)=Qw at *
   generalize (l+(i:Nat)).toNat=j at *
   unfold t3
   simp -implicitDefEqProofs (disch:=omega) only[CL,Nat.reduceBEq,Nat.reduceSub,Nat.reduceAdd,reduceIte,Ev.ay,ME,hs])
 refine⟨y6,?_⟩
 rw[e,bA]
 have:(fun x:Nat=>if l<=(x:Int)/\(x:Int) < l+(((h - l).toNat:Nat):Int) then some f else F x)=fun x:Nat=>if 0 < mI x l h then some f else F x:=by
  funext x
  unfold mI
  by_cases hz:l<=(x:Int)/\(x:Int) < h
  ·rw[if_pos hz,if_pos (by omega),if_pos (by omega)]
  ·rw[if_neg hz,if_neg (by omega),if_neg (by omega)]
 rw[this]
theorem qK (x a b:Int):0<=mI x a b:=by unfold mI;split<;>omega
theorem dW (x:Int):∀ r:List Pr,0<=mc x r
 | []=>Int.le_refl _
 | p::r=>by
  have h1:=qK x p.1 p.2
  have h2:=dW x r
  show 0<=mI x p.1 p.2+mc x r
  omega
def E3 (N:Nat)(run:List Pr):Prop:=∀ p∈run,0<=p.1/\p.1<=p.2/\p.2<=N
theorem f2 (cl:Nat->List D->Res D)(N:Nat)(hN:N<=100000)(a0 r0:D)(f:Str):∀ (run:List Pr) (F:Nat->Option Str) (x4 x5 x6:Option D),E3 N run->
  ∃ y4 y5 y6,forM (Ev.turn cl (.tp [(.nm 4),(.nm 5)]) t2) (run.map Cs) [some a0,some (.lst true (fl N F)),some (.str f),some r0,x4,x5,x6] =
   .ok (.nx [some a0,some (.lst true (fl N fun x=>if 0 < mc x run then some f else F x)),some (.str f),some r0,y4,y5,y6])
 | [],F,x4,x5,x6,_=>⟨x4,x5,x6,rfl⟩
 | p::run,F,x4,x5,x6,hr=>by
  obtain⟨l,h⟩:=p
  obtain⟨a1,a2,a3⟩:=hr (l,h) (.head _)
  have a1:0<=l:=a1
  have a2:l<=h:=a2
  have a3:h<=N:=a3
  obtain⟨z6,e⟩:=f3 cl N a0 r0 f F l h a1 a3 x6
  obtain⟨y4,y5,y6,i⟩:=f2 cl N hN a0 r0 f run (fun x=>if 0 < mI x l h then some f else F x) (some (.int l)) (some (.int h)) z6 fun q hq=>hr q (List.mem_cons_of_mem _ hq)
  refine⟨y4,y5,y6,?_⟩
  have g1:aV l=true:=by unfold aV;exact decide_eq_true (by omega)
  have g2:aV h=true:=by unfold aV;exact decide_eq_true (by omega)
  have ht:Ev.turn cl (.tp [(.nm 4),(.nm 5)]) t2 (.tup [.int l,.int h]) [some a0,some (.lst true (fl N F)),some (.str f),some r0,x4,x5,x6]=.ok (.nx [some a0,some (.lst true (fl N fun x=>if 0 < mI x l h then some f else F x)),some (.str f),some r0,some (.int l),some (.int h),z6]):=by
   generalize fl N F=DS at *
   generalize (fl N fun x=>if 0 < mI x l h then some f else F x)=Qw at *
   unfold t2
   generalize t3=tb at *
   simp -implicitDefEqProofs (disch:=omega) only[CL,Nat.reduceBEq,Nat.reduceSub,Nat.reduceAdd,reduceIte,Ev.ay,g1,g2,e]
  rw[List.map_cons,Ev.bN,show Cs (l,h)=.tup [.int l,.int h] from rfl,ht]
  have:(fun x:Nat=>if 0 < mc x ((l,h)::run) then some f else F x)=fun x:Nat=>if 0 < mc x run then some f else if 0 < mI x l h then some f else F x:=by
   funext x
   have h1:=qK x l h
   have h2:=dW x run
   show (if 0 < mI x l h+mc x run then some f else F x)=_
   by_cases c1:0 < mc (x:Int) run
   ·rw[if_pos c1,if_pos (by omega)]
   ·rw[if_neg c1]
    by_cases c2:0 < mI x l h
    ·rw[if_pos c2,if_pos (by omega)]
    ·rw[if_neg c2,if_neg (by omega)]
  rw[this]
  exact i
noncomputable def D7:List Rw->(Nat->Option Str)->Nat->Option Str
 | [],F=>F
 | p::rows,F=>D7 rows fun x=>if 0 < mc x p.2 then some p.1 else F x
theorem f1 (cl:Nat->List D->Res D)(N:Nat)(hN:N<=100000)(a0:D):∀ (rows:List Rw) (F:Nat->Option Str) (x2 x3 x4 x5 x6:Option D),(∀ p∈rows,E3 N p.2)->
  ∃ y2 y3 y4 y5 y6,forM (Ev.turn cl (.tp [(.nm 2),(.nm 3)]) t1) (rows.map (au false)) [some a0,some (.lst true (fl N F)),x2,x3,x4,x5,x6] =
   .ok (.nx [some a0,some (.lst true (fl N (D7 rows F))),y2,y3,y4,y5,y6])
 | [],F,x2,x3,x4,x5,x6,_=>⟨x2,x3,x4,x5,x6,rfl⟩
 | p::rows,F,x2,x3,x4,x5,x6,hr=>by
  obtain⟨f,run⟩:=p
  obtain⟨z4,z5,z6,e⟩:=f2 cl N hN a0 (.lst false (run.map Cs)) f run F x4 x5 x6 (hr _ (.head _))
  obtain⟨y2,y3,y4,y5,y6,i⟩:=f1 cl N hN a0 rows (fun x=>if 0 < mc x run then some f else F x) (some (.str f)) (some (.lst false (run.map Cs))) z4 z5 z6 fun q hq=>hr q (List.mem_cons_of_mem _ hq)
  refine⟨y2,y3,y4,y5,y6,?_⟩
  have pe:=ba run
  have ht:Ev.turn cl (.tp [(.nm 2),(.nm 3)]) t1 (.tup [.str f,.lst false (run.map Cs)]) [some a0,some (.lst true (fl N F)),x2,x3,x4,x5,x6]=.ok (.nx [some a0,some (.lst true (fl N fun x=>if 0 < mc x run then some f else F x)),some (.str f),some (.lst false (run.map Cs)),z4,z5,z6]):=by
   generalize fl N F=DS at *
   generalize (fl N fun x=>if 0 < mc x run then some f else F x)=Qw at *
   generalize run.map Cs=RR at *
   unfold t1
   generalize t2=tb at *
   simp -implicitDefEqProofs (disch:=omega) only[CL,Nat.reduceBEq,Nat.reduceSub,Nat.reduceAdd,reduceIte,Ev.ay,pe,e]
  rw[List.map_cons,Ev.bN,show au false (f,run)=.tup [.str f,.lst false (run.map Cs)] from rfl,ht]
  exact i
theorem tJ (N:Nat)(o:Bool)(h:N<=16000):D6 .mul (.lst o [.CD]) (.int (N:Nat))=.ok (.lst true (fl N fun _=>none)):=by
 show Co (decide (0<=((N:Nat):Int)/\((N:Nat):Int)<=16000/\[D.CD].length<=1000)) (.ok (D.lst true (List.flatten (List.replicate ((N:Nat):Int).toNat [D.CD]))))=_
 rw[decide_eq_true (show 0<=((N:Nat):Int)/\((N:Nat):Int)<=16000/\[D.CD].length<=1000 from ⟨by omega,by omega,by simp⟩),Int.toNat_natCast,tI]
 rfl
theorem qL (N:Nat)(F:Nat->Option Str):ak (fl N F)=true:=by
 rw[aX,fl,List.all_map,List.all_eq_true]
 intro x _
 show aw (oD (F x))=true
 cases F x<;>rfl
theorem jf (n:Nat)(rows:List Rw)(free:List Pr)(hr:∀ p∈rows,E3 10007 p.2):af T (n+1) 35 [alt false false false rows free]=.ok (.lst true (fl 10007 (D7 rows fun _=>none))):=by
 obtain⟨y2,y3,y4,y5,y6,e⟩:=f1 (af T n) 10007 (by omega) (alt false false false rows free) rows (fun _=>none) none none none none none hr
 have m:=fun o=>tJ 10007 o (by omega)
 have m':∀ o,D6 .mul (.lst o [.CD]) (.int 10007)=.ok (.lst true (fl 10007 fun _=>none)):=m
 clear m
 have x0:bg (alt false false false rows free) (.int 0)=.ok (.lst false (rows.map (au false))):=rfl
 have ae:=bj false false false rows free
 have re:=bJ false rows
 have body:Qd=[(.asg (.nm 1) (.bin .mul (.lst [(.c .CD)]) (.g 20 (.int 10007)))),(.CM (.tp [(.nm 2),(.nm 3)]) (.val (.idx (.v 0) (.c (.int 0)))) t1),(.ret (.v 1))]:=rfl
 rw[Ev.go (show T 35=some JU from rfl) (show JU.io=none from rfl) (show JU.np=1 from rfl) (show JU.G.N.length=7 from rfl) (show JU.body=_ from body) rfl]
 have lf:=qL 10007 fun _=>none
 generalize (fl 10007 fun _=>none)=D0 at *
 generalize fl 10007 (D7 rows fun _=>none)=D1 at *
 generalize alt false false false rows free=A at *
 generalize rows.map (au false)=RR at *
 generalize t1=tb at *
 have nl:∀ a b:IR,aU (.bin .mul a b)=true:=fun _ _=>rfl
 simp -implicitDefEqProofs (disch:=omega) only[CL,Nat.reduceBEq,Nat.reduceSub,Nat.reduceAdd,reduceIte,m',x0,ae,re,lf,nl,e]
noncomputable def sm:Nat->(Nat->Int)->Int
 | 0,_=>0
 | n+1,f=>sm n f+f n
theorem e9 (n:Nat)(f g:Nat->Int):sm n (fun k=>f k+g k)=sm n f+sm n g:=by
 induction n with
 | zero=>rfl
 | succ n ih=>show sm n _+(f n+g n)=sm n f+f n+(sm n g+g n);rw[ih];omega
theorem dA (n:Nat):sm n (fun _=>0)=0:=by
 induction n with
 | zero=>rfl
 | succ n ih=>show sm n _+0=0;rw[ih];rfl
theorem bq {f g:Nat->Int}:∀ n:Nat,(∀ k,k < n->f k=g k)->sm n f=sm n g
 | 0,_=>rfl
 | n+1,h=>by
  show sm n f+f n=sm n g+g n
  rw[bq n fun k hk=>h k (by omega),h n (by omega)]
theorem vN (a c:Int)(h0:0<=a):∀ n:Nat,sm n (fun k=>mI k a c)=if c < n then (if a < c then c - a else 0) else (if a < n then n - a else 0)
 | 0=>by
  show (0:Int)=_
  split<;>split<;>omega
 | n+1=>by
  show sm n (fun k=>mI k a c)+mI n a c=_
  rw[vN a c h0 n]
  unfold mI
  by_cases h1:c < ((n:Nat):Int)
  ·rw[if_pos h1,if_pos (show c < ((n+1:Nat):Int) by omega),if_neg (show ¬(a<=((n:Nat):Int)/\((n:Nat):Int) < c) by omega)]
   split<;>omega
  ·rw[if_neg h1]
   by_cases h2:a<=((n:Nat):Int)/\((n:Nat):Int) < c
   ·rw[if_pos h2,if_neg (show ¬ c < ((n+1:Nat):Int) by omega)]
    split<;>split<;>omega
   ·rw[if_neg h2]
    split<;>split<;>split<;>omega
noncomputable def F6 (a b:Int):Int:=if b > a then b else a
noncomputable def IH (a b:Int):Int:=if b < a then b else a
noncomputable def ov (p q:Pr):Int:=F6 0 (IH p.2 q.2 - F6 p.1 q.1)
theorem yh (x a b c d:Int):mI x a b*mI x c d=mI x (F6 a c) (IH b d):=by
 unfold mI F6 IH
 by_cases h1:a<=x/\x < b
 ·rw[if_pos h1]
  by_cases h2:c<=x/\x < d
  ·rw[if_pos h2,if_pos]
   ·rfl
   ·split<;>split<;>omega
  ·rw[if_neg h2,if_neg]
   ·rfl
   ·split<;>split<;>omega
 ·rw[if_neg h1,Int.zero_mul,if_neg]
  split<;>split<;>omega
theorem Bt {N:Nat}{p q:Pr}(hp:0<=p.1/\p.1<=p.2/\p.2<=N)(hq:0<=q.1/\q.1<=q.2/\q.2<=N):ov p q=sm N fun k=>mI k p.1 p.2*mI k q.1 q.2:=by
 rw[bq (g:=fun k=>mI k (F6 p.1 q.1) (IH p.2 q.2)) N fun k _=>yh k _ _ _ _,vN _ _ (by unfold F6;split<;>omega)]
 have h1:IH p.2 q.2<=N:=by unfold IH;split<;>omega
 have h2:0<=F6 p.1 q.1/\F6 p.1 q.1<=N:=by unfold F6;split<;>omega
 unfold ov
 generalize IH p.2 q.2=c at *
 generalize F6 p.1 q.1=a at *
 unfold F6
 split<;>split<;>split<;>omega
noncomputable def FN (p:Pr):List Pr->Int
 | []=>0
 | q::r=>ov p q+FN p r
noncomputable def EI:List Pr->List Pr->Int
 | [],_=>0
 | p::r,s=>FN p s+EI r s
theorem qM {N:Nat}{p:Pr}(hp:0<=p.1/\p.1<=p.2/\p.2<=N):∀ s:List Pr,E3 N s->FN p s=sm N fun k=>mI k p.1 p.2*mc k s
 | [],_=>by
  exact((bq N fun k _=>show mI k p.1 p.2*0=0 from Int.mul_zero _).trans (dA N)).symm
 | q::s,h=>by
  show ov p q+FN p s=_
  rw[qM hp s fun r hr=>h r (List.mem_cons_of_mem _ hr),Bt hp (h q (.head _)),<- e9]
  exact bq N fun k _=>(Int.mul_add _ _ _).symm
theorem jO {N:Nat}{s:List Pr}(hs:E3 N s):∀ r:List Pr,E3 N r->EI r s=sm N fun k=>mc k r*mc k s
 | [],_=>by
  exact((bq N fun k _=>show 0*mc k s=0 from Int.zero_mul _).trans (dA N)).symm
 | p::r,h=>by
  show FN p s+EI r s=_
  rw[jO hs r fun q hq=>h q (List.mem_cons_of_mem _ hq),qM (h p (.head _)) s hs,<- e9]
  exact bq N fun k _=>(Int.add_mul _ _ _).symm
noncomputable def wS (x:Int)(g:Option Str->Int):List Rw->Int
 | []=>0
 | p::r=>mc x p.2*g (some p.1)+wS x g r
theorem fg (x:Int):∀ rows:List Rw,0<=DV x rows
 | []=>Int.le_refl _
 | p::r=>by
  have h1:=dW x p.2
  have h2:=fg x r
  show 0<=mc x p.2+DV x r
  omega
theorem Bu (g:Option Str->Int)(x:Nat):∀ (rows:List Rw) (F:Nat->Option Str),(DV x rows=0->D7 rows F x=F x/\wS x g rows=0)/\(DV x rows=1->wS x g rows=g (D7 rows F x))
 | [],F=>⟨fun _=>⟨rfl,rfl⟩,fun h=>absurd (show (0:Int)=1 from h) (by decide)⟩
 | p::rows,F=>by
  have h1:=dW x p.2
  have h2:=fg x rows
  obtain⟨i1,i2⟩:=Bu g x rows fun y=>if 0 < mc y p.2 then some p.1 else F y
  have er:DV x (p::rows)=mc x p.2+DV x rows:=rfl
  have ew:wS x g (p::rows)=mc x p.2*g (some p.1)+wS x g rows:=rfl
  have ef:D7 (p::rows) F x=D7 rows (fun y=>if 0 < mc y p.2 then some p.1 else F y) x:=rfl
  rw[er,ew,ef]
  refine⟨fun h=>?_,fun h=>?_⟩
  ·have z1:mc x p.2=0:=by omega
   obtain⟨j1,j2⟩:=i1 (by omega)
   refine⟨j1.trans (if_neg (by omega)),by rw[j2,z1];omega⟩
  ·by_cases hz:mc x p.2=0
   ·rw[i2 (by omega),hz]
    omega
   ·have z1:mc x p.2=1:=by omega
    obtain⟨j1,j2⟩:=i1 (by omega)
    rw[j1.trans (if_pos (by omega)),j2,z1]
    omega
theorem Bv (g:Option Str->Int)(x:Nat)(rows:List Rw)(free:List Pr)(h:DV x rows+mc x free=1):mc x free*g none+wS x g rows=g (D7 rows (fun _=>none) x):=by
 have h1:=dW x free
 have h2:=fg x rows
 obtain⟨i1,i2⟩:=Bu g x rows fun _=>none
 by_cases hz:mc x free=0
 ·rw[hz,i2 (by omega)]
  omega
 ·have z1:mc x free=1:=by omega
  obtain⟨j1,j2⟩:=i1 (by omega)
  rw[z1,j2,j1]
  omega
noncomputable def II (x:Int)(p:Rw):List Rw->Int
 | []=>0
 | q::r=>(if p.1=q.1 then mc x p.2*mc x q.2 else 0)+II x p r
noncomputable def KA (x:Int):List Rw->List Rw->Int
 | [],_=>0
 | p::r,s=>II x p s+KA x r s
noncomputable def in1 (o:Option Str)(o':Option Str):Int:=if o=o' then 1 else 0
theorem vO (x:Int)(p:Rw):∀ s:List Rw,II x p s=mc x p.2*wS x (in1 (some p.1)) s
 | []=>(Int.mul_zero _).symm
 | q::s=>by
  show (if p.1=q.1 then mc x p.2*mc x q.2 else 0)+II x p s=mc x p.2*(mc x q.2*in1 (some p.1) (some q.1)+wS x (in1 (some p.1)) s)
  rw[vO x p s,Int.mul_add]
  congr 1
  unfold in1
  by_cases h:p.1=q.1
  ·rw[if_pos h,if_pos (by rw[h]),Int.mul_one]
  ·rw[if_neg h,if_neg (fun z=>h (Option.some.inj z)),Int.mul_zero,Int.mul_zero]
theorem wn (x:Int):∀ s:List Rw,wS x (in1 none) s=0
 | []=>rfl
 | q::s=>by
  show mc x q.2*in1 none (some q.1)+wS x (in1 none) s=0
  rw[wn x s,show in1 none (some q.1)=0 from rfl,Int.mul_zero]
  rfl
theorem vP (x:Int)(s:List Rw)(fr:List Pr):∀ r:List Rw,KA x r s=wS x (fun o=>mc x fr*in1 o none+wS x (in1 o) s) r
 | []=>rfl
 | p::r=>by
  show II x p s+KA x r s=mc x p.2*(mc x fr*in1 (some p.1) none+wS x (in1 (some p.1)) s)+wS x _ r
  rw[vP x s fr r,vO,show in1 (some p.1) none=0 from rfl,Int.mul_zero,Int.zero_add]
theorem tK (x:Nat){r1 r2:List Rw}{f1 f2:List Pr}(h1:DV x r1+mc x f1=1)(h2:DV x r2+mc x f2=1):mc x f1*mc x f2+KA x r1 r2=in1 (D7 r1 (fun _=>none) x) (D7 r2 (fun _=>none) x):=by
 rw[<- Bv (in1 (D7 r1 (fun _=>none) x)) x r2 f2 h2,<- Bv (fun o=>mc x f2*in1 o none+wS x (in1 o) r2) x r1 f1 h1,vP x r2 f2 r1]
 congr 1
 rw[wn,show in1 none none=1 from rfl,Int.mul_one,Int.add_zero]
noncomputable def FO (p:Rw):List Rw->Int
 | []=>0
 | q::r=>(if p.1=q.1 then EI p.2 q.2 else 0)+FO p r
noncomputable def F7:List Rw->List Rw->Int
 | [],_=>0
 | p::r,s=>FO p s+F7 r s
theorem qN {N:Nat}{p:Rw}(hp:E3 N p.2):∀ s:List Rw,(∀ q∈s,E3 N q.2)->FO p s=sm N fun k=>II k p s
 | [],_=>(dA N).symm
 | q::s,h=>by
  show (if p.1=q.1 then EI p.2 q.2 else 0)+FO p s=sm N fun k=>(if p.1=q.1 then mc k p.2*mc k q.2 else 0)+II k p s
  rw[e9,qN hp s fun r hr=>h r (List.mem_cons_of_mem _ hr)]
  congr 1
  by_cases e:p.1=q.1
  ·rw[if_pos e,jO (h q (.head _)) p.2 hp]
   exact bq N fun k _=>(if_pos e).symm
  ·rw[if_neg e]
   exact((bq N fun k _=>if_neg e).trans (dA N)).symm
theorem qO {N:Nat}{s:List Rw}(hs:∀ q∈s,E3 N q.2):∀ r:List Rw,(∀ q∈r,E3 N q.2)->F7 r s=sm N fun k=>KA k r s
 | [],_=>(dA N).symm
 | p::r,h=>by
  show FO p s+F7 r s=sm N fun k=>II k p s+KA k r s
  rw[e9,qO hs r fun q hq=>h q (List.mem_cons_of_mem _ hq),qN (h p (.head _)) s hs]
theorem qP {N:Nat}{r1 r2:List Rw}{f1 f2:List Pr}(h1:∀ p∈r1,E3 N p.2)(h2:∀ p∈r2,E3 N p.2)(h3:E3 N f1)(h4:E3 N f2)(c1:∀ k:Nat,k < N->DV k r1+mc k f1=1)(c2:∀ k:Nat,k < N->DV k r2+mc k f2=1) :
  EI f1 f2+F7 r1 r2=sm N fun k=>in1 (D7 r1 (fun _=>none) k) (D7 r2 (fun _=>none) k):=by
 rw[jO h4 f1 h3,qO h2 r1 h1,<- e9]
 exact bq N fun k hk=>tK k (c1 k hk) (c2 k hk)
theorem qQ {p:Pr}:∀ {r:List Pr} (x:Int),p∈r->mI x p.1 p.2<=mc x r
 | q::r,x,h=>by
  have h1:=qK x q.1 q.2
  have h2:=dW x r
  show _<=mI x q.1 q.2+mc x r
  rcases List.mem_cons.mp h with rfl|h
  ·omega
  ·have:=qQ x h
   omega
theorem qR {p:Rw}:∀ {r:List Rw} (x:Int),p∈r->mc x p.2<=DV x r
 | q::r,x,h=>by
  have h1:=dW x q.2
  have h2:=fg x r
  show _<=mc x q.2+DV x r
  rcases List.mem_cons.mp h with rfl|h
  ·omega
  ·have:=qR x h
   omega
theorem in_of {r:List Pr}(hp:Pos r)(h:∀ x,mc x r<=mI x 0 10007):E3 10007 r:=fun p hr=>by
 have h0:=hp p hr
 have a1:=qQ p.1 hr
 have a2:=qQ (p.2 - 1) hr
 have b1:=h p.1
 have b2:=h (p.2 - 1)
 have c1:mI p.1 p.1 p.2=1:=if_pos ⟨Int.le_refl _,h0⟩
 have c2:mI (p.2 - 1) p.1 p.2=1:=if_pos ⟨by omega,by omega⟩
 have d1:0<=p.1/\p.1 < 10007:=by
  by_cases z:0<=p.1/\p.1 < 10007
  ·exact z
  ·have:mI p.1 0 10007=0:=if_neg z
   omega
 have d2:0<=p.2 - 1/\p.2 - 1 < 10007:=by
  by_cases z:0<=p.2 - 1/\p.2 - 1 < 10007
  ·exact z
  ·have:mI (p.2 - 1) 0 10007=0:=if_neg z
   omega
 refine⟨d1.1,by omega,?_⟩
 show p.2<=((10007:Nat):Int)
 omega
section
variable {fs:List Str}{c:Str->Int}{rows:List Rw}{free:List Pr}{L:Nat}
theorem Al.inr (a:Al fs c rows free L):∀ p∈rows,E3 10007 p.2:=fun p hp=>in_of (a.pos p hp) fun x=>by
 have h1:=qR x hp
 have h2:=dW x free
 have h3:=a.LR x
 omega
theorem Al.inf (a:Al fs c rows free L):E3 10007 free:=in_of a.HW fun x=>by
 have h2:=fg x rows
 have h3:=a.LR x
 omega
theorem Al.one (a:Al fs c rows free L)(k:Nat)(hk:k < 10007):DV k rows+mc k free=1:=(a.LR k).trans (if_pos ⟨by omega,by omega⟩)
end
theorem qS {α:Type}{g:D->Res (Option D)}(Hl:α->D)(p:α->Bool)(out:α->D):∀ xs:List α,(∀ x∈xs,g (Hl x)=.ok (if p x=true then some (out x) else none))->aW g (xs.map Hl)=.ok ((xs.filter p).map out)
 | [],_=>rfl
 | x::xs,h=>by
  have ih:=qS Hl p out xs fun y hy=>h y (List.mem_cons_of_mem _ hy)
  rw[List.map_cons,List.filter_cons]
  show Ci (g (Hl x)) _=_
  rw[h x (.head _)]
  cases p x with
  | true=>
   show Ci (aW _ _) _=_
   rw[ih]
   rfl
  | false=>exact ih
noncomputable def ob (a b:Option Str):Bool:=decide (a=b)
theorem Bw (n:Nat)(a b:Option Str):CY (n+1) (oD a) (oD b)=.ok (ob a b):=by
 unfold ob
 cases a with
 | none=>cases b<;>rfl
 | some a=>
  cases b with
  | none=>rfl
  | some b=>
   show (.ok (a == b):Res Bool)=_
   congr 1
   by_cases h:a=b
   ·subst h
    simp
   ·rw[decide_eq_false (fun z=>h (Option.some.inj z))]
    simpa using h
theorem vQ {o:Bool}{N:Nat}{F:Nat->Option Str}{k:Nat}(h:k < N):bg (.lst o (fl N F)) (.int (0+(k:Nat)))=.ok (oD (F k)):=by
 rw[Ev.LJ]
 unfold DW
 rw[e6,vM (by omega) (by omega),show (0+((k:Nat):Int)).toNat=k by omega]
 show (match (fl N F)[k]? with|some d=>_|none=>_)=_
 rw[lI h]
theorem lJ (F G:Nat->Option Str):∀ N:Nat,(((List.range N).filter fun k=>!(ob (F k) (G k))).length:Int)=N - sm N fun k=>in1 (F k) (G k)
 | 0=>rfl
 | N+1=>by
  rw[List.range_succ,List.filter_append,List.length_append]
  have ih:=lJ F G N
  show (((List.filter (fun k=>!(ob (F k) (G k))) (List.range N)).length+_:Nat):Int)=((N+1:Nat):Int) - (sm N (fun k=>in1 (F k) (G k))+in1 (F N) (G N))
  rw[List.filter_cons,List.filter_nil]
  unfold ob at *
  by_cases h:F N=G N
  ·have:in1 (F N) (G N)=1:=if_pos h
   rw[this,decide_eq_true h]
   simp
   omega
  ·have:in1 (F N) (G N)=0:=if_neg h
   rw[this,decide_eq_false h]
   simp
   omega
theorem Cc (cl:Nat->List D->Res D)(o o':Bool){N:Nat}{F G:Nat->Option Str}{k:Nat}(h:k < N) :
  aQ cl (.nm 2) [(.cmp .ne (.idx (.v 0) (.v 2)) (.idx (.v 1) (.v 2)))] (.v 2) [some (.lst o (fl N F)),some (.lst o' (fl N G)),none] (.int (0+(k:Nat)))=.ok (if (!(ob (F k) (G k)))=true then some (.int (0+(k:Nat))) else none):=by
 have e1:=vQ (o:=o) (F:=F) h
 have e2:=vQ (o:=o') (F:=G) h
 have e3:=Bw 39 (F k) (G k)
 generalize fl N F=DF at *
 generalize fl N G=DG at *
 generalize oD (F k)=a at *
 generalize oD (G k)=b at *
 cases e:ob (F k) (G k) with
 | true=>
  rw[e] at e3
  rw[if_neg (by decide)]
  simp -implicitDefEqProofs (disch:=omega) only[CL,Nat.reduceBEq,Nat.reduceSub,Nat.reduceAdd,reduceIte,e1,e2,e3]
 | false=>
  rw[e] at e3
  rw[if_pos (by decide)]
  simp -implicitDefEqProofs (disch:=omega) only[CL,Nat.reduceBEq,Nat.reduceSub,Nat.reduceAdd,reduceIte,e1,e2,e3]
noncomputable def cM:IR:=.comp {N:=["faces","other_faces","place"],kd:=[.cell,.cell,.local],gl:=[],df:=false} [2,3] (.nm 2) (.C4 (.g 20 (.int 10007))) [(.cmp .ne (.idx (.v 0) (.v 2)) (.idx (.v 1) (.v 2)))] (.v 2)
theorem Bx (N:Nat):bb 0 (N:Nat)=(List.range N).map fun k=>.int (0+(k:Nat)):=by
 unfold bb
 rw[show (((N:Nat):Int) - 0).toNat=N by omega]
noncomputable def Hr (F G:Nat->Option Str):Int:=10007 - sm 10007 fun k=>in1 (F k) (G k)
theorem fq (n:Nat){r1 r2:List Rw}(f1 f2:List Pr)(h1:∀ p∈r1,E3 10007 p.2)(h2:∀ p∈r2,E3 10007 p.2) :
  af T (n+2) 36 [alt false false false r1 f1,alt false false false r2 f2]=.ok (.int (Hr (D7 r1 fun _=>none) (D7 r2 fun _=>none))):=by
 have e1:=jf n r1 f1 h1
 have e2:=jf n r2 f2 h2
 have a1:=bj false false false r1 f1
 have a2:=bj false false false r2 f2
 generalize (D7 r1 fun _=>none)=F at *
 generalize (D7 r2 fun _=>none)=G at *
 have fm:aW (aQ (af T (n+1)) (.nm 2) [(.cmp .ne (.idx (.v 0) (.v 2)) (.idx (.v 1) (.v 2)))] (.v 2) [some (.lst true (fl 10007 F)),some (.lst true (fl 10007 G)),none]) (bb 0 10007)=.ok (((List.range 10007).filter fun k=>!(ob (F k) (G k))).map fun k=>.int (0+(k:Nat))):=by
  rw[show bb 0 10007=(List.range 10007).map fun k=>.int (0+(k:Nat)) from Bx 10007]
  exact qS _ _ _ _ fun k hk=>Cc _ _ _ (List.mem_range.mp hk)
 have lr:(bb 0 10007).length=10007:=bA 0 10007
 have lg:((((List.range 10007).filter fun k=>!(ob (F k) (G k))).map fun k=>D.int (0+(k:Nat))).length:Int)=Hr F G:=by
  rw[List.length_map]
  exact lJ F G 10007
 have body:Qe=[(.asg (.nm 2) (.call 35 [(.v 0)])),(.asg (.nm 3) (.call 35 [(.v 1)])),(.ret (.bi .len [cM]))]:=rfl
 rw[Ev.go (show T 36=some JV from rfl) (show JV.io=none from rfl) (show JV.np=2 from rfl) (show JV.G.N.length=4 from rfl) (show JV.body=_ from body) rfl]
 have l1:=qL 10007 F
 have l2:=qL 10007 G
 have Jk:aw (.lst true (fl 10007 F))=false:=rfl
 have GO:aw (.lst true (fl 10007 G))=false:=rfl
 generalize (((List.range 10007).filter fun k=>!(ob (F k) (G k))).map fun k=>D.int (0+(k:Nat)))=Q at *
 generalize fl 10007 F=DF at *
 generalize fl 10007 G=DG at *
 generalize alt false false false r1 f1=A at *
 generalize alt false false false r2 f2=B at *
 unfold cM
 simp -implicitDefEqProofs (disch:=omega) only[CL,Nat.reduceBEq,Nat.reduceSub,Nat.reduceAdd,reduceIte,e1,e2,a1,a2,fm,lr,lg]
noncomputable def LS:List IS:=[(.asg (.nm 2) (.bin .add (.v 2) (.bi .max2 [(.c (.int 0)),(.bin .sub (.bi .min2 [(.v 4),(.v 6)]) (.bi .max2 [(.v 3),(.v 5)]))])))]
noncomputable def LU:List IS:=[(.CM (.tp [(.nm 5),(.nm 6)]) (.val (.v 1)) LS)]
theorem k2 (cl:Nat->List D->Res D)(q0 q1:Option D)(p:Pr):∀ (s:List Pr) (m:Int) (x5 x6:Option D),∃ y5 y6,forM (Ev.turn cl (.tp [(.nm 5),(.nm 6)]) LS) (s.map Cs) [q0,q1,some (.int m),some (.int p.1),some (.int p.2),x5,x6]=.ok (.nx [q0,q1,some (.int (m+FN p s)),some (.int p.1),some (.int p.2),y5,y6])
 | [],m,x5,x6=>⟨x5,x6,by rw[show m+FN p []=m from Int.add_zero m];rfl⟩
 | q::s,m,x5,x6=>by
  obtain⟨y5,y6,i⟩:=k2 cl q0 q1 p s (m+ov p q) (some (.int q.1)) (some (.int q.2))
  refine⟨y5,y6,?_⟩
  have ht:Ev.turn cl (.tp [(.nm 5),(.nm 6)]) LS (Cs q) [q0,q1,some (.int m),some (.int p.1),some (.int p.2),x5,x6]=.ok (.nx [q0,q1,some (.int (m+ov p q)),some (.int p.1),some (.int p.2),some (.int q.1),some (.int q.2)]):=by
   obtain⟨a,b⟩:=p
   obtain⟨c,d⟩:=q
   unfold Cs LS ov
   simp -implicitDefEqProofs (disch:=omega) only[CL,Nat.reduceBEq,Nat.reduceSub,Nat.reduceAdd,reduceIte,Ev.ay,IH,F6]
  rw[List.map_cons,Ev.bN,ht]
  rw[show m+FN p (q::s)=m+ov p q+FN p s from by show m+(ov p q+FN p s)=_;omega]
  exact i
theorem k1 (cl:Nat->List D->Res D)(q0:Option D)(s:List Pr):∀ (r:List Pr) (m:Int) (x3 x4 x5 x6:Option D),∃ y3 y4 y5 y6,forM (Ev.turn cl (.tp [(.nm 3),(.nm 4)]) LU) (r.map Cs) [q0,some (.lst false (s.map Cs)),some (.int m),x3,x4,x5,x6]=.ok (.nx [q0,some (.lst false (s.map Cs)),some (.int (m+EI r s)),y3,y4,y5,y6])
 | [],m,x3,x4,x5,x6=>⟨x3,x4,x5,x6,by rw[show m+EI [] s=m from Int.add_zero m];rfl⟩
 | p::r,m,x3,x4,x5,x6=>by
  obtain⟨z5,z6,e⟩:=k2 cl q0 (some (.lst false (s.map Cs))) p s m x5 x6
  obtain⟨y3,y4,y5,y6,i⟩:=k1 cl q0 s r (m+FN p s) (some (.int p.1)) (some (.int p.2)) z5 z6
  refine⟨y3,y4,y5,y6,?_⟩
  have pe:=ba s
  have ht:Ev.turn cl (.tp [(.nm 3),(.nm 4)]) LU (Cs p) [q0,some (.lst false (s.map Cs)),some (.int m),x3,x4,x5,x6]=.ok (.nx [q0,some (.lst false (s.map Cs)),some (.int (m+FN p s)),some (.int p.1),some (.int p.2),z5,z6]):=by
   generalize FN p s=w at *
   generalize s.map Cs=SS at *
   unfold Cs LU
   generalize LS=tb at *
   simp -implicitDefEqProofs (disch:=omega) only[CL,Nat.reduceBEq,Nat.reduceSub,Nat.reduceAdd,reduceIte,Ev.ay,pe,e]
  rw[List.map_cons,Ev.bN,ht]
  rw[show m+EI (p::r) s=m+FN p s+EI r s from by show m+(FN p s+EI r s)=_;omega]
  exact i
theorem gh (n:Nat)(r s:List Pr):af T (n+1) 42 [.lst false (r.map Cs),.lst false (s.map Cs)]=.ok (.int (EI r s)):=by
 obtain⟨y3,y4,y5,y6,e⟩:=k1 (af T n) (some (.lst false (r.map Cs))) s r 0 none none none none
 rw[Int.zero_add] at e
 have body:Qh=[(.asg (.nm 2) (.c (.int 0))),(.CM (.tp [(.nm 3),(.nm 4)]) (.val (.v 0)) LU),(.ret (.v 2))]:=rfl
 rw[Ev.go (show T 42=some JZ from rfl) (show JZ.io=none from rfl) (show JZ.np=2 from rfl) (show JZ.G.N.length=7 from rfl) (show JZ.body=_ from body) rfl]
 have p1:=ba r
 have p2:=ba s
 generalize r.map Cs=RR at *
 generalize s.map Cs=SS at *
 generalize LU=tb at *
 simp -implicitDefEqProofs (disch:=omega) only[CL,Nat.reduceBEq,Nat.reduceSub,Nat.reduceAdd,reduceIte,p1,p2,e]
noncomputable def LV:List IS:=[(.Dl (.cmp .eq (.v 3) (.v 5)) [(.asg (.nm 2) (.bin .add (.v 2) (.call 42 [(.v 4),(.v 6)])))] [])]
noncomputable def LW:List IS:=[(.CM (.tp [(.nm 5),(.nm 6)]) (.val (.idx (.v 1) (.c (.int 0)))) LV)]
theorem m2 (n:Nat)(q0 q1:Option D)(f:Str)(run:List Pr):∀ (s:List Rw) (m:Int) (x5 x6:Option D),∃ y5 y6,forM (Ev.turn (af T (n+1)) (.tp [(.nm 5),(.nm 6)]) LV) (s.map (au false)) [q0,q1,some (.int m),some (.str f),some (.lst false (run.map Cs)),x5,x6]=.ok (.nx [q0,q1,some (.int (m+FO (f,run) s)),some (.str f),some (.lst false (run.map Cs)),y5,y6])
 | [],m,x5,x6=>⟨x5,x6,by rw[show m+FO (f,run) []=m from Int.add_zero m];rfl⟩
 | q::s,m,x5,x6=>by
  obtain⟨g,r2⟩:=q
  obtain⟨y5,y6,i⟩:=m2 n q0 q1 f run s (m+if f=g then EI run r2 else 0) (some (.str g)) (some (.lst false (r2.map Cs)))
  refine⟨y5,y6,?_⟩
  have p1:=ba run
  have p2:=ba r2
  have ec:=gh n run r2
  have ht:Ev.turn (af T (n+1)) (.tp [(.nm 5),(.nm 6)]) LV (.tup [.str g,.lst false (r2.map Cs)]) [q0,q1,some (.int m),some (.str f),some (.lst false (run.map Cs)),x5,x6]=.ok (.nx [q0,q1,some (.int (m+if f=g then EI run r2 else 0)),some (.str f),some (.lst false (run.map Cs)),some (.str g),some (.lst false (r2.map Cs))]):=by
   generalize run.map Cs=RR at *
   generalize r2.map Cs=R2 at *
   generalize EI run r2=w at *
   unfold LV
   by_cases e:f=g
   ·have eb:(f == g)=true:=by simpa using e
    rw[if_pos e]
    simp -implicitDefEqProofs (disch:=omega) only[CL,Nat.reduceBEq,Nat.reduceSub,Nat.reduceAdd,reduceIte,Ev.ay,eb,p1,p2,ec]
   ·have eb:(f == g)=false:=by simpa using e
    rw[if_neg e,Int.add_zero]
    simp -implicitDefEqProofs (disch:=omega) only[CL,Nat.reduceBEq,Nat.reduceSub,Nat.reduceAdd,reduceIte,Ev.ay,eb,p1,p2,ec]
  rw[List.map_cons,Ev.bN,show au false (g,r2)=.tup [.str g,.lst false (r2.map Cs)] from rfl,ht]
  rw[show m+FO (f,run) ((g,r2)::s)=(m+if f=g then EI run r2 else 0)+FO (f,run) s from by show m+((if f=g then EI run r2 else 0)+FO (f,run) s)=_;omega]
  exact i
theorem m1 (n:Nat)(q0:Option D)(s:List Rw)(fr:List Pr):∀ (r:List Rw) (m:Int) (x3 x4 x5 x6:Option D),∃ y3 y4 y5 y6,forM (Ev.turn (af T (n+1)) (.tp [(.nm 3),(.nm 4)]) LW) (r.map (au false)) [q0,some (alt false false false s fr),some (.int m),x3,x4,x5,x6]=.ok (.nx [q0,some (alt false false false s fr),some (.int (m+F7 r s)),y3,y4,y5,y6])
 | [],m,x3,x4,x5,x6=>⟨x3,x4,x5,x6,by rw[show m+F7 [] s=m from Int.add_zero m];rfl⟩
 | p::r,m,x3,x4,x5,x6=>by
  obtain⟨f,run⟩:=p
  obtain⟨z5,z6,e⟩:=m2 n q0 (some (alt false false false s fr)) f run s m x5 x6
  obtain⟨y3,y4,y5,y6,i⟩:=m1 n q0 s fr r (m+FO (f,run) s) (some (.str f)) (some (.lst false (run.map Cs))) z5 z6
  refine⟨y3,y4,y5,y6,?_⟩
  have x0:bg (alt false false false s fr) (.int 0)=.ok (.lst false (s.map (au false))):=rfl
  have ae:=bj false false false s fr
  have re:=bJ false s
  have ht:Ev.turn (af T (n+1)) (.tp [(.nm 3),(.nm 4)]) LW (.tup [.str f,.lst false (run.map Cs)]) [q0,some (alt false false false s fr),some (.int m),x3,x4,x5,x6]=.ok (.nx [q0,some (alt false false false s fr),some (.int (m+FO (f,run) s)),some (.str f),some (.lst false (run.map Cs)),z5,z6]):=by
   generalize FO (f,run) s=w at *
   generalize alt false false false s fr=A at *
   generalize s.map (au false)=SS at *
   generalize run.map Cs=RR at *
   unfold LW
   generalize LV=tb at *
   simp -implicitDefEqProofs (disch:=omega) only[CL,Nat.reduceBEq,Nat.reduceSub,Nat.reduceAdd,reduceIte,Ev.ay,x0,ae,re,e]
  rw[List.map_cons,Ev.bN,show au false (f,run)=.tup [.str f,.lst false (run.map Cs)] from rfl,ht]
  rw[show m+F7 ((f,run)::r) s=m+FO (f,run) s+F7 r s from by show m+(FO (f,run) s+F7 r s)=_;omega]
  exact i
theorem ia (n:Nat)(r1 r2:List Rw)(f1 f2:List Pr):af T (n+2) 43 [alt false false false r1 f1,alt false false false r2 f2]=.ok (.int (10007 - (EI f1 f2+F7 r1 r2))):=by
 obtain⟨y3,y4,y5,y6,e⟩:=m1 n (some (alt false false false r1 f1)) r2 f2 r1 (EI f1 f2) none none none none
 have ec:=gh n f1 f2
 have x0:bg (alt false false false r1 f1) (.int 0)=.ok (.lst false (r1.map (au false))):=rfl
 have x1:bg (alt false false false r1 f1) (.int 1)=.ok (.lst false (f1.map Cs)):=rfl
 have x2:bg (alt false false false r2 f2) (.int 1)=.ok (.lst false (f2.map Cs)):=rfl
 have a1:=bj false false false r1 f1
 have re:=bJ false r1
 have p1:=ba f1
 have p2:=ba f2
 have body:Qi=[(.asg (.nm 2) (.call 42 [(.idx (.v 0) (.c (.int 1))),(.idx (.v 1) (.c (.int 1)))])),(.CM (.tp [(.nm 3),(.nm 4)]) (.val (.idx (.v 0) (.c (.int 0)))) LW),(.ret (.bin .sub (.c (.int 10007)) (.v 2)))]:=rfl
 rw[Ev.go (show T 43=some J0 from rfl) (show J0.io=none from rfl) (show J0.np=2 from rfl) (show J0.G.N.length=7 from rfl) (show J0.body=_ from body) rfl]
 generalize EI f1 f2+F7 r1 r2=w at *
 generalize alt false false false r1 f1=A at *
 generalize alt false false false r2 f2=B at *
 generalize r1.map (au false)=RR at *
 generalize f1.map Cs=F1 at *
 generalize f2.map Cs=F2 at *
 generalize LW=tb at *
 simp -implicitDefEqProofs (disch:=omega) only[CL,Nat.reduceBEq,Nat.reduceSub,Nat.reduceAdd,reduceIte,ec,x0,x1,x2,a1,re,p1,p2,e]
theorem qT (n:Nat)(i:Int):af T (n+1) 33 [.int i]=.ok (.bl true):=by
 rw[Ev.go (show T 33=some JW from rfl) (show JW.io=none from rfl) (show JW.np=1 from rfl) (show JW.G.N.length=1 from rfl) (show JW.body=N3 from rfl) rfl];unfold N3
 simp -implicitDefEqProofs (disch:=omega) only[CL,Nat.reduceBEq,Nat.reduceSub,Nat.reduceAdd,reduceIte]
theorem By (n:Nat)(p:Pr):CY (n+2) (Cs p) (Cs p)=.ok true:=by
 show Ci (.ok (p.1 == p.1)) (fun x=>Ci (Ci (.ok (p.2 == p.2)) fun x=>Ci (.ok true) fun y=>.ok (x&&y)) fun y=>(.ok (x&&y):Res Bool))=_
 rw[beq_self_eq_true,beq_self_eq_true]
 rfl
theorem qU (n:Nat)(o o':Bool)(r:List Pr):CY (n+3) (.lst o (r.map Cs)) (.lst o' (r.map Cs))=.ok true:=lH (n+2) Cs Cs (By n) r
theorem yi (n:Nat)(o o':Bool)(p:Rw):CY (n+4) (au o p) (au o' p)=.ok true:=by
 show Ci (.ok (p.1 == p.1)) (fun x=>Ci (Ci (CY (n+3) (.lst o (p.2.map Cs)) (.lst o' (p.2.map Cs))) fun x=>Ci (.ok true) fun y=>.ok (x&&y)) fun y=>(.ok (x&&y):Res Bool))=_
 rw[beq_self_eq_true,qU]
 rfl
theorem qV (n:Nat)(a b c a' b' c':Bool)(rows:List Rw)(free:List Pr):CY (n+6) (alt a b c rows free) (alt a' b' c' rows free)=.ok true:=by
 show Ci (bD (CY (n+4)) (rows.map (au b)) (rows.map (au b'))) (fun x=>Ci (Ci (CY (n+5) (.lst c (free.map Cs)) (.lst c' (free.map Cs))) fun x=>Ci (.ok true) fun y=>.ok (x&&y)) fun y=>(.ok (x&&y):Res Bool))=_
 rw[lH (n+4) (au b) (au b') (yi n b b'),qU (n+2)]
 rfl
theorem jg {α β:Type}(f:α->β)(xs:List α)(lo hi:Option Int):cE (xs.map f) lo hi=(cE xs lo hi).map f:=by
 unfold cE
 rw[List.length_map,List.map_take,List.map_drop]
theorem jh {α:Type}(xs:List α)(lo hi:Option Int):(cE xs lo hi).Sublist xs:=(List.take_sublist _ _).trans (List.drop_sublist _ _)
theorem ji {α:Type}(xs:List α){a b:Int}(ha:0<=a)(hb:0<=b):(cE xs (some a) (some (a+b))).length<=b.toNat:=by
 unfold cE
 rw[List.length_take]
 have h1:HT.Ey xs.length 0 (some a)=min a.toNat xs.length:=by
  show (if a < 0 then _ else min a.toNat xs.length)=_
  rw[if_neg (by omega)]
 have h2:HT.Ey xs.length xs.length (some (a+b))=min (a+b).toNat xs.length:=by
  show (if a+b < 0 then _ else min (a+b).toNat xs.length)=_
  rw[if_neg (by omega)]
 rw[h1,h2]
 omega
theorem tL (cl:Nat->List D->Res D)(o:Bool)(rows:List Rw):aW (aQ cl (.tp [(.nm 0),(.nm 1)]) [] (.tup [(.v 0),(.bi .list [(.v 1)])]) [none,none]) (rows.map (au o))=.ok (rows.map (au true)):=by
 have:=Ev.bC (g:=aQ cl (.tp [(.nm 0),(.nm 1)]) [] (.tup [(.v 0),(.bi .list [(.v 1)])]) [none,none]) (au o) (fun p:Rw=>p) (au true) rows fun p _=>by
  unfold au
  simp -implicitDefEqProofs (disch:=omega) only[CL,Nat.reduceBEq,Nat.reduceSub,Nat.reduceAdd,reduceIte]
 rw[this,List.map_id']
noncomputable def eK:IR:=.tup [(.comp {N:=["_law_face","_law_run"],kd:=[.local,.local],gl:=[5],df:=false} [] (.tp [(.nm 0),(.nm 1)]) (.val (.idx (.v 0) (.c (.int 0)))) [] (.tup [(.v 0),(.bi .list [(.v 1)])])),(.bi .list [(.idx (.v 0) (.c (.int 1)))])]
theorem qW (cl:Nat->List D->Res D)(a b c:Bool){rows:List Rw}(free:List Pr)(hl:rows.length<=1000):aQ cl (.nm 0) [] eK [none] (alt a b c rows free)=.ok (some (alt true true true rows free)):=by
 have km:=tL cl b rows
 have lm:(rows.map (au b)).length=rows.length:=List.length_map _
 unfold eK alt
 have x0:∀ (P Q:D),bg (.tup [P,Q]) (.int 0)=.ok P:=fun _ _=>rfl
 have x1:∀ (P Q:D),bg (.tup [P,Q]) (.int 1)=.ok Q:=fun _ _=>rfl
 generalize rows.map (au b)=RR at *
 generalize rows.map (au true)=R1 at *
 generalize free.map Cs=FF at *
 simp -implicitDefEqProofs (disch:=omega) only[CL,Nat.reduceBEq,Nat.reduceSub,Nat.reduceAdd,reduceIte,km,lm,x0,x1]
theorem qX (F:Nat->Option Str):Hr F F=0:=by
 unfold Hr
 have:∀ n:Nat,sm n (fun k=>in1 (F k) (F k))=n:=by
  intro n
  induction n with
  | zero=>rfl
  | succ n ih=>
   show sm n _+in1 (F n) (F n)=_
   rw[ih,show in1 (F n) (F n)=1 from if_pos rfl]
   omega
 rw[this]
 rfl
theorem tM (F G:Nat->Option Str):Hr F G=Hr G F:=by
 unfold Hr
 rw[bq (f:=fun k=>in1 (F k) (G k)) (g:=fun k=>in1 (G k) (F k)) 10007 fun k _=>?_]
 unfold in1
 by_cases h:F k=G k
 ·rw[if_pos h,if_pos h.symm]
 ·rw[if_neg h,if_neg fun z=>h z.symm]
noncomputable def sA:List IS:=[(.asg (.nm 1) (.call 32 [(.call 30 [(.v 0),(.c (.int 0))]),(.c (.int 8))])),(.asg (.nm 2) (.call 30 [(.v 0),(.c (.int 1))])),(.asg (.nm 3) (.sl (.v 1) (some (.bin .mod (.v 2) (.c (.int 3)))) (some (.bin .add (.bin .mod (.v 2) (.c (.int 3))) (.bin .mod (.bin .fdiv (.v 2) (.c (.int 3))) (.c (.int 6))))))),(.asg (.nm 4) (.D5 (.sl (.v 1) (some (.bin .mod (.bin .fdiv (.v 2) (.c (.int 18))) (.c (.int 4)))) (some (.bin .add (.bin .mod (.bin .fdiv (.v 2) (.c (.int 18))) (.c (.int 4))) (.bin .mod (.bin .fdiv (.v 2) (.c (.int 72))) (.c (.int 5))))))))]
noncomputable def sB:List IS:=[(.asg (.nm 5) (.call 37 [(.call 30 [(.v 0),(.c (.int 2))]),(.v 3)])),(.asg (.nm 6) (.call 37 [(.call 30 [(.v 0),(.c (.int 3))]),(.v 4)]))]
noncomputable def sC:List IS:=[(.Dl (.Fj (.cmp .Im (.v 5) (.c .CD)) (.cmp .Im (.v 6) (.c .CD))) [(.ret (.c (.bl false)))] []),(.asg (.nm 7) (.comp {N:=["_law_told"],kd:=[.local],gl:=[5],df:=false} [] (.nm 0) (.val (.tup [(.v 5),(.v 6)])) [] eK))]
noncomputable def sD:List IS:=[(.asg (.nm 8) (.call 36 [(.v 5),(.v 6)])),(.Dl (.Fj (.EU (.call 33 [(.v 8)])) (.Fj (.cmp .ne (.v 8) (.call 43 [(.v 5),(.v 6)])) (.cmp .ne (.call 36 [(.v 6),(.v 5)]) (.v 8)))) [(.ret (.c (.bl false)))] []),(.ret (.DQ (.cmp .eq (.call 36 [(.v 5),(.v 5)]) (.c (.int 0))) (.cmp .eq (.lst [(.v 5),(.v 6)]) (.v 7))))]
theorem yj:Qj=sA++(sB++(sC++sD)):=rfl
theorem qY (cl:Nat->List D->Res D):∀ (a b:List IS) (τ:Ev),aD cl (a++b) τ=Ci (aD cl a τ) (Ev.i0 (aD cl b))
 | [],b,τ=>rfl
 | s::a,b,τ=>by
  show Ci (Dm cl s τ) (Ev.i0 (aD cl (a++b)))=Ci (Ci (Dm cl s τ) (Ev.i0 (aD cl a))) (Ev.i0 (aD cl b))
  cases Dm cl s τ with
  | error e=>rfl
  | ok r=>
   cases r with
   | nx Cr=>exact qY cl a b Cr
   | rt d=>rfl
   | bk Cr=>rfl
   | ct Cr=>rfl
theorem seg {cl:Nat->List D->Res D}{a b:List IS}{τ Cr:Ev}(h:aD cl a τ=.ok (.nx Cr)):aD cl (a++b) τ=aD cl b Cr:=by
 rw[qY,h]
 rfl
structure MG (fs:List Str):Prop where
 CP:fs.Nodup
 len:fs.length<=6
 rep:∀ f∈fs,(reprText f).length<=1000
theorem Cd (ns:List Int):∃ (fs gs:List Str) (q1 q2:Option D),MG fs/\MG gs/\aD (af T 12) sA [some (.lst false (ns.map .int)),none,none,none,none,none,none,none,none]=.ok (.nx [some (.lst false (ns.map .int)),q1,q2,some (.lst true (fs.map .str)),some (.lst false (gs.map .str)),none,none,none,none]):=by
 have c0:=cell (show T 30=some Ky from rfl) rfl rfl rfl rfl 11 ns 0 (by omega)
 have c1:=cell (show T 30=some Ky from rfl) rfl rfl rfl rfl 11 ns 1 (by omega)
 have ie:Cy (ns.map D.int)=ns.map D.int:=Ev.gV ns
 obtain⟨hs,en,hn⟩:=qi 10 (ns.getD (0:Int).toNat 0) 8 (by omega) (by omega)
 generalize ns.getD (0:Int).toNat 0=v0 at *
 generalize ns.getD (1:Int).toNat 0=v1 at *
 have s1:fx (.lst true (hs.map .str)) (some (v1 % 3)) (some (v1 % 3+v1 / 3 % 6))=.ok (.lst true ((cE hs (some (v1 % 3)) (some (v1 % 3+v1 / 3 % 6))).map .str)):=by
  rw[Ev.sO,jg]
 have s2:fx (.lst true (hs.map .str)) (some (v1 / 18 % 4)) (some (v1 / 18 % 4+v1 / 72 % 5))=.ok (.lst true ((cE hs (some (v1 / 18 % 4)) (some (v1 / 18 % 4+v1 / 72 % 5))).map .str)):=by
  rw[Ev.sO,jg]
 have b1:=jh hs (some (v1 % 3)) (some (v1 % 3+v1 / 3 % 6))
 have b2:=jh hs (some (v1 / 18 % 4)) (some (v1 / 18 % 4+v1 / 72 % 5))
 have l1:=ji hs (a:=v1 % 3) (b:=v1 / 3 % 6) (by omega) (by omega)
 have l2:=ji hs (a:=v1 / 18 % 4) (b:=v1 / 72 % 5) (by omega) (by omega)
 generalize cE hs (some (v1 % 3)) (some (v1 % 3+v1 / 3 % 6))=fs at *
 generalize cE hs (some (v1 / 18 % 4)) (some (v1 / 18 % 4+v1 / 72 % 5))=gs at *
 refine⟨fs,gs.reverse,some (.lst false (hs.map .str)),some (.int v1),⟨b1.nodup hn.CP,by omega,fun f hf=>hn.rep f (b1.subset hf)⟩,⟨(List.reverse_perm gs).nodup_iff.mpr (b2.nodup hn.CP),by rw[List.length_reverse];omega,fun f hf=>hn.rep f (b2.subset (List.mem_reverse.mp hf))⟩,?_⟩
 have TV:=g8 fs
 have TX:=g8 hs
 have TY:=c5 gs.reverse
 have TZ:=c5 hs
 have vl:vars (.D5 (.sl (.v 1) (some (.bin .mod (.bin .fdiv (.v 2) (.c (.int 18))) (.c (.int 4)))) (some (.bin .add (.bin .mod (.bin .fdiv (.v 2) (.c (.int 18))) (.c (.int 4))) (.bin .mod (.bin .fdiv (.v 2) (.c (.int 72))) (.c (.int 5)))))))=[1,2,2,2]:=rfl
 have rv:(gs.map D.str).reverse=gs.reverse.map D.str:=List.map_reverse.symm
 have rd:∀ o,r6 (.lst o (gs.map D.str))=.ok (.lst true ((gs.map D.str).reverse)):=fun o=>rfl
 rw[rv] at rd
 have nl:∀ a:IR,aU (.D5 a)=false:=fun _=>rfl
 generalize ns.map D.int=XX at *
 generalize hs.map D.str=HH at *
 generalize fs.map D.str=FF at *
 generalize gs.map D.str=GG at *
 generalize gs.reverse.map D.str=GR at *
 unfold sA
 simp -implicitDefEqProofs (disch:=omega) only[CL,Nat.reduceBEq,Nat.reduceSub,Nat.reduceAdd,reduceIte,c0,c1,en,ie,s1,s2,TV,TX,TY,TZ,rd,nl,vl]
theorem Ce (ns:List Int){fs gs:List Str}(h1:MG fs)(h2:MG gs)(q1 q2:Option D):∃ (c d:Str->Int) (r1 r2:List Rw) (f1 f2:List Pr) (a1 a2 a3 b1 b2 b3:Bool),Al fs c r1 f1 25/\Al gs d r2 f2 25/\
  aD (af T 12) sB [some (.lst false (ns.map .int)),q1,q2,some (.lst true (fs.map .str)),some (.lst false (gs.map .str)),none,none,none,none]=.ok (.nx [some (.lst false (ns.map .int)),q1,q2,some (.lst false (fs.map .str)),some (.lst false (gs.map .str)),some (alt a1 a2 a3 r1 f1),some (alt b1 b2 b3 r2 f2),none,none]):=by
 have c2:=cell (show T 30=some Ky from rfl) rfl rfl rfl rfl 11 ns 2 (by omega)
 have c3:=cell (show T 30=some Ky from rfl) rfl rfl rfl rfl 11 ns 3 (by omega)
 have ie:Cy (ns.map D.int)=ns.map D.int:=Ev.gV ns
 obtain⟨c,r1,f1,a1,a2,a3,e1,Ga⟩:=jd 6 (ns.getD (2:Int).toNat 0) h1.CP h1.len h1.rep
 obtain⟨d,r2,f2,b1,b2,b3,e2,FL⟩:=jd 6 (ns.getD (3:Int).toNat 0) h2.CP h2.len h2.rep
 refine⟨c,d,r1,r2,f1,f2,a1,a2,a3,b1,b2,b3,Ga,FL,?_⟩
 generalize ns.getD (2:Int).toNat 0=v2 at *
 generalize ns.getD (3:Int).toNat 0=v3 at *
 have s1:=c5 fs
 have s2:=c5 gs
 have l1:aw (alt a1 a2 a3 r1 f1)=false:=by
  unfold alt
  cases a1<;>rfl
 have l2:aw (alt b1 b2 b3 r2 f2)=false:=by
  unfold alt
  cases b1<;>rfl
 generalize alt a1 a2 a3 r1 f1=A at *
 generalize alt b1 b2 b3 r2 f2=B at *
 generalize ns.map D.int=XX at *
 generalize fs.map D.str=FF at *
 generalize gs.map D.str=GG at *
 unfold sB
 simp -implicitDefEqProofs (disch:=omega) only[CL,Nat.reduceBEq,Nat.reduceSub,Nat.reduceAdd,reduceIte,c2,c3,ie,e1,e2,s1,s2,l1,l2]
theorem Cf (q0 q1 q2 q3 q4:Option D){r1 r2:List Rw}(f1 f2:List Pr)(h1:r1.length<=1000)(h2:r2.length<=1000)(a1 a2 a3 b1 b2 b3:Bool) :
  aD (af T 12) sC [q0,q1,q2,q3,q4,some (alt a1 a2 a3 r1 f1),some (alt b1 b2 b3 r2 f2),none,none]=.ok (.nx [q0,q1,q2,q3,q4,some (alt false false false r1 f1),some (alt false false false r2 f2),some (.lst true [alt false false false r1 f1,alt false false false r2 f2]),none]):=by
 have k1:=qW (af T 12) a1 a2 a3 f1 h1
 have k2:=qW (af T 12) b1 b2 b3 f2 h2
 have km:aW (aQ (af T 12) (.nm 0) [] eK [none]) [alt a1 a2 a3 r1 f1,alt b1 b2 b3 r2 f2]=.ok [alt true true true r1 f1,alt true true true r2 f2]:=by
  show Ci (aQ (af T 12) (.nm 0) [] eK [none] (alt a1 a2 a3 r1 f1)) _=_
  rw[k1]
  show Ci (Ci (aQ (af T 12) (.nm 0) [] eK [none] (alt b1 b2 b3 r2 f2)) _) _=_
  rw[k2]
  rfl
 have i1:fQ (alt a1 a2 a3 r1 f1)=false:=rfl
 have i2:fQ (alt b1 b2 b3 r2 f2)=false:=rfl
 have e1:=bj a1 a2 a3 r1 f1
 have e2:=bj b1 b2 b3 r2 f2
 have e3:=bj true true true r1 f1
 have e4:=bj true true true r2 f2
 have lf:ak [alt true true true r1 f1,alt true true true r2 f2]=false:=rfl
 have ee:Cy [alt true true true r1 f1,alt true true true r2 f2]=[alt false false false r1 f1,alt false false false r2 f2]:=by rw[Cy,Cy,Cy,e3,e4]
 generalize alt a1 a2 a3 r1 f1=A at *
 generalize alt b1 b2 b3 r2 f2=B at *
 generalize alt true true true r1 f1=A' at *
 generalize alt true true true r2 f2=B' at *
 generalize alt false false false r1 f1=A0 at *
 generalize alt false false false r2 f2=B0 at *
 unfold sC
 generalize eK=ek at *
 have vk:vars (.comp {N:=["_law_told"],kd:=[.local],gl:=[5],df:=false} [] (.nm 0) (.val (.tup [(.v 5),(.v 6)])) [] ek)=[5,6]:=rfl
 simp -implicitDefEqProofs (disch:=omega) only[CL,Nat.reduceBEq,Nat.reduceSub,Nat.reduceAdd,reduceIte,i1,i2,km,e1,e2,lf,ee,vk]
theorem Cg (q0 q1 q2 q3 q4:Option D){fs gs:List Str}{c d:Str->Int}{r1 r2:List Rw}{f1 f2:List Pr}{L M:Nat}(Ga:Al fs c r1 f1 L)(FL:Al gs d r2 f2 M) :
  Ci (aD (af T 12) sD [q0,q1,q2,q3,q4,some (alt false false false r1 f1),some (alt false false false r2 f2),some (.lst true [alt false false false r1 f1,alt false false false r2 f2]),none]) Ev.mB=.ok (.bl true):=by
 have e1:=fq 10 f1 f2 Ga.inr FL.inr
 have e2:=fq 10 f2 f1 FL.inr Ga.inr
 have e3:=fq 10 f1 f1 Ga.inr Ga.inr
 have e4:=ia 10 r1 r2 f1 f2
 rw[qP Ga.inr FL.inr Ga.inf FL.inf (fun k hk=>Ga.one k hk) (fun k hk=>FL.one k hk)] at e4
 rw[show (10007 - sm 10007 fun k=>in1 (D7 r1 (fun _=>none) k) (D7 r2 (fun _=>none) k))=Hr (D7 r1 fun _=>none) (D7 r2 fun _=>none) from rfl] at e4
 rw[tM] at e2
 rw[qX] at e3
 have w:=qT 11 (Hr (D7 r1 fun _=>none) (D7 r2 fun _=>none))
 have a1:=bj false false false r1 f1
 have a2:=bj false false false r2 f2
 have q:bD (CY 39) [alt false false false r1 f1,alt false false false r2 f2] [alt false false false r1 f1,alt false false false r2 f2]=.ok true:=by
  show Ci (CY 39 (alt false false false r1 f1) (alt false false false r1 f1)) (fun x=>Ci (Ci (CY 39 (alt false false false r2 f2) (alt false false false r2 f2)) fun x=>Ci (.ok true) fun y=>.ok (x&&y)) fun y=>(.ok (x&&y):Res Bool))=_
  rw[qV 33,qV 33]
  rfl
 generalize Hr (D7 r1 fun _=>none) (D7 r2 fun _=>none)=m at *
 have bm:(m == m)=true:=beq_self_eq_true m
 generalize alt false false false r1 f1=A at *
 generalize alt false false false r2 f2=B at *
 unfold sD
 simp -implicitDefEqProofs (disch:=omega) only[CL,Nat.reduceBEq,Nat.reduceSub,Nat.reduceAdd,reduceIte,e1,e2,e3,e4,w,a1,a2,q,bm]
theorem holds (ns:List Int)(h:ns.length<=63):af T (12+1) sS [.lst false (ns.map .int)]=.ok (.bl true):=by
 rw[Ev.go (show T sS=some IF from rfl) (show IF.io=none from rfl) (show IF.np=1 from rfl) (show IF.G.N.length=9 from rfl) (show IF.body=_ from yj) rfl]
 obtain⟨fs,gs,q1,q2,h1,h2,ea⟩:=Cd ns
 obtain⟨c,d,r1,r2,f1,f2,a1,a2,a3,b1,b2,b3,Ga,FL,eb⟩:=Ce ns h1 h2 q1 q2
 have PF:=Ga.G4
 have Mc:=FL.G4
 have l1:=h1.len
 have l2:=h2.len
 have ec:=Cf (some (.lst false (ns.map .int))) q1 q2 (some (.lst false (fs.map .str))) (some (.lst false (gs.map .str))) f1 f2 (r1:=r1) (r2:=r2) (by omega) (by omega) a1 a2 a3 b1 b2 b3
 show Ci (aD (af T 12) (sA++(sB++(sC++sD))) [some (.lst false (ns.map .int)),none,none,none,none,none,none,none,none]) Ev.mB=_
 rw[seg ea,seg eb,seg ec]
 exact Cg _ _ _ _ _ Ga FL
end Law
namespace PySem.W.Fast
theorem tw7143225836441871505:True:=⟨⟩
theorem tw3732781126535024175:True:=⟨⟩
theorem tw5020740037231802490:True:=⟨⟩
theorem tw3537423642310467500:True:=⟨⟩
theorem tw16638060926911665955:True:=⟨⟩
theorem tw6298597164744572984:True:=⟨⟩
theorem tw3060317027043630210:True:=⟨⟩
theorem tw2049222355923722069:True:=⟨⟩
theorem tw4026435504266848178:True:=⟨⟩
theorem tw8010690059191938822:True:=⟨⟩
theorem tw16562794881901583413:True:=⟨⟩
theorem tw3596471945395039620:True:=⟨⟩
theorem tw14392977405551276455:True:=⟨⟩
theorem tw10407975778479372584:True:=⟨⟩
theorem tw4288295850351944170:True:=⟨⟩
theorem tw16289395587234154264:True:=⟨⟩
theorem tw7460994666396875479:True:=⟨⟩
theorem tw2082271363039549185:True:=⟨⟩
theorem tw7002488130591495927:True:=⟨⟩
theorem tw4754291715673352350:True:=⟨⟩
theorem tw18250440158928418949:True:=⟨⟩
theorem tw12048439111050146579:True:=⟨⟩
theorem tw10331291494405870889:True:=⟨⟩
theorem tw15560312115575808235:True:=⟨⟩
theorem tw16719518554520293903:True:=⟨⟩
theorem tw16464576620827001628:True:=⟨⟩
theorem tw5813496360366867246:True:=⟨⟩
theorem tw8544673560416102747:True:=⟨⟩
theorem tw10907482210883504101:True:=⟨⟩
theorem tw14301619342934989755:True:=⟨⟩
theorem tw6024570200508065906:True:=⟨⟩
theorem tw7707429352056163097:True:=⟨⟩
theorem tw6871666827296614384:True:=⟨⟩
theorem tw15586427578608076066:True:=⟨⟩
theorem tw13972292348616596317:True:=⟨⟩
theorem tw4309260951723262087:True:=⟨⟩
theorem tw14642741709034796401:True:=⟨⟩
theorem tw14303576471879162399:True:=⟨⟩
theorem tw5386196893411263428:True:=⟨⟩
theorem tw4993623953626304428:True:=⟨⟩
theorem tw14283907199937179017:True:=⟨⟩
theorem tw109264469822967860:True:=⟨⟩
theorem tw12300069404596267938:True:=⟨⟩
theorem tw928126264762870002:True:=⟨⟩
theorem tw6495158237481751741:True:=⟨⟩
theorem tw5758727999053326441:True:=⟨⟩
theorem tw13641945592711596175:True:=⟨⟩
theorem tw6135996233673372990:True:=⟨⟩
theorem tw15663834730816642381:True:=⟨⟩
theorem tw7021655951799035542:True:=⟨⟩
theorem tw5439372773250839997:True:=⟨⟩
theorem tw1901148939924369651:True:=⟨⟩
theorem tw6520284821281436751:True:=⟨⟩
theorem tw9610312062601040292:True:=⟨⟩
theorem tw16698748974679408597:True:=⟨⟩
theorem tw15447527634246693394:True:=⟨⟩
theorem tw14404661041891984185:True:=⟨⟩
theorem tw11631436446333178842:True:=⟨⟩
theorem tw10416316389530803628:True:=⟨⟩
theorem tw1589385203469680557:True:=⟨⟩
theorem tw9410989207777361348:True:=⟨⟩
theorem tw1189673025426241650:True:=⟨⟩
theorem tw16192966805204122131:True:=⟨⟩
theorem tw8126090459775424877:True:=⟨⟩
theorem tw16498251394617630117:True:=⟨⟩
theorem tw15424002591314123902:True:=⟨⟩
theorem tw4670232950367494870:True:=⟨⟩
theorem tw16573559699640228876:True:=⟨⟩
theorem tw3287008915872176457:True:=⟨⟩
theorem tw4479995992579008598:True:=⟨⟩
theorem tw1529383375292707249:True:=⟨⟩
theorem tw3070749089418627151:True:=⟨⟩
theorem tw7135971818381446154:True:=⟨⟩
theorem tw7158902751153912888:True:=⟨⟩
theorem tw14186127987695990768:True:=⟨⟩
theorem tw11587539580514441273:True:=⟨⟩
theorem tw6099141743596852465:True:=⟨⟩
theorem tw18014483100671327888:True:=⟨⟩
theorem tw2977634733057623379:True:=⟨⟩
theorem tw16345411501745096280:True:=⟨⟩
theorem tw4687392648817675099:True:=⟨⟩
theorem tw1195334329245419045:True:=⟨⟩
theorem tw10395607729028323198:True:=⟨⟩
theorem tw12168425276460182340:True:=⟨⟩
theorem tw5767340300742381387:True:=⟨⟩
theorem tw4409261173979410228:True:=⟨⟩
theorem tw3882018194474120785:True:=⟨⟩
theorem tw13207455714715694535:True:=⟨⟩
theorem tw490274293618667401:True:=⟨⟩
theorem tw3140756164200527332:True:=⟨⟩
theorem tw15914283403940465554:True:=⟨⟩
theorem tw2006323021505995855:True:=⟨⟩
theorem tw5393327499388873323:True:=⟨⟩
theorem tw13716017429272061650:True:=⟨⟩
theorem tw3653393807485736813:True:=⟨⟩
theorem tw17052757648912635450:True:=⟨⟩
theorem tw15479890367804041884:True:=⟨⟩
theorem tw15240997256689896087:True:=⟨⟩
theorem tw13014999553526462623:True:=⟨⟩
theorem tw16046532276830206439:True:=⟨⟩
theorem tw12827734589024508521:True:=⟨⟩
theorem tw2638481927804830544:True:=⟨⟩
theorem tw3862404573809451669:True:=⟨⟩
theorem tw10146123296584364054:True:=⟨⟩
theorem tw3456012052779679914:True:=⟨⟩
theorem tw10321720677494118221:True:=⟨⟩
theorem tw9291689117847285579:True:=⟨⟩
theorem tw9069924892445262020:True:=⟨⟩
theorem tw16334639847484650327:True:=⟨⟩
theorem tw6908121137857370306:True:=⟨⟩
theorem tw9485615255239690283:True:=⟨⟩
theorem tw2686029658379257122:True:=⟨⟩
theorem tw14572002202675076254:True:=⟨⟩
theorem tw14985146263587424836:True:=⟨⟩
theorem tw7629864393564050024:True:=⟨⟩
theorem tw1088650631028435530:True:=⟨⟩
theorem tw17876293165911206320:True:=⟨⟩
theorem tw14824530116640977304:True:=⟨⟩
theorem tw17290561413766978203:True:=⟨⟩
theorem tw6434868590149881924:True:=⟨⟩
theorem tw14650906938718418365:True:=⟨⟩
theorem tw2569035926385387424:True:=⟨⟩
theorem tw12029719721303597003:True:=⟨⟩
theorem tw6136005830144745587:True:=⟨⟩
theorem tw16530676706399771194:True:=⟨⟩
theorem tw687129367615125404:True:=⟨⟩
theorem tw1821220895220242778:True:=⟨⟩
theorem tw4122151694857064504:True:=⟨⟩
theorem tw16930957739342645317:True:=⟨⟩
theorem tw8159494749689739230:True:=⟨⟩
theorem tw10932710041186832430:True:=⟨⟩
theorem tw12128022902407241642:True:=⟨⟩
theorem tw12695985284025600507:True:=⟨⟩
theorem tw3025241329432916100:True:=⟨⟩
theorem tw16109251587122574292:True:=⟨⟩
theorem tw16091874320350722801:True:=⟨⟩
theorem tw1069971229318583327:True:=⟨⟩
theorem tw13169910870168849713:True:=⟨⟩
theorem tw1336559910697149576:True:=⟨⟩
theorem tw11830899722546490508:True:=⟨⟩
theorem tw6159213650724992147:True:=⟨⟩
theorem tw3666003235949362184:True:=⟨⟩
theorem tw4390321459427075079:True:=⟨⟩
theorem tw17557046467301685737:True:=⟨⟩
theorem tw4234119403987277592:True:=⟨⟩
theorem tw6089614166824937879:True:=⟨⟩
theorem tw14015842670893876607:True:=⟨⟩
theorem tw5194550083878616462:True:=⟨⟩
theorem tw1458309906206692274:True:=⟨⟩
theorem tw8312024793663904379:True:=⟨⟩
theorem tw11781940405843890392:True:=⟨⟩
theorem tw7718257525725065602:True:=⟨⟩
theorem tw1229154700486512033:True:=⟨⟩
theorem tw1458236863187114051:True:=⟨⟩
theorem tw6787250982818831479:True:=⟨⟩
theorem tw2081512378950249513:True:=⟨⟩
theorem tw10821878946964861894:True:=⟨⟩
theorem tw4222410049104603006:True:=⟨⟩
theorem tw14845428750383046601:True:=⟨⟩
theorem tw14109141166417903988:True:=⟨⟩
theorem tw16043238290164243787:True:=⟨⟩
theorem tw2823566098194994639:True:=⟨⟩
theorem tw15180811784466266132:True:=⟨⟩
theorem tw10253838824935766394:True:=⟨⟩
theorem tw12048315501907825474:True:=⟨⟩
theorem tw8319048858984001376:True:=⟨⟩
theorem tw13016010367292857364:True:=⟨⟩
theorem tw6673655036635836328:True:=⟨⟩
theorem tw4953872848763958111:True:=⟨⟩
theorem tw15152910441061596301:True:=⟨⟩
theorem tw8709243299189532711:True:=⟨⟩
theorem tw874962535883071067:True:=⟨⟩
theorem tw10520361295779922755:True:=⟨⟩
theorem tw10236345804228696979:True:=⟨⟩
theorem tw6420520247172964766:True:=⟨⟩
theorem tw7719716869717991039:True:=⟨⟩
theorem tw10898961370783422510:True:=⟨⟩
theorem tw3069073443426727786:True:=⟨⟩
theorem tw6845756989646340591:True:=⟨⟩
theorem tw15632492400393138558:True:=⟨⟩
theorem tw8599465837693496468:True:=⟨⟩
theorem tw7084079629602014932:True:=⟨⟩
theorem tw12805938633443426438:True:=⟨⟩
theorem tw16752421591253337410:True:=⟨⟩
theorem tw4590034093719403036:True:=⟨⟩
theorem tw7397609705263921805:True:=⟨⟩
theorem tw1993077857328207565:True:=⟨⟩
theorem tw17065440940250101557:True:=⟨⟩
theorem tw3718858580670748240:True:=⟨⟩
theorem tw8008698003446512892:True:=⟨⟩
theorem tw16759695750220851882:True:=⟨⟩
theorem tw12932947699851051935:True:=⟨⟩
theorem tw17126609868964641391:True:=⟨⟩
theorem tw10011347110381652519:True:=⟨⟩
theorem tw517101714939637858:True:=⟨⟩
theorem tw11787511988805165550:True:=⟨⟩
end PySem.W.Fast
open PySem PySem.W PyProof.Rows
set_option maxRecDepth 100000 in
set_option maxHeartbeats 0 in
theorem PySem.Challenge.cw_flagroll_k12_places_moved_holds : PySem.Challenge.rw_flagroll_k12_places_moved.Holds := by
  w_on; o_law; k_head; (case hw => w_witness2)
  k_fill
  refine L2.oA (l := PySem.Challenge.rw_flagroll_k12_places_moved) (T := Law.T) (n := 12) (f := Law.sS) (x := Law.sT) rfl rfl ⟨fun _ => rfl, by decide, by decide⟩ (fun w h Y => PySem.W.kIn_of Y) ?F Law.holds
  case F =>
    intro w mg fa h KX G hmg
    refine' Law.all_mk KX G hmg (Law.dfo Law.c21 rfl (fun _ _ _ _ _ _ => Law.ln1 fun _ => rfl) KX G ?a21 ?l21 ?e21 ?k21) (Law.dfo Law.c22 rfl (fun _ _ _ _ _ _ => Law.ln2 fun _ _ => rfl) KX G ?a22 ?l22 ?e22 ?k22) (Law.dfo Law.c23 rfl (fun _ _ _ _ _ _ => Law.ln2 fun _ _ => rfl) KX G ?a23 ?l23 ?e23 ?k23) (Law.dfo Law.c24 rfl (fun _ _ _ _ _ _ => Law.ln1 fun _ => rfl) KX G ?a24 ?l24 ?e24 ?k24) (Law.dfo Law.c25 rfl (fun _ _ _ _ _ _ => Law.ln1 fun _ => rfl) KX G ?a25 ?l25 ?e25 ?k25) (Law.dfo Law.c26 rfl (fun _ _ _ _ _ _ => Law.ln2 fun _ _ => rfl) KX G ?a26 ?l26 ?e26 ?k26) (Law.dfo Law.c27 rfl (fun _ _ _ _ _ _ => Law.ln3 fun _ _ _ => rfl) KX G ?a27 ?l27 ?e27 ?k27) (Law.dfo Law.c28 rfl (fun _ _ _ _ _ _ => Law.ln3 fun _ _ _ => rfl) KX G ?a28 ?l28 ?e28 ?k28) (Law.dfo Law.c29 rfl (fun _ _ _ _ _ _ => Law.ln2 fun _ _ => rfl) KX G ?a29 ?l29 ?e29 ?k29) (Law.dfo Law.c35 rfl (fun _ _ _ _ _ _ => Law.ln1 fun _ => rfl) KX G ?a35 ?l35 ?e35 ?k35) (Law.dfo Law.c36 rfl (fun _ _ _ _ _ _ => Law.ln2 fun _ _ => rfl) KX G ?a36 ?l36 ?e36 ?k36) (Law.dfo Law.c30 rfl (fun _ _ _ _ _ _ => Law.ln2 fun _ _ => rfl) KX G ?a30 ?l30 ?e30 ?k30) (Law.dfo Law.c31 rfl (fun _ _ _ _ _ _ => Law.ln2 fun _ _ => rfl) KX G ?a31 ?l31 ?e31 ?k31) (Law.dfo Law.c33 rfl (fun _ _ _ _ _ _ => Law.ln1 fun _ => rfl) KX G ?a33 ?l33 ?e33 ?k33) (Law.dfo Law.c32 rfl (fun _ _ _ _ _ _ => Law.ln2 fun _ _ => rfl) KX G ?a32 ?l32 ?e32 ?k32) (Law.B9 Law.c34 rfl (fun _ _ _ _ _ _ => Law.ln3 fun _ _ _ => rfl) KX G ?a34 ?l34 ?e34 ?k34) (Law.dfo Law.c37 rfl (fun _ _ _ _ _ _ => Law.ln2 fun _ _ => rfl) KX G ?a37 ?l37 ?e37 ?k37) (Law.dfo Law.c42 rfl (fun _ _ _ _ _ _ => Law.ln2 fun _ _ => rfl) KX G ?a42 ?l42 ?e42 ?k42) (Law.dfo Law.c43 rfl (fun _ _ _ _ _ _ => Law.ln2 fun _ _ => rfl) KX G ?a43 ?l43 ?e43 ?k43) ?a44 ?l44 ?e44 ?k44 ?q20 ?u38 ?u39 ?u40 ?u41 ?vn38 ?vg38 ?vo38 ?vc38 ?vb38 ?vj38 ?vi38 ?vx38 ?vn39 ?vg39 ?vo39 ?vc39 ?vb39 ?vj39 ?vi39 ?vx39 ?vn40 ?vg40 ?vo40 ?vc40 ?vb40 ?vj40 ?vi40 ?vx40 ?vn41 ?vg41 ?vo41 ?vc41 ?vb41 ?vj41 ?vi41 ?vx41 ?z0 ?z1 ?z2 ?z3 ?z4 ?z5 ?z6 ?z7 ?z8 ?z9 ?z10 ?z11 ?z12 ?z13 ?z14 ?z15 ?z16 ?z17 ?z18 ?z19
    (case a21 => k_is)
    (case l21 => k_is)
    (case e21 => k_is)
    (case k21 => k_is)
    (case a22 => k_is)
    (case l22 => k_is)
    (case e22 => k_is)
    (case k22 => k_is)
    (case a23 => k_is)
    (case l23 => k_is)
    (case e23 => k_is)
    (case k23 => k_is)
    (case a24 => k_is)
    (case l24 => k_is)
    (case e24 => k_is)
    (case k24 => k_is)
    (case a25 => k_is)
    (case l25 => k_is)
    (case e25 => k_is)
    (case k25 => k_is)
    (case a26 => k_is)
    (case l26 => k_is)
    (case e26 => k_is)
    (case k26 => k_is)
    (case a27 => k_is)
    (case l27 => k_is)
    (case e27 => k_is)
    (case k27 => k_is)
    (case a28 => k_is)
    (case l28 => k_is)
    (case e28 => k_is)
    (case k28 => k_is)
    (case a29 => k_is)
    (case l29 => k_is)
    (case e29 => k_is)
    (case k29 => k_is)
    (case a35 => k_is)
    (case l35 => k_is)
    (case e35 => k_is)
    (case k35 => k_is)
    (case a36 => k_is)
    (case l36 => k_is)
    (case e36 => k_is)
    (case k36 => k_is)
    (case a30 => k_is)
    (case l30 => k_is)
    (case e30 => k_is)
    (case k30 => k_is)
    (case a31 => k_is)
    (case l31 => k_is)
    (case e31 => k_is)
    (case k31 => k_is)
    (case a33 => k_is)
    (case l33 => k_is)
    (case e33 => k_is)
    (case k33 => k_is)
    (case a32 => k_is)
    (case l32 => k_is)
    (case e32 => k_is)
    (case k32 => k_is)
    (case a34 => k_is)
    (case l34 => k_is)
    (case e34 => k_is)
    (case k34 => k_is)
    (case a37 => k_is)
    (case l37 => k_is)
    (case e37 => k_is)
    (case k37 => k_is)
    (case a42 => k_is)
    (case l42 => k_is)
    (case e42 => k_is)
    (case k42 => k_is)
    (case a43 => k_is)
    (case l43 => k_is)
    (case e43 => k_is)
    (case k43 => k_is)
    (case a44 => k_is)
    (case l44 => k_is)
    (case e44 => k_is)
    (case k44 => k_is)
    (case q20 => k_is)
    (case u38 => k_is)
    (case u39 => k_is)
    (case u40 => k_is)
    (case u41 => k_is)
    (case vn38 => kernel_rfl)
    (case vg38 => kernel_rfl)
    (case vo38 => kernel_rfl)
    (case vc38 => kernel_rfl)
    (case vb38 => kernel_rfl)
    (case vj38 => kernel_rfl)
    (case vi38 => kernel_rfl)
    (case vx38 => kernel_rfl)
    (case vn39 => kernel_rfl)
    (case vg39 => kernel_rfl)
    (case vo39 => kernel_rfl)
    (case vc39 => kernel_rfl)
    (case vb39 => kernel_rfl)
    (case vj39 => kernel_rfl)
    (case vi39 => kernel_rfl)
    (case vx39 => kernel_rfl)
    (case vn40 => kernel_rfl)
    (case vg40 => kernel_rfl)
    (case vo40 => kernel_rfl)
    (case vc40 => kernel_rfl)
    (case vb40 => kernel_rfl)
    (case vj40 => kernel_rfl)
    (case vi40 => kernel_rfl)
    (case vx40 => kernel_rfl)
    (case vn41 => kernel_rfl)
    (case vg41 => kernel_rfl)
    (case vo41 => kernel_rfl)
    (case vc41 => kernel_rfl)
    (case vb41 => kernel_rfl)
    (case vj41 => kernel_rfl)
    (case vi41 => kernel_rfl)
    (case vx41 => kernel_rfl)
    (case z0 => k_is)
    (case z1 => k_is)
    (case z2 => k_is)
    (case z3 => k_is)
    (case z4 => k_is)
    (case z5 => k_is)
    (case z6 => k_is)
    (case z7 => k_is)
    (case z8 => k_is)
    (case z9 => k_is)
    (case z10 => k_is)
    (case z11 => k_is)
    (case z12 => k_is)
    (case z13 => k_is)
    (case z14 => k_is)
    (case z15 => k_is)
    (case z16 => k_is)
    (case z17 => k_is)
    (case z18 => k_is)
    (case z19 => k_is)
#print axioms PySem.Challenge.cw_flagroll_k12_places_moved_holds
