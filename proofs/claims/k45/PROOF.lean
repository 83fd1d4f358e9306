import PyProof.Rows.All
import Wide.All
import OpenK.AllK
import Wide.FinOn
import Lean
import PyProof.EqAt
import PyProof.EqKinds
import PyProof.TupleCall
import PyProof.NeKinds
import KE.KRevIter
import KE.KSortTup
import Wide.Txt2
import PyProof.FString4
import KE.KIntText
import PyProof.ZipIter
import PyProof.TupleIter
import PyProof.WalksMore
import PyProof.Rows.SortShell
import KE.KDictSum
import PyProof.Rows.SortStr
import KE.KIsAll
import PyProof.ExcArgsOwn
import PyProof.ExcAttrAll.ValueError
import OpenK.KDescr
import PyProof.StationsW
import OpenK.KOwn
import KE.KTryMore
import OpenK.KRaise
import PyProof.RulesDel
import PyProof.RulesAs
import PyProof.Rows.Catch
import PySem.Challenge.RW_flagroll_k45_a_thing_in_a_cell
set_option maxHeartbeats 8000000
set_option Elab.async false
set_option linter.all false
set_option maxRecDepth 100000
namespace L2
open PySem PySem.Spec PyProof.Rows
noncomputable abbrev Key:=Sum Int Str
noncomputable def gG:Key->Value->Bool
 | .inl k,v=>Value.isInt k v
 | .inr x,v=>Value.isStrOf x v
noncomputable def Eb (w:World):Key->Int
 | .inl k=>hashInt k
 | .inr x=>hashStr w x
theorem aN:∀ {k:Key}{v:Value},gG k v=true->(∃ i t,k=Sum.inl i/\v=Value.int i t)∨(∃ x t,k=Sum.inr x/\v=Value.str x t)
 | .inl i,v,h=>by
  obtain⟨t,e⟩:=Value.isInt_shape (k:=i) (v:=v) h
  exact .inl ⟨i,t,rfl,e⟩
 | .inr x,v,h=>by
  obtain⟨t,e⟩:=Value.isStrOf_shape (x:=x) (v:=v) h
  exact .inr ⟨x,t,rfl,e⟩
theorem nH (i:Int)(t:Tok):gG (.inl i) (.int i t)=true:=by simp[gG,Value.isInt]
theorem nJ (x:Str)(t:Tok):gG (.inr x) (.str x t)=true:=by simp[gG,Value.isStrOf]
theorem yv (a b:Int):decide ((Sum.inl a:Key)=Sum.inl b)=(a == b):=by
 by_cases e:a=b
 ·subst e;simp
 ·have h:¬ (Sum.inl a:Key)=Sum.inl b:=fun q=>e (Sum.inl.inj q)
  rw[decide_eq_false h]
  exact(beq_eq_false_iff_ne.mpr e).symm
theorem yy (a b:Str):decide ((Sum.inr a:Key)=Sum.inr b)=decide (a=b):=by
 by_cases e:a=b
 ·subst e;simp
 ·have h:¬ (Sum.inr a:Key)=Sum.inr b:=fun q=>e (Sum.inr.inj q)
  rw[decide_eq_false h,decide_eq_false e]
theorem yz (a:Int)(b:Str):decide ((Sum.inl a:Key)=Sum.inr b)=false:=decide_eq_false (fun q=>nomatch q)
theorem yB (a:Str)(b:Int):decide ((Sum.inr a:Key)=Sum.inl b)=false:=decide_eq_false (fun q=>nomatch q)
noncomputable def bb (prog:Program)(w:World):PySem.KeyKind prog w Key where
 is:=gG
 hash:=Eb w
 inj:=fun v a b ha hb=>by
  rcases aN ha with ⟨i,t,rfl,rfl⟩|⟨x,t,rfl,rfl⟩
  ·rcases aN hb with ⟨j,u,rfl,e⟩|⟨y,u,rfl,e⟩
   ·injection e with e1 _;rw[e1]
   ·exact nomatch e
  ·rcases aN hb with ⟨j,u,rfl,e⟩|⟨y,u,rfl,e⟩
   ·exact nomatch e
   ·injection e with e1 _;rw[e1]
 byValue:=fun k v h=>by
  rcases aN h with ⟨i,t,rfl,rfl⟩|⟨x,t,rfl,rfl⟩<;>rfl
 pyHash:=fun hv h=>by
  rcases aN hv with ⟨i,t,rfl,rfl⟩|⟨x,t,rfl,rfl⟩
  ·exact wpAny_pyHash_int h
  ·exact wpAny_pyHash_str h
 eqBool:=fun hu hv h=>by
  rcases aN hu with ⟨i,t,rfl,rfl⟩|⟨x,t,rfl,rfl⟩
  ·rcases aN hv with ⟨j,u,rfl,rfl⟩|⟨y,u,rfl,rfl⟩
   ·rw[yv] at h;exact wpAny_eqBool_int h
   ·rw[yz] at h;exact SeqAt.EqAt.int_str i t y u _ _ _ _ h
  ·rcases aN hv with ⟨j,u,rfl,rfl⟩|⟨y,u,rfl,rfl⟩
   ·rw[yB] at h;exact SeqAt.EqAt.str_int x t j u _ _ _ _ h
   ·rw[yy] at h;exact wpAny_eqBool_str h
 «strs»:=fun k x t v h=>by
  rcases aN h with ⟨i,u,rfl,e⟩|⟨y,u,rfl,e⟩
  ·exact nomatch e
  ·injection e with e1 _
   subst e1
   cases v<;>rfl
theorem jq (prog:Program)(w:World)(i:Int)(t:Tok):(bb prog w).is (.inl i) (.int i t)=true:=nH i t
theorem jr (prog:Program)(w:World)(x:Str)(t:Tok):(bb prog w).is (.inr x) (.str x t)=true:=nJ x t
inductive V where
 | EZ|bl (b:Bool)|int (i:Int)|str (x:Str)|K' (b:Array UInt8)|GU (b:UInt64)|ref (a:Addr)|ty (n:String)
 deriving DecidableEq
noncomputable def RelV:V->Value->Prop
 | .EZ,u=>u=Value.none
 | .bl b,u=>u=Value.bool b
 | .int i,u=>∃ t,u=Value.int i t
 | .str x,u=>∃ t,u=Value.str x t
 | .K' b,u=>∃ t,u=Value.bytes b t
 | .GU b,u=>∃ t,u=Value.float b t
 | .ref a,u=>u=Value.ref a
 | .ty n,u=>u=Value.type n
abbrev Vals:List V->List Value->Prop:=Paired RelV
theorem Vals.length {xs:List V}{us:List Value}(r:Vals xs us):xs.length=us.length:=Paired.length r
theorem Vals.get:∀ {xs:List V}{us:List Value}{i:Nat}{x:V},Vals xs us->xs[i]? = some x->∃ u,us[i]? = some u/\RelV x u
 | _,_,_,_,.nil,e=>by simp at e
 | _,_,0,_,.cons r _,e=>by simp at e;subst e;exact⟨_,rfl,r⟩
 | _,_,i+1,x,.cons _ t,e=>by
  obtain⟨u,h1,h2⟩:=Vals.get (i:=i) (x:=x) t (by simpa using e)
  exact⟨u,by simpa using h1,h2⟩
theorem Vals.append:∀ {xs ys:List V}{us ws:List Value},Vals xs us->Vals ys ws->Vals (xs++ys) (us++ws)
 | _,_,_,_,.nil,s=>s
 | _,_,_,_,.cons r t,s=>.cons r (Vals.append t s)
theorem Vals.take:∀ {xs:List V}{us:List Value} (n:Nat),Vals xs us->Vals (xs.take n) (us.take n)
 | _,_,0,_=>.nil
 | _,_,_+1,.nil=>.nil
 | _,_,n+1,.cons r t=>.cons r (Vals.take n t)
theorem Vals.drop:∀ {xs:List V}{us:List Value} (n:Nat),Vals xs us->Vals (xs.drop n) (us.drop n)
 | _,_,0,r=>r
 | _,_,_+1,.nil=>.nil
 | _,_,n+1,.cons _ t=>Vals.drop n t
noncomputable def nK:Option V->Option Value->Prop
 | some v,some u=>RelV v u
 | none,none=>True
 | _,_=>False
def KV {κ:Type}:List (κ×V)->List (κ×Value)->Prop:=Paired fun (p:κ×V) (q:κ×Value)=>p.1=q.1/\RelV p.2 q.2
noncomputable def kV:Key->V
 | .inl i=>.int i
 | .inr x=>.str x
inductive HO where
 | lst (xs:List V)
 | tup (xs:List V)
 | dK (kvs:List (Key×V))|dT (kvs:List (List Key×V))
 | set (S:Int->Bool) (n:Nat)
 | ins (C dx:Addr) (fs:List (Str×V))
 | own (x:Addr)
 | xd (fs:List (Str×V))
 | met (f x:Addr)
 | Jg (lo hi:Int)
 | Fb (o:Obj) (u:HO)
 | Kz (ps:Array Value)
 | ext (φ:Heap->Prop)
noncomputable abbrev Hp:=Addr->Option HO
noncomputable def upd (H:Hp)(a:Addr)(o:HO):Hp:=fun b=>if b=a then some o else H b
theorem av {H:Hp}{a:Addr}{o:HO}:upd H a o a=some o:=by unfold upd;rw[if_pos rfl]
theorem aj {H:Hp}{a b:Addr}{o:HO}(h:b≠a):upd H a o b=H b:=by unfold upd;rw[if_neg h]
theorem AW {H:Hp}{a b:Addr}{o u:HO}(h:H a=some o)(h':H b=some u)(d:o≠u):a≠b:=by
 intro e;subst e;rw[h] at h';exact d (Option.some.inj h')
theorem aI {H:Hp}{a b:Addr}{o:HO}(h:H a=some o)(h':H b=none):a≠b:=by
 intro e;subst e;rw[h] at h';cases h'
section
variable (P:Program)(w:World)
noncomputable def aJ (H:Hp)(h:Heap)(a:Addr):HO->Prop
 | .lst xs=>xs.length<=sizeLine/\∃ (its:List Value) (n:Nat),Vals xs its/\h.get? a=some {cls:=.type "list",data:=.seq its.toArray n}
 | .tup xs=>xs.length<=sizeLine/\∃ its:List Value,Vals xs its/\IsTup h a its.toArray
 | .dK kvs=>kvs.length<=sizeLine/\(a == sysModules)=false/\∃ vs,KV kvs vs/\h.DictOf (bb P w) a vs
 | .dT kvs=>kvs.length<=sizeLine/\(a == sysModules)=false/\∃ xs:List (List Key×Addr×Value),
   Paired (fun (p:List Key×V) (q:List Key×Addr×Value)=>p.1=q.1/\H q.2.1=some (.tup (p.1.map kV))/\RelV p.2 q.2.2) kvs xs/\
   ∃ o es ep,h.get? a=some o/\o.ExactDict/\o.data=.dict es ep/\es.toList=xs.map (entryOfKey (tupleKind (bb P w)))/\(xs.map (·.1)).Nodup
 | .set S n=>h.SetOf (intKind P w) a S n
 | .ins C dx fs=>H dx=some (.own a)/\fs.length<=1000/\dx≠a/\h.get? a=some (PySem.W.instObj C dx)/\
   ∃ mA,h.Ns1 dx mA/\(∀ f,nK (fs.lookup f) (mA f))/\PySem.Within mA (fs.map (·.1))
 | .own _=>∃ o,h.get? a=some o
 | .xd fs=>∃ mA,h.Ns1 a mA/\∀ f,nK (fs.lookup f) (mA f)
 | .Jg lo hi=>∃ t u v,h.get? a=some {cls:=.type "range",data:=.fields #[.int lo t,.int hi u,.int 1 v]}
 | .Fb o u=>h.get? a=some o/\aJ H h a u
 | .Kz ps=>h.get? a=some {cls:=.none,data:=.fields ps}
 | .met f x=>h.get? a=some (PySem.W.methodObj (.ref f) (.ref x))
 | .ext φ=>φ h/\(∃ o,h.get? a=some o)/\∀ h1 h2:Heap,φ h1->(∀ o,h1.get? a=some o->h2.get? a=some o)->φ h2
def FD (H:Hp)(h:Heap):Prop:=∀ a o,H a=some o->aJ P w H h a o
end
section
variable {P:Program}{w:World}{H H':Hp}{h h':Heap}{a:Addr}{o:HO}
theorem aJ.lt (x:aJ P w H h a o):a < h.objs.size:=by
 cases o with
 | lst xs=>obtain⟨_,_,_,_,e⟩:=x;exact Heap.lt_size e
 | tup xs=>obtain⟨_,_,_,p⟩:=x;exact p.lt
 | dK kvs=>obtain⟨_,_,_,_,o,_,_,e,_⟩:=x;exact Heap.lt_size e
 | dT kvs=>obtain⟨_,_,_,_,o,_,_,e,_⟩:=x;exact Heap.lt_size e
 | set S n=>obtain⟨o,_,_,_,e,_⟩:=x;exact Heap.lt_size e
 | ins C dx fs=>obtain⟨_,_,_,e,_⟩:=x;exact Heap.lt_size e
 | own y=>obtain⟨_,e⟩:=x;exact Heap.lt_size e
 | xd fs=>obtain⟨_,⟨_,_,_,e,_⟩,_⟩:=x;exact Heap.lt_size e
 | Jg lo hi=>obtain⟨_,_,_,e⟩:=x;exact Heap.lt_size e
 | Fb ob u=>obtain⟨e,_⟩:=x;exact Heap.lt_size e
 | Kz ps=>exact Heap.lt_size (show h.get? a=some _ from x)
 | met f y=>exact Heap.lt_size (show h.get? a=some _ from x)
 | ext φ=>obtain⟨_,⟨_,e⟩,_⟩:=x;exact Heap.lt_size e
theorem Paired.La {α β:Type}{F G:α->β->Prop}:∀ {l₁:List α}{l₂:List β},Paired F l₁ l₂->(∀ a b,F a b->G a b)->Paired G l₁ l₂
 | _,_,.nil,_=>.nil
 | _,_,.cons r t,f=>.cons (f _ _ r) (Paired.La t f)
theorem aJ.GY (x:aJ P w H h a o)(k:∀ b u,(b=a∨H b=some (.own a))->h.get? b=some u->h'.get? b=some u)
  (ho:∀ b,H b=some (.own a)->H' b=some (.own a)) (ht:∀ b xs,H b=some (.tup xs)->H' b=some (.tup xs)):aJ P w H' h' a o:=by
 induction o with
 | lst xs=>obtain⟨z,its,n,r,e⟩:=x;exact⟨z,its,n,r,k _ _ (.inl rfl) e⟩
 | tup xs=>obtain⟨z,its,r,ob,e,c⟩:=x;exact⟨z,its,r,ob,k _ _ (.inl rfl) e,c⟩
 | dK kvs=>obtain⟨z,y,vs,r,ob,es,ep,e,c⟩:=x;exact⟨z,y,vs,r,ob,es,ep,k _ _ (.inl rfl) e,c⟩
 | dT kvs=>
  obtain⟨z,y,xs,r,ob,es,ep,e,c⟩:=x
  exact⟨z,y,xs,Paired.La r fun p q z=>⟨z.1,ht _ _ z.2.1,z.2.2⟩,ob,es,ep,k _ _ (.inl rfl) e,c⟩
 | set S n=>obtain⟨ob,es,ep,t,e,c⟩:=x;exact⟨ob,es,ep,t,k _ _ (.inl rfl) e,c⟩
 | ins C dx fs=>
  obtain⟨d,z,ne,e,mA,⟨od,es,ep,e2,c⟩,r⟩:=x
  exact⟨ho _ d,z,ne,k _ _ (.inl rfl) e,mA,⟨od,es,ep,k _ _ (.inr d) e2,c⟩,r⟩
 | own y=>obtain⟨ob,e⟩:=x;exact⟨ob,k _ _ (.inl rfl) e⟩
 | xd fs=>obtain⟨mA,⟨od,es,ep,e,c⟩,r⟩:=x;exact⟨mA,⟨od,es,ep,k _ _ (.inl rfl) e,c⟩,r⟩
 | Jg lo hi=>obtain⟨t,u,v,e⟩:=x;exact⟨t,u,v,k _ _ (.inl rfl) e⟩
 | Fb ob u ih=>obtain⟨e,q⟩:=x;exact⟨k _ _ (.inl rfl) e,ih q⟩
 | Kz ps=>
  have e:h.get? a=some {cls:=.none,data:=.fields ps}:=x
  show h'.get? a=some {cls:=.none,data:=.fields ps}
  exact k a _ (.inl rfl) e
 | met f y=>
  have e:h.get? a=some (PySem.W.methodObj (.ref f) (.ref y)):=x
  show h'.get? a=some (PySem.W.methodObj (.ref f) (.ref y))
  exact k a _ (.inl rfl) e
 | ext φ=>obtain⟨p,⟨o,e⟩,st⟩:=x;exact⟨st _ _ p fun o q=>k _ _ (.inl rfl) q,⟨o,k _ _ (.inl rfl) e⟩,st⟩
theorem FD.lt (x:FD P w H h)(e:H a=some o):a < h.objs.size:=(x a o e).lt
theorem FD.fresh (x:FD P w H h)(e:h.objs.size<=a):H a=none:=by
 cases q:H a with
 | none=>rfl
 | some u=>exact absurd (Nat.lt_of_lt_of_le (x.lt q) e) (Nat.lt_irrefl _)
theorem FD.kept (x:FD P w H h)(k:∀ b u,h.get? b=some u->h'.get? b=some u):FD P w H h':=fun a o e=>
 (x a o e).GY (fun b u _ q=>k b u q) (fun _ q=>q) fun _ _ q=>q
theorem FD.laid (x:FD P w H h)(k:∀ b u,h.get? b=some u->h'.get? b=some u)(hp:h.objs.size<=a)(new:aJ P w (upd H a o) h' a o):FD P w (upd H a o) h':=fun b u e=>by
 have hn:=x.fresh hp
 by_cases hb:b=a
 ·subst hb;rw[av] at e;cases e;exact new
 ·rw[aj hb] at e
  exact(x b u e).GY (fun c v _ q=>k c v q) (fun c q=>by rw[aj (aI q hn)];exact q) fun c xs q=>by rw[aj (aI q hn)];exact q
end
def Rd (H:Hp)(a:Addr)(u:HO):Prop:=H a=some u∨∃ o,H a=some (.Fb o u)
theorem Rd.ok {P:Program}{w:World}{H:Hp}{h:Heap}{a:Addr}{u:HO}(r:Rd H a u)(x:FD P w H h):aJ P w H h a u:=by
 rcases r with r|⟨o,r⟩
 ·exact x a u r
 ·obtain⟨_,q⟩:=x a _ r
  exact q
noncomputable def MU:Option HO->Prop
 | some (.lst _)=>True
 | some (.dK _)=>True
 | some (.dT _)=>True
 | some (.set _ _)=>True
 | some (.ins _ _ _)=>True
 | some (.ext _)=>True
 | _=>False
section
variable {P:Program}{w:World}{H:Hp}{h h':Heap}{x e:Addr}{o':HO}
theorem FD.write (ok:FD P w H h)(mu:MU (H x))(he:e=x∨H e=some (.own x))(k:∀ b u,b≠e->h.get? b=some u->h'.get? b=some u)(Mj:∃ u,h'.get? e=some u)
  (new:aJ P w (upd H x o') h' x o'):FD P w (upd H x o') h':=fun b u q=>by
 have MV:∀ c y,H c=some (.own y)->c≠x:=fun c y r z=>by subst z;rw[r] at mu;exact mu
 have O9:∀ c xs,H c=some (.tup xs)->c≠x:=fun c xs r z=>by subst z;rw[r] at mu;exact mu
 by_cases hb:b=x
 ·subst hb;rw[av] at q;cases q;exact new
 ·rw[aj hb] at q
  by_cases Lb:b=e
  ·have q':H b=some (.own x):=by
    rcases he with z|z
    ·exact absurd (Lb.trans z) hb
    ·rw[Lb];exact z
   rw[q] at q';cases q'
   obtain⟨v,hv⟩:=Mj
   exact⟨v,by rw[Lb];exact hv⟩
  ·refine(ok b u q).GY (fun c v hc r=>k c v ?_ r) (fun c r=>by rw[aj (MV c b r)];exact r) fun c xs r=>by rw[aj (O9 c xs r)];exact r
   rcases hc with rfl|hc
   ·exact Lb
   ·rintro rfl
    rcases he with z|z
    ·exact MV c b hc z
    ·rw[hc] at z;cases z;exact hb rfl
end
structure Un (fs ex:List Addr)(H H':Hp)(h h':Heap):Prop where
 keep:∀ b o,h.get? b=some o->H b=none->b∉fs->b∉ex->h'.get? b=some o
 slot:∀ b o,h.get? b=some o->H b=none->b∈fs->b∉ex->∃ sl,h'.get? b=some {o with slots:=sl}
 free:∀ b o,h.get? b=some o->H b=none->b∉ex->H' b=none
 there:∀ b o,h.get? b=some o->b∉ex->∃ o',h'.get? b=some o'
 Gd:∀ b xs,H b=some (.tup xs)->H' b=some (.tup xs)
 FV:∀ b o u,H b=some (.Fb o u)->H' b=some (.Fb o u)
 G8:∀ b ps,H b=some (.Kz ps)->∃ more,H' b=some (.Kz (ps++more))
section
variable {fs To ex Q4:List Addr}{H H1 H2:Hp}{h h1 h2 h':Heap}{a x e:Addr}{o:HO}
theorem Un.any (u:Un fs ex H H1 h h1){b:Addr}{ob:Obj}(q:h.get? b=some ob)(n:H b=none)(hx:b∉ex):∃ sl,h1.get? b=some {ob with slots:=sl}:=by
 by_cases hb:b∈fs
 ·exact u.slot b ob q n hb hx
 ·exact⟨ob.slots,u.keep b ob q n hb hx⟩
theorem Un.kept (k:∀ b u,h.get? b=some u->h'.get? b=some u):Un fs ex H H h h':=
 ⟨fun b ob q _ _ _=>k b ob q,fun b ob q _ _ _=>⟨ob.slots,k b ob q⟩,fun _ _ _ n _=>n,fun b ob q _=>⟨ob,k b ob q⟩,fun _ _ q=>q,fun _ _ _ q=>q,fun _ ps q=>⟨#[],by rw[q];simp⟩⟩
theorem Un.refl:Un fs ex H H h h:=Un.kept fun _ _ q=>q
theorem Un.laid (k:∀ b u,h.get? b=some u->h'.get? b=some u)(hp:h.objs.size<=a)(hn:H a=none):Un fs ex H (upd H a o) h h' where
 keep:=fun b u q _ _ _=>k b u q
 slot:=fun b u q _ _ _=>⟨u.slots,k b u q⟩
 free:=fun b u q n _=>by rw[aj (Nat.ne_of_lt (Nat.lt_of_lt_of_le (Heap.lt_size q) hp))];exact n
 there:=fun b u q _=>⟨u,k b u q⟩
 Gd:=fun b xs q=>by rw[aj (aI q hn)];exact q
 FV:=fun b u xs q=>by rw[aj (aI q hn)];exact q
 G8:=fun b ps q=>⟨#[],by rw[aj (aI q hn),q];simp⟩
theorem Un.write (mu:MU (H x))(he:e=x∨H e=some (.own x))(k:∀ b u,b≠e->h.get? b=some u->h'.get? b=some u)(Mj:∃ u,h'.get? e=some u):Un fs ex H (upd H x o) h h':=by
 have hx:∀ b,H b=none->b≠x:=fun b n z=>by subst z;rw[n] at mu;exact mu
 have hb:∀ b,H b=none->b≠e:=fun b n z=>by
  subst z
  rcases he with r|r
  ·exact hx b n r
  ·rw[n] at r;cases r
 have hm:∀ b u,H b=some u->¬ MU (some u)->b≠x:=fun b u q nm z=>by subst z;rw[q] at mu;exact nm mu
 refine⟨fun b u q n _ _=>k b u (hb b n) q,fun b u q n _ _=>⟨u.slots,k b u (hb b n) q⟩,fun b u q n _=>by rw[aj (hx b n)];exact n,fun b u q _=>?_,
  fun b xs q=>by rw[aj (hm b _ q fun z=>z)];exact q,fun b u xs q=>by rw[aj (hm b _ q fun z=>z)];exact q,fun b ps q=>⟨#[],by rw[aj (hm b _ q fun z=>z),q];simp⟩⟩
 by_cases Lb:b=e
 ·subst Lb;exact Mj
 ·exact⟨u,k b u Lb q⟩
end
noncomputable def Lc (h:Heap)(H:Hp):List Addr:=(List.range h.objs.size).filter fun a=>(H a).isSome
noncomputable def iG (h:Heap)(H:Hp):Heap:=PySem.W.hideAll h (Lc h H)
theorem nL (h:Heap)(H:Hp):(iG h H).objs.size=h.objs.size:=PySem.W.hideAll_size _ _
theorem oJ {h:Heap}{H:Hp}{b:Addr}{o:Obj}(e:h.get? b=some o)(n:H b=none):(iG h H).get? b=some o:=
 PySem.W.hideAll_get _ e fun hm=>by
  have q:(H b).isSome=true:=(List.mem_filter.mp hm).2
  rw[n] at q;simp at q
theorem ub {h:Heap}{H:Hp}{b:Addr}{o:Obj}(e:(iG h H).get? b=some o):h.get? b=some o/\H b=none:=by
 have e':h.get? b=some o:=PySem.W.of_hideAll (Lc h H) e
 refine⟨e',?_⟩
 cases q:H b with
 | none=>rfl
 | some x=>
  have hm:b∈Lc h H:=List.mem_filter.mpr ⟨List.mem_range.mpr (Heap.lt_size e'),by simp[q]⟩
  have z:(iG h H).get? b=none:=PySem.W.hideAll_none (Lc h H) hm
  rw[z] at e;cases e
structure Mod (K:PySem.W.Frag)(mg:Str->Option Value)(base:Heap):Prop where
 Oo:K.In base
 glob:base.Ns mainGlobals mg
 blt:∃ mb,base.Ns builtinsNs mb/\∀ x:Str,x≠"__name__"->mb x=bootBuiltins x
 nolimit:base.NoLimit
structure Cx where
 prog:Program
 w:World
 K:PySem.W.Frag
 mg:Str->Option Value
 base:Heap
 A:Around
 N:List Str
 Fx:Shared
 G9:Hp
 env:Env
 outer:List Env
 stack:List Env
 ex:List Addr
 fn:Str->Bool
 calm:Bool
 pn:List (Addr×Obj)
 xe:Value->Shared->Prop
noncomputable def FX (l:List Env):List Addr:=l.filterMap (·.frame)
noncomputable abbrev Cx.fs (X:Cx):List Addr:=FX X.outer
def MW (sc:Scope)(x:Str):Prop:=sc.names.lookup x=some .local∨sc.names.lookup x=some .cell∨sc.names.lookup x=some .free
def Loc (sc:Scope)(x:Str):Prop:=sc.names.lookup x=some .local∨sc.names.lookup x=some .cell
def Look (env:Env)(h:Heap)(m:Str->Option Value)(x:Str)(u:Value):Prop:=
 (env.kindOf x=some .local/\m x=some u)∨((env.kindOf x=some .cell∨env.kindOf x=some .free)/\∃ c,env.cells.lookup x=some c/\h.IsCell c (some u))
structure Cx.Ok (X:Cx):Prop where
 mod:Mod X.K X.mg X.base
 kind:X.env.scope.kind=.function
 glob:X.env.globals=mainGlobals
 blt:X.env.builtins=builtinsNs
 above:X.Fx.heap.objs.size<=X.env.locals
 inj:∀ x y c,X.env.cells.lookup x=some c->X.env.cells.lookup y=some c->x=y
 has:∀ x,(X.env.kindOf x=some .cell∨X.env.kindOf x=some .free)->∃ c,X.env.cells.lookup x=some c
 Oq:∀ x c,X.fn x=true->X.env.cells.lookup x=some c->X.Fx.heap.objs.size<=c
 hd:X.calm=true->X.A.handled=none
 frames:X.A.frames=some X.stack
 EY:X.stack=X.outer∨(X.stack=X.env::X.outer/\X.env.frame=some X.env.locals)
 O':∀ b∈X.ex,b≠X.env.locals/\∀ x c,X.env.cells.lookup x=some c->c≠b
 bs:∀ b o,X.base.get? b=some o->X.Fx.heap.get? b=some o/\X.G9 b=none
 J0:X.base.objs.size<=X.Fx.heap.objs.size
 J1:∀ b o,X.base.get? b=some o->b∉X.ex
 J2:∀ b∈X.ex,b∉X.fs
 Ge:X.Fx.heap.FunFrames X.base X.outer
 Jo:∀ b∈X.fs,X.G9 b=none
structure Inv (X:Cx)(pins:List (Addr×Obj))(σ:List (Option V))(H:Hp)(s:Shared):Prop where
 ok:X.Ok
 os:s.os=X.Fx.os
 bare:AllBare s.gens
 base:Un X.fs X.ex X.G9 H X.Fx.heap s.heap
 loc:∃ m,s.heap.Ns X.env.locals m/\∀ (i:Nat) (x:Str) (v:V),X.N[i]? = some x->σ[i]? = some (some v)->MW X.env.scope x->∃ u,RelV v u/\Look X.env s.heap m x u
 cell:∀ x c,X.env.cells.lookup x=some c->∃ v,s.heap.IsCell c v
 free:H X.env.locals=none
 F4:∀ x c,X.env.cells.lookup x=some c->H c=none
 pin:∀ p∈X.pn++pins,s.heap.get? p.1=some p.2/\H p.1=none/\p.1≠X.env.locals/\p.1∉X.fs/\∀ v,p.2.data≠.cell v
 E7:FD X.prog X.w H s.heap
 len:σ.length=X.N.length
section
variable {X:Cx}{pins:List (Addr×Obj)}{σ:List (Option V)}{H H':Hp}{s:Shared}{h':Heap}
theorem Cx.Ok.Pa (ok:X.Ok){b:Addr}{o:Obj}(e:X.base.get? b=some o):b∉X.fs:=fun hb=>by
 have:=(ok.Ge.mem hb).1
 rw[e] at this;cases this
theorem Inv.bs (I:Inv X pins σ H s):∀ b o,X.base.get? b=some o->s.heap.get? b=some o/\H b=none:=fun b o e=>
 ⟨I.base.keep b o (I.ok.bs b o e).1 (I.ok.bs b o e).2 (I.ok.Pa e) (I.ok.J1 b o e),I.base.free b o (I.ok.bs b o e).1 (I.ok.bs b o e).2 (I.ok.J1 b o e)⟩
theorem Inv.bk (I:Inv X pins σ H s):∀ b o,X.base.get? b=some o->s.heap.get? b=some o:=fun b o e=>(I.bs b o e).1
theorem Inv.mod (I:Inv X pins σ H s):Mod X.K X.mg X.base:=I.ok.mod
theorem Inv.Hz (I:Inv X pins σ H s):X.K.In s.heap:=I.ok.mod.Oo.keeps I.bk
theorem Inv.lt (I:Inv X pins σ H s):X.env.locals < s.heap.objs.size:=let ⟨_,hn,_⟩:=I.loc;hn.lt
theorem Inv.sz (I:Inv X pins σ H s):X.Fx.heap.objs.size<=s.heap.objs.size:=Nat.le_trans I.ok.above (Nat.le_of_lt I.lt)
theorem Inv.Pb (I:Inv X pins σ H s){a:Addr}(h:s.heap.objs.size<=a):a∉X.fs:=fun hb=>by
 obtain⟨_,o,ho,_⟩:=I.ok.Ge.mem hb
 exact absurd (Nat.lt_of_lt_of_le (Heap.lt_size ho) (Nat.le_trans I.sz h)) (Nat.lt_irrefl _)
theorem Inv.Ld (I:Inv X pins σ H s):∀ x c,X.env.cells.lookup x=some c->c≠X.env.locals:=fun x c e z=>by
 obtain⟨v,o,ho,hd⟩:=I.cell x c e
 obtain⟨m,⟨o',es,ep,GZ,Tp,_⟩,_⟩:=I.loc
 rw[z,GZ] at ho;cases ho;rw[Tp] at hd;cases hd
theorem Inv.Ge (I:Inv X pins σ H s):s.heap.FunFrames X.base X.outer:=by
 have all:∀ (l:List Env),(∀ b∈FX l,b∈X.fs)->X.Fx.heap.FunFrames X.base l->s.heap.FunFrames X.base l:=by
  intro l
  induction l with
  | nil=>intro _ _;trivial
  | cons env r ih=>
   intro hs hl
   obtain⟨hk,⟨L,o,hf,hn,ho,hd⟩,hr⟩:=hl
   have hL:L∈X.fs:=hs L (by unfold FX;rw[List.filterMap_cons,hf];exact List.mem_cons_self)
   obtain⟨sl,e⟩:=I.base.slot L o ho (I.ok.Jo L hL) hL fun z=>I.ok.J2 L z hL
   exact⟨hk,⟨L,_,hf,hn,e,hd⟩,ih (fun b hb=>hs b (by unfold FX;rw[List.filterMap_cons,hf];exact List.mem_cons_of_mem _ hb)) hr⟩
 exact all X.outer (fun _ hb=>hb) I.ok.Ge
theorem Inv.stack (I:Inv X pins σ H s):s.heap.FunFrames X.base X.stack:=by
 rcases I.ok.EY with e|⟨e,hf⟩
 ·rw[e];exact I.Ge
 ·rw[e]
  obtain⟨m,hn,_⟩:=I.loc
  refine .cons (by rw[I.ok.kind];decide) hf hn ?_ I.Ge
  exact Heap.get?_none_of_le (Nat.le_trans I.ok.J0 I.ok.above)
theorem Inv.HX (I:Inv X pins σ H s):∀ b∈FX X.stack,b∈X.env.locals::X.fs:=fun b hb=>by
 rcases I.ok.EY with e|⟨e,hf⟩
 ·rw[e] at hb;exact List.mem_cons_of_mem _ hb
 ·rw[e] at hb
  unfold FX at hb
  rw[List.filterMap_cons,hf] at hb
  exact hb
theorem Inv.Ha (I:Inv X pins σ H s):∀ b∈FX X.stack,H b=none:=fun b hb=>by
 rcases List.mem_cons.mp (I.HX b hb) with e|hb
 ·rw[e];exact I.free
 ·obtain⟨_,o,ho,_⟩:=I.ok.Ge.mem hb
  exact I.base.free b o ho (I.ok.Jo b hb) fun z=>I.ok.J2 b z hb
theorem Inv.step {g':Array GenState}{t':Nat}{d':Drawn}{ch:List Addr}(I:Inv X pins σ H s)
  (Jh:∀ b∈ch,(b∈X.ex∨X.Fx.heap.objs.size<=b)/\b≠X.env.locals/\(∀ x c,X.env.cells.lookup x=some c->c≠b)/\∀ p∈X.pn++pins,p.1≠b)
  (keep:∀ b o,b≠X.env.locals->b∉X.fs->b∉ch->s.heap.get? b=some o->H b=none->h'.get? b=some o)
  (slot:∀ b o,b≠X.env.locals->b∈X.fs->b∉ch->s.heap.get? b=some o->H b=none->∃ sl,h'.get? b=some {o with slots:=sl}) (free:∀ b o,b∉ch->s.heap.get? b=some o->H b=none->H' b=none)
  (there:∀ b o,b∉ch->s.heap.get? b=some o->∃ o',h'.get? b=some o')
  (Gd:∀ b xs,H b=some (.tup xs)->H' b=some (.tup xs)) (FV:∀ b o u,H b=some (.Fb o u)->H' b=some (.Fb o u)) (G8:∀ b ps,H b=some (.Kz ps)->∃ more,H' b=some (.Kz (ps++more)))
  (ns:∀ m,s.heap.Ns X.env.locals m->h'.Ns X.env.locals m) (E7:FD X.prog X.w H' h') (hg:AllBare g') :
  Inv X pins σ H' {s with heap:=h',gens:=g',drawn:=d',toks:=t'}:=by
 have Q5:∀ b o,X.Fx.heap.get? b=some o->b≠X.env.locals:=fun b o e=>Nat.ne_of_lt (Nat.lt_of_lt_of_le (Heap.lt_size e) I.ok.above)
 have Ot:∀ b o,X.Fx.heap.get? b=some o->b∉X.ex->b∉ch:=fun b o e hx hb=>by
  rcases (Jh b hb).1 with z|z
  ·exact hx z
  ·exact absurd (Nat.lt_of_lt_of_le (Heap.lt_size e) z) (Nat.lt_irrefl _)
 have cellK:∀ x c,X.env.cells.lookup x=some c->∀ v,s.heap.IsCell c v->h'.IsCell c v:=fun x c e v ⟨o,ho,hd⟩=>by
  have MX:c∉ch:=fun z=>(Jh c z).2.2.1 x c e rfl
  by_cases hc:c∈X.fs
  ·obtain⟨sl,q⟩:=slot c o (I.Ld x c e) hc MX ho (I.F4 x c e)
   exact⟨_,q,hd⟩
  ·exact⟨o,keep c o (I.Ld x c e) hc MX ho (I.F4 x c e),hd⟩
 refine⟨I.ok,I.os,hg,⟨fun b o e n hb hx=>?_,fun b o e n hb hx=>?_,fun b o e n hx=>?_,fun b o e hx=>?_,fun b xs e=>Gd b xs (I.base.Gd b xs e),fun b o xs e=>FV b o xs (I.base.FV b o xs e),fun b ps e=>?_⟩,?_,fun x c e=>?_,?_,fun x c e=>?_,fun p hp=>?_,E7,I.len⟩
 ·exact keep b o (Q5 b o e) hb (Ot b o e hx) (I.base.keep b o e n hb hx) (I.base.free b o e n hx)
 ·obtain⟨sl,e1⟩:=I.base.slot b o e n hb hx
  obtain⟨MY,e2⟩:=slot b _ (Q5 b o e) hb (Ot b o e hx) e1 (I.base.free b o e n hx)
  exact⟨MY,e2⟩
 ·obtain⟨o',e1⟩:=I.base.there b o e hx
  exact free b o' (Ot b o e hx) e1 (I.base.free b o e n hx)
 ·obtain⟨o',e1⟩:=I.base.there b o e hx
  exact there b o' (Ot b o e hx) e1
 ·obtain⟨m1,e1⟩:=I.base.G8 b ps e
  obtain⟨m2,e2⟩:=G8 b _ e1
  exact⟨m1++m2,by rw[e2,Array.append_assoc]⟩
 ·obtain⟨m,hn,hl⟩:=I.loc
  refine⟨m,ns m hn,fun i x v e1 e2 e3=>?_⟩
  obtain⟨u,r,l⟩:=hl i x v e1 e2 e3
  refine⟨u,r,?_⟩
  rcases l with l|⟨k,c,e,z⟩
  ·exact .inl l
  ·exact .inr ⟨k,c,e,cellK x c e _ z⟩
 ·obtain⟨v,z⟩:=I.cell x c e
  exact⟨v,cellK x c e v z⟩
 ·obtain⟨m,⟨o,_,_,ho,_⟩,_⟩:=I.loc
  exact free _ o (fun z=>(Jh _ z).2.1 rfl) ho I.free
 ·obtain⟨v,o,ho,hd⟩:=I.cell x c e
  exact free c o (fun z=>(Jh c z).2.2.1 x c e rfl) ho (I.F4 x c e)
 ·obtain⟨e,n,ne,nf,d⟩:=I.pin p hp
  have MX:p.1∉ch:=fun z=>(Jh p.1 z).2.2.2 p hp rfl
  exact⟨keep p.1 p.2 ne nf MX e n,free p.1 p.2 MX e n,ne,nf,d⟩
theorem Inv.un {t':Nat}(I:Inv X pins σ H s)(u:Un X.fs [] H H' s.heap h')(E7:FD X.prog X.w H' h'):Inv X pins σ H' {s with heap:=h',toks:=t'}:=by
 obtain⟨m,⟨o,es,ep,ho,r⟩,_⟩:=id I.loc
 obtain⟨sl,hL⟩:=u.any ho I.free (by simp)
 exact I.step (g':=s.gens) (d':=s.drawn) (ch:=[]) (fun _ z=>nomatch z) (fun b o _ hb _ e n=>u.keep b o e n hb (by simp)) (fun b o _ hb _ e n=>u.slot b o e n hb (by simp)) (fun b o _ e n=>u.free b o e n (by simp)) (fun b o _ e=>u.there b o e (by simp)) u.Gd u.FV u.G8 (fun m' hm=>by
  obtain⟨o',HQ,Pc,GZ,r'⟩:=hm
  rw[ho] at GZ;cases GZ
  exact⟨_,HQ,Pc,hL,r'⟩) E7 I.bare
theorem Inv.call {g':Array GenState}{t':Nat}{d':Drawn}{ch:List Addr}(I:Inv X pins σ H s)(u:Un (FX X.stack) ch H H' s.heap h')(E7:FD X.prog X.w H' h')(hg:AllBare g')
  (Jh:∀ b∈ch,(b∈X.ex∨X.Fx.heap.objs.size<=b)/\b≠X.env.locals/\(∀ x c,X.env.cells.lookup x=some c->c≠b)/\∀ p∈X.pn++pins,p.1≠b) :
  Inv X pins σ H' {s with heap:=h',gens:=g',drawn:=d',toks:=t'}:=by
 obtain⟨m,⟨o,es,ep,ho,r⟩,_⟩:=id I.loc
 obtain⟨sl,hL⟩:=u.any ho I.free fun z=>(Jh _ z).2.1 rfl
 exact I.step (ch:=ch) Jh (fun b o hL hb hc e n=>u.keep b o e n (fun z=>(List.mem_cons.mp (I.HX b z)).elim hL hb) hc) (fun b o _ _ hc e n=>u.any e n hc) (fun b o hc e n=>u.free b o e n hc) (fun b o hc e=>u.there b o e hc) u.Gd u.FV u.G8 (fun m' hm=>by
  obtain⟨o',HQ,Pc,GZ,r'⟩:=hm
  rw[ho] at GZ;cases GZ
  exact⟨_,HQ,Pc,hL,r'⟩) E7 hg
theorem Inv.turned {t':Nat}{it:Addr}(I:Inv X pins σ H s)(k:∀ b o,b≠it->s.heap.get? b=some o->h'.get? b=some o)(hn:H it=none)(hL:it≠X.env.locals)
  (h1:it∈X.ex∨X.Fx.heap.objs.size<=it) (h2:∀ x c,X.env.cells.lookup x=some c->c≠it) (h3:∀ p∈X.pn++pins,p.1≠it):Inv X pins σ H {s with heap:=h',toks:=t'}:=by
 have KA:∀ b u,H b=some u->b≠it:=fun b u e z=>by rw[z,hn] at e;cases e
 refine I.step (g':=s.gens) (d':=s.drawn) (ch:=[it]) (fun b hb=>?_) (fun b o _ _ hc e _=>k b o (fun z=>hc (by simp[z])) e) (fun b o _ _ hc e _=>⟨o.slots,k b o (fun z=>hc (by simp[z])) e⟩) (fun _ _ _ _ n=>n)
  (fun b o hc e=>⟨o,k b o (fun z=>hc (by simp[z])) e⟩) (fun _ _ e=>e) (fun _ _ _ e=>e) (fun b ps e=>⟨#[],by rw[e];simp⟩) (fun m hm=>?_) (fun b u e=>?_) I.bare
 ·have e:b=it:=by simpa using hb
  subst e
  exact⟨h1,hL,h2,h3⟩
 ·obtain⟨o,es,ep,ho,r⟩:=hm
  exact⟨o,es,ep,k _ o (Ne.symm hL) ho,r⟩
 ·refine(I.E7 b u e).GY (fun c v hc q=>k c v ?_ q) (fun _ q=>q) fun _ _ q=>q
  rcases hc with z|z
  ·rw[z];exact KA b u e
  ·exact KA c _ z
theorem Inv.tok (I:Inv X pins σ H s)(t:Nat):Inv X pins σ H {s with toks:=t}:=I.un (h':=s.heap) (t':=t) Un.refl I.E7
theorem Inv.kept {t':Nat}(I:Inv X pins σ H s)(k:∀ b u,s.heap.get? b=some u->h'.get? b=some u):Inv X pins σ H {s with heap:=h',toks:=t'}:=I.un (Un.kept k) (I.E7.kept k)
theorem Inv.laid {a:Addr}{o:HO}{t':Nat}(I:Inv X pins σ H s)(k:∀ b u,s.heap.get? b=some u->h'.get? b=some u)(hp:s.heap.objs.size<=a)(new:aJ X.prog X.w (upd H a o) h' a o) :
  Inv X pins σ (upd H a o) {s with heap:=h',toks:=t'}:=I.un (Un.laid k hp (I.E7.fresh hp)) (I.E7.laid k hp new)
theorem Inv.write {x e:Addr}{o:HO}{t':Nat}(I:Inv X pins σ H s)(mu:MU (H x))(he:e=x∨H e=some (.own x))(k:∀ b u,b≠e->s.heap.get? b=some u->h'.get? b=some u)(Mj:∃ u,h'.get? e=some u)
  (new:aJ X.prog X.w (upd H x o) h' x o):Inv X pins σ (upd H x o) {s with heap:=h',toks:=t'}:=I.un (Un.write mu he k Mj) (I.E7.write mu he k Mj new)
theorem Inv.Io {Ip:List (Addr×Obj)}(I:Inv X pins σ H s)(h:∀ p∈Ip,s.heap.get? p.1=some p.2/\H p.1=none/\p.1≠X.env.locals/\p.1∉X.fs/\∀ v,p.2.data≠.cell v):Inv X Ip σ H s:=
 ⟨I.ok,I.os,I.bare,I.base,I.loc,I.cell,I.free,I.F4,fun p hp=>(List.mem_append.mp hp).elim (fun z=>I.pin p (List.mem_append_left _ z)) (h p),I.E7,I.len⟩
theorem jt {N:List Str}(hN:N.Nodup){i j:Nat}{x:Str}(a:N[i]? = some x)(b:N[j]? = some x):i=j:=by
 obtain⟨h1,e1⟩:=List.getElem?_eq_some_iff.mp a
 obtain⟨h2,e2⟩:=List.getElem?_eq_some_iff.mp b
 exact(List.getElem_inj hN).mp (e1.trans e2.symm)
theorem gH {M:Model}{A:Around}{E:Value->Shared->Prop}{i:Nat}{x:Str}{v:V}{u:Value}{Q:Unit->Shared->Prop}(I:Inv X pins σ H s)(hN:X.N.Nodup)(hi:X.N[i]? = some x)(hx:Loc X.env.scope x)(r:RelV v u)
  (h:∀ s',Inv X pins (σ.set i (some v)) H s'->(∃ a,Heap.SameBut a s.heap s'.heap/\(a=X.env.locals∨X.env.cells.lookup x=some a))->Q () s') (hf:X.fn x=true∨X.env.scope.names.lookup x=some .local:=by first|exact .inl rfl|exact .inr rfl|assumption):wpAny M A (storeName X.env x u) Q E s:=by
 obtain⟨m,hn,hl⟩:=id I.loc
 have Le:(X.env.scope.kind == .class||(X.env.scope.kind == .module&&X.env.locals != X.env.globals))=false:=by rw[I.ok.kind];rfl
 have MZ:i < σ.length:=by rw[I.len];exact(List.getElem?_eq_some_iff.mp hi).1
 have Ld:=I.Ld
 have tracked:∀ {a:Addr}{h':Heap},(∃ o,s.heap.get? a=some o/\H a=none)->Heap.SameBut a s.heap h'->FD X.prog X.w H h':=fun {a h'} ha hs b ob e=>by
  obtain⟨_,_,Iq⟩:=ha
  refine(I.E7 b ob e).GY (fun c w' hc q=>(hs.2 c ?_).trans q) (fun _ q=>q) fun _ _ q=>q
  rintro rfl
  rcases hc with rfl|hc
  ·rw[Iq] at e;cases e
  ·rw[Iq] at hc;cases hc
 rcases hx with hk|hk
 ·refine wpAny_storeName_local hk hn (fun h' IT hs=>?_) Le
  obtain⟨oL,_,_,Tq,_⟩:=id hn
  refine h _ ⟨I.ok,I.os,I.bare,⟨fun b o e n hb hx=>?_,fun b o e n hb hx=>?_,I.base.free,fun b o e hx=>?_,I.base.Gd,I.base.FV,I.base.G8⟩,⟨_,IT,fun j y v' e1 e2 e3=>?_⟩,fun y c e=>?_,I.free,I.F4,fun p hp=>?_,tracked ⟨oL,Tq,I.free⟩ hs,by simpa using I.len⟩ ⟨_,hs,.inl rfl⟩
  ·exact(hs.2 b (Nat.ne_of_lt (Nat.lt_of_lt_of_le (Heap.lt_size e) I.ok.above))).trans (I.base.keep b o e n hb hx)
  ·obtain⟨sl,e1⟩:=I.base.slot b o e n hb hx
   exact⟨sl,(hs.2 b (Nat.ne_of_lt (Nat.lt_of_lt_of_le (Heap.lt_size e) I.ok.above))).trans e1⟩
  ·obtain⟨o',e1⟩:=I.base.there b o e hx
   exact⟨o',(hs.2 b (Nat.ne_of_lt (Nat.lt_of_lt_of_le (Heap.lt_size e) I.ok.above))).trans e1⟩
  ·by_cases hj:j=i
   ·subst hj
    rw[hi] at e1;cases e1
    rw[List.getElem?_set_self MZ] at e2
    cases e2
    exact⟨u,r,.inl ⟨hk,by simp⟩⟩
   ·rw[List.getElem?_set_ne (Ne.symm hj)] at e2
    obtain⟨u',r',q⟩:=hl j y v' e1 e2 e3
    refine⟨u',r',?_⟩
    rcases q with ⟨k,e⟩|⟨k,c,e,z⟩
    ·refine .inl ⟨k,?_⟩
     have:y≠x:=fun e=>hj (jt hN e1 (e ▸ hi))
     simp[this,e]
    ·exact .inr ⟨k,c,e,z.sameBut hs (Ld y c e)⟩
  ·obtain⟨w',z⟩:=I.cell y c e
   exact⟨w',z.sameBut hs (Ld y c e)⟩
  ·obtain⟨e,n,ne,nf,d⟩:=I.pin p hp
   exact⟨(hs.2 p.1 ne).trans e,n,ne,nf,d⟩
 ·have Lf:X.fn x=true:=by
   rcases hf with z|z
   ·exact z
   ·rw[z] at hk;cases hk
  obtain⟨c,hc⟩:=I.ok.has x (.inl hk)
  obtain⟨w',z⟩:=I.cell x c hc
  refine wpAny_storeName_cell I.ok.kind hk hc z (fun h' Ji hs=>?_)
  obtain⟨oc,Q6,Pd⟩:=id z
  refine h {s with heap:=h'} ⟨I.ok,I.os,I.bare,⟨fun b o e n hb hx=>?_,fun b o e n hb hx=>?_,I.base.free,fun b o e hx=>?_,I.base.Gd,I.base.FV,I.base.G8⟩,⟨m,hn.sameBut hs (Ne.symm (Ld x c hc)),fun j y v' e1 e2 e3=>?_⟩,fun y c' e=>?_,I.free,I.F4,fun p hp=>?_,tracked ⟨oc,Q6,I.F4 x c hc⟩ hs,by simpa using I.len⟩ ⟨c,hs,.inr hc⟩
  ·exact(hs.2 b (Nat.ne_of_lt (Nat.lt_of_lt_of_le (Heap.lt_size e) (I.ok.Oq x c Lf hc)))).trans (I.base.keep b o e n hb hx)
  ·obtain⟨sl,e1⟩:=I.base.slot b o e n hb hx
   exact⟨sl,(hs.2 b (Nat.ne_of_lt (Nat.lt_of_lt_of_le (Heap.lt_size e) (I.ok.Oq x c Lf hc)))).trans e1⟩
  ·obtain⟨o',e1⟩:=I.base.there b o e hx
   exact⟨o',(hs.2 b (Nat.ne_of_lt (Nat.lt_of_lt_of_le (Heap.lt_size e) (I.ok.Oq x c Lf hc)))).trans e1⟩
  ·by_cases hj:j=i
   ·subst hj
    rw[hi] at e1;cases e1
    rw[List.getElem?_set_self MZ] at e2
    cases e2
    exact⟨u,r,.inr ⟨.inl hk,c,hc,Ji⟩⟩
   ·rw[List.getElem?_set_ne (Ne.symm hj)] at e2
    obtain⟨u',r',q⟩:=hl j y v' e1 e2 e3
    refine⟨u',r',?_⟩
    rcases q with q|⟨k,c',e,z'⟩
    ·exact .inl q
    ·refine .inr ⟨k,c',e,z'.sameBut hs ?_⟩
     rintro rfl
     exact hj (jt hN e1 (I.ok.inj _ _ _ e hc ▸ hi))
  ·by_cases Q7:c'=c
   ·subst Q7;exact⟨_,Ji⟩
   ·obtain⟨w2,z2⟩:=I.cell y c' e
    exact⟨w2,z2.sameBut hs Q7⟩
  ·obtain⟨e,n,ne,nf,d⟩:=I.pin p hp
   refine⟨(hs.2 p.1 ?_).trans e,n,ne,nf,d⟩
   intro q
   rw[q,Q6] at e
   have q':oc=p.2:=Option.some.inj e
   exact d w' (by rw[<- q'];exact Pd)
theorem ju {M:Model}{A:Around}{E:Value->Shared->Prop}{i:Nat}{x:Str}{v:V}{u:Value}{Q:Unit->Shared->Prop}(I:Inv X pins σ H s)(hN:X.N.Nodup)(hi:X.N[i]? = some x)(hx:Loc X.env.scope x)(r:RelV v u)
  (h:∀ s',Inv X pins (σ.set i (some v)) H s'->Q () s') (hf:X.fn x=true∨X.env.scope.names.lookup x=some .local:=by first|exact .inl rfl|exact .inr rfl|assumption):wpAny M A (storeName X.env x u) Q E s:=
 gH I hN hi hx r (fun s' I' _=>h s' I') hf
theorem Inv.KC {s':Shared}{ch:List Addr}(I:Inv X pins σ H s)(ho:s'.os=s.os)(u:Un (FX X.stack) ch H H' s.heap s'.heap)(E7:FD X.prog X.w H' s'.heap)(hg:AllBare s'.gens)
  (Jh:∀ b∈ch,(b∈X.ex∨X.Fx.heap.objs.size<=b)/\b≠X.env.locals/\(∀ x c,X.env.cells.lookup x=some c->c≠b)/\∀ p∈X.pn++pins,p.1≠b):Inv X pins σ H' s':=by
 obtain⟨h',g',d',t',o'⟩:=s'
 have e:o'=s.os:=ho
 subst e
 exact I.call (g':=g') (t':=t') (d':=d') u E7 hg Jh
end
noncomputable abbrev XK:=Value->Option Addr->Hp->Prop
noncomputable abbrev St:=List (Option V)
noncomputable abbrev VK:=V->Hp->Prop
noncomputable abbrev TE:=St->Hp->VK->Prop
noncomputable abbrev TT:=St->Hp->(Bool->Hp->Prop)->Prop
noncomputable abbrev TA:=St->Hp->(List V->Hp->Prop)->Prop
structure Ends where
 nx:St->Hp->Prop
 rt:VK
 bk:St->Hp->Prop:=fun _ _=>False
 ct:St->Hp->Prop:=fun _ _=>False
noncomputable abbrev TS:=Ends->St->Hp->Prop
def EP (X:Cx)(pins:List (Addr×Obj))(σ:St)(Q:VK)(u:Value)(s':Shared):Prop:=∃ v H',Inv X pins σ H' s'/\RelV v u/\Q v H'
def TP (X:Cx)(pins:List (Addr×Obj))(σ:St)(Q:Bool->Hp->Prop)(b:Bool)(s':Shared):Prop:=∃ H',Inv X pins σ H' s'/\Q b H'
def AP (X:Cx)(pins:List (Addr×Obj))(σ:St)(Q:List V->Hp->Prop)(us:List Value)(s':Shared):Prop:=∃ vs H',Inv X pins σ H' s'/\Vals vs us/\Q vs H'
def SP (X:Cx)(pins:List (Addr×Obj))(D:Ends)(f:Flow)(s':Shared):Prop:=
 match f with
 | .next=>∃ E4 H',Inv X pins E4 H' s'/\D.nx E4 H'
 | .brk=>∃ E4 H',Inv X pins E4 H' s'/\D.bk E4 H'
 | .cont=>∃ E4 H',Inv X pins E4 H' s'/\D.ct E4 H'
 | .ret u=>∃ v E4 H',Inv X pins E4 H' s'/\RelV v u/\D.rt v H'
def PE (X:Cx)(e:Expr)(t:TE):Prop:=
 ∀ (pins:List (Addr×Obj)) (s:Shared) (σ:St) (H:Hp) (Q:VK),Inv X pins σ H s->t σ H Q->wpAny (model X.prog X.w) X.A (eval e X.env) (EP X pins σ Q) X.xe s
def PT (X:Cx)(e:Expr)(t:TT):Prop:=
 ∀ (pins:List (Addr×Obj)) (s:Shared) (σ:St) (H:Hp) (Q:Bool->Hp->Prop),Inv X pins σ H s->t σ H Q->wpAny (model X.prog X.w) X.A (isTrue e X.env (eval e X.env)) (TP X pins σ Q) X.xe s
def PW (X:Cx)(e:Expr)(t:TT):Prop:=
 ∀ (whole:Sem Value) (pins:List (Addr×Obj)) (s:Shared) (σ:St) (H:Hp) (Q:Bool->Hp->Prop),Inv X pins σ H s->t σ H Q->wpAny (model X.prog X.w) X.A (isTrue e X.env whole) (TP X pins σ Q) X.xe s
theorem PW.pt {X:Cx}{e:Expr}{t:TT}(h:PW X e t):PT X e t:=h _
def PA (X:Cx)(es:List Expr)(t:TA):Prop:=
 ∀ (pos:Pos) (pins:List (Addr×Obj)) (s:Shared) (σ:St) (H:Hp) (Q:List V->Hp->Prop),Inv X pins σ H s->t σ H Q->wpAny (model X.prog X.w) X.A (spliced (backTo pos (starEach es X.env))) (AP X pins σ Q) X.xe s
def PS (X:Cx)(st:Stmt)(t:TS):Prop:=
 ∀ (pins:List (Addr×Obj)) (s:Shared) (σ:St) (H:Hp) (D:Ends),Inv X pins σ H s->t D σ H->wpAny (model X.prog X.w) X.A (exec st X.env) (SP X pins D) X.xe s
def HR (X:Cx)(st:List Stmt)(t:TS):Prop:=
 ∀ (pins:List (Addr×Obj)) (s:Shared) (σ:St) (H:Hp) (D:Ends),Inv X pins σ H s->t D σ H->wpAny (model X.prog X.w) X.A (execs st X.env) (SP X pins D) X.xe s
theorem Fe {α:Type}{t:Sem α}{Q Q':α->Shared->Prop}{M:Model}{A:Around}{E:Value->Shared->Prop}{s:Shared}(h:wpAny M A t Q E s)(hQ:∀ a s,Q a s->Q' a s):wpAny M A t Q' E s:=wpAny_mono h hQ fun _ _ x=>x
section
variable {X:Cx}
def yC (i:Nat):TE:=fun σ H Q=>∃ v,σ[i]? = some (some v)/\Q v H
def tC (v:V):TE:=fun _ H Q=>Q v H
theorem oK {i:Nat}{x:Str}{pos:Pos}(hN:X.N[i]? = some x)(hv:MW X.env.scope x)(hd:(x == ("__debug__" : Str))=false:=by decide) (J3:(x == ("__classdict__" : Str))=false:=by decide):PE X (.Name x pos) (yC i):=by
 intro pins s σ H Q I h
 obtain⟨v,e,h⟩:=h
 obtain⟨m,hn,hl⟩:=I.loc
 obtain⟨u,r,l⟩:=hl i x v hN e hv
 have fin:EP X pins σ Q u s:=⟨v,H,I,r,h⟩
 rcases l with ⟨hk,hm⟩|⟨hk,c,hc,KD⟩
 ·exact wpAny_Name (wpAny_loadName_local I.ok.kind hk hn hm fin) hd
 ·rcases hk with hk|hk
  ·exact wpAny_Name (wpAny_loadName_cell I.ok.kind hk hc KD fin) hd
  ·exact wpAny_Name (wpAny_loadName_free I.ok.kind hk hc KD fin J3) hd
theorem yD {i j pos}:PE X (.Constant (.int i) j pos) (tC (.int i)):=fun _ _ _ H _ I h=>wpAny_Constant_int ⟨.int i,H,I.tok _,⟨_,rfl⟩,h⟩
theorem AX {b j pos}:PE X (.Constant (.bool b) j pos) (tC (.bl b)):=fun _ _ _ H _ I h=>Constant_bool ⟨.bl b,H,I,rfl,h⟩
theorem yE {j pos}:PE X (.Constant .none j pos) (tC .EZ):=fun _ _ _ H _ I h=>Constant_none ⟨.EZ,H,I,rfl,h⟩
theorem yF {x j pos}:PE X (.Constant (.str x) j pos) (tC (.str x)):=fun _ _ _ H _ I h=>Calls.Constant_str ⟨.str x,H,I.tok _,⟨_,rfl⟩,h⟩
def Gl (X:Cx)(x:Str):Prop:=X.env.kindOf x=some .globalImplicit
theorem iH {E:Value->Shared->Prop}{pins:List (Addr×Obj)}{s:Shared}{σ:St}{H:Hp}{x:Str}{u:Value}{pos:Pos}{Q:Value->Shared->Prop}(I:Inv X pins σ H s)(hg:Gl X x)(hm:X.mg x=some u)(h:Q u s)
  (hd:(x == ("__debug__" : Str))=false:=by decide):wpAny (model X.prog X.w) X.A (eval (.Name x pos) X.env) Q E s:=
 Calls.Name_function_global I.ok.kind hg (Calls.loadGlobal_global (by rw[I.ok.glob];exact I.mod.glob.keeps I.bk) hm h) hd
theorem dy {E:Value->Shared->Prop}{pins:List (Addr×Obj)}{s:Shared}{σ:St}{H:Hp}{x:Str}{u:Value}{pos:Pos}{Q:Value->Shared->Prop}(I:Inv X pins σ H s)(hg:Gl X x)(hm:X.mg x=none)(hv:bootBuiltins x=some u)(h:Q u s)
  (hn:x≠"__name__":=by decide) (hd:(x == ("__debug__" : Str))=false:=by decide):wpAny (model X.prog X.w) X.A (eval (.Name x pos) X.env) Q E s:=by
 obtain⟨mb,h1,h2⟩:=I.mod.blt
 exact Calls.Name_function_global I.ok.kind hg (Calls.loadGlobal_builtin (by rw[I.ok.glob];exact I.mod.glob.keeps I.bk) hm (by rw[I.ok.blt];exact h1.keeps I.bk) ((h2 x hn).trans hv) h) hd
theorem uc {x:Str}{v:V}{u:Value}{pos:Pos}(hg:Gl X x)(hm:X.mg x=some u)(r:RelV v u)(hd:(x == ("__debug__" : Str))=false:=by decide):PE X (.Name x pos) (tC v):=
 fun _ _ _ H _ I h=>iH I hg hm ⟨v,H,I,r,h⟩ hd
theorem ud {x:Str}{v:V}{u:Value}{pos:Pos}(hg:Gl X x)(hm:X.mg x=none)(hv:bootBuiltins x=some u)(r:RelV v u)(hn:x≠"__name__":=by decide) (hd:(x == ("__debug__" : Str))=false:=by decide):PE X (.Name x pos) (tC v):=
 fun _ _ _ H _ I h=>dy I hg hm hv ⟨v,H,I,r,h⟩ hn hd
variable {a b:Expr}{ta tb:TE}{pos:Pos}
def PC (X:Cx)(op:CmpOp)(a b:Expr)(t:TE):Prop:=
 ∀ (pins:List (Addr×Obj)) (s:Shared) (σ:St) (H:Hp) (Q:VK),Inv X pins σ H s->t σ H Q->
  wpAny (model X.prog X.w) X.A (eval a X.env) (fun v E5=>wpAny (model X.prog X.w) X.A (eval b X.env) (fun u Lg=>wpAny (model X.prog X.w) X.A (compareOp op v u) (EP X pins σ Q) X.xe Lg) X.xe E5) X.xe s
def tB (t:TE):TT:=fun σ H Q=>t σ H fun x H1=>∃ c,x=.bl c/\Q c H1
theorem oM {op:CmpOp}{t:TE}(h:PC X op a b t)(h1:behindInMarks op b=false:=by first|exact Jp _ (by decide) (by decide)|rfl):PE X (.Compare a [op] [b] pos) t:=fun pins s σ H Q I hw=>wpAny_Compare1 (h pins s σ H Q I hw) h1
theorem oN {op:CmpOp}{t:TE}(h:PC X op a b t)(h1:behindInMarks op b=false:=by first|exact Jp _ (by decide) (by decide)|rfl):PT X (.Compare a [op] [b] pos) (tB t):=by
 intro pins s σ H Q I hw
 refine wpAny_isTrue_Compare1 (Fe (h pins s σ H _ I hw) fun v s1 h1=>Fe h1 fun u s2 h2=>Fe h2 fun c s3 ⟨x,H1,I1,r1,q1⟩=>?_) h1
 obtain⟨d,rfl,q⟩:=q1
 cases r1
 exact wpAny_truthy_bool ⟨H1,I1,q⟩
variable {tA Ou:TT}{rest:List Expr}
def AY (t u:TT):TT:=fun σ H Q=>t σ H fun c H1=>if c=true then u σ H1 Q else Q false H1
def Tr (t u:TT):TT:=fun σ H Q=>t σ H fun c H1=>if c=true then Q true H1 else u σ H1 Q
def Ec (t:TT):TT:=fun σ H Q=>t σ H fun c H1=>Q (!c) H1
theorem ue (ha:PT X a tA):PW X (.BoolOp .And [a] pos) tA:=by
 intro wh pins s σ H Q I h
 refine isTrue_and (Fe (ha pins s σ H Q I h) fun c s1 e=>?_)
 cases c with
 | true=>exact isTrue_and_nil e
 | false=>exact e
theorem yG (ha:PT X a tA):PW X (.BoolOp .Or [a] pos) tA:=by
 intro wh pins s σ H Q I h
 refine isTrue_or (Fe (ha pins s σ H Q I h) fun c s1 e=>?_)
 cases c with
 | false=>exact isTrue_or_nil e
 | true=>exact e
theorem yI (ha:PT X a tA)(hb:PW X (.BoolOp .And (b::rest) pos) Ou):PW X (.BoolOp .And (a::b::rest) pos) (AY tA Ou):=by
 intro wh pins s σ H Q I h
 refine isTrue_and (Fe (ha pins s σ H _ I h) fun c s1 ⟨H1,I1,q1⟩=>?_)
 cases c with
 | true=>exact hb wh pins s1 σ H1 Q I1 q1
 | false=>exact⟨H1,I1,q1⟩
theorem AZ (ha:PT X a tA)(hb:PW X (.BoolOp .Or (b::rest) pos) Ou):PW X (.BoolOp .Or (a::b::rest) pos) (Tr tA Ou):=by
 intro wh pins s σ H Q I h
 refine isTrue_or (Fe (ha pins s σ H _ I h) fun c s1 ⟨H1,I1,q1⟩=>?_)
 cases c with
 | true=>exact⟨H1,I1,q1⟩
 | false=>exact hb wh pins s1 σ H1 Q I1 q1
theorem yJ (ha:PT X a tA):PT X (.UnaryOp .Not a pos) (Ec tA):=by
 intro pins s σ H Q I h
 exact isTrue_not (ha pins s σ H (fun c H1=>Q (!c) H1) I h)
theorem oO {op}{t:TE}(h:PE X a t):PE X (.BoolOp op [a] pos) t:=fun pins s σ H Q I hw=>BoolOp_one (h pins s σ H Q I hw)
def Ts (t:TT)(ta tb:TE):TE:=fun σ H Q=>t σ H fun c H1=>if c=true then ta σ H1 Q else tb σ H1 Q
theorem jv {c:Expr}(hc:PT X c tA)(ha:PE X a ta)(hb:PE X b tb):PE X (.IfExp c a b pos) (Ts tA ta tb):=by
 intro pins s σ H Q I h
 refine wpAny_IfExp (Fe (hc pins s σ H _ I h) fun d s1 ⟨H1,I1,q1⟩=>?_)
 cases d with
 | true=>exact ha pins s1 σ H1 Q I1 q1
 | false=>exact hb pins s1 σ H1 Q I1 q1
end
def FR (K:PySem.W.Frag)(H:Hp)(a:Addr)(xs:List V):Prop:=
 Rd H a (.lst xs)∨
  ∃ (o:Obj) (its:Array Value) (n:Nat),K.lookup a=some o/\o.cls=.type "list"/\o.dict=none/\o.data=.seq its n/\its.size<=sizeLine/\Vals xs its.toList
def Gn (K:PySem.W.Frag)(H:Hp)(a:Addr)(xs:List V):Prop:=
 Rd H a (.tup xs)∨
  ∃ (o:Obj) (its:Array Value) (n:Nat),K.lookup a=some o/\o.cls=.type "tuple"/\o.data=.seq its n/\its.size<=sizeLine/\Vals xs its.toList
noncomputable def Ed:Value->Option V
 | .none=>some .EZ
 | .bool b=>some (.bl b)
 | .int i _=>some (.int i)
 | .str x _=>some (.str x)
 | .bytes b _=>some (.K' b)
 | .float b _=>some (.GU b)
 | .ref a=>some (.ref a)
 | .type n=>some (.ty n)
 | _=>none
theorem RelV.abs {x:V}{u:Value}(r:RelV x u):Ed u=some x:=by
 cases x with
 | EZ=>cases r;rfl
 | bl _=>cases r;rfl
 | int _=>obtain⟨t,rfl⟩:=r;rfl
 | str _=>obtain⟨t,rfl⟩:=r;rfl
 | K' _=>obtain⟨t,rfl⟩:=r;rfl
 | GU _=>obtain⟨t,rfl⟩:=r;rfl
 | ref _=>cases r;rfl
 | ty _=>cases r;rfl
theorem RelV.inj {x y:V}{u:Value}(r:RelV x u)(q:RelV y u):x=y:=Option.some.inj (r.abs.symm.trans q.abs)
theorem Vals.inj:∀ {xs ys:List V}{us:List Value},Vals xs us->Vals ys us->xs=ys
 | _,_,_,.nil,.nil=>rfl
 | _,_,_,.cons r t,.cons r' t'=>by rw[r.inj r',Vals.inj t t']
section
variable {X:Cx}{pins:List (Addr×Obj)}{σ:St}{H:Hp}{s:Shared}{a:Addr}{xs ys:List V}
theorem Gn.of {K:PySem.W.Frag}(h:H a=some (.tup xs)):Gn K H a xs:=.inl (.inl h)
theorem Inv.list (I:Inv X pins σ H s)(h:FR X.K H a xs):∃ its:List Value,Vals xs its/\PlainL s.heap a its.toArray/\xs.length<=sizeLine:=by
 rcases h with h|⟨o,its,n,hk,hc,hd,hs,hz,r⟩
 ·obtain⟨z,its,n,r,e⟩:=h.ok I.E7
  exact⟨its,r,⟨_,n,e,rfl,rfl,rfl⟩,z⟩
 ·refine⟨its.toList,r,⟨o,n,I.Hz a o hk,hc,hd,by simpa using hs⟩,?_⟩
  have e:=r.length
  simp only[Array.length_toList] at e
  omega
theorem Inv.tuple (I:Inv X pins σ H s)(h:Gn X.K H a xs):∃ its:List Value,Vals xs its/\IsTup s.heap a its.toArray/\xs.length<=sizeLine:=by
 rcases h with h|⟨o,its,n,hk,hc,hs,hz,r⟩
 ·obtain⟨z,its,r,p⟩:=h.ok I.E7
  exact⟨its,r,p,z⟩
 ·refine⟨its.toList,r,⟨o,I.Hz a o hk,hc,n,by simpa using hs⟩,?_⟩
  have e:=r.length
  simp only[Array.length_toList] at e
  omega
theorem Inv.FK (I:Inv X pins σ H s)(h:FR X.K H a xs)(h':FR X.K H a ys):xs=ys:=by
 obtain⟨its,r,⟨o,n,e,_,_,d⟩,_⟩:=I.list h
 obtain⟨its',r',⟨o',n',e',_,_,d'⟩,_⟩:=I.list h'
 rw[e] at e';cases e'
 rw[d] at d'
 injection d' with d1 _
 have:its=its':=by simpa using congrArg Array.toList d1
 subst this
 exact r.inj r'
theorem Inv.Gq (I:Inv X pins σ H s)(h:Gn X.K H a xs)(h':Gn X.K H a ys):xs=ys:=by
 obtain⟨its,r,⟨o,e,_,n,d⟩,_⟩:=I.tuple h
 obtain⟨its',r',⟨o',e',_,n',d'⟩,_⟩:=I.tuple h'
 rw[e] at e';cases e'
 rw[d] at d'
 injection d' with d1 _
 have:its=its':=by simpa using congrArg Array.toList d1
 subst this
 exact r.inj r'
end
section
variable {X:Cx}{pins:List (Addr×Obj)}{σ:St}{H:Hp}{s:Shared}{E:Value->Shared->Prop}
end
section
variable {X:Cx}{st:Stmt}{rest:List Stmt}{t u:TS}{e:Expr}{te:TE}{pos:Pos}
def oP:TS:=fun D σ H=>D.nx σ H
def Ee (t u:TS):TS:=fun D σ H=>t {D with nx:=u D} σ H
theorem lU:HR X [] oP:=fun _ _ σ H _ I h=>wpAny_execs_nil ⟨σ,H,I,h⟩
theorem jw (h1:PS X st t)(h2:HR X rest u):HR X (st::rest) (Ee t u):=by
 intro pins s σ H D I h
 refine wpAny_execs_cons (Fe (h1 pins s σ H {D with nx:=u D} I h) fun f s1 q=>?_)
 cases f with
 | next=>
  obtain⟨E4,H',I',q⟩:=q
  exact h2 pins s1 E4 H' D I' q
 | ret v=>exact q
 | brk=>exact q
 | cont=>exact q
def yL:TS:=fun D σ H=>D.bk σ H
def A1:TS:=fun D σ H=>D.ct σ H
theorem uf:PS X (.Pass pos) oP:=fun _ _ σ H _ I h=>wpAny_Pass ⟨σ,H,I,h⟩
theorem oQ:PS X (.Break pos) yL:=fun _ _ σ H _ I h=>wpAny_Break ⟨σ,H,I,h⟩
theorem jx:PS X (.Continue pos) A1:=fun _ _ σ H _ I h=>wpAny_Continue ⟨σ,H,I,h⟩
theorem Inv.quiet {pins:List (Addr×Obj)}{σ:St}{H:Hp}{s:Shared}(I:Inv X pins σ H s):interactive X.env=false:=by simp[interactive,I.ok.kind]
theorem yM {x j pos pos'}:PS X (.Expr (.Constant (.str x) j pos) pos') oP:=fun _ s σ H _ I h=>wpAny_Expr (Calls.Constant_str (show SP X _ _ .next {s with toks:=s.toks+1} from ⟨σ,H,I.tok _,h⟩)) I.quiet
def A2 (te:TE):TS:=fun D σ H=>te σ H fun _ H1=>D.nx σ H1
theorem eX (he:PE X e te)(hs:swapsWith e none pos.line X.env=pure false:=by rfl):PS X (.Expr e pos) (A2 te):=by
 intro pins s σ H D I h
 exact wpAny_Expr_any (Fe (he pins s σ H _ I h) fun v s1 ⟨x,H1,I1,r1,q1⟩=>⟨σ,H1,I1,q1⟩) I.quiet hs
def Ef (te:TE):TS:=fun D σ H=>te σ H D.rt
theorem yN (he:PE X e te):PS X (.Return (some e) pos) (Ef te):=by
 intro pins s σ H D I h
 exact wpAny_Return_some (Fe (he pins s σ H _ I h) fun v s1 ⟨x,H1,I1,r1,q1⟩=>⟨x,σ,H1,I1,r1,q1⟩)
def A3:TS:=fun D _ H=>D.rt .EZ H
theorem ug:PS X (.Return none pos) A3:=fun _ _ σ H _ I h=>wpAny_Return_none ⟨.EZ,σ,H,I,rfl,h⟩
def Eg (c:TT)(t u:TS):TS:=fun D σ H=>c σ H fun b H1=>if b=true then t D σ H1 else u D σ H1
theorem A4 {c:Expr}{a b:List Stmt}{tc:TT}(hc:PT X c tc)(ha:HR X a t)(hb:HR X b u):PS X (.If c a b pos) (Eg tc t u):=by
 intro pins s σ H D I h
 refine wpAny_If (Fe (hc pins s σ H _ I h) fun d s1 ⟨H1,I1,q1⟩=>?_)
 cases d with
 | true=>exact ha pins s1 σ H1 D I1 q1
 | false=>exact hb pins s1 σ H1 D I1 q1
def yO:TS:=fun _ _ _=>False
theorem oR:PS X st yO:=fun _ _ _ _ _ _ h=>h.elim
end
noncomputable abbrev TG:=V->St->Hp->(St->Hp->Prop)->Prop
noncomputable abbrev KG:=List V->St->Hp->(St->Hp->Prop)->Prop
def PG (X:Cx)(target:Expr)(t:TG):Prop:=
 ∀ (pins:List (Addr×Obj)) (s:Shared) (σ:St) (H:Hp) (v:V) (u:Value) (Q:St->Hp->Prop),Inv X pins σ H s->RelV v u->t v σ H Q->
  wpAny (model X.prog X.w) X.A (assign target X.env u) (fun _ s'=>∃ E4 H',Inv X pins E4 H' s'/\Q E4 H') X.xe s
def M0 (X:Cx)(ts:List Expr)(t:KG):Prop:=
 ∀ (pins:List (Addr×Obj)) (s:Shared) (σ:St) (H:Hp) (vs:List V) (us:List Value) (Q:St->Hp->Prop),Inv X pins σ H s->Vals vs us->t vs σ H Q->
  wpAny (model X.prog X.w) X.A (assignInOrder ((assignEach ts X.env).map (·.2)) us) (fun _ s'=>∃ E4 H',Inv X pins E4 H' s'/\Q E4 H') X.xe s
section
variable {X:Cx}{pos:Pos}
def oT (i:Nat):TG:=fun v σ H Q=>Q (σ.set i (some v)) H
theorem uh {i:Nat}{x:Str}(hN:X.N.Nodup)(hi:X.N[i]? = some x)(hx:Loc X.env.scope x)(hf:X.fn x=true∨X.env.scope.names.lookup x=some .local:=by first|exact .inl rfl|exact .inr rfl|assumption):PG X (.Name x pos) (oT i):=by
 intro pins s σ H v u Q I r h
 exact wpAny_assign_Name (ju I hN hi hx r (fun s' I'=>⟨_,H,I',h⟩) hf)
def A5:KG:=fun vs σ H Q=>vs=[]/\Q σ H
def vX (t:TG)(u:KG):KG:=fun vs σ H Q=>∃ v r,vs=v::r/\t v σ H fun E4 H'=>u r E4 H' Q
theorem ui:M0 X [] A5:=by
 intro pins s σ H vs us Q I r h
 obtain⟨e,h⟩:=h
 subst e
 cases r
 exact assignInOrder_nil ⟨σ,H,I,h⟩
theorem oU {e:Expr}{es:List Expr}{t:TG}{u:KG}(h1:PG X e t)(h2:M0 X es u)
  (hs:(assignEach (e::es) X.env).map (·.2)=assign e X.env::(assignEach es X.env).map (·.2):=by rfl):M0 X (e::es) (vX t u):=by
 intro pins s σ H vs us Q I r h
 obtain⟨v,vr,e1,h⟩:=h
 subst e1
 cases r with
 | cons r rr=>
  rw[hs]
  refine assignInOrder_cons (Fe (h1 pins s σ H _ _ _ I r h) fun _ s1 ⟨Lh,H1,I1,q1⟩=>?_)
  exact h2 pins s1 Lh H1 _ _ Q I1 rr q1
def yQ (te:TE)(g:TG):TS:=fun D σ H=>te σ H fun x H1=>g x σ H1 D.nx
theorem yR {tg e:Expr}{te:TE}{g:TG}(he:PE X e te)(hg:PG X tg g)(hs:swapsWithSole [tg] e pos.line X.env=pure false:=by rfl)(hw:swappedStores [tg] e X.env=pure none:=by rfl)
  (h1:(assignEach [tg] X.env).map (·.2)=[assign tg X.env]:=by rfl):PS X (.Assign [tg] e pos) (yQ te g):=by
 intro pins s σ H D I h
 refine wpAny_Assign_stores (Fe (he pins s σ H _ I h) fun v s1 ⟨x,H1,I1,r1,q1⟩=>?_) hs hw
 rw[h1]
 exact Fe (hg pins s1 σ H1 x v _ I1 r1 q1) fun _ s2 q=>q
theorem oV {i:Nat}{x:Str}{e:Expr}{te:TE}{pos':Pos}(hN:X.N.Nodup)(hi:X.N[i]? = some x)(hx:Loc X.env.scope x)(he:PE X e te)(hs:swapsWith e (some (.Name x pos')) pos.line X.env=pure false:=by rfl)(hf:X.fn x=true∨X.env.scope.names.lookup x=some .local:=by first|exact .inl rfl|exact .inr rfl|assumption) :
  PS X (.Assign [.Name x pos'] e pos) (yQ te (oT i)):=by
 intro pins s σ H D I h
 refine wpAny_Assign_Name (Fe (he pins s σ H _ I h) fun v s1 ⟨y,H1,I1,r1,q1⟩=>?_) hs
 exact ju I1 hN hi hx r1 (fun s2 I2=>⟨_,H1,I2,q1⟩) hf
end
section
variable {X:Cx}{pos:Pos}
def yS (c:TT)(tb:TS):TS:=fun D σ H=>∃ W:Nat->St->Hp->Prop,(∃ m,W m σ H)/\∀ m σ H,W m σ H->
 c σ H fun b H1=>if b=true then ∃ N:St->Hp->Prop,(∀ E4 H',N E4 H'->∃ m',m' < m/\W m' E4 H')/\tb {D with nx:=N,ct:=N,bk:=D.nx} σ H1 else D.nx σ H1
theorem oW {c:Expr}{body:List Stmt}{tc:TT}{tb:TS}(hp:PassesOwn (model X.prog X.w) X.A X.env X.xe)(hc:PT X c tc)(hb:HR X body tb):PS X (.While c body [] pos) (yS tc tb):=by
 intro pins s σ H D I h
 obtain⟨W,⟨m0,w0⟩,turn⟩:=h
 refine wpAny_While (codeAny_whileLoop (fun n s'=>∃ E4 H',Inv X pins E4 H' s'/\W n E4 H') ?_ m0 ⟨σ,H,I,w0⟩)
 rintro n s1 ⟨Lh,H1,I1,w1⟩
 refine wpAny_passesOwn hp (Fe (hc pins s1 Lh H1 _ I1 (turn n Lh H1 w1)) fun b s2 ⟨H2,I2,q2⟩=>?_)
 cases b with
 | true=>
  obtain⟨N,hN,q2⟩:=q2
  rw[if_pos rfl]
  refine wpAny_passesOwn hp (Fe (hb pins s2 Lh H2 _ I2 q2) fun f s3 q3=>?_)
  cases f with
  | next=>
   obtain⟨Jq,H3,I3,n3⟩:=q3
   obtain⟨m',hm,w3⟩:=hN Jq H3 n3
   exact⟨m',hm,Jq,H3,I3,w3⟩
  | cont=>
   obtain⟨Jq,H3,I3,n3⟩:=q3
   obtain⟨m',hm,w3⟩:=hN Jq H3 n3
   exact⟨m',hm,Jq,H3,I3,w3⟩
  | brk=>exact q3
  | ret v=>exact q3
 | false=>
  rw[if_neg Bool.false_ne_true]
  exact wpAny_execs_nil ⟨Lh,H2,I2,q2⟩
end
structure It where
 go:Nat->Hp->Prop
 J4:Nat->Hp->V->Hp->Prop
 stop:Nat->Hp->Prop
def dh (X:Cx)(pins:List (Addr×Obj))(H:Hp)(b:Addr):Prop:=
 H b=none/\b≠X.env.locals/\b∉X.fs/\(b∈X.ex∨X.Fx.heap.objs.size<=b)/\(∀ x c,X.env.cells.lookup x=some c->c≠b)/\∀ p∈X.pn++pins,p.1≠b
theorem Inv.IU {X:Cx}{pins:List (Addr×Obj)}{σ:St}{H H':Hp}{s:Shared}{b:Addr}(I:Inv X pins σ H s)(hb:s.heap.objs.size<=b)(hn:H' b=none):dh X pins H' b:=by
 refine⟨hn,Nat.ne_of_gt (Nat.lt_of_lt_of_le I.lt hb),I.Pb hb,.inr (Nat.le_trans I.sz hb),fun x c e z=>?_,fun p hp z=>?_⟩
 ·obtain⟨v,q⟩:=I.cell x c e
  exact absurd (Nat.lt_of_lt_of_le q.lt (by rw[z];exact hb)) (Nat.lt_irrefl _)
 ·exact absurd (Nat.lt_of_lt_of_le (Heap.lt_size (I.pin p hp).1) (by rw[z];exact hb)) (Nat.lt_irrefl _)
structure Turn (P:Program)(w:World)(K:PySem.W.Frag)(tg:Expr)(J:It)(fp:List Addr)(it:Addr)(tn:Nat->Heap->Prop):Prop where
 mem:it∈fp
 obj:∀ i h,tn i h->∀ b∈fp,∃ o,h.get? b=some o/\∀ v,o.data≠.cell v
 keep:∀ i h h',tn i h->(∀ b∈fp,∀ o,h.get? b=some o->h'.get? b=some o)->tn i h'
 item:∀ (X:Cx),X.prog=P->X.w=w->X.K=K->X.calm=true->∀ (i:Nat) (pins:List (Addr×Obj)) (s:Shared) (σ:St) (H:Hp) (E:Value->Shared->Prop),Inv X pins σ H s->(∀ b∈fp,dh X pins H b)->tn i s.heap->J.go i H->
  wpAny (model P w) X.A (pyNext (.ref it)) (fun r s1=>∃ u,r=some u/\
   wpAny (model P w) X.A (letOwnedTupleGo tg (.ref it) u) (fun _ s2=>∃ x H',Inv X pins σ H' s2/\RelV x u/\J.J4 i H x H'/\tn (i+1) s2.heap/\∀ b∈fp,H' b=none) E s1) E s
 done:∀ (X:Cx),X.prog=P->X.w=w->X.K=K->X.calm=true->∀ (i:Nat) (pins:List (Addr×Obj)) (s:Shared) (σ:St) (H:Hp) (E:Value->Shared->Prop),Inv X pins σ H s->(∀ b∈fp,dh X pins H b)->tn i s.heap->J.stop i H->
  wpAny (model P w) X.A (pyNext (.ref it)) (fun r s1=>r=none/\Inv X pins σ H s1) E s
 self:∀ (A:Around) (i:Nat) (s:Shared) (Q:Value->Shared->Prop) (E:Value->Shared->Prop),tn i s.heap->Q (.ref it) s->wpAny (model P w) A (pyIter (.ref it)) Q E s
noncomputable abbrev TI:=St->Hp->(It->Hp->Prop)->Prop
def Ml (X:Cx)(pins:List (Addr×Obj))(σ:St)(tg:Expr)(R:It->Hp->Prop)(Ov:Value)(s2:Shared):Prop:=
 ∃ (it:Addr) (fp:List Addr) (tn:Nat->Heap->Prop) (J:It) (H':Hp),Ov=.ref it/\Inv X pins σ H' s2/\Turn X.prog X.w X.K tg J fp it tn/\tn 0 s2.heap/\(∀ b∈fp,dh X pins H' b)/\R J H'
def PI (X:Cx)(tg iter:Expr)(wi:TI):Prop:=
 ∀ (pins:List (Addr×Obj)) (s:Shared) (σ:St) (H:Hp) (R:It->Hp->Prop),Inv X pins σ H s->wi σ H R->
  wpAny (model X.prog X.w) X.A (eval iter X.env) (fun v s1=>wpAny (model X.prog X.w) X.A (pyIter v) (Ml X pins σ tg R) X.xe s1) X.xe s
theorem lV {M : Model}{A : Around}{E : Value -> Shared -> Prop}{s : Shared}{tg : Expr}{it : Addr}{u : Value}{o : Obj}{n : String}{vs : Array Value}{Q : Unit -> Shared -> Prop}(ho : s.heap.get? it = some o)(hc : o.cls = .type n)(hd : o.data = .fields vs)
    (hn : ["enumerate", "zip", "dict_itemiterator", "dict_reverseitemiterator", "odict_iterator", "itertools.zip_longest", "itertools.pairwise"].contains n = false) (hQ : Q () s) : wpAny M A (letOwnedTupleGo tg (.ref it) u) Q E s := by
  unfold letOwnedTupleGo
  cases tg <;> first
    | exact wpAny_pure hQ
    | (cases u <;> first
        | exact wpAny_pure hQ
        | (refine wpAny_bind (wpAny_load ho ?_)
           rw [hc, hd]
           show wpAny M A (if (["enumerate", "zip", "dict_itemiterator", "dict_reverseitemiterator", "odict_iterator", "itertools.zip_longest", "itertools.pairwise"].contains n&&vs[0]? == some (rawInt _)) = true then _ else _) Q E s
           rw [if_neg (by intro h; rw [hn, Bool.false_and] at h; cases h)]
           exact wpAny_pure hQ))
noncomputable def Ox (K:PySem.W.Frag)(a:Addr):It:=
 ⟨fun i H=>∃ xs x,FR K H a xs/\xs[i]? = some x,fun i H x H'=>H'=H/\∀ xs,FR K H a xs->xs[i]? = some x,fun i H=>∃ xs,FR K H a xs/\xs.length<=i⟩
noncomputable def Pe (K:PySem.W.Frag)(a:Addr):It:=
 ⟨fun i H=>∃ xs x,Gn K H a xs/\xs[i]? = some x,fun i H x H'=>H'=H/\∀ xs,Gn K H a xs->xs[i]? = some x,fun i H=>∃ xs,Gn K H a xs/\xs.length<=i⟩
noncomputable def M3 (lo:Int)(n:Nat):It:=⟨fun i _=>i < n,fun i H x H'=>H'=H/\x=.int (lo+i),fun i _=>n<=i⟩
theorem nM {P:Program}{w:World}{K:PySem.W.Frag}{tg:Expr}(a it:Addr):Turn P w K tg (Ox K a) [it] it (fun i h=>h.IsListIter it a i) where
 mem:=by simp
 obj:=fun i h st b hb=>by
  have e:b=it:=by simpa using hb
  subst e
  obtain⟨o,e,c,d⟩:=st
  exact⟨o,e,fun v z=>by rw[d] at z;cases z⟩
 keep:=fun i h h' st k=>st.at fun o e=>k it (by simp) o e
 item:=by
  intro X hP hw hK hc i pins s σ H E I hf st hg
  subst hP hw hK
  obtain⟨xs,x,hq,hx⟩:=hg
  obtain⟨its,rv,p,hz⟩:=I.list hq
  obtain⟨u,hu,ru⟩:=rv.get hx
  obtain⟨f0,f1,f2,f3,f4,f5⟩:=hf it (by simp)
  refine wpAny_pyNext_list_item st p.isList (x:=u) (by simpa using hu) fun h' Jj sb=>?_
  have I1:Inv X pins σ H {s with heap:=h'}:=I.turned (t':=s.toks) (fun b o hb e=>(sb.2 b hb).trans e) f0 f1 f3 f4 f5
  obtain⟨o,e,c,d⟩:=id Jj
  exact⟨u,rfl,lV (s:={s with heap:=h'}) e c d (by decide) ⟨x,H,I1,ru,⟨rfl,fun ys hy=>by rw[I.FK hy hq];exact hx⟩,Jj,fun b hb=>(hf b hb).1⟩⟩
 done:=by
  intro X hP hw hK hc i pins s σ H E I hf st hg
  subst hP hw hK
  obtain⟨xs,hq,hx⟩:=hg
  obtain⟨its,rv,p,hz⟩:=I.list hq
  obtain⟨f0,f1,f2,f3,f4,f5⟩:=hf it (by simp)
  have hl:=rv.length
  exact wpAny_pyNext_list_end (I.ok.hd hc) st p.isList (by simp;omega) fun h' eb=>⟨rfl,I.turned (t':=s.toks) (fun b o hb e=>eb b o hb e) f0 f1 f3 f4 f5⟩
 self:=fun _ _ _ _ _ st h=>wpAny_pyIter_listiter st h
theorem kC {P:Program}{w:World}{K:PySem.W.Frag}{tg:Expr}(a it:Addr):Turn P w K tg (Pe K a) [it] it (fun i h=>h.IsTupleIter it a i) where
 mem:=by simp
 obj:=fun i h st b hb=>by
  have e:b=it:=by simpa using hb
  subst e
  obtain⟨o,e,c,d⟩:=st
  exact⟨o,e,fun v z=>by rw[d] at z;cases z⟩
 keep:=fun i h h' st k=>st.at fun o e=>k it (by simp) o e
 item:=by
  intro X hP hw hK hc i pins s σ H E I hf st hg
  subst hP hw hK
  obtain⟨xs,x,hq,hx⟩:=hg
  obtain⟨its,rv,p,hz⟩:=I.tuple hq
  obtain⟨u,hu,ru⟩:=rv.get hx
  obtain⟨f0,f1,f2,f3,f4,f5⟩:=hf it (by simp)
  refine wpAny_pyNext_tuple_item st (show s.heap.IsTuple a its.toArray from p) (x:=u) (by simpa using hu) fun h' Jj sb=>?_
  have I1:Inv X pins σ H {s with heap:=h'}:=I.turned (t':=s.toks) (fun b o hb e=>(sb.2 b hb).trans e) f0 f1 f3 f4 f5
  obtain⟨o,e,c,d⟩:=id Jj
  exact⟨u,rfl,lV (s:={s with heap:=h'}) e c d (by decide) ⟨x,H,I1,ru,⟨rfl,fun ys hy=>by rw[I.Gq hy hq];exact hx⟩,Jj,fun b hb=>(hf b hb).1⟩⟩
 done:=by
  intro X hP hw hK hc i pins s σ H E I hf st hg
  subst hP hw hK
  obtain⟨xs,hq,hx⟩:=hg
  obtain⟨its,rv,p,hz⟩:=I.tuple hq
  obtain⟨f0,f1,f2,f3,f4,f5⟩:=hf it (by simp)
  have hl:=rv.length
  exact wpAny_pyNext_tuple_end (I.ok.hd hc) st (show s.heap.IsTuple a its.toArray from p) (by simp;omega) fun h' eb=>⟨rfl,I.turned (t':=s.toks) (fun b o hb e=>eb b o hb e) f0 f1 f3 f4 f5⟩
 self:=fun _ _ _ _ _ st h=>wpAny_pyIter_tupleiter st h
theorem kD {P:Program}{w:World}{K:PySem.W.Frag}{tg:Expr}(it:Addr)(lo:Int)(n:Nat):Turn P w K tg (M3 lo n) [it] it (fun i h=>IsRangeIter h it (lo+(i:Nat)*1) ((n:Int) - (i:Nat)) 1) where
 mem:=by simp
 obj:=fun i h st b hb=>by
  have e:b=it:=by simpa using hb
  subst e
  exact⟨_,st,fun v z=>by
   have z':Data.fields _=Data.cell v:=z
   cases z'⟩
 keep:=fun i h h' st k=>k it (by simp) _ st
 item:=by
  intro X hP hw hK hc i pins s σ H E I hf st hg
  subst hP hw hK
  obtain⟨f0,f1,f2,f3,f4,f5⟩:=hf it (by simp)
  have W:=Walks.range (prog:=X.prog) (w:=X.w) (I.ok.hd hc) it lo 1 n
  refine W.item i s _ _ hg st fun v h' tk hv Jj kk=>?_
  obtain⟨t,rfl⟩:=hv
  have I1:Inv X pins σ H {s with heap:=h',toks:=tk}:=I.turned (fun b o hb e=>kk b o (by simpa using hb) e) f0 f1 f3 f4 f5
  refine⟨_,rfl,lV (s:={s with heap:=h',toks:=tk}) (n:="range_iterator") Jj rfl rfl (by decide) ⟨.int (lo+i),H,I1,⟨t,?_⟩,⟨rfl,rfl⟩,Jj,fun b hb=>(hf b hb).1⟩⟩
  rw[Int.mul_one]
 done:=by
  intro X hP hw hK hc i pins s σ H E I hf st hg
  subst hP hw hK
  obtain⟨f0,f1,f2,f3,f4,f5⟩:=hf it (by simp)
  exact wpAny_pyNext_range_end (I.ok.hd hc) st (by have:n<=i:=hg;omega) fun h' eb=>⟨rfl,I.turned (t':=s.toks) (fun b o hb e=>eb b o hb e) f0 f1 f3 f4 f5⟩
 self:=fun _ _ _ _ _ st h=>wpAny_pyIter_rangeiter st h
section
variable {X:Cx}{tg:Expr}
theorem oX {pins:List (Addr×Obj)}{σ:St}{H:Hp}{s:Shared}{R:It->Hp->Prop}{E:Value->Shared->Prop}{lo hi:Int}{t u v:Tok}{tk:Nat}(I:Inv X pins σ H s)(h1 : -(2 ^ 62)<=lo)(h2:lo < 2 ^ 62)(h3 : -(2 ^ 62)<=hi)(h4:hi < 2 ^ 62)
  (q:R (M3 lo (hi - lo).toNat) H):wpAny (model X.prog X.w) X.A (pyIter (.ref s.heap.objs.size)) (Ml X pins σ tg R) E {s with heap:=s.heap.push {cls:=.type "range",data:=.fields #[.int lo t,.int hi u,.int 1 v]},toks:=tk}:=by
 refine wpAny_pyIter_range (IsRange.new ..) (small_one h1 h2 h3 h4) ?_
 have I1:Inv X pins σ H {s with heap:=s.heap.push {cls:=.type "range",data:=.fields #[.int lo t,.int hi u,.int 1 v]},toks:=tk}:=I.kept fun b o e=>Heap.get?_push_of_some _ e
 refine⟨(s.heap.push {cls:=.type "range",data:=.fields #[.int lo t,.int hi u,.int 1 v]}).objs.size,[(s.heap.push {cls:=.type "range",data:=.fields #[.int lo t,.int hi u,.int 1 v]}).objs.size],_,_,H,rfl,
  I1.kept (t':=tk) fun b o e=>Heap.get?_push_of_some _ e,kD _ lo (hi - lo).toNat,?_,fun b hb=>?_,q⟩
 ·have e1:lo+((0:Nat):Int)*1=lo:=by simp
  have e2:(((hi - lo).toNat:Nat):Int) - ((0:Nat):Int)=Builtin.Range.rangeSize lo hi 1:=by rw[rangeSize_one];split<;>omega
  show IsRangeIter _ _ (lo+((0:Nat):Int)*1) ((((hi - lo).toNat:Nat):Int) - ((0:Nat):Int)) 1
  rw[e1,e2]
  exact Heap.get?_push_size _ rfl
 ·have e:b=(s.heap.push {cls:=.type "range",data:=.fields #[.int lo t,.int hi u,.int 1 v]}).objs.size:=by simpa using hb
  subst e
  exact I1.IU (Nat.le_refl _) (I1.E7.fresh (Nat.le_refl _))
def A6 (ta:TA):TI:=fun σ H R=>ta σ H fun vs H1=>∃ j:Int,vs=[.int j]/\-(2 ^ 62)<=j/\j < 2 ^ 62/\R (M3 0 j.toNat) H1
theorem gI {a:Expr}{ta:TA}{p pos:Pos}(hg:Gl X "range") (hm:X.mg "range" = none) (ha:PA X [a] ta) (hs:starEach [a] X.env=[(false,eval a X.env)]:=by rfl):PI X tg (.Call (.Name "range" p) [a] [] pos) (A6 ta):=by
 intro pins s σ H R I h
 refine Call_ (dy I hg hm boot_range (PyProof.Rows.callWith_type1 (Fe (ha pos pins s σ H _ I h) fun us s1 ⟨vs,H1,I1,r1,q1⟩=>?_) hs rfl))
 obtain⟨j,e,q1,q2,q⟩:=q1
 subst e
 cases r1 with
 | cons r rr=>
  cases rr
  obtain⟨t,rfl⟩:=r
  exact call_range_1 (oX I1 (by omega) (by omega) q1 q2 (by simpa using q))
def Eh (wi:TI)(g:TG)(tb:TS):TS:=fun D σ H=>wi σ H fun J H1=>∃ W:Nat->Nat->St->Hp->Prop,(∃ m,W 0 m σ H1)/\∀ i m σ H,W i m σ H->
 (J.stop i H/\D.nx σ H)∨(J.go i H/\∃ N:St->Hp->Prop,(∀ E4 H',N E4 H'->∃ m',m' < m/\W (i+1) m' E4 H')/\∀ x H',J.J4 i H x H'->g x σ H' fun HA H2=>tb {D with nx:=N,ct:=N,bk:=D.nx} HA H2)
noncomputable def d9 (fp:List Addr)(h:Heap):List (Addr×Obj):=fp.filterMap fun b=>(h.get? b).map fun o=>(b,o)
theorem cH {fp:List Addr}{h:Heap}{b:Addr}{o:Obj}(hb:b∈fp)(e:h.get? b=some o):(b,o)∈d9 fp h:=List.mem_filterMap.mpr ⟨b,hb,by rw[e];rfl⟩
theorem nN {fp:List Addr}{h:Heap}{p:Addr×Obj}(hp:p∈d9 fp h):p.1∈fp/\h.get? p.1=some p.2:=by
 obtain⟨b,hb,e⟩:=List.mem_filterMap.mp hp
 cases q:h.get? b with
 | none=>rw[q] at e;cases e
 | some o=>
  rw[q] at e
  have e':(b,o)=p:=Option.some.inj e
  subst e'
  exact⟨hb,q⟩
theorem Inv.pinned {pins:List (Addr×Obj)}{σ:St}{H:Hp}{s:Shared}{fp:List Addr}(I:Inv X pins σ H s)(hf:∀ b∈fp,dh X pins H b)(ho:∀ b∈fp,∃ o,s.heap.get? b=some o/\∀ v,o.data≠.cell v):Inv X (pins++d9 fp s.heap) σ H s:=
 I.Io fun p hp=>(List.mem_append.mp hp).elim (fun z=>I.pin p (List.mem_append_right _ z)) fun z=>by
  obtain⟨hb,e⟩:=nN z
  obtain⟨f0,f1,f2,_⟩:=hf p.1 hb
  obtain⟨o,e',d⟩:=ho p.1 hb
  rw[e] at e';cases e'
  exact⟨e,f0,f1,f2,d⟩
theorem Inv.Gf {pins pl:List (Addr×Obj)}{σ:St}{H:Hp}{s:Shared}(I:Inv X (pins++pl) σ H s):Inv X pins σ H s:=I.Io fun p hp=>I.pin p (List.mem_append_right _ (List.mem_append_left _ hp))
theorem oY {iter:Expr}{body:List Stmt}{wi:TI}{g:TG}{tb:TS}{pos:Pos}(hp:PassesOwn (model X.prog X.w) X.A X.env X.xe)(hc:X.calm=true)(hi:PI X tg iter wi)(hg:PG X tg g)(hb:HR X body tb)
  (hs:∀ x,foldedSetIterable iter X.env x=pure x:=by intro _;rfl):PS X (.For tg iter body [] pos) (Eh wi g tb):=by
 intro pins s σ H D I h
 refine wpAny_For (Fe (hi pins s σ H _ I h) fun v s1 h1=>Fe h1 fun Ov s2 h2=>?_) hs
 obtain⟨it,fp,tn,J,H2,e,I2,T,KH,f2,W,⟨m0,w0⟩,turn⟩:=h2
 subst e
 -- Pf stays true of Li Lj objects through Li loop
 have HY:∀ {H':Hp},(∀ b∈fp,H' b=none)->∀ b∈fp,dh X pins H' b:=fun hn b hb=>⟨hn b hb,(f2 b hb).2⟩
 refine codeAny_forLoop_any (fun n s'=>∃ i E4 H',Inv X pins E4 H' s'/\tn i s'.heap/\(∀ b∈fp,H' b=none)/\W i n E4 H') ?_ m0 ⟨0,σ,H2,I2,KH,fun b hb=>(f2 b hb).1,w0⟩
 rintro n s3 ⟨i,Jq,H3,I3,Q8,Q9,w3⟩
 rcases turn i n Jq H3 w3 with ⟨stop,qn⟩|⟨go,N,hN,step⟩
 ·refine wpAny_passesOwn hp (Fe (T.done X rfl rfl rfl hc i pins s3 Jq H3 X.xe I3 (HY Q9) Q8 stop) fun r s4 ⟨hr,I4⟩=>?_)
  subst hr
  exact wpAny_execs_nil ⟨Jq,H3,I4,qn⟩
 ·refine wpAny_passesOwn hp (Fe (T.item X rfl rfl rfl hc i pins s3 Jq H3 X.xe I3 (HY Q9) Q8 go) fun r s4 ⟨u,hr,h4⟩=>?_)
  subst hr
  refine wpAny_passesOwn hp (Fe h4 fun _ s5 ⟨x,H5,I5,r5,y5,M4,Pg⟩=>?_)
  have Tt:=I5.pinned (HY Pg) (T.obj _ _ M4)
  refine wpAny_passesOwn hp (Fe (hg _ s5 Jq H5 x u _ Tt r5 (step x H5 y5)) fun _ s6 ⟨Lk,H6,I6,q6⟩=>?_)
  refine wpAny_passesOwn hp (Fe (hb _ s6 Lk H6 _ I6 q6) fun f s7 q7=>?_)
  have again:∀ {Jr:St}{H7:Hp},Inv X (pins++d9 fp s5.heap) Jr H7 s7->N Jr H7->∃ m,m < n/\∃ i E4 H',Inv X pins E4 H' s7/\tn i s7.heap/\(∀ b∈fp,H' b=none)/\W i m E4 H':=fun {Jr H7} I7 n7=>by
   obtain⟨m',hm,w7⟩:=hN Jr H7 n7
   refine⟨m',hm,i+1,Jr,H7,I7.Gf,T.keep _ _ _ M4 fun b hb o e=>(I7.pin (b,o) (List.mem_append_right _ (List.mem_append_right _ (cH hb e)))).1,fun b hb=>?_,w7⟩
   obtain⟨o,e,d⟩:=T.obj _ _ M4 b hb
   exact(I7.pin (b,o) (List.mem_append_right _ (List.mem_append_right _ (cH hb e)))).2.1
  cases f with
  | next=>obtain⟨Jr,H7,I7,n7⟩:=q7;exact again I7 n7
  | cont=>obtain⟨Jr,H7,I7,n7⟩:=q7;exact again I7 n7
  | brk=>obtain⟨Jr,H7,I7,q7⟩:=q7;exact⟨Jr,H7,I7.Gf,q7⟩
  | ret v=>obtain⟨x7,Jr,H7,I7,r7,q7⟩:=q7;exact⟨x7,Jr,H7,I7.Gf,r7,q7⟩
end
noncomputable abbrev R2:=V->V->Hp->VK->Prop
def HS (X:Cx)(f:Value->Value->Sem Value)(r:R2):Prop:=
 ∀ (pins:List (Addr×Obj)) (s:Shared) (σ:St) (H:Hp) (x y:V) (v u:Value) (Q:VK),Inv X pins σ H s->RelV x v->RelV y u->r x y H Q->
  wpAny (model X.prog X.w) X.A (f v u) (EP X pins σ Q) X.xe s
def Ph (X:Cx)(f:Value->Sem Value)(r:V->Hp->VK->Prop):Prop:=
 ∀ (pins:List (Addr×Obj)) (s:Shared) (σ:St) (H:Hp) (x:V) (v:Value) (Q:VK),Inv X pins σ H s->RelV x v->r x H Q->
  wpAny (model X.prog X.w) X.A (f v) (EP X pins σ Q) X.xe s
def bL (X:Cx)(f:Value)(r:List V->Hp->VK->Prop):Prop:=
 ∀ (pins:List (Addr×Obj)) (s:Shared) (σ:St) (H:Hp) (xs:List V) (us:List Value) (Q:VK),Inv X pins σ H s->Vals xs us->r xs H Q->
  wpAny (model X.prog X.w) X.A (call f us) (EP X pins σ Q) X.xe s
def Ei (X:Cx)(r:V->Hp->(Bool->Hp->Prop)->Prop):Prop:=
 ∀ (pins:List (Addr×Obj)) (s:Shared) (σ:St) (H:Hp) (x:V) (v:Value) (Q:Bool->Hp->Prop),Inv X pins σ H s->RelV x v->r x H Q->
  wpAny (model X.prog X.w) X.A (truthy v) (TP X pins σ Q) X.xe s
def Oy (r:R2)(ta tb:TE):TE:=fun σ H Q=>ta σ H fun x H1=>tb σ H1 fun y H2=>r x y H2 Q
def Tu (r:V->Hp->VK->Prop)(ta:TE):TE:=fun σ H Q=>ta σ H fun x H1=>r x H1 Q
noncomputable def rI (C:Int->Int->Prop)(g:Int->Int->V):R2:=fun x y H Q=>∃ i j,x=.int i/\y=.int j/\C i j/\Q (g i j) H
noncomputable def Pj (g:Int->Int->V):R2:=fun x y H Q=>∃ i j,x=.int i/\y=.int j/\Q (g i j) H
def rU (g:Int->V):V->Hp->VK->Prop:=fun x H Q=>∃ i,x=.int i/\Q (g i) H
section
variable {X:Cx}{a b c:Expr}{ta tb tc:TE}{pos:Pos}
theorem yT (ha:PE X a ta)(hb:PE X b tb){pins:List (Addr×Obj)}{s:Shared}{σ:St}{H:Hp}{R:V->V->Hp->Prop}(I:Inv X pins σ H s)
  (h:ta σ H fun x H1=>tb σ H1 fun y H2=>R x y H2) {Q:Value->Shared->Prop}{f:Value->Value->Sem Value}
  (hf:∀ v u s2 x y H2,Inv X pins σ H2 s2->RelV x v->RelV y u->R x y H2->wpAny (model X.prog X.w) X.A (f v u) Q X.xe s2) :
  wpAny (model X.prog X.w) X.A (eval a X.env) (fun v E5=>wpAny (model X.prog X.w) X.A (eval b X.env) (fun u Lg=>wpAny (model X.prog X.w) X.A (f v u) Q X.xe Lg) X.xe E5) X.xe s:=by
 refine Fe (ha pins s σ H _ I h) fun v s1 ⟨x,H1,I1,r1,q1⟩=>?_
 refine Fe (hb pins s1 σ H1 _ I1 q1) fun u s2 ⟨y,H2,I2,r2,q2⟩=>?_
 exact hf v u s2 x y H2 I2 r1 r2 q2
theorem vY {op:Operator}{r:R2}(ho:HS X (binaryOp op) r)(ha:PE X a ta)(hb:PE X b tb):PE X (.BinOp a op b pos) (Oy r ta tb):=by
 intro pins s σ H Q I h
 exact wpAny_BinOp (yT ha hb I h fun v u s2 x y H2 I2 rx ry q=>ho pins s2 σ H2 x y v u Q I2 rx ry q)
theorem A7 {op:UnaryOp}{r:V->Hp->VK->Prop}(ho:Ph X (unaryOp op) r)(ha:PE X a ta):PE X (.UnaryOp op a pos) (Tu r ta):=by
 intro pins s σ H Q I h
 exact UnaryOp_ (Fe (ha pins s σ H _ I h) fun v s1 ⟨x,H1,I1,r1,q1⟩=>ho pins s1 σ H1 x v Q I1 r1 q1)
theorem Oz {f:Value->Value->Sem Value}{C:Int->Int->Prop}{g:Int->Int->Int}
  (rule:∀ (i j:Int) (t u:Tok) (s:Shared) (Q:Value->Shared->Prop) (E:Value->Shared->Prop),C i j->Q (.int (g i j) s.toks) {s with toks:=s.toks+1}->wpAny (model X.prog X.w) X.A (f (.int i t) (.int j u)) Q E s) :
  HS X f (rI C fun i j=>.int (g i j)):=by
 intro pins s σ H x y v u Q I rx ry h
 obtain⟨i,j,rfl,rfl,hc,q⟩:=h
 obtain⟨t,rfl⟩:=rx
 obtain⟨t',rfl⟩:=ry
 exact rule i j t t' s _ _ hc ⟨.int (g i j),H,I.tok _,⟨_,rfl⟩,q⟩
theorem A8 {f:Value->Value->Sem Value}{g:Int->Int->Int}
  (rule:∀ (i j:Int) (t u:Tok) (s:Shared) (Q:Value->Shared->Prop) (E:Value->Shared->Prop),Q (.int (g i j) s.toks) {s with toks:=s.toks+1}->wpAny (model X.prog X.w) X.A (f (.int i t) (.int j u)) Q E s) :
  HS X f (Pj fun i j=>.int (g i j)):=by
 intro pins s σ H x y v u Q I rx ry h
 obtain⟨i,j,rfl,rfl,q⟩:=h
 obtain⟨t,rfl⟩:=rx
 obtain⟨t',rfl⟩:=ry
 exact rule i j t t' s _ _ ⟨.int (g i j),H,I.tok _,⟨_,rfl⟩,q⟩
def Ej (i j:Int):Prop:=0 < j/\j < 1073741824
def Ek (i j:Int):Prop:=0<=j/\j<=1000000/\i.natAbs < 2 ^ 64
def yU (i j:Int):Prop:=(-(2 ^ 64) < i/\i < 2 ^ 64)∨(-(2 ^ 64) < j/\j < 2 ^ 64)
theorem yU.ok {i j:Int}(h:yU i j):IntMulOk i j:=by
 rcases h with ⟨h1,h2⟩|⟨h1,h2⟩
 ·exact .of_left (intBits_le_64 h1 h2)
 ·exact .of_right (intBits_le_64 h1 h2)
theorem yV:HS X (binaryOp .Add) (Pj fun i j=>.int (i+j)):=A8 fun _ _ _ _ _ _ _ q=>add_int q
theorem yW:HS X (binaryOp .Sub) (Pj fun i j=>.int (i - j)):=A8 fun _ _ _ _ _ _ _ q=>sub_int q
theorem yX:HS X (binaryOp .Mult) (rI yU fun i j=>.int (i*j)):=Oz fun _ _ _ _ _ _ _ hc q=>mul_int q hc.ok
theorem uj:HS X (binaryOp .FloorDiv) (rI Ej fun i j=>.int (i / j)):=Oz fun i j _ _ _ _ _ hc q=>by
 have h1:(0:Int) < j:=hc.1
 have h2:j < 1073741824:=hc.2
 exact floordiv_int (by omega) (by rw[Int.fdiv_eq_ediv_of_nonneg i (by omega)];exact q) (.inl (PyProof.noPylong_small (by omega)))
theorem yY:HS X (binaryOp .Mod) (rI (fun _ j=>0 < j) fun i j=>.int (i % j)):=Oz fun i j _ _ _ _ _ hc q=>by
 have h1:(0:Int) < j:=hc
 exact mod_int' (by omega) (by rw[Int.fmod_eq_emod_of_nonneg i (by omega)];exact q)
theorem yZ:HS X (binaryOp .Pow) (rI Ek fun i j=>.int (i ^ j.toNat)):=Oz fun _ _ _ _ _ _ _ hc q=>pow_int_small hc.1 hc.2.1 hc.2.2 q
theorem Tv {f:Value->Sem Value}{g:Int->Int}
  (rule:∀ (i:Int) (t:Tok) (s:Shared) (Q:Value->Shared->Prop) (E:Value->Shared->Prop),Q (.int (g i) s.toks) {s with toks:=s.toks+1}->wpAny (model X.prog X.w) X.A (f (.int i t)) Q E s) :
  Ph X f (rU fun i=>.int (g i)):=by
 intro pins s σ H x v Q I rx h
 obtain⟨i,rfl,q⟩:=h
 obtain⟨t,rfl⟩:=rx
 exact rule i t s _ _ ⟨.int (g i),H,I.tok _,⟨_,rfl⟩,q⟩
theorem y0:Ph X (unaryOp .USub) (rU fun i=>.int (-i)):=Tv fun _ _ _ _ _ q=>neg_int q
end
section
variable {X:Cx}{a b c:Expr}{ta tb tc:TE}{pos:Pos}
theorem uk {op:CmpOp}{r:R2}(ho:HS X (compareOp op) r)(ha:PE X a ta)(hb:PE X b tb)(hm:behindInMarks op b=false):PE X (.Compare a [op] [b] pos) (Oy r ta tb):=by
 intro pins s σ H Q I h
 exact wpAny_Compare1 (yT ha hb I h fun v u s2 x y H2 I2 rx ry q=>ho pins s2 σ H2 x y v u Q I2 rx ry q) hm
def A9 (t:TE):TT:=fun σ H Q=>t σ H fun x H'=>∃ k,x=.bl k/\Q k H'
theorem um {op:CmpOp}{r:R2}(ho:HS X (compareOp op) r)(ha:PE X a ta)(hb:PE X b tb)(hm:behindInMarks op b=false):PT X (.Compare a [op] [b] pos) (A9 (Oy r ta tb)):=by
 intro pins s σ H Q I h
 refine wpAny_isTrue_Compare1 (Fe (ha pins s σ H _ I h) fun v s1 ⟨x,H1,I1,r1,q1⟩=>Fe (hb pins s1 σ H1 _ I1 q1) fun u s2 ⟨y,H2,I2,r2,q2⟩=>
  Fe (ho pins s2 σ H2 x y v u _ I2 r1 r2 q2) fun c s3 ⟨z,H3,I3,r3,k,e,q3⟩=>?_) hm
 subst e
 cases r3
 exact wpAny_truthy_bool ⟨H3,I3,q3⟩
def El (K:PySem.W.Frag)(x:V)(H:Hp)(k:Bool):Prop:=
 match x with
 | .EZ=>k=false
 | .bl b=>k=b
 | .int i=>k=(i != 0)
 | .str y=>y.length<=sizeLine/\k=((y.length:Int) != 0)
 | .K' y=>y.size<=sizeLine/\k=((y.size:Int) != 0)
 | .ref p=>(∃ xs,FR K H p xs/\k = !xs.isEmpty)∨(∃ xs,Gn K H p xs/\k = !xs.isEmpty)∨∃ kvs,H p=some (.dK kvs)/\k = !kvs.isEmpty
 | _=>False
theorem kE {κ:Type}{kvs:List (κ×V)}{vs:List (κ×Value)}(r:KV kvs vs):(!vs.isEmpty) = !kvs.isEmpty:=by
 cases r<;>rfl
theorem fA {xs:List V}{its:List Value}(r:Vals xs its):(!its.toArray.isEmpty) = !xs.isEmpty:=by
 cases r<;>simp
theorem fB:(sizeLine:Nat) < 2 ^ 63:=by rw[sizeLine_eq];decide
theorem y3:Ei X (fun x H Q=>∃ k,El X.K x H k/\Q k H):=by
 intro pins s σ H x v Q I rx h
 obtain⟨k,e,q⟩:=h
 have hl:=fB
 have hs:sizeLine=16777216:=sizeLine_eq
 cases x with
 | EZ=>
  cases rx
  have e':k=false:=e
  subst e'
  exact truthy_none ⟨H,I,q⟩
 | bl b=>
  cases rx
  have e':k=b:=e
  subst e'
  exact wpAny_truthy_bool ⟨H,I,q⟩
 | int i=>
  obtain⟨t,rfl⟩:=rx
  have e':k=(i != 0):=e
  subst e'
  exact PySem.P.truthy_int ⟨H,I,q⟩
 | str y=>
  obtain⟨t,rfl⟩:=rx
  obtain⟨hy,e'⟩:y.length<=sizeLine/\k=((y.length:Int) != 0):=e
  subst e'
  exact PySem.P.truthy_str (by omega) ⟨H,I.tok _,q⟩
 | K' y=>
  obtain⟨t,rfl⟩:=rx
  obtain⟨hy,e'⟩:y.size<=sizeLine/\k=((y.size:Int) != 0):=e
  subst e'
  exact PySem.W.truthy_bytes (by omega) ⟨H,I.tok _,q⟩
 | ref p=>
  cases rx
  have e':(∃ xs,FR X.K H p xs/\k = !xs.isEmpty)∨(∃ xs,Gn X.K H p xs/\k = !xs.isEmpty)∨∃ kvs,H p=some (.dK kvs)/\k = !kvs.isEmpty:=e
  rcases e' with ⟨xs,hx,e'⟩|⟨xs,hx,e'⟩|⟨kvs,hx,e'⟩
  ·subst e'
   obtain⟨its,r,pl,hz⟩:=I.list hx
   have hlen:=r.length
   exact wpAny_truthy_list pl.isList (by simp only[List.size_toArray];omega) ⟨H,I.tok _,by rw[fA r];exact q⟩
  ·subst e'
   obtain⟨its,r,pl,hz⟩:=I.tuple hx
   have hlen:=r.length
   exact truthy_tuple pl (by simp only[List.size_toArray];omega) ⟨H,I.tok _,by rw[fA r];exact q⟩
  ·subst e'
   obtain⟨hz,hS,vs,r,m⟩:kvs.length<=sizeLine/\(p == sysModules)=false/\∃ vs,KV kvs vs/\s.heap.DictOf (bb X.prog X.w) p vs:=I.E7 p _ hx
   have hlen:kvs.length=vs.length:=Paired.length r
   exact wpAny_truthy_dict hS m (by omega) ⟨H,I.tok _,by rw[kE r];exact q⟩
 | _=>exact(show False from e).elim
theorem kF:HS X (binaryOp .Add) (fun x y H Q=>∃ i j,x=.str i/\y=.str j/\i.length+j.length<=sizeLine/\Q (.str (i++j)) H):=by
 intro pins s σ H x y v u Q I rx ry h
 obtain⟨i,j,rfl,rfl,hz,q⟩:=h
 obtain⟨t,rfl⟩:=rx
 obtain⟨t',rfl⟩:=ry
 exact add_str (fun t' tk=>⟨.str (i++j),H,I.tok _,⟨_,rfl⟩,q⟩) hz
theorem vals1 {x:V}{us:List Value}(r:Vals [x] us):∃ u,us=[u]/\RelV x u:=by
 cases r with
 | cons r1 r2=>cases r2;exact⟨_,rfl,r1⟩
theorem vals2 {x y:V}{us:List Value}(r:Vals [x,y] us):∃ u w',us=[u,w']/\RelV x u/\RelV y w':=by
 cases r with
 | cons r1 r2=>
  cases r2 with
  | cons r3 r4=>cases r4;exact⟨_,_,rfl,r1,r3⟩
theorem nO (hc:X.calm=true):bL X (.builtin "max") (fun xs H Q=>∃ i j,xs=[.int i,.int j]/\Q (.int (if j > i then j else i)) H):=by
 intro pins s σ H xs us Q I r h
 obtain⟨i,j,rfl,q⟩:=h
 obtain⟨u,w',rfl,⟨t,rfl⟩,⟨t',rfl⟩⟩:=vals2 r
 refine max_two_ints (I.ok.hd hc) fun h' tk k=>⟨_,H,I.kept k,?_,q⟩
 by_cases hj:j > i
 ·rw[if_pos hj,if_pos hj];exact⟨_,rfl⟩
 ·rw[if_neg hj,if_neg hj];exact⟨_,rfl⟩
theorem nP (hc:X.calm=true):bL X (.builtin "min") (fun xs H Q=>∃ i j,xs=[.int i,.int j]/\Q (.int (if j < i then j else i)) H):=by
 intro pins s σ H xs us Q I r h
 obtain⟨i,j,rfl,q⟩:=h
 obtain⟨u,w',rfl,⟨t,rfl⟩,⟨t',rfl⟩⟩:=vals2 r
 refine min_two_ints (I.ok.hd hc) fun h' tk k=>⟨_,H,I.kept k,?_,q⟩
 by_cases hj:j < i
 ·rw[if_pos hj,if_pos hj];exact⟨_,rfl⟩
 ·rw[if_neg hj,if_neg hj];exact⟨_,rfl⟩
def Em (K:PySem.W.Frag)(x:V)(H:Hp)(n:Nat):Prop:=
 match x with
 | .str y=>y.length<=sizeLine/\n=y.length
 | .K' y=>y.size<=sizeLine/\n=y.size
 | .ref p=>(∃ xs,FR K H p xs/\n=xs.length)∨∃ xs,Gn K H p xs/\n=xs.length
 | _=>False
theorem fC:bL X (.builtin "len") (fun xs H Q=>∃ x n,xs=[x]/\Em X.K x H n/\Q (.int n) H):=by
 intro pins s σ H xs us Q I r h
 obtain⟨x,n,rfl,e,q⟩:=h
 obtain⟨u,rfl,rx⟩:=vals1 r
 have hl:=fB
 have hs:sizeLine=16777216:=sizeLine_eq
 cases x with
 | str y=>
  obtain⟨t,rfl⟩:=rx
  obtain⟨hy,e'⟩:y.length<=sizeLine/\n=y.length:=e
  subst e'
  exact len_str (by omega) ⟨.int _,H,I.tok _,⟨_,rfl⟩,q⟩
 | K' y=>
  obtain⟨t,rfl⟩:=rx
  obtain⟨hy,e'⟩:y.size<=sizeLine/\n=y.size:=e
  subst e'
  exact PySem.W.len_bytes (by omega) ⟨.int _,H,I.tok _,⟨_,rfl⟩,q⟩
 | ref p=>
  cases rx
  have e':(∃ xs,FR X.K H p xs/\n=xs.length)∨∃ xs,Gn X.K H p xs/\n=xs.length:=e
  rcases e' with ⟨xs,hx,e'⟩|⟨xs,hx,e'⟩
  ·subst e'
   obtain⟨its,r',pl,hz⟩:=I.list hx
   have hlen:=r'.length
   exact Calls.call_len_list pl.isList (by simp only[List.size_toArray];omega) ⟨.int xs.length,H,I.tok _,⟨_,by simp only[List.size_toArray];rw[hlen]⟩,q⟩
  ·subst e'
   obtain⟨its,r',pl,hz⟩:=I.tuple hx
   have hlen:=r'.length
   exact len_tuple pl (by simp only[List.size_toArray];omega) ⟨.int xs.length,H,I.tok _,⟨_,by simp only[List.size_toArray];rw[hlen]⟩,q⟩
 | _=>exact(show False from e).elim
end
structure Tw (h:Heap)(x dx C:Addr)(mA:Str->Option Value):Prop where
 obj:h.get? x=some (PySem.W.instObj C dx)
 ns:h.Ns1 dx mA
 ne:dx≠x
section
variable {prog:Program}{w:World}{A:Around}{E:Value->Shared->Prop}{s:Shared}{K:PySem.W.Frag}{x dx C f:Addr}{mA:Str->Option Value}{name:Str}{v:Value}
end
section
variable {P:Program}{w:World}{H H':Hp}{h h':Heap}{a C dx:Addr}{fs To:List (Str×V)}
end
structure Tx (K:PySem.W.Frag)(C:Addr):Prop where
 pg:PySem.W.plainGet K C Str.empty=true
 hd:PySem.W.hasDictIn K C=true
 po:PySem.W.plainOver K C=true
 sa:PySem.W.findIn K (.ref C) "__setattr__" = some (some (.builtin "object.__setattr__"))
structure V7 (K:PySem.W.Frag)(C:Addr)(f:Str)(v:V)(u:Value):Prop where
 at_:PySem.W.findIn K (.ref C) f=some (some u)
 rel:RelV v u
 get:PySem.W.specialIn K u "__get__" = some none
 cp:PySem.W.copiedNames.contains f=false
structure Meth (K:PySem.W.Frag)(C:Addr)(m:Str)(f:Addr):Prop where
 at_:PySem.W.findIn K (.ref C) m=some (some (.ref f))
 fn:PySem.W.isFn K (.ref f)=true
 kp:PySem.W.keepIn K (.ref f)=true
section
variable {X:Cx}{pins:List (Addr×Obj)}{σ:St}{H:Hp}{s:Shared}{a C dx:Addr}{fs:List (Str×V)}{f:Str}{v:V}{A:Around}{E:Value->Shared->Prop}
end
section
variable {X:Cx}{o e value:Expr}{f:Str}{pos pos' Pk:Pos}{ta tv:TE}
end
section
variable {X:Cx}{pins:List (Addr×Obj)}{σ:St}{H:Hp}{s:Shared}{A:Around}{E:Value->Shared->Prop}{Q:Value->Shared->Prop}{c:Value}{b:Bool}
inductive GK (K:PySem.W.Frag)(H:Hp):V->Value->Prop where
 | EZ:GK K H .EZ (.type "NoneType")
 | bl (x:Bool):GK K H (.bl x) (.type "bool")
 | int (i:Int):GK K H (.int i) (.type "int")
 | str (x:Str):GK K H (.str x) (.type "str")
 | GU (x:UInt64):GK K H (.GU x) (.type "float")
 | lst {a:Addr}{xs:List V} (e:H a=some (.lst xs)):GK K H (.ref a) (.type "list")
 | Fb {a:Addr}{o:Obj}{xs:List V} (e:H a=some (.Fb o (.lst xs))):GK K H (.ref a) (.type "list")
 | tup {a:Addr}{xs:List V} (e:H a=some (.tup xs)):GK K H (.ref a) (.type "tuple")
 | dK {a:Addr}{kvs:List (Key×V)} (e:H a=some (.dK kvs)):GK K H (.ref a) (.type "dict")
 | dT {a:Addr}{kvs:List (List Key×V)} (e:H a=some (.dT kvs)):GK K H (.ref a) (.type "dict")
 | ins {a C dx:Addr}{fs:List (Str×V)} (e:H a=some (.ins C dx fs)) (cl:Tx K C) (ha:PySem.W.findIn K (.ref C) "__class__" = some (some (.builtin "object.__class__")))
   (hn:PySem.W.specialIn K (.builtin "object.__class__") "__get__" = some (some (.builtin "getset_descriptor.__get__"))) (V8:PySem.W.takesIn K (.builtin "object.__class__")=some true)
   (hm:PySem.W.mroIn K C (.type "object")=some true):GK K H (.ref a) (.ref C)
end
structure F7 (k:Nat)(A:Around):Prop where
 hd:k < 1000->A.handled=none
 dp:A.depth+3*(k % 1000)+5 < recursionLimit
 un:A.units+16*(k % 1000)+200 < cLine
theorem F7.deeper {k:Nat}{A:Around}(r:F7 (k+1) A)(env:Env)(hk:k % 1000≠999):F7 k (A.deeper env):=
 ⟨fun z=>r.hd (by omega),by have:=r.dp;show A.depth+1+3*(k % 1000)+5 < _;omega,by have:=r.un;show A.units+3+16*(k % 1000)+200 < _;omega⟩
theorem F7.depth {k:Nat}{A:Around}(r:F7 k A):A.depth < recursionLimit:=by have:=r.dp;omega
def nQ:TA:=fun _ H Q=>Q [] H
def eR (ta:TE)(tr:TA):TA:=fun σ H Q=>ta σ H fun x H1=>tr σ H1 fun xs H2=>Q (x::xs) H2
section
variable {X:Cx}{e:Expr}{es:List Expr}{te:TE}{t:TA}{pos:Pos}
theorem bN:PA X [] nQ:=fun _ _ _ _ H Q I h=>Calls.spliced_nil ⟨[],H,I,.nil,h⟩
theorem aU (ha:PE X e te)(hr:PA X es t)(hs:starEach (e::es) X.env=(false,eval e X.env)::starEach es X.env:=by rfl):PA X (e::es) (eR te t):=by
 intro pos pins s σ H Q I h
 rw[hs]
 show wpAny _ _ (spliced ((false,eval e X.env)::backTo pos (starEach es X.env))) _ _ s
 refine Calls.spliced_cons (Fe (ha pins s σ H _ I h) fun u s1 ⟨x,H1,I1,r1,q1⟩=>?_)
 exact Fe (hr pos pins s1 σ H1 _ I1 q1) fun us s2 ⟨xs,H2,I2,r2,q2⟩=>⟨x::xs,H2,I2,.cons r1 r2,q2⟩
def En (t:TA):TE:=fun σ H Q=>t σ H fun xs H1=>xs.length<=sizeLine/\∀ p,H1 p=none->Q (.ref p) (upd H1 p (.tup xs))
def Eo (t:TA):TE:=fun σ H Q=>t σ H fun xs H1=>xs.length<=sizeLine/\∀ p,H1 p=none->Q (.ref p) (upd H1 p (.lst xs))
theorem oZ {x1}(h:PA X es t):PE X (.Tuple es x1 pos) (En t):=by
 intro pins s σ H Q I hq
 refine wpAny_Tuple_spliced (Fe (h pos pins s σ H _ I hq) fun us s1 ⟨xs,H1,I1,r,z,q⟩=>⟨by rw[<- r.length];exact z,?_⟩)
 have hf:H1 s1.heap.objs.size=none:=I1.E7.fresh (Nat.le_refl _)
 refine⟨.ref s1.heap.objs.size,upd H1 s1.heap.objs.size (.tup xs),I1.laid (t':=s1.toks) (fun b u e=>Heap.get?_push_of_some _ e) (Nat.le_refl _) ?_,rfl,q _ hf⟩
 exact⟨z,us,r,⟨_,Heap.get?_push_size _ rfl,rfl,_,rfl⟩⟩
theorem o4 (h:PA X es t):PE X (.List es pos) (Eo t):=by
 intro pins s σ H Q I hq
 refine wpAny_List_spliced (Fe (h pos pins s σ H _ I hq) fun us s1 ⟨xs,H1,I1,r,z,q⟩=>⟨by rw[<- r.length];exact z,?_⟩)
 have hf:H1 s1.heap.objs.size=none:=I1.E7.fresh (Nat.le_refl _)
 refine⟨.ref s1.heap.objs.size,upd H1 s1.heap.objs.size (.lst xs),I1.laid (t':=s1.toks) (fun b u e=>Heap.get?_push_of_some _ e) (Nat.le_refl _) ?_,rfl,q _ hf⟩
 exact⟨z,us,0,r,Heap.get?_push_size _ rfl⟩
end
noncomputable abbrev Sp:=List V->Hp->VK->XK->Prop
noncomputable abbrev F5:=List Env->Hp->Shared->XK->Value->Shared->Prop
structure IV (P:Program)(w:World)(K:PySem.W.Frag)(mg:Str->Option Value)(base:Heap)(A:Around)(outer:List Env)(s:Shared)(H:Hp):Prop where
 frames:A.frames=some outer
 mod:Mod K mg base
 bs:∀ b o,base.get? b=some o->s.heap.get? b=some o/\H b=none
 J0:base.objs.size<=s.heap.objs.size
 Ge:s.heap.FunFrames base outer
 Jo:∀ b∈FX outer,H b=none
 E7:FD P w H s.heap
 bare:AllBare s.gens
def CE (outer:List Env)(P:Program)(w:World)(H:Hp)(s:Shared)(Q:VK)(u:Value)(s':Shared):Prop:=
 ∃ v H',s'.os=s.os/\AllBare s'.gens/\Un (FX outer) [] H H' s.heap s'.heap/\FD P w H' s'.heap/\RelV v u/\Q v H'
def CR (CX:F5)(outer:List Env)(P:Program)(w:World)(H:Hp)(s:Shared)(Q:VK)(E:XK)(r:Result)(s':Shared):Prop:=
 match r with
 | .ok (.ret u)=>CE outer P w H s Q u s'
 | .ok _=>False
 | .error e=>CX outer H s E e s'
structure GL (P:Program)(w:World)(K:PySem.W.Frag)(mg:Str->Option Value)(base:Heap)(CX:F5)(k:Nat)(f:Addr)(fd:FuncData)(ps:List Str)(sp:Sp):Prop where
 len:∀ vs H Q E,sp vs H Q E->vs.length=ps.length
 run:∀ (A:Around) (outer:List Env) (s:Shared) (H:Hp) (args:Args) (us:List Value) (vs:List V) (Q:VK) (E:XK),F7 k A->IV P w K mg base A outer s H->BindsTo s fd args (ps.zip us)->Vals vs us->sp vs H Q E->
  codeAny (model P w) A (.call (.ref f) args) (CR CX outer P w H s Q E) s
section
variable {X:Cx}{pins:List (Addr×Obj)}{σ:St}{H:Hp}{s s':Shared}
theorem Inv.G0 (I:Inv X pins σ H s):IV X.prog X.w X.K X.mg X.base X.A X.stack s H:=
 ⟨I.ok.frames,I.ok.mod,I.bs,Nat.le_trans I.ok.J0 I.sz,I.stack,I.Ha,I.E7,I.bare⟩
theorem Inv.after {Q:VK}{u:Value}(I:Inv X pins σ H s)(h:CE X.stack X.prog X.w H s Q u s'):EP X pins σ Q u s':=by
 obtain⟨v,H',os,bare,un,E7,r,q⟩:=h
 obtain⟨hh,g,d,t,Pl⟩:=s'
 obtain rfl:Pl=s.os:=os
 exact⟨v,H',I.call (h':=hh) (g':=g) (d':=d) (t':=t) (ch:=[]) un E7 bare (fun b z=>absurd z (by simp)),r,q⟩
end
def Binds (K:PySem.W.Frag)(fd:FuncData)(ps:List Str)(ds:List Value):Prop:=
 ∀ (s:Shared) (us:List Value),K.In s.heap->(us++ds).length=ps.length->BindsTo s fd ⟨us,[]⟩ (ps.zip (us++ds))
theorem Binds.all {K:PySem.W.Frag}{fd:FuncData}{ps:List Str}(h:∀ us:List Value,us.length=ps.length->bindArgs fd ⟨us,[]⟩=pure (ps.zip us)):Binds K fd ps []:=fun s us _ hl=>by
 rw[List.append_nil] at hl ⊢
 exact .of_eq (h us hl)
def Passes (CX:F5)(X:Cx)(E:XK):Prop:=∀ (pins:List (Addr×Obj)) (σ:St) (H:Hp) (s:Shared) (e:Value) (s':Shared),Inv X pins σ H s->CX X.stack H s E e s'->X.xe e s'
section
variable {X:Cx}{CX:F5}{k:Nat}{f C:Addr}{fd:FuncData}{ps:List Str}{sp:Sp}{V9:List V}{ds:List Value}{E:XK}{x m:Str}{p pos apos:Pos}{e o:Expr}{es:List Expr}{ta:TE}{t:TA}
structure Mk (K:PySem.W.Frag)(C f:Addr):Prop where
 makes:PySem.W.makesIn K C=true
 init:PySem.W.findIn K (.ref C) "__init__" = some (some (.ref f))
 fn:PySem.W.isFn K (.ref f)=true
 kp:PySem.W.keepIn K (.ref C)=true
end
section
variable {X:Cx}{CX:F5}{k:Nat}{f C:Addr}{fd:FuncData}{ps ks:List Str}{sp:Sp}{E:XK}{x m:Str}{p pos apos Tz:Pos}{e o:Expr}{es:List Expr}{Gy:List Keyword}{te ta:TE}{t tk:TA}{nm:Option Str}
structure Pm (K:PySem.W.Frag)(fd:FuncData)(ps ks:List Str)(g:List Value->List Value->List Value)(gV:List V->List V->List V):Prop where
 to:∀ (s:Shared) (us ws:List Value),K.In s.heap->(g us ws).length=ps.length->BindsTo s fd ⟨us,ks.zip ws⟩ (ps.zip (g us ws))
 rel:∀ {vs:List V}{us:List Value}{zs:List V}{ws:List Value},Vals vs us->Vals zs ws->Vals (gV vs zs) (g us ws)
variable {g:List Value->List Value->List Value}{gV:List V->List V->List V}
end
structure Hb (N P:List Str)(sc:Scope):Prop where
 kind:sc.kind=.function
 co:sc.isCoroutine=false
 gen:sc.isGenerator=false
 nd:N.Nodup
 pre:N.take P.length=P
 par:∀ x∈P,sc.names.lookup x=some .local∨sc.names.lookup x=some .cell
 Ll:∀ y∈sc.names,y.2≠.free
theorem gJ {kindOf:Str->Option NameKind}{x:Str}:∀ {binds:List (Str×Value)}{m:Str->Option Value},(∀ v,(x,v)∉binds)->bindL kindOf binds m x=m x
 | [],_,_=>rfl
 | (n,v)::r,m,h=>by
  unfold bindL
  rw[gJ fun w hw=>h w (List.mem_cons_of_mem _ hw)]
  split
  ·have:x≠n:=by rintro rfl;exact h v List.mem_cons_self
   simp[this]
  ·rfl
theorem gK {kindOf:Str->Option NameKind}{x:Str}:∀ {binds:List (Str×Value)}{m:Str->Option Value},(∀ v,(x,v)∉binds)->bindC kindOf binds m x=m x
 | [],_,_=>rfl
 | (n,v)::r,m,h=>by
  unfold bindC
  rw[gK fun w hw=>h w (List.mem_cons_of_mem _ hw)]
  split
  ·rfl
  ·have:x≠n:=by rintro rfl;exact h v List.mem_cons_self
   simp[this]
theorem gM {kindOf:Str->Option NameKind}{x:Str}{v:Value}:∀ {P:List Str}{vs:List Value}{i:Nat}{m:Str->Option Value},P.Nodup->P[i]? = some x->vs[i]? = some v->kindOf x=some .local->
  bindL kindOf (P.zip vs) m x=some v
 | [],_,_,_,_,h,_,_=>by simp at h
 | _::_,[],_,_,_,_,h,_=>by simp at h
 | p::P,w::vs,0,m,nd,h1,h2,hk=>by
  simp at h1 h2;subst h1;subst h2
  show bindL kindOf ((p,w)::P.zip vs) m p=_
  unfold bindL
  rw[gJ fun v hv=>(List.nodup_cons.mp nd).1 (List.of_mem_zip hv).1,if_pos hk]
  simp
 | p::P,w::vs,i+1,m,nd,h1,h2,hk=>by
  show bindL kindOf ((p,w)::P.zip vs) m x=_
  unfold bindL
  exact gM (i:=i) (List.nodup_cons.mp nd).2 (by simpa using h1) (by simpa using h2) hk
theorem gN {kindOf:Str->Option NameKind}{x:Str}{v:Value}:∀ {P:List Str}{vs:List Value}{i:Nat}{m:Str->Option Value},P.Nodup->P[i]? = some x->vs[i]? = some v->kindOf x≠some .local->
  bindC kindOf (P.zip vs) m x=some v
 | [],_,_,_,_,h,_,_=>by simp at h
 | _::_,[],_,_,_,_,h,_=>by simp at h
 | p::P,w::vs,0,m,nd,h1,h2,hk=>by
  simp at h1 h2;subst h1;subst h2
  show bindC kindOf ((p,w)::P.zip vs) m p=_
  unfold bindC
  rw[gK fun v hv=>(List.nodup_cons.mp nd).1 (List.of_mem_zip hv).1,if_neg hk]
  simp
 | p::P,w::vs,i+1,m,nd,h1,h2,hk=>by
  show bindC kindOf ((p,w)::P.zip vs) m x=_
  unfold bindC
  exact gN (i:=i) (List.nodup_cons.mp nd).2 (by simpa using h1) (by simpa using h2) hk
noncomputable def start (N:List Str)(vs:List V):St:=vs.map some++List.replicate (N.length - vs.length) none
noncomputable def cI (CX:F5)(P:Program)(w:World)(K:PySem.W.Frag)(mg:Str->Option Value)(base:Heap)(N:List Str)(qual:Str)(scope:Scope)(f:Addr)(cd:Value)(A:Around)(outer:List Env)(s:Shared)(H:Hp)(E:XK):Cx where
 prog:=P
 w:=w
 K:=K
 mg:=mg
 base:=base
 A:=A.deeper (envOfC qual scope s.heap.objs.size f cd)
 N:=N
 Fx:=s
 G9:=H
 env:=envOfC qual scope s.heap.objs.size f cd
 outer:=outer
 stack:=envOfC qual scope s.heap.objs.size f cd::outer
 ex:=[]
 calm:=A.handled.isNone
 fn:=fun _=>true
 pn:=[]
 xe:=fun e s'=>wpAny (model P w) (A.deeper (envOfC qual scope s.heap.objs.size f cd)) (leaving (envOfC qual scope s.heap.objs.size f cd) e) (fun _ Js=>CX outer H s E e Js) (fun e' Js=>CX outer H s E e' Js) s'
theorem jy {sc:Scope}{n:Nat}{x:Str}(h:sc.names.lookup x=some .cell):∃ c,(cellsFrom n sc.names []).lookup x=some c:=by
 have q:=PySem.W.cellsFrom_some sc.names n [] (.inl h)
 exact Option.isSome_iff_exists.mp q
theorem nR {CX:F5}{P:Program}{w:World}{K:PySem.W.Frag}{mg:Str->Option Value}{base:Heap}{N ps:List Str}{qual:Str}{scope:Scope}{f:Addr}{cd:Value}{A:Around}{outer:List Env}{s s1:Shared}{H:Hp}{E:XK}{us:List Value}{vs:List V}
  (S:Hb N ps scope) (e0:IV P w K mg base A outer s H) (hl:vs.length=ps.length) (r:Vals vs us)
  (x:InCallC s s.heap.objs.size (bindL (envOfC qual scope s.heap.objs.size f cd).kindOf (ps.zip us) fun _=>none) (cellsFrom (s.heap.objs.size+1) scope.names []) (bindC (envOfC qual scope s.heap.objs.size f cd).kindOf (ps.zip us) fun _=>none) s1) :
  Inv (cI CX P w K mg base N qual scope f cd A outer s H E) [] (start N vs) H s1:=by
 have J5:ps.length<=N.length:=by have:=congrArg List.length S.pre;rw[List.length_take] at this;omega
 obtain⟨h1,tk,rfl,hk⟩:=x.done
 have M5:∀ b:Addr,b∉(cI CX P w K mg base N qual scope f cd A outer s H E).ex:=fun b z=>absurd (show b∈([]:List Addr) from z) (by simp)
 refine⟨⟨e0.mod,S.kind,rfl,rfl,Nat.le_refl _,fun y z c h1 h2=>?_,fun y hy=>?_,fun y c _ h=>?_,fun h=>Option.isNone_iff_eq_none.mp h,Around.frames_deeper e0.frames,.inr ⟨rfl,rfl⟩,fun b z=>absurd z (M5 b),e0.bs,e0.J0,fun b _ _=>M5 b,fun b z=>absurd z (M5 b),e0.Ge,e0.Jo⟩,
  rfl,e0.bare,Un.kept hk,⟨_,x.toInCall.ns,fun i y v h1 h2 h3=>?_⟩,fun y c h=>⟨_,x.cell y c h⟩,e0.E7.fresh (Nat.le_refl _),fun y c h=>?_,fun p hp=>absurd (show p∈([]:List (Addr×Obj)) from hp) (by simp),e0.E7.kept hk,?_⟩
 ·exact name_of_addr x.apart (PySem.mem_of_lookup h1) (PySem.mem_of_lookup h2)
 ·have hy:scope.names.lookup y=some .cell∨scope.names.lookup y=some .free:=hy
  rcases hy with hy|hy
  ·exact jy hy
  ·exact absurd rfl (S.Ll _ (PySem.mem_of_lookup hy))
 ·exact Nat.le_of_lt (x.above y c (PySem.mem_of_lookup h))
 ·have hi:i < vs.length:=by
   unfold start at h2
   by_cases hi:i < vs.length
   ·exact hi
   ·rw[List.getElem?_append_right (by simpa using hi)] at h2
    rw[List.getElem?_replicate] at h2
    split at h2<;>cases h2
  have ha:vs[i]? = some v:=by
   unfold start at h2
   rw[List.getElem?_append_left (by simpa using hi),List.getElem?_map] at h2
   cases e:vs[i]? with
   | none=>rw[e] at h2;cases h2
   | some a=>rw[e] at h2;cases h2;rfl
  obtain⟨u,hu,rv⟩:=r.get ha
  have hp:ps[i]? = some y:=by
   rw[<- S.pre,List.getElem?_take_of_lt (by omega)];exact h1
  have Ra:ps.Nodup:=by rw[<- S.pre];exact S.nd.sublist (List.take_sublist _ _)
  refine⟨u,rv,?_⟩
  rcases S.par y (List.mem_of_getElem? hp) with k|k
  ·exact .inl ⟨k,gM Ra hp hu k⟩
  ·obtain⟨c,e⟩:=jy (n:=s.heap.objs.size+1) k
   refine .inr ⟨.inl k,c,e,?_⟩
   have q:=x.cell y c e
   rw[gN Ra hp hu (by show scope.names.lookup y≠_;rw[k];decide)] at q
   exact q
 ·exact e0.E7.fresh (Nat.le_of_lt (x.above y c (PySem.mem_of_lookup h)))
 ·unfold start
  show _=N.length
  rw[List.length_append,List.length_map,List.length_replicate]
  omega
theorem Ba {CX:F5}{P:Program}{w:World}{K:PySem.W.Frag}{mg:Str->Option Value}{base:Heap}{k:Nat}{f:Addr}{name qual:Str}{params:Arguments}{body:List Stmt}{scope:Scope}{dV kV doc pm GV ct oc:Value}{an od:Option Addr}
  {KI:Array (Option Value)}{N ps:List Str}{sp:Sp} (lk:K.lookup f=some ⟨oc,od,.func (PySem.W.fnOf name qual params body scope dV kV doc pm an GV ct),KI⟩) (J3:PySem.W.codeIn K GV qual=true) (S:Hb N ps scope)
  (TB:k % 1000≠999) (len:∀ vs H Q E,sp vs H Q E->vs.length=ps.length)
  (M6:∀ (A:Around) (outer:List Env) (s:Shared) (H:Hp) (vs:List V) (Q:VK) (E:XK),F7 k (A.deeper (envOfC qual scope s.heap.objs.size f GV))->sp vs H Q E->
   ∃ t,HR (cI CX P w K mg base N qual scope f GV A outer s H E) body t/\t {nx:=fun _ H'=>Q .EZ H',rt:=Q} (start N vs) H) :
  GL P w K mg base CX (k+1) f (PySem.W.fnOf name qual params body scope dV kV doc pm an GV ct) ps sp:=by
 refine⟨len,fun A outer s H args us vs Q E hr e0 hb r Jk=>?_⟩
 have hl:=len _ _ _ _ Jk
 have KX:K.In s.heap:=e0.mod.Oo.keeps fun b o e=>(e0.bs b o e).1
 have lim:s.heap.NoLimit:=e0.mod.nolimit.keeps fun b o e=>(e0.bs b o e).1
 have M7:∀ y∈ps.zip us,scope.names.lookup y.1=some .local∨(scope.names.lookup y.1=some .cell/\((cellsFrom (s.heap.objs.size+1) scope.names []).lookup y.1).isSome=true):=fun ⟨n,v⟩ hy=>by
  rcases S.par n (List.of_mem_zip hy).1 with q|q
  ·exact .inl q
  ·exact .inr ⟨q,PySem.W.cellsFrom_some _ _ _ (.inl q)⟩
 refine codeAny_call_function hr.depth (KX _ _ lk) rfl S.co S.gen rfl (PySem.W.codeRec_of KX J3) (hb _ _ _ _ ?_)
 refine wpAny_newFunctionEnv_cells S.kind M7 fun env he s1 x=>?_
 subst he
 refine⟨lim.keeps x.toInCall.keep,codeAny_func ?_⟩
 obtain⟨t,ht,hq⟩:=M6 A outer s H vs Q E (hr.deeper _ TB) Jk
 have I:Inv (cI CX P w K mg base N qual scope f GV A outer s H E) [] (start N vs) H s1:=nR S e0 hl r x
 refine wpAny_mono (ht [] s1 (start N vs) H _ I hq) (fun fl s' hs=>?_) fun e s' hs=>hs
 have fin:∀ {E4:St}{H':Hp}{v:V}{u:Value},Inv (cI CX P w K mg base N qual scope f GV A outer s H E) [] E4 H' s'->RelV v u->Q v H'->CE outer P w H s Q u s':=
  fun {E4 H' v u} J rv q=>⟨v,H',J.os,J.bare,J.base,J.E7,rv,q⟩
 cases fl with
 | ret u=>
  obtain⟨v,E4,H',J,rv,q⟩:=hs
  exact fin J rv q
 | next=>
  obtain⟨E4,H',J,q⟩:=hs
  exact fin (v:=V.EZ) (u:=Value.none) J rfl q
 | brk=>
  obtain⟨_,_,_,q⟩:=hs
  exact False.elim q
 | cont=>
  obtain⟨_,_,_,q⟩:=hs
  exact False.elim q
section
variable {X:Cx}{x:Str}{p pos:Pos}{e:Expr}{es:List Expr}{t:TA}{id T:String}{r:List V->Hp->VK->Prop}
def Pn (r:List V->Hp->VK->Prop)(t:TA):TE:=fun σ H Q=>t σ H fun vs H1=>r vs H1 Q
theorem fD (hc:bL X (.builtin id) r)(hg:Gl X x)(hm:X.mg x=none)(hv:bootBuiltins x=some (.builtin id))(ha:PA X (e::es) t)(hn:x≠"__name__":=by decide) (Po:(x == ("__debug__" : Str))=false:=by decide)
  (he:starEach (e::es) X.env=(false,eval e X.env)::starEach es X.env:=by rfl) (J5:(backTo pos (starEach es X.env)).any (·.1)=false:=by rfl):PE X (.Call (.Name x p) (e::es) [] pos) (Pn r t):=by
 intro pins s σ H Q I h
 refine wpAny_Call_Name_kw (dy I hg hm hv ?_ hn Po)
 exact PyProof.Rows.callWith_builtin1 (Fe (ha pos pins s σ H _ I h) fun us s1 ⟨vs,H1,I1,r1,q1⟩=>hc pins s1 σ H1 vs us Q I1 r1 q1) he J5
theorem gO (hc:bL X (.type T) r)(hg:Gl X x)(hm:X.mg x=none)(hv:bootBuiltins x=some (.type T))(ha:PA X (e::es) t)(hn:x≠"__name__":=by decide) (Po:(x == ("__debug__" : Str))=false:=by decide)
  (he:starEach (e::es) X.env=(false,eval e X.env)::starEach es X.env:=by rfl) (J5:(backTo pos (starEach es X.env)).any (·.1)=false:=by rfl):PE X (.Call (.Name x p) (e::es) [] pos) (Pn r t):=by
 intro pins s σ H Q I h
 refine wpAny_Call_Name_kw (dy I hg hm hv ?_ hn Po)
 exact PyProof.Rows.callWith_type1 (Fe (ha pos pins s σ H _ I h) fun us s1 ⟨vs,H1,I1,r1,q1⟩=>hc pins s1 σ H1 vs us Q I1 r1 q1) he J5
end
end L2
namespace HT
open PySem PyProof.Rows
section
open PySem.SeqAt
open PySem.AutoSeq1 (wpAny_loadPart')
open PySem.MeetsSeq PySem.MeetsSeq2 PySem.MeetsSeq3
end
section
variable {prog:Program}{w:World}{A:Around}{E:Value->Shared->Prop}{s:Shared}
noncomputable def FY (n d:Nat):Option Int->Nat
 | none=>d
 | some v=>if v < 0 then (v+(n:Int)).toNat else min v.toNat n
theorem Ir (n d k:Nat):FY n d (some (k:Int))=min k n:=by
 show (if (k:Int) < 0 then ((k:Int)+(n:Int)).toNat else min (k:Int).toNat n)=min k n
 rw[if_neg (by omega),Int.toNat_natCast]
theorem Jt (n d:Nat)(hd:d<=n)(o:Option Int):FY n d o<=n:=by
 cases o with
 | none=>exact hd
 | some v=>
  show (if v < 0 then (v+(n:Int)).toNat else min v.toNat n)<=n
  by_cases hv:v < 0
  ·rw[if_pos hv];omega
  ·rw[if_neg hv];exact Nat.min_le_right _ _
end
end HT
namespace L2
open PySem PySem.Spec PyProof.Rows
noncomputable abbrev TO:=St->Hp->(Option Int->Hp->Prop)->Prop
def PO (X:Cx)(e:Option Expr)(t:TO):Prop:=
 ∀ (pins:List (Addr×Obj)) (s:Shared) (σ:St) (H:Hp) (Q:Option Int->Hp->Prop),Inv X pins σ H s->t σ H Q->
  wpAny (model X.prog X.w) X.A (evalPart e X.env) (fun u s'=>∃ o H',Inv X pins σ H' s'/\IsPart u o/\Q o H') X.xe s
noncomputable def uo:TO:=fun _ H Q=>Q none H
noncomputable def Bb (t:TE):TO:=fun σ H Q=>t σ H fun x H1=>∃ i,x=.int i/\Q (some i) H1
theorem intsAre_of {ns:List Int}:∀ {us:List Value},Vals (ns.map V.int) us->IntsAre us ns:=by
 induction ns with
 | nil=>intro us r;rw[List.map_nil] at r;cases r;exact .nil
 | cons n ns ih=>
  intro us r
  rw[List.map_cons] at r
  cases r with
  | cons r1 r2=>
   obtain⟨t,e⟩:=r1
   subst e
   exact .cons n t (ih r2)
section
variable {X:Cx}{e:Expr}{te:TE}{lo hi:Option Expr}{tl th:TO}{pos p2:Pos}
theorem uq:PO X none uo:=by
 intro pins s σ H Q I h
 rw[evalPart_none]
 exact wpAny_pure ⟨none,H,I,.none,h⟩
theorem ur (h:PE X e te):PO X (some e) (Bb te):=by
 intro pins s σ H Q I hw
 rw[evalPart_some]
 refine Fe (h pins s σ H _ I hw) fun u s1 ⟨x,H1,I1,r1,q1⟩=>?_
 obtain⟨i,rfl,q⟩:=q1
 obtain⟨t,rfl⟩:=r1
 exact⟨some i,H1,I1,.int i t,q⟩
def OA (X:Cx)(r:V->Option Int->Option Int->Hp->VK->Prop):Prop:=
 ∀ (pins:List (Addr×Obj)) (s:Shared) (σ:St) (H:Hp) (x:V) (v vl vu:Value) (lo hi:Option Int) (sl:Addr) (Q:VK),Inv X pins σ H s->RelV x v->s.heap.IsSliceOf sl vl vu .none->IsPart vl lo->IsPart vu hi->r x lo hi H Q->
  ∃ T id,typeLookup (.type T) "__getitem__" = pure (some (.builtin id))/\s.TypeIs v T/\wpAny (model X.prog X.w) X.A (getItem v (.ref sl)) (EP X pins σ Q) X.xe s
def TC (r:V->Option Int->Option Int->Hp->VK->Prop)(te:TE)(tl th:TO):TE:=fun σ H Q=>te σ H fun x H1=>tl σ H1 fun l H2=>th σ H2 fun u H3=>r x l u H3 Q
theorem jz {r:V->Option Int->Option Int->Hp->VK->Prop}(hr:OA X r)(he:PE X e te)(hl:PO X lo tl)(hu:PO X hi th):PE X (.Subscript e (.Slice lo hi none p2) pos) (TC r te tl th):=by
 intro pins s σ H Q I h
 refine Subscript_ (Fe (he pins s σ H _ I h) fun v s1 ⟨x,H1,I1,r1,q1⟩=>?_)
 refine wpAny_Slice (Fe (hl pins s1 σ H1 _ I1 q1) fun vl s2 ⟨l,H2,I2,pl,q2⟩=>Fe (hu pins s2 σ H2 _ I2 q2) fun vu s3 ⟨u,H3,I3,pu,q3⟩=>?_)
 rw[evalPart_none]
 refine wpAny_pure ?_
 have I4:Inv X pins σ H3 {s3 with heap:=s3.heap.push {cls:=.type "slice",data:=.fields #[vl,vu,.none]}}:=I3.kept (t':=s3.toks) fun b ob q=>Heap.get?_push_of_some _ q
 obtain⟨T,id,hT,ht,hg⟩:=hr pins {s3 with heap:=s3.heap.push {cls:=.type "slice",data:=.fields #[vl,vu,.none]}} σ H3 x v vl vu l u s3.heap.objs.size Q I4 r1 (Heap.IsSliceOf.new ..) pl pu q3
 show wpAny (model X.prog X.w) X.A (subscriptTail e (.Slice lo hi none p2) v (.ref s3.heap.objs.size)) (EP X pins σ Q) X.xe {s3 with heap:=s3.heap.push {cls:=.type "slice",data:=.fields #[vl,vu,.none]}}
 exact tail_any (ops:=[.ref s3.heap.objs.size,v]) ht hT hg (by with_unfolding_all rfl)
noncomputable def nS (xs:List V)(lo hi:Option Int):List V:=(xs.drop (HT.FY xs.length 0 lo)).take (HT.FY xs.length xs.length hi - HT.FY xs.length 0 lo)
theorem jA (xs:List V)(lo hi:Option Int):(nS xs lo hi).length<=xs.length:=by
 unfold nS
 rw[List.length_take,List.length_drop]
 omega
end
noncomputable def KJ (n:Nat)(i:Int):Option Nat:=if 0<=i then (if i < n then some i.toNat else none) else if -(n:Int)<=i then some (i+n).toNat else none
noncomputable def F9 {α:Type}(xs:List α)(i:Int):Option α:=(KJ xs.length i).bind fun j=>xs[j]?
theorem uu {n:Nat}{i:Int}{j:Nat}(h:KJ n i=some j):seqIndex? i n=some j/\j < n/\-(n:Int)<=i/\i < n:=by
 unfold KJ at h
 by_cases h0:0<=i
 ·rw[if_pos h0] at h
  by_cases h1:i < n
  ·rw[if_pos h1] at h
   have e:i.toNat=j:=Option.some.inj h
   exact⟨by rw[seqIndex_of h0 h1,e],by omega,by omega,h1⟩
  ·rw[if_neg h1] at h;cases h
 ·rw[if_neg h0] at h
  by_cases h1 : -(n:Int)<=i
  ·rw[if_pos h1] at h
   have e:(i+n).toNat=j:=Option.some.inj h
   exact⟨by rw[seqIndex_neg (by omega) h1,e],by omega,h1,by omega⟩
  ·rw[if_neg h1] at h;cases h
theorem iI {α:Type}{xs:List α}{i:Int}{v:α}(h:F9 xs i=some v):∃ j,seqIndex? i xs.length=some j/\xs[j]? = some v/\j < xs.length/\-(xs.length:Int)<=i/\i < xs.length:=by
 unfold F9 at h
 cases e:KJ xs.length i with
 | none=>rw[e] at h;cases h
 | some j=>
  rw[e] at h
  obtain⟨h1,h2,h3,h4⟩:=uu e
  exact⟨j,h1,h,h2,h3,h4⟩
def uv (b:Expr):Prop:=∀ o i,subscripted b false o i=operate [o,i] (getItem o i)
def JL (X:Cx)(r:R2):Prop:=
 ∀ (value slice:Expr) (pins:List (Addr×Obj)) (s:Shared) (σ:St) (H:Hp) (x y:V) (v u:Value) (Q:VK),Inv X pins σ H s->RelV x v->RelV y u->r x y H Q->
  subscripted slice false v u=operate [v,u] (getItem v u)->wpAny (model X.prog X.w) X.A (subscriptTail value slice v u) (EP X pins σ Q) X.xe s
def Rb (X:Cx)(id:String)(r:V->List V->Hp->VK->Prop):Prop:=
 ∀ (pins:List (Addr×Obj)) (s:Shared) (σ:St) (H:Hp) (x:V) (xs:List V) (v:Value) (us:List Value) (Q:VK),Inv X pins σ H s->RelV x v->Vals xs us->r x xs H Q->
  wpAny (model X.prog X.w) X.A (call (.builtin id) (v::us)) (EP X pins σ Q) X.xe s
section
variable {X:Cx}{a b:Expr}{ta tb:TE}{pos:Pos}
theorem JL.or {r r':R2}(h:JL X r)(h':JL X r'):JL X (fun x y H Q=>r x y H Q∨r' x y H Q):=by
 intro value slice pins s σ H x y v u Q I rx ry q hs
 rcases q with q|q
 ·exact h value slice pins s σ H x y v u Q I rx ry q hs
 ·exact h' value slice pins s σ H x y v u Q I rx ry q hs
theorem Bc {r:R2}(hr:JL X r)(ha:PE X a ta)(hb:PE X b tb)(hs:uv b):PE X (.Subscript a b pos) (Oy r ta tb):=by
 intro pins s σ H Q I h
 exact Subscript_ (yT ha hb I h fun v u s2 x y H2 I2 rx ry q=>hr a b pins s2 σ H2 x y v u Q I2 rx ry q (hs _ _))
noncomputable def Bd (K:PySem.W.Frag):R2:=fun x y H Q=>∃ p xs i v,x=.ref p/\y=.int i/\FR K H p xs/\F9 xs i=some v/\Q v H
noncomputable def Be (K:PySem.W.Frag):R2:=fun x y H Q=>∃ p xs i v,x=.ref p/\y=.int i/\Gn K H p xs/\F9 xs i=some v/\Q v H
noncomputable def Bf:R2:=fun x y H Q=>∃ z i c,x=.str z/\y=.int i/\z.length<=sizeLine/\F9 z.cps.toList i=some c/\Q (.str ⟨#[c]⟩) H
theorem uw:JL X (Bd X.K):=by
 intro value slice pins s σ H x y v u Q I rx ry h hs
 obtain⟨p,xs,i,z,rfl,rfl,hq,he,q⟩:=h
 cases rx
 obtain⟨t,rfl⟩:=ry
 obtain⟨its,r,pl,hz⟩:=I.list hq
 obtain⟨j,h1,h2,h3,h4,h5⟩:=iI he
 obtain⟨w,ew,M8⟩:=r.get h2
 have hl:=r.length
 have hn:=fB
 have fin:EP X pins σ Q w s:=⟨z,H,I,M8,q⟩
 by_cases h0:0<=i
 ·have hj:i.toNat=j:=by
   rw[seqIndex_of h0 h5] at h1
   exact Option.some.inj h1
  exact item_listR pl.isList h0 (by omega) (by rw[hj];simpa using ew) fin hs
 ·have hj:(i+(its.toArray.size:Int)).toNat=j:=by
   rw[seqIndex_neg (by omega) h4] at h1
   rw[List.size_toArray,<- hl]
   exact Option.some.inj h1
  exact subscriptTail_builtinR (x:=w) pl.isList.typeIs slot_list_getitem.lookup
   (wpAny_getItem_list_neg (Q:=fun r s'=>r=w/\EP X pins σ Q r s') pl.isList (by omega) (by rw[List.size_toArray]<;>omega) (by omega) (by rw[hj];simpa using ew) ⟨rfl,fin⟩) hs
theorem y4:JL X (Be X.K):=by
 intro value slice pins s σ H x y v u Q I rx ry h hs
 obtain⟨p,xs,i,z,rfl,rfl,hq,he,q⟩:=h
 cases rx
 obtain⟨t,rfl⟩:=ry
 obtain⟨its,r,pl,hz⟩:=I.tuple hq
 obtain⟨j,h1,h2,h3,h4,h5⟩:=iI he
 obtain⟨w,ew,M8⟩:=r.get h2
 have hl:=r.length
 have hn:=fB
 have fin:EP X pins σ Q w s:=⟨z,H,I,M8,q⟩
 exact subscriptTail_builtinR (x:=w) pl.typeIs slot_tuple_getitem.lookup
  (getItem_tuple (j:=j) (Q:=fun r s'=>r=w/\EP X pins σ Q r s') pl (by omega) (by omega) (by rw[List.size_toArray,<- hl];exact h1) (by simpa using ew) ⟨rfl,fin⟩) hs
theorem za:JL X Bf:=by
 intro value slice pins s σ H x y v u Q I rx ry h hs
 obtain⟨z,i,c,rfl,rfl,hz,he,q⟩:=h
 obtain⟨t,rfl⟩:=rx
 obtain⟨t',rfl⟩:=ry
 obtain⟨j,h1,h2,h3,h4,h5⟩:=iI he
 have hl:z.cps.toList.length=z.length:=by simp[Str.length]
 rw[hl] at h1 h4 h5
 have hn:=fB
 exact tail_any (typeIs_str s z t) slot_str_getitem.lookup (getItem_str (c:=c) (by
  have e1:decide (i < -(2 ^ 63:Int))=false:=decide_eq_false (by omega)
  have e2:decide (i >= 2 ^ 63)=false:=decide_eq_false (by omega)
  rw[e1,e2,Bool.or_false]) (by rw[h1];simpa using h2) ⟨.str ⟨#[c]⟩,H,I.tok _,⟨_,rfl⟩,q⟩) hs
noncomputable def TF (K:PySem.W.Frag):R2:=fun x y H Q=>Bd K x y H Q∨Be K x y H Q∨Bf x y H Q
theorem zb:JL X (TF X.K):=uw.or (y4.or za)
theorem iJ (lo hi:Option Int)(n:Nat):(sliceBounds lo hi none n).1=((HT.FY n 0 lo:Nat):Int)/\(sliceBounds lo hi none n).2.1=((HT.FY n n hi:Nat):Int)/\(sliceBounds lo hi none n).2.2=1:=by
 refine⟨?_,?_,rfl⟩
 ·cases lo with
  | none=>simp[sliceBounds,HT.FY]
  | some i=>
   simp only[sliceBounds,HT.FY,Option.getD_none,show (1:Int) > 0 by decide,if_true]
   by_cases h:i < 0
   ·simp only[h,if_true]<;>omega
   ·simp only[h,if_false]<;>omega
 ·cases hi with
  | none=>simp[sliceBounds,HT.FY]
  | some i=>
   simp only[sliceBounds,HT.FY,Option.getD_none,show (1:Int) > 0 by decide,if_true]
   by_cases h:i < 0
   ·simp only[h,if_true]<;>omega
   ·simp only[h,if_false]<;>omega
theorem gB (its:List Value)(lo hi:Option Int):slicePick its.toArray lo hi none=((its.drop (HT.FY its.length 0 lo)).take (HT.FY its.length its.length hi - HT.FY its.length 0 lo)).toArray:=by
 obtain⟨h1,h2,h3⟩:=iJ lo hi its.toArray.size
 unfold slicePick
 rw[h1,h2,h3]
 simp only[sliceRange_one,pick_run,List.size_toArray]<;>rfl
def Ep (K:PySem.W.Frag):V->Option Int->Option Int->Hp->VK->Prop:=fun x lo hi H Q=>∃ a xs,x=.ref a/\FR K H a xs/\∀ p,H p=none->Q (.ref p) (upd H p (.lst (nS xs lo hi)))
theorem lW:OA X (Ep X.K):=by
 intro pins s σ H x v vl vu lo hi sl Q I rx hs pl pu h
 obtain⟨a,xs,rfl,hx,q⟩:=h
 cases rx
 obtain⟨its,r,ht,hz⟩:=I.list hx
 have hlen:=r.length
 refine⟨"list",_,slot_list_getitem.lookup,ht.isList.typeIs,?_⟩
 refine wpAny_getItem_list_slice ht.isList hs pl pu .none (by simp) ?_ (by rw[List.size_toArray]<;>omega)
 rw[gB,<- hlen]
 refine⟨.ref s.heap.objs.size,_,I.laid (t':=s.toks) (o:=.lst (nS xs lo hi)) (fun b ob q=>Heap.get?_push_of_some _ q) (Nat.le_refl _) ?_,rfl,q _ (I.E7.fresh (Nat.le_refl _))⟩
 exact⟨Nat.le_trans (jA xs lo hi) hz,_,0,(r.drop (HT.FY xs.length 0 lo)).take (HT.FY xs.length xs.length hi - HT.FY xs.length 0 lo),Heap.get?_push_size _ rfl⟩
theorem gC:bL X (.type "tuple") (fun xs H Q=>∃ p ys,xs=[.ref p]/\((FR X.K H p ys/\∀ l,H l=none->Q (.ref l) (upd H l (.tup ys)))∨(Gn X.K H p ys/\Q (.ref p) H))):=by
 intro pins s σ H xs us Q I r h
 obtain⟨p,ys,rfl,h⟩:=h
 obtain⟨u,rfl,rx⟩:=vals1 r
 cases rx
 rcases h with ⟨hq,q⟩|⟨hq,q⟩
 ·obtain⟨its,r',pl,hz⟩:=I.list hq
  have hlen:=r'.length
  refine call_tuple_list pl.isList (fun h' kp=>?_) (by simp only[List.size_toArray]<;>omega)
  have I1:Inv X pins σ H {s with heap:=h'}:=I.kept (t':=s.toks) kp
  have I2:Inv X pins σ (upd H h'.objs.size (.tup ys)) {s with heap:=h'.push {cls:=.type "tuple",data:=.seq its.toArray}}:=
   I1.laid (t':=s.toks) (fun b o e=>Heap.get?_push_of_some _ e) (Nat.le_refl _) (show aJ X.prog X.w _ _ _ (.tup ys) from ⟨hz,its,r',IsTup.new _ _⟩)
  exact⟨.ref h'.objs.size,_,I2,rfl,q _ (I1.E7.fresh (Nat.le_refl _))⟩
 ·obtain⟨its,r',pl,hz⟩:=I.tuple hq
  exact call_tuple_same pl ⟨.ref p,H,I,rfl,q⟩
def Rc (K:PySem.W.Frag)(T:String)(x:V)(H:Hp):Prop:=match x with
 | .str _=>T = "str"
 | .int _=>T = "int"
 | .ref p=>(T = "list"/\∃ xs,FR K H p xs)∨(T = "tuple"/\∃ o,K.lookup p=some o/\o.cls=.type "tuple"/\o.dict=none)∨
   (T = "dict"/\((∃ kvs,H p=some (.dK kvs))∨∃ kvs,H p=some (.dT kvs)))∨(T = "set"/\∃ S n,H p=some (.set S n))
 | _=>False
theorem zd {pins:List (Addr×Obj)}{σ:St}{H:Hp}{s:Shared}{T:String}{x:V}{v:Value}(I:Inv X pins σ H s)(r:RelV x v)(ty:Rc X.K T x H) :
  s.TypeIs v T/\∀ a,v=.ref a->∃ ob,s.heap.get? a=some ob/\ob.dict=none:=by
 cases x with
 | str z=>
  obtain⟨t,rfl⟩:=r
  cases (show T = "str" from ty)
  exact⟨typeIs_str s z t,fun _ e=>nomatch e⟩
 | int i=>
  obtain⟨t,rfl⟩:=r
  cases (show T = "int" from ty)
  exact⟨typeIs_int s i t,fun _ e=>nomatch e⟩
 | ref p=>
  cases r
  rcases ty with ⟨rfl,xs,hq⟩|⟨rfl,o,hk,hc,hd⟩|⟨rfl,hk⟩|⟨rfl,S,n,hk⟩
  ·obtain⟨its,_,pl,_⟩:=I.list hq
   refine⟨pl.isList.typeIs,fun a e=>?_⟩
   cases e
   obtain⟨o,n,e,c,hd,_⟩:=pl
   exact⟨o,e,hd⟩
  ·refine⟨⟨o,I.Hz p o hk,hc⟩,fun a e=>?_⟩
   cases e
   exact⟨o,I.Hz _ o hk,hd⟩
  ·have z:∃ o,s.heap.get? p=some o/\o.ExactDict:=by
    rcases hk with ⟨kvs,hk⟩|⟨kvs,hk⟩
    ·obtain⟨_,_,_,_,o,_,_,e,ex,_⟩:=I.E7 p _ hk
     exact⟨o,e,ex⟩
    ·obtain⟨_,_,_,_,o,_,_,e,ex,_⟩:=I.E7 p _ hk
     exact⟨o,e,ex⟩
   obtain⟨o,e,ex⟩:=z
   refine⟨⟨o,e,ex.1⟩,fun a e2=>?_⟩
   cases e2
   exact⟨o,e,ex.2.1⟩
  ·obtain⟨o,_,_,_,e,ex,_⟩:=I.E7 p _ hk
   refine⟨⟨o,e,ex.1⟩,fun a e2=>?_⟩
   cases e2
   exact⟨o,e,ex.2.1⟩
 | _=>exact False.elim ty
def Rf (K:PySem.W.Frag)(T:String)(r:V->List V->Hp->VK->Prop)(to:TE)(t:TA):TE:=fun σ H Q=>to σ H fun x H1=>Rc K T x H1/\t σ H1 fun xs H2=>r x xs H2 Q
variable {o e:Expr}{es:List Expr}{to:TE}{t:TA}{name:Str}{apos E2:Pos}{T id:String}{r:V->List V->Hp->VK->Prop}
theorem fE (pa:PlainAttrs T)(slot:Slot T name id)(Mm:typeOf (.builtin id)=pure (.type "method_descriptor")) (hm:Rb X id r) (ho:PE X o to) (ha:PA X (e::es) t)
  (HB:attributeBase o name X.env (eval o X.env)=eval o X.env:=by rfl)
  (Gr:((backTo E2 (starEach (e::es) X.env)).all (fun x=>!x.1)&&(backToKw E2 (keywordEach [] X.env)).all (fun x=>x.1.isSome)
  &&decide ((e::es).length+([]:List Keyword).length+(if ([]:List Keyword).isEmpty then 0 else 1) < 30))=true:=by rfl)
  (M9:(apos.endLine == E2.line)=true:=by rfl) (hs:starEach (e::es) X.env=(false,eval e X.env)::starEach es X.env:=by rfl) (Lm:(backTo E2 (starEach es X.env)).any (·.1)=false:=by rfl) :
  PE X (.Call (.Attribute o name apos) (e::es) [] E2) (Rf X.K T r to t):=by
 intro pins s σ H Q I h
 refine wpAny_Call_method_late HB Gr M9 rfl (Fe (ho pins s σ H _ I h) fun v s1 ⟨x,H1,I1,r1,ty,q1⟩=>?_)
 obtain⟨h1,h2⟩:=zd I1 r1 ty
 refine⟨T,id,pa,slot,Mm,h1,h2,?_⟩
 have hA:=ha E2 pins s1 σ H1 _ I1 q1
 rw[hs] at hA ⊢
 refine Calls.callWith_builtin (by show (false||(backTo E2 (starEach es X.env)).any (·.1))=false;rw[Lm]<;>rfl) (Calls.evalArgs_plain ?_)
 exact Fe hA fun us s2 ⟨vs,H2,I2,r2,q2⟩=>hm pins s2 σ H2 x vs v us Q I2 r1 r2 q2
end
def OB (X:Cx)(id:String)(r:V->List V->Hp->VK->Prop):Prop:=
 ∀ (pins:List (Addr×Obj)) (s:Shared) (σ:St) (H:Hp) (x:V) (xs:List V) (v:Value) (us:List Value) (Q:VK),Inv X pins σ H s->RelV x v->Vals xs us->r x xs H Q->
  wpAny (model X.prog X.w) X.A (call (.builtin id) (v::us)) (EP X pins σ Q) X.xe s
theorem Vals.one:∀ {x:V}{us:List Value},Vals [x] us->∃ u,us=[u]/\RelV x u
 | _,_,.cons r .nil=>⟨_,rfl,r⟩
theorem Vals.eraseIdx:∀ {xs:List V}{us:List Value} (i:Nat),Vals xs us->Vals (xs.eraseIdx i) (us.eraseIdx i)
 | _,_,_,.nil=>.nil
 | _,_,0,.cons _ t=>t
 | _,_,i+1,.cons r t=>.cons r (Vals.eraseIdx i t)
theorem gP {α:Type}:∀ (l:List α) (i:Nat),(l.eraseIdx i).length<=l.length
 | [],_=>Nat.le_refl _
 | _::_,0=>Nat.le_succ _
 | _::r,i+1=>Nat.succ_le_succ (gP r i)
section
variable {X:Cx}{pins:List (Addr×Obj)}{σ:St}{H:Hp}{s:Shared}{l b:Addr}{xs ys zs:List V}
theorem Inv.J6 {its its':List Value}{n:Nat}{f:Array Value->Array Value}{t':Nat}(I:Inv X pins σ H s)(hH:H l=some (.lst xs))
  (e:s.heap.get? l=some {cls:=.type "list",data:=.seq its.toArray n}) (hf:f its.toArray=its'.toArray) (hv:Vals ys its') (hz:ys.length<=sizeLine) :
  Inv X pins σ (upd H l (.lst ys)) {s with heap:=s.heap.update l (Obj.mapSeq f),toks:=t'}:=by
 have q:=PySem.IsL.update e f
 rw[hf] at q
 refine I.write (x:=l) (e:=l) (by rw[hH];exact trivial) (.inl rfl) (fun b' u hb hu=>(Heap.get?_update_other s.heap (Obj.mapSeq f) (Ne.symm hb)).trans hu) ⟨_,q⟩ ?_
 exact⟨hz,its',_,hv,q⟩
theorem Inv.M' {its:List Value}{t':Nat}(I:Inv X pins σ H s)(hv:Vals ys its)(hz:ys.length<=sizeLine) :
  Inv X pins σ (upd H s.heap.objs.size (.lst ys)) {s with heap:=s.heap.push {cls:=.type "list",data:=.seq its.toArray},toks:=t'}:=
 I.laid (fun _ _ q=>Heap.get?_push_of_some _ q) (Nat.le_refl _) ⟨hz,its,0,hv,Heap.get?_push_size _ rfl⟩
theorem Inv.fresh (I:Inv X pins σ H s):H s.heap.objs.size=none:=I.E7.fresh (Nat.le_refl _)
theorem Inv.J7 (I:Inv X pins σ H s)(hH:H l=some (.lst xs)):xs.length<=sizeLine/\∃ (its:List Value) (n:Nat),Vals xs its/\xs.length=its.length/\s.heap.get? l=some {cls:=.type "list",data:=.seq its.toArray n}:=by
 obtain⟨z,its,n,r,e⟩:=I.E7 l _ hH
 exact⟨z,its,n,r,r.length,e⟩
theorem o5 {n:Nat}(h:n<=sizeLine):Builtin.List.listTooLong n=false:=by
 unfold Builtin.List.listTooLong
 exact decide_eq_false (by omega)
end
section
variable {X:Cx}
def ux:V->List V->Hp->VK->Prop:=fun x vs H Q=>∃ l xs y,x=.ref l/\vs=[y]/\H l=some (.lst xs)/\xs.length < sizeLine/\Q .EZ (upd H l (.lst (xs++[y])))
theorem gQ:OB X "list.append" ux:=by
 intro pins s σ H x vs v us Q I rx rv h
 obtain⟨l,xs,y,rfl,rfl,hH,hz,q⟩:=h
 cases rx
 obtain⟨u,rfl,ru⟩:=rv.one
 obtain⟨z,its,n,r,hl,e⟩:=I.J7 hH
 refine call_meets F.slot_list_append ⟨_,e,rfl⟩ F.entry_list_append (F.args_list_append_2 _ _) (PySem.list_append l its.toArray n u (by rw[List.size_toArray];omega)) ⟨e,?_⟩
 refine⟨.EZ,_,I.J6 (its':=its++[u]) hH e (by simp) (r.append (.cons ru .nil)) ?_,rfl,q⟩
 rw[List.length_append,List.length_singleton]
 omega
def ze:V->List V->Hp->VK->Prop:=fun x vs H Q=>∃ l xs i k y,x=.ref l/\vs=[.int i]/\H l=some (.lst xs)/\-(2 ^ 63)<=i/\i < 2 ^ 63/\seqIndex? i xs.length=some k/\xs[k]? = some y/\Q y (upd H l (.lst (xs.eraseIdx k)))
theorem o6:OB X "list.pop" ze:=by
 intro pins s σ H x vs v us Q I rx rv h
 obtain⟨l,xs,i,k,y,rfl,rfl,hH,h1,h2,hk,hy,q⟩:=h
 cases rx
 obtain⟨u,rfl,ru⟩:=rv.one
 obtain⟨t,rfl⟩:=ru
 obtain⟨z,its,n,r,hl,e⟩:=I.J7 hH
 obtain⟨w,hw,M8⟩:=r.get hy
 refine call_meets F.slot_list_pop ⟨_,e,rfl⟩ F.entry_list_pop (F.args_list_pop_2 _ _)
  (MeetsSeq.list_pop_at l its.toArray n i t k w (fitsIndex_both h1 h2) (by rw[List.size_toArray,<- hl];exact hk) (by rw[<- Array.getElem?_toList];exact hw) (by rw[List.size_toArray];omega)) ⟨e,?_⟩
 refine⟨y,_,I.J6 (its':=its.eraseIdx k) hH e ?_ (r.eraseIdx k) ?_,M8,q⟩
 ·show its.toArray.eraseIdxIfInBounds k=(its.eraseIdx k).toArray
  rw[List.eraseIdxIfInBounds_toArray]
 ·have:=gP xs k
  omega
end
section
variable {prog:Program}{w:World}{A:Around}{E:Value->Shared->Prop}{s:Shared}
end
section
variable {X:Cx}
end
end L2
namespace Att
open PySem PySem.W PySem.Calls PyProof.Rows
theorem eV {P:Params}{h:Heap}:∀ (ns:List Int) (vs:List Value),WellAll P h vs (ns.map WData.int)->IntsAre vs ns:=by
 intro ns
 induction ns with
 | nil=>
  intro vs w
  rw[List.map_nil] at w
  cases w
  exact .nil
 | cons n ns ih=>
  intro vs w
  rw[List.map_cons] at w
  cases w with
  | cons a b=>
   cases a
   exact .cons _ _ (ih _ b)
theorem nT {l:OpenLaw}{n:Nat}(hn:l.most=some n){P:Params}{h:Heap}{args:List WData}{vals:List Value}
  (J8:l.row.toRowW.claim.pre args=true) (Pp:WellAll P h vals args) :
  ∃ a vs ns,vals=[Value.ref a]/\args=[WData.list (ns.map WData.int)]/\h.get? a=some {cls:=.type "list",data:=.seq vs.toArray}/\IntsAre vs ns/\ns.length<=n:=by
 have OC:WShape.hasAll [] args [.list .int]=true:=(pre_splitW J8).1
 have hc:l.pre.holds [] {args:=args} = true:=(pre_splitW J8).2
 obtain⟨d,r,rfl,h1,h2⟩:=hasAllW_cons OC
 obtain rfl:=hasAllW_nil h2
 obtain⟨xs,rfl,h3⟩:=hasW_list h1
 obtain⟨ns,rfl⟩:=items_int h3
 have hlen:ns.length<=n:=by
  unfold OpenLaw.pre at hc
  have h4:(WTm.not (.lt (.lit (.int (n:Int))) (.len (.arg 0)))).holds [] {args:=[.list (ns.map .int)]} = true:=by
   have h4:=(holds_andW hc).1
   rw[hn] at h4
   exact h4
  have h5:=condW_of h4 (w_not (w_lt w_lit (w_len_list (w_arg rfl))))
  rw[List.length_map] at h5
  refine Nat.le_of_not_lt fun q=>?_
  have q':(n:Int) < ((ns.length:Nat):Int):=by omega
  first
   | (rw[decide_eq_true q'] at h5;exact absurd h5 (by decide))
   | (simp at h5;omega)
 cases Pp with
 | cons w1 w2=>
  cases w2
  cases w1 with
  | list ho Ju=>exact⟨_,_,ns,rfl,rfl,ho,eV ns _ Ju,hlen⟩
theorem nU (l:OpenLaw)(args:List WData):l.row.toRowW.claim.post args (.bool true) args=true:=
 postW_of (r:=l.row.toRowW) (X:=(true == true))
  (show WShape.has [] (.bool true) .bool=true by first|rfl|decide|simp[WShape.has,WShape.arms,WShape.armsAll])
  (show (WTm.eq .res (.lit (.bool true))).value [] {args:=args,res:=some (.bool true),after:=args} = some (.bool (true == true)) from w_eq_bool (w_res rfl) w_lit) rfl
theorem HC {l:OpenLaw}{n:Nat}{q:Program}{loose:List Str}{XP:(Str->Option Value)->Heap->Prop}{YP:World->Heap->Prop}{d:DefRec}
  (hn:l.most=some n) (Na:d.params.defaults=[])
  (call:∀ (w:World) (Fx E5:Shared) (mg mb:Str->Option Value) (fa:Addr) (o:Obj) (pm cd doc:Value) (a:Addr) (vs:List Value) (ns:List Int),
   Ground q loose [] XP w Fx mg mb E5.heap->YP w E5.heap->
   E5.heap.get? fa=some o->o.data=.func (docDef d.name d.params d.body d.scope pm cd doc)->E5.heap.CodeRec cd d.name->mg d.name=some (.ref fa)->
   E5.heap.get? a=some {cls:=.type "list",data:=.seq vs.toArray}->IntsAre vs ns->ns.length<=n->E5.gens = #[]->
   codeAny (model l.prog w) callerA (.call (.ref fa) ⟨[.ref a],[]⟩) (fun r s'=>r=.ok (.ret (.bool true))/\OldK E5.heap s'.heap/\s'.os=E5.os/\AllBare s'.gens) E5) :
  WalkO q loose XP YP l.row.toRowW d [] (fun f vs=>PySem.call f vs):=by
 intro w Fx E5 mg mb G Y fa o pm cd doc dV kV ho hd J3 hD hmg hg args vals as J8 TH V' Pp Wa
 obtain rfl:dV=.none:=Dflts.none hD Na
 obtain rfl:kV=.none:=Dflts.noKw hD
 obtain⟨a,vs,ns,rfl,rfl,Ln,hints,hlen⟩:=nT hn J8 Pp
 refine enter_call (codeAny_mono (call w Fx E5 mg mb fa o pm cd doc a vs ns G Y ho (fd_plain hd) J3 hmg Ln hints hlen hg) fun r s' hq=>?_)
 obtain⟨rfl,h2,h3,h4⟩:=hq
 exact⟨.inl ⟨.bool true,.bool true,[],rfl,fun _=>rfl,.bool true,nU l _,fun _=>⟨List.Pairwise.nil,fun _ hm=>(nomatch hm)⟩⟩,h2,h3,h4⟩
section
variable {prog:Program}{w:World}{A:Around}{E:Value->Shared->Prop}{s:Shared}{K:Frag}
end
end Att
namespace L2
open PySem PySem.Spec PyProof.Rows
def KL (K:PySem.W.Frag)(a:Addr)(xs:List V):Prop:=
 ∃ (its:List Value) (n:Nat),K.lookup a=some {cls:=.type "list",data:=.seq its.toArray n}/\its.length<=sizeLine/\Vals xs its
def Ls (K:PySem.W.Frag)(H:Hp)(a:Addr)(xs:List V):Prop:=Rd H a (.lst xs)∨KL K a xs
theorem gR:∀ {vs:List Value}{ns:List Int},IntsAre vs ns->Vals (ns.map V.int) vs
 | _,_,.nil=>.nil
 | _,_,.cons n t h=>.cons ⟨t,rfl⟩ (gR h)
def zf (H:Hp):Prop:=∀ b,H b=none∨∃ o xs,H b=some (.Fb o (.lst xs))
theorem o7 {P:Program}{w:World}{K:PySem.W.Frag}{mg mb:Str->Option Value}{CX:F5}{k:Nat}{fa a:Addr}{fd:FuncData}{x:Str}{sp:Sp}{E5:Shared}{vs:List Value}{ns:List Int}
  (KX:K.In E5.heap) (Lo:E5.heap.Ns mainGlobals mg) (hb:E5.heap.Ns builtinsNs mb) (TJ:∀ x:Str,x≠"__name__"->mb x=bootBuiltins x) (Pq:E5.heap.NoLimit) (hg:E5.gens = #[])
  (ha:E5.heap.get? a=some {cls:=.type "list",data:=.seq vs.toArray}) (hi:IntsAre vs ns) (hl:ns.length<=sizeLine) (hr:F7 k callerA)
  (F:∀ base:Heap,K.In base->base.Ns mainGlobals mg->GL P w K mg base CX k fa fd [x] sp) (Nb:∀ (s:Shared) (u:Value),BindsTo s fd ⟨[u],[]⟩ [(x,u)])
  (Jk:∀ H:Hp,zf H->Ls K H a (ns.map V.int)->sp [.ref a] H (fun v _=>v=.bl true) fun _ _ _=>False)
  (Pr:∀ H e s',CX [] H E5 (fun _ _ _=>False) e s'->False) :
  codeAny (model P w) callerA (.call (.ref fa) ⟨[.ref a],[]⟩) (fun r s'=>r=.ok (.ret (.bool true))/\OldK E5.heap s'.heap/\s'.os=E5.os/\AllBare s'.gens) E5:=by
 have rv:=gR hi
 have Pt:=hi.length
 -- from an abstract heap in Rg nothing but Li Lp may be tracked
 have core:∀ H:Hp,zf H->Ls K H a (ns.map V.int)->FD P w H E5.heap->(∀ b,H b≠none->b=a)->(H a≠none->K.lookup a=none)->
   codeAny (model P w) callerA (.call (.ref fa) ⟨[.ref a],[]⟩) (fun r s'=>r=.ok (.ret (.bool true))/\OldK E5.heap s'.heap/\s'.os=E5.os/\AllBare s'.gens) E5:=by
  intro H hO hS E7 hA hK
  have Iu:∀ {b:Addr}{o:Obj},E5.heap.get? b=some o->H b=none->(iG E5.heap H).get? b=some o:=fun e n=>oJ e n
  have M5:∀ {b:Addr}{o:Obj}{es:Array DictEntry}{ep:Nat},E5.heap.get? b=some o->o.data=.dict es ep->H b=none:=fun {b o es ep} e d=>by
   cases q:H b with
   | none=>rfl
   | some u=>
    have e':b=a:=hA b (by rw[q];simp)
    subst e'
    rw[ha] at e;cases e
    have d':Data.seq vs.toArray _=Data.dict es ep:=d
    cases d'
  have OD:∀ {b:Addr}{m:Str->Option Value},E5.heap.Ns b m->(iG E5.heap H).Ns b m:=fun {b m} ⟨o,es,ep,e,d,r⟩=>⟨o,es,ep,Iu e (M5 e d),d,r⟩
  have Rh:K.In (iG E5.heap H):=fun b o e=>Iu (KX b o e) (by
   cases q:H b with
   | none=>rfl
   | some u=>
    have e':b=a:=hA b (by rw[q];simp)
    subst e'
    rw[hK (by rw[q];simp)] at e;cases e)
  have hM:Mod K mg (iG E5.heap H):=⟨Rh,OD Lo,⟨mb,OD hb,TJ⟩,let ⟨mc,h1,h2⟩:=Pq;⟨mc,OD h1,h2⟩⟩
  have e0:IV P w K mg (iG E5.heap H) callerA [] E5 H:=⟨rfl,hM,fun b o e=>ub e,Nat.le_of_eq (nL _ _),trivial,fun b hb=>absurd (show b∈([]:List Addr) from hb) (by simp),E7,.of_eq hg⟩
  refine codeAny_mono ((F _ Rh (OD Lo)).run callerA [] E5 H ⟨[.ref a],[]⟩ [.ref a] [.ref a] _ _ hr e0 (Nb E5 (.ref a)) (.cons rfl .nil) (Jk H hO hS)) fun r s' h=>?_
  cases r with
  | error e=>exact(Pr H e s' h).elim
  | ok fl=>
   cases fl with
   | next=>exact False.elim h
   | brk=>exact False.elim h
   | cont=>exact False.elim h
   | ret u=>
    obtain⟨v,H',os,bare,un,Pu,r',q⟩:=h
    have q':v=.bl true:=q
    subst q'
    obtain rfl:u=Value.bool true:=r'
    refine⟨rfl,OldK.of_keep fun b o e=>?_,os,bare⟩
    cases q:H b with
    | none=>exact un.keep b o e q (by intro z;exact absurd (show b∈([]:List Addr) from z) (by simp)) (by simp)
    | some u=>
     rcases hO b with z|⟨ob,xs,z⟩
     ·rw[q] at z;cases z
     ·have z2:=un.FV b ob _ z
      obtain⟨e1,_⟩:=E7 b _ z
      obtain⟨e2,_⟩:=Pu b _ z2
      rw[e] at e1;cases e1
      exact e2
 cases hk:K.lookup a with
 | some o=>
  -- Li Lp is one of Li Nc own objects
  have e:=KX a o hk
  rw[ha] at e
  cases e
  refine core (fun _=>none) (fun _=>.inl rfl) (.inr ⟨vs,_,hk,by rw[Pt];exact hl,rv⟩) (fun b u z=>by have z':(none:Option HO)=some u:=z;cases z') (fun b z=>absurd rfl z) fun z=>absurd rfl z
 | none=>
  refine core (fun b=>if b=a then some (.Fb {cls:=.type "list",data:=.seq vs.toArray} (.lst (ns.map V.int))) else none) (fun b=>?_) (.inl (.inr ⟨{cls:=.type "list",data:=.seq vs.toArray},if_pos rfl⟩)) (fun b u z=>?_) (fun b z=>?_) fun _=>hk
  ·by_cases hb:b=a
   ·exact .inr ⟨_,_,if_pos hb⟩
   ·exact .inl (if_neg hb)
  ·by_cases hb:b=a
   ·have z':=(if_pos hb).symm.trans z
    cases z'
    subst hb
    exact⟨ha,by rw[List.length_map];exact hl,vs,_,rv,ha⟩
   ·have z':=(if_neg hb).symm.trans z
    cases z'
  ·by_cases hb:b=a
   ·exact hb
   ·exact absurd (if_neg hb) z
theorem uy {l:PySem.W.OpenLaw}{n k:Nat}{q:Program}{loose:List Str}{XP:(Str->Option Value)->Heap->Prop}{YP:World->Heap->Prop}{d:DefRec}{K:Params->PySem.W.Frag}{CX:World->F5}{sp:World->Sp}{x:Str}
  (hn:l.most=some n) (OE:n<=sizeLine) (Na:d.params.defaults=[]) (hr:F7 k callerA)
  (hY:∀ (w:World) (h:Heap),YP w h->(K w.params).In h)
  (F:∀ (w:World) (mg:Str->Option Value) (fa:Addr) (h:Heap),(K w.params).In h->h.Ns mainGlobals mg->mg d.name=some (.ref fa)->
   ∃ fd:FuncData,(∀ (s:Shared) (u:Value),BindsTo s fd ⟨[u],[]⟩ [(x,u)])/\
    ∀ base:Heap,(K w.params).In base->base.Ns mainGlobals mg->GL l.prog w (K w.params) mg base (CX w) k fa fd [x] (sp w))
  (Jk:∀ (w:World) (H:Hp) (a:Addr) (ns:List Int),ns.length<=n->zf H->Ls (K w.params) H a (ns.map V.int)->sp w [.ref a] H (fun v _=>v=.bl true) fun _ _ _=>False)
  (Pr:∀ (w:World) (H:Hp) (s:Shared) (e:Value) (s':Shared),CX w [] H s (fun _ _ _=>False) e s'->False) :
  PySem.W.WalkO q loose XP YP l.row.toRowW d [] (fun f vs=>PySem.call f vs):=by
 refine Att.HC hn Na fun w Fx E5 mg mb fa o pm cd doc a vs ns G Y ho hd J3 hmg Ln hints hlen hg=>?_
 have KX:=hY w _ Y
 obtain⟨fd,hb,hF⟩:=F w mg fa _ KX G.T.g hmg
 exact o7 KX G.T.g G.T.b G.T.builtins G.T.nolimit hg Ln hints (Nat.le_trans hlen OE) hr hF hb (fun H hO hS=>Jk w H a ns hlen hO hS) fun H e s'=>Pr w H E5 e s'
noncomputable def ck (s:Stmt):Arguments:=match s with
 | .FunctionDef _ a _ _ _ _ _ _ _ _=>a
 | _=>{posonlyargs:=[],args:=[],vararg:=none,kwonlyargs:=[],kw_defaults:=[],kwarg:=none,defaults:=[]}
noncomputable def bB (s:Stmt):List Stmt:=match s with
 | .FunctionDef _ _ b _ _ _ _ _ _ _=>b
 | _=>[]
noncomputable def ar (s:Stmt):Scope:=match s with
 | .FunctionDef _ _ _ _ _ _ sc _ _ _=>sc
 | _=>{kind:=.function,names:=[],isGenerator:=false,isCoroutine:=false}
structure Mn (K:PySem.W.Frag)(x qual:Str)(st:Stmt)(f:Addr)(fd:FuncData):Prop where
 ex:∃ (oc:Value) (od:Option Addr) (kV doc pm:Value) (an:Option Addr) (GV ct:Value) (KI:Array (Option Value)),
  fd=PySem.W.fnOf x qual (ck st) (bB st) (ar st) .none kV doc pm an GV ct/\K.lookup f=some ⟨oc,od,.func fd,KI⟩/\PySem.W.codeIn K GV qual=true
 kp:PySem.W.keepIn K (.ref f)=true
section
variable {P:Program}{w:World}{K:PySem.W.Frag}{mg:Str->Option Value}{base:Heap}
theorem Mn.binds {x qual:Str}{st:Stmt}{f:Addr}{fd:FuncData}{ps:List Str}(F:Mn K x qual st f fd)
  (h:∀ (kV doc pm:Value) (an:Option Addr) (GV ct:Value) (us:List Value),us.length=ps.length->bindArgs (PySem.W.fnOf x qual (ck st) (bB st) (ar st) .none kV doc pm an GV ct) ⟨us,[]⟩=pure (ps.zip us)):Binds K fd ps []:=by
 obtain⟨oc,od,kV,doc,pm,an,GV,ct,KI,rfl,lk,J3⟩:=F.ex
 exact .all (h kV doc pm an GV ct)
theorem kG {x qual:Str}{st:Stmt}{f:Addr}{oc:Value}{od an:Option Addr}{KI:Array (Option Value)}{kV doc pm GV ct:Value}(l:K.lookup f=some ⟨oc,od,.func (PySem.W.fnOf x qual (ck st) (bB st) (ar st) .none kV doc pm an GV ct),KI⟩)
  (c:PySem.W.codeIn K GV qual=true) (k:PySem.W.keepIn K (.ref f)=true):Mn K x qual st f (PySem.W.fnOf x qual (ck st) (bB st) (ar st) .none kV doc pm an GV ct):=⟨⟨oc,od,kV,doc,pm,an,GV,ct,KI,rfl,l,c⟩,k⟩
end
section
variable {X:Cx}
end
def ak (H H':Hp):Prop:=∀ b o,H b=some o->H' b=some o
theorem ak.refl (H:Hp):ak H H:=fun _ _ h=>h
theorem ak.trans {H H1 H2:Hp}(a:ak H H1)(b:ak H1 H2):ak H H2:=fun c o h=>b c o (a c o h)
theorem ak.free {H H':Hp}(e:ak H H'){l:Addr}(h:H' l=Option.none):H l=Option.none:=by
 cases q:H l with
 | none=>rfl
 | some o=>
  rw[e l o q] at h
  cases h
theorem ak.seq {K:PySem.W.Frag}{H H':Hp}{a:Addr}{xs:List V}(e:ak H H')(h:FR K H a xs):FR K H' a xs:=by
 rcases h with (h|⟨o,h⟩)|h
 ·exact .inl (.inl (e _ _ h))
 ·exact .inl (.inr ⟨o,e _ _ h⟩)
 ·exact .inr h
theorem aw {X:Cx}{e:Expr}{t t':TE}(h:PE X e t)(m:∀ σ H Q,t' σ H Q->t σ H Q):PE X e t':=fun pins s σ H Q I q=>h pins s σ H Q I (m σ H Q q)
theorem eh {X:Cx}{e:Expr}{t t':TT}(h:PT X e t)(m:∀ σ H Q,t' σ H Q->t σ H Q):PT X e t':=fun pins s σ H Q I q=>h pins s σ H Q I (m σ H Q q)
theorem iK {X:Cx}{e:List Expr}{t t':TA}(h:PA X e t)(m:∀ σ H Q,t' σ H Q->t σ H Q):PA X e t':=fun pos pins s σ H Q I q=>h pos pins s σ H Q I (m σ H Q q)
theorem aQ {X:Cx}{e:Stmt}{t t':TS}(h:PS X e t)(m:∀ D σ H,t' D σ H->t D σ H):PS X e t':=fun pins s σ H D I q=>h pins s σ H D I (m D σ H q)
theorem eY {X:Cx}{e:List Stmt}{t t':TS}(h:HR X e t)(m:∀ D σ H,t' D σ H->t D σ H):HR X e t':=fun pins s σ H D I q=>h pins s σ H D I (m D σ H q)
theorem kH {X:Cx}{tg e:Expr}{t t':TI}(h:PI X tg e t)(m:∀ σ H Q,t' σ H Q->t σ H Q):PI X tg e t':=fun pins s σ H Q I q=>h pins s σ H Q I (m σ H Q q)
def Iw (X:Cx)(scope:Scope)(cl:List (Str×Addr))(N:List Str)(C:Addr)(s3:Shared)(H3:Hp)(fp:List Addr)(xe:Value->Shared->Prop:=fun _ _=>False):Cx:=
 {X with N:=N,Fx:=s3,G9:=H3,env:=compEnvC scope cl C X.env,outer:=X.stack,ex:=fp,fn:=fun _=>false,pn:=[],xe:=xe}
structure Gs (X:Cx)(scope:Scope)(cl:List (Str×Addr))(Fr:List (Str×Nat))(Tg:List Str):Prop where
 Nd:closureFor scope X.env=pure cl
 kind:scope.kind=.function
 He:∀ y∈scope.names,y.2≠.cell
 loc:∀ y∈scope.names,y.2=.local->scope.names.lookup y.1=some .local
 sub:∀ x c,cl.lookup x=some c->X.env.cells.lookup x=some c
 has:∀ x,((relabel scope X.env).names.lookup x=some .cell∨(relabel scope X.env).names.lookup x=some .free)->∃ c,cl.lookup x=some c
 out:∀ p∈Fr,X.N[p.2]? = some p.1/\(X.env.kindOf p.1=some .cell∨X.env.kindOf p.1=some .free)/\((relabel scope X.env).names.lookup p.1=some .cell∨(relabel scope X.env).names.lookup p.1=some .free)
noncomputable def stC (Fr:List (Str×Nat))(Tg:List Str)(σ:St):St:=Fr.map (fun p=>(σ[p.2]?).join)++List.replicate Tg.length none
section
variable {X:Cx}{scope:Scope}{cl:List (Str×Addr)}{Fr:List (Str×Nat)}{Tg:List Str}{pins:List (Addr×Obj)}{σ:St}{H3:Hp}{s3:Shared}{fp:List Addr}
theorem zg (S:Gs X scope cl Fr Tg)(I:Inv X pins σ H3 s3)(hf:∀ b∈fp,dh X pins H3 b)(Pw:∀ b∈fp,b < s3.heap.objs.size)(N:List Str)(xe:Value->Shared->Prop):(Iw X scope cl N s3.heap.objs.size s3 H3 fp xe).Ok where
 mod:=I.ok.mod
 kind:=S.kind
 glob:=I.ok.glob
 blt:=I.ok.blt
 above:=Nat.le_refl _
 inj:=fun x y c h1 h2=>I.ok.inj x y c (S.sub x c h1) (S.sub y c h2)
 has:=fun x h=>S.has x h
 Oq:=fun x c h _=>absurd (show false=true from h) (by decide)
 hd:=I.ok.hd
 frames:=I.ok.frames
 EY:=.inl rfl
 O':=fun b hb=>⟨Nat.ne_of_lt (Pw b hb),fun x c e z=>(hf b hb).2.2.2.2.1 x c (S.sub x c e) z⟩
 bs:=I.bs
 J0:=Nat.le_trans I.ok.J0 I.sz
 J1:=fun b o e hb=>by
  rcases (hf b hb).2.2.2.1 with z|z
  ·exact I.ok.J1 b o e z
  ·exact absurd (Nat.lt_of_lt_of_le (Heap.lt_size e) (Nat.le_trans I.ok.J0 z)) (Nat.lt_irrefl _)
 J2:=fun b hb z=>by
  rcases List.mem_cons.mp (I.HX b z) with z|z
  ·exact(hf b hb).2.1 z
  ·exact(hf b hb).2.2.1 z
 Ge:=I.stack
 Jo:=I.Ha
theorem nV (S:Gs X scope cl Fr Tg)(I:Inv X pins σ H3 s3)(hf:∀ b∈fp,dh X pins H3 b)(Pw:∀ b∈fp,b < s3.heap.objs.size){h':Heap}{tk:Nat}
  (Lo:h'.Ns s3.heap.objs.size (fun _=>none)) (hk:∀ b o,s3.heap.get? b=some o->h'.get? b=some o) (xe:Value->Shared->Prop) :
  Inv (Iw X scope cl (Fr.map (·.1)++Tg) s3.heap.objs.size s3 H3 fp xe) [] (stC Fr Tg σ) H3 {s3 with heap:=h',toks:=tk} where
 ok:=zg S I hf Pw _ _
 os:=rfl
 bare:=I.bare
 base:=Un.kept hk
 loc:=by
  refine⟨_,Lo,fun i x v e1 e2 e3=>?_⟩
  have hi:i < Fr.length:=by
   by_cases hi:i < Fr.length
   ·exact hi
   ·unfold stC at e2
    rw[List.getElem?_append_right (by simpa using hi),List.getElem?_replicate] at e2
    split at e2<;>cases e2
  have OF:(Fr.map (·.1))[i]? = some x:=by
   rw[<- e1]
   exact(List.getElem?_append_left (by simpa using hi)).symm
  have Gk:(Fr.map (fun p=>(σ[p.2]?).join))[i]? = some (some v):=by
   rw[<- e2]
   exact(List.getElem?_append_left (by simpa using hi)).symm
  rw[List.getElem?_map] at OF Gk
  obtain⟨p,hp,rfl⟩:=Option.map_eq_some_iff.mp OF
  rw[hp] at Gk
  have J9:(σ[p.2]?).join=some v:=Option.some.inj Gk
  have e4:σ[p.2]? = some (some v):=by
   cases q:σ[p.2]? with
   | none=>rw[q] at J9;cases J9
   | some y=>rw[q] at J9;rw[show y=some v from J9]
  obtain⟨o1,o2,o3⟩:=S.out p (List.mem_of_getElem? hp)
  obtain⟨m,hn,hl⟩:=I.loc
  have hv:MW X.env.scope p.1:=by
   rcases o2 with o2|o2
   ·exact .inr (.inl o2)
   ·exact .inr (.inr o2)
  obtain⟨u,r,l⟩:=hl p.2 p.1 v o1 e4 hv
  refine⟨u,r,.inr ⟨o3,?_⟩⟩
  obtain⟨c,hc⟩:=S.has p.1 o3
  refine⟨c,hc,?_⟩
  have Ji:=S.sub _ _ hc
  rcases l with ⟨k,_⟩|⟨_,c2,h2,z⟩
  ·rcases o2 with o2|o2<;>(rw[k] at o2;cases o2)
  ·rw[Ji] at h2;cases h2
   obtain⟨o,ho,hd⟩:=z
   exact⟨o,hk _ _ ho,hd⟩
 cell:=fun x c e=>by
  obtain⟨v,o,ho,hd⟩:=I.cell x c (S.sub x c e)
  exact⟨v,o,hk _ _ ho,hd⟩
 free:=I.E7.fresh (Nat.le_refl _)
 F4:=fun x c e=>I.F4 x c (S.sub x c e)
 pin:=fun p hp=>absurd (show p∈([]:List (Addr×Obj)) from hp) (by simp)
 E7:=I.E7.kept hk
 len:=by
  unfold stC
  show _=(Fr.map (·.1)++Tg).length
  simp
end
def J' (X:Cx)(ifs:List Expr)(t:TT):Prop:=
 ∀ (pins:List (Addr×Obj)) (s:Shared) (σ:St) (H:Hp) (Q:Bool->Hp->Prop),Inv X pins σ H s->t σ H Q->
  wpAny (model X.prog X.w) X.A (forIn ifs true fun c r=>if r=true then do let ok <- isTrue c X.env (eval c X.env);pure (ForInStep.yield ok) else pure (ForInStep.yield r)) (TP X pins σ Q) X.xe s
theorem eS {M:Model}{A:Around}{E:Value->Shared->Prop}{s:Shared}{env:Env}{Q:Bool->Shared->Prop}(h:Q false s):∀ ifs:List Expr,
  wpAny M A (forIn ifs false fun c r=>if r=true then do let ok <- isTrue c env (eval c env);pure (ForInStep.yield ok) else pure (ForInStep.yield r)) Q E s
 | []=>by
  rw[List.forIn_nil]
  exact wpAny_pure h
 | c::cs=>by
  rw[List.forIn_cons]
  rw[if_neg Bool.false_ne_true]
  exact wpAny_bind (wpAny_pure (eS h cs))
theorem uz {X:Cx}:J' X [] (fun _ H Q=>Q true H):=fun pins s σ H Q I q=>by
 rw[List.forIn_nil]
 exact wpAny_pure ⟨H,I,q⟩
theorem o8 {X:Cx}{c:Expr}{cs:List Expr}{t u:TT}(hc:PT X c t)(hr:J' X cs u):J' X (c::cs) (AY t u):=fun pins s σ H Q I q=>by
 rw[List.forIn_cons,if_pos rfl]
 refine wpAny_bind (wpAny_bind (Fe (hc pins s σ H _ I q) fun b s1 ⟨H1,I1,q1⟩=>wpAny_pure ?_))
 cases b with
 | true=>exact hr pins s1 σ H1 Q I1 q1
 | false=>exact eS ⟨H1,I1,q1⟩ cs
def o9 (wi:TI)(start:St->St)(g:TG)(tt:TT)(te:TE):TE:=fun σ H Q=>wi σ H fun J H1=>∀ D,H1 D=none->∃ W:Nat->Nat->St->Hp->Prop,(∃ m,W 0 m (start σ) (upd H1 D (.lst [])))/\
 ∀ i m E4 H',W i m E4 H'->(J.stop i H'/\Q (.ref D) H')∨(J.go i H'/\∀ x H2,J.J4 i H' x H2->g x E4 H2 fun HA H3=>tt HA H3 fun b H4=>
  if b=true then te HA H4 fun v H5=>∃ ys,H5 D=some (.lst ys)/\ys.length < sizeLine/\∃ m',m' < m/\W (i+1) m' HA (upd H5 D (.lst (ys++[v])))
  else ∃ m',m' < m/\W (i+1) m' HA H4)
section
variable {X:Cx}{scope:Scope}{cl:List (Str×Addr)}{Fr:List (Str×Nat)}{Tg:List Str}{elt tg iter:Expr}{ifs:List Expr}{wi:TI}{g:TG}{tt:TT}{te:TE}{pos:Pos}
theorem iL (scope:Scope)(pos:Pos)(it acc:Value)(env:Env) :
  compTurn (.ListComp elt [⟨tg,iter,ifs,0⟩] scope pos) 0 it acc env=(do
   standAt iter.pos
   match <- pyNext it with
   | none=>pure (.done .next)
   | some v=>
    letOwnedTupleGo tg it v
    assign tg env v
    let ok <- forIn ifs true fun c r=>if r=true then do let ok <- isTrue c env (eval c env);pure (ForInStep.yield ok) else pure (ForInStep.yield r)
    if ok=true then
     (do let _ <- call (.builtin "list.append") [acc,<- eval elt env])
    again (.compLoop (.ListComp elt [⟨tg,iter,ifs,0⟩] scope pos) 0 it acc env)):=by rfl
theorem fF {XE:Addr->Shared->Hp->List Addr->Value->Shared->Prop}(hc:X.calm=true)(S:Gs X scope cl Fr Tg)
  (hg:∀ C s H fp,PG (Iw X scope cl (Fr.map (·.1)++Tg) C s H fp (XE C s H fp)) tg g) (ht:∀ C s H fp,J' (Iw X scope cl (Fr.map (·.1)++Tg) C s H fp (XE C s H fp)) ifs tt)
  (he:∀ C s H fp,PE (Iw X scope cl (Fr.map (·.1)++Tg) C s H fp (XE C s H fp)) elt te)
  {pins:List (Addr×Obj)}{σ:St}{H2:Hp}{s2:Shared}{it:Addr}{fp:List Addr}{tn:Nat->Heap->Prop}{J:It}{Q:VK} (I2:Inv X pins σ H2 s2) (T:Turn X.prog X.w X.K tg J fp it tn) (KH:tn 0 s2.heap)
  (f2:∀ b∈fp,dh X pins H2 b)
  (q:∀ D,H2 D=none->∃ W:Nat->Nat->St->Hp->Prop,(∃ m,W 0 m (stC Fr Tg σ) (upd H2 D (.lst [])))/\
   ∀ i m E4 H',W i m E4 H'->(J.stop i H'/\Q (.ref D) H')∨(J.go i H'/\∀ x H2,J.J4 i H' x H2->g x E4 H2 fun HA H3=>tt HA H3 fun b H4=>
    if b=true then te HA H4 fun v H5=>∃ ys,H5 D=some (.lst ys)/\ys.length < sizeLine/\∃ m',m' < m/\W (i+1) m' HA (upd H5 D (.lst (ys++[v])))
    else ∃ m',m' < m/\W (i+1) m' HA H4))
  {E:Value->Shared->Prop}{RR:Value->Env->Result->Shared->Prop}
  (hR:∀ D C s' H',(∃ m,s'.heap.Ns C m)->Inv X pins σ H' s'->dh X pins H' C->Q (.ref D) H'->∀ V:Env,V.locals=C->V.frame=X.env.frame->RR (.ref D) V (.ok .next) s')
  (hX:∀ D C s3 H3,(∀ s5 Ka H5,Inv (Iw X scope cl (Fr.map (·.1)++Tg) C s3 H3 fp (XE C s3 H3 fp)) [] Ka H5 s5->(∃ m,s5.heap.Ns C m)/\Inv X pins σ H5 s5/\dh X pins H5 C)->∀ e s',XE C s3 H3 fp e s'->
   notedBy (model X.prog X.w) X.A (compEnvC scope cl C X.env) (fun x Js=>∀ V:Env,V.locals=C->V.frame=X.env.frame->RR (.ref D) V (.error x) Js) e s') :
  wpAny (model X.prog X.w) X.A (newList []) (fun acc Px=>wpAny (model X.prog X.w) X.A (newFunctionEnv scope X.env.globals cl [] X.env.qual none .none (some X.env)) (fun Nf Py=>
   codeAny (model X.prog X.w) X.A (.compStart (.ListComp elt [⟨tg,iter,ifs,0⟩] scope pos) 0 (.ref it) acc {Nf with scope:=relabel scope X.env}) (RR acc Nf) Py) E Px) E s2:=by
 have TK:∀ b∈fp,b < s2.heap.objs.size:=fun b hb=>by
  obtain⟨o,e,_⟩:=T.obj _ _ KH b hb
  exact Heap.lt_size e
 -- Li KN
 refine wpAny_newObj_type ?_
 have I3:Inv X pins σ (upd H2 s2.heap.objs.size (.lst [])) {s2 with heap:=s2.heap.push {cls:=.type "list",data:=.seq ([]:List Value).toArray},toks:=s2.toks}:=I2.M' (ys:=[]) (its:=[]) .nil (Nat.zero_le _)
 generalize hD:s2.heap.objs.size=D at I3 ⊢
 have TM:H2 D=none:=by rw[<- hD];exact I2.fresh
 generalize OG:({s2 with heap:=s2.heap.push {cls:=.type "list",data:=.seq ([]:List Value).toArray},toks:=s2.toks}:Shared)=s3 at I3
 have k3:∀ b o,s2.heap.get? b=some o->s3.heap.get? b=some o:=fun b o e=>by rw[<- OG];exact Heap.get?_push_of_some _ e
 have TN:s3.heap.objs.size=D+1:=by rw[<- OG,<- hD];exact Heap.size_push ..
 have Ng:∀ b∈fp,b < D:=fun b hb=>by rw[<- hD];exact TK b hb
 have Pz:∀ b∈fp,b < s3.heap.objs.size:=fun b hb=>by rw[TN];exact Nat.lt_succ_of_lt (Ng b hb)
 have f3:∀ b∈fp,dh X pins (upd H2 D (.lst [])) b:=fun b hb=>by
  obtain⟨a1,a2⟩:=f2 b hb
  refine⟨?_,a2⟩
  rw[aj (Nat.ne_of_lt (Ng b hb))]
  exact a1
 obtain⟨W,⟨m0,w0⟩,turn⟩:=q D TM
 refine wpAny_newFunctionEnv S.He (by intro y hy;simp at hy) (fun h4 Lo Nh=>codeAny_mono (R:=fun r s'=>∀ V:Env,V.locals=s3.heap.objs.size->V.frame=X.env.frame->RR (.ref D) V r s') ?_ fun r s' z=>z _ rfl rfl) S.kind
 have k4:∀ b o,s3.heap.get? b=some o->h4.get? b=some o:=fun b o e=>
  Nh.extBut b o (Nat.ne_of_lt (Heap.lt_size e)) (Heap.get?_push_of_some _ e)
 have Ri:tn 0 h4:=T.keep _ _ _ KH fun b hb o e=>k4 b o (k3 b o e)
 have I4:=nV (fp:=fp) (h':=h4) (tk:=s3.toks+([]:List (Str×Value)).length) S I3 f3 Pz (by simpa using Lo) k4 (XE s3.heap.objs.size s3 (upd H2 D (.lst [])) fp)
 generalize hC:s3.heap.objs.size=C at I4 Lo Nh ⊢
 have PB:=hX D C s3 (upd H2 D (.lst []))
 generalize hZ:XE C s3 (upd H2 D (.lst [])) fp=Z at I4 PB
 generalize hY:Iw X scope cl (Fr.map (·.1)++Tg) C s3 (upd H2 D (.lst [])) fp Z=Y at I4 PB
 have yP:Y.prog=X.prog:=by rw[<- hY];rfl
 have yw:Y.w=X.w:=by rw[<- hY];rfl
 have yK:Y.K=X.K:=by rw[<- hY];rfl
 have yA:Y.A=X.A:=by rw[<- hY];rfl
 have yc:Y.calm=true:=by rw[<- hY];exact hc
 have yx:Y.xe=Z:=by rw[<- hY];rfl
 have ye:Y.env=compEnvC scope cl C X.env:=by rw[<- hY];rfl
 have Ni:Y.ex=fp:=by rw[<- hY];rfl
 have TQ:Y.pn=[]:=by rw[<- hY];rfl
 have TR:Y.fs=FX X.stack:=by rw[<- hY];rfl
 have yH:Y.G9=upd H2 D (.lst []):=by rw[<- hY];rfl
 have KO:Y.Fx=s3:=by rw[<- hY];rfl
 have TU:PG Y tg g:=by rw[<- hY,<- hZ];exact hg _ _ _ _
 have Jv:J' Y ifs tt:=by rw[<- hY,<- hZ];exact ht _ _ _ _
 have Hf:PE Y elt te:=by rw[<- hY,<- hZ];exact he _ _ _ _
 have HY:∀ {H':Hp},(∀ b∈fp,H' b=none)->∀ b∈fp,dh Y [] H' b:=fun hn b hb=>by
  have PD:=I4.ok
  refine⟨hn b hb,(PD.O' b (by rw[Ni];exact hb)).1,PD.J2 b (by rw[Ni];exact hb),.inl (by rw[Ni];exact hb),(PD.O' b (by rw[Ni];exact hb)).2,fun p hp=>absurd hp (by rw[TQ];simp)⟩
 have TV:∀ b∈fp,(upd H2 D (.lst [])) b=none:=fun b hb=>(f3 b hb).1
 -- back to Li frame
 have back:∀ (s5:Shared) (Ka:St) (H5:Hp),Inv Y [] Ka H5 s5->(∃ m,s5.heap.Ns C m)/\Inv X pins σ H5 s5/\dh X pins H5 C:=by
  intro s5 Ka H5 I5
  have PF:∃ m,s5.heap.Ns C m:=by
   obtain⟨m,hn,_⟩:=I5.loc
   rw[ye] at hn
   exact⟨m,hn⟩
  have TX:Un (FX X.stack) fp (upd H2 D (.lst [])) H5 s3.heap s5.heap:=by
   have u:=I5.base
   rw[TR,Ni,yH,KO] at u
   exact u
  have TY:s5.os=s3.os:=by have:=I5.os;rw[KO] at this;exact this
  have PH:FD X.prog X.w H5 s5.heap:=by have:=I5.E7;rw[yP,yw] at this;exact this
  have Jh:∀ b∈fp,(b∈X.ex∨X.Fx.heap.objs.size<=b)/\b≠X.env.locals/\(∀ x c,X.env.cells.lookup x=some c->c≠b)/\∀ p∈X.pn++pins,p.1≠b:=fun b hb=>by
   obtain⟨_,a1,_,a3,a4,a5⟩:=f3 b hb
   exact⟨a3,a1,a4,a5⟩
  have Nj:H5 C=none:=by
   have:=I5.free
   rw[ye] at this
   exact this
  exact⟨PF,I3.KC TY TX PH I5.bare Jh,I3.IU (Nat.le_of_eq hC) Nj⟩
 have nz:∀ {α:Type}{t:Sem α}{Q:α->Shared->Prop}{s:Shared},wpAny (model X.prog X.w) X.A t Q Z s->wpAny (model X.prog X.w) X.A t Q (notedBy (model X.prog X.w) X.A (compEnvC scope cl C X.env) fun x Js=>∀ V:Env,V.locals=C->V.frame=X.env.frame->RR (.ref D) V (.error x) Js) s:=fun h=>wpAny_mono h (fun _ _ z=>z) fun e s' z=>PB back e s' z
 have loop:∀ (s5:Shared) (Ka:St) (H5:Hp) (i m:Nat),Inv Y [] Ka H5 s5->tn i s5.heap->(∀ b∈fp,H5 b=none)->W i m Ka H5->
   codeAny (model X.prog X.w) X.A (.compLoop (.ListComp elt [⟨tg,iter,ifs,0⟩] scope pos) 0 (.ref it) (.ref D) (compEnvC scope cl C X.env)) (fun r s'=>∀ V:Env,V.locals=C->V.frame=X.env.frame->RR (.ref D) V r s') s5:=by
  intro s5 Ka H5 i m I5 M4 Pg w5
  refine codeAny_loop rfl (fun n s'=>∃ i E4 H',Inv Y [] E4 H' s'/\tn i s'.heap/\(∀ b∈fp,H' b=none)/\W i n E4 H') ?_ m ⟨i,Ka,H5,I5,M4,Pg,w5⟩
  rintro n s6 ⟨i,Lk,H6,I6,Rj,Rk,w6⟩
  show wpAny _ X.A ((compTurn (.ListComp elt [⟨tg,iter,ifs,0⟩] scope pos) 0 (.ref it) (.ref D) (compEnvC scope cl C X.env)).onRaise (fun x=>do noteFrame x (compEnvC scope cl C X.env);theTreesLotGoes x)) _ _ s6
  refine wpAny_noted ?_
  rw[iL]
  refine wpAny_bind (wpAny_standAt (wpAny_bind ?_))
  have nx:∀ {α:Type}{t:Sem α}{Q:α->Shared->Prop}{E':Value->Shared->Prop}{s:Shared},wpAny (model X.prog X.w) X.A t Q (fun _ _=>False) s->wpAny (model X.prog X.w) X.A t Q E' s:=fun h=>wpAny_mono h (fun _ _ z=>z) fun _ _ z=>z.elim
  rcases turn i n Lk H6 w6 with ⟨stop,qn⟩|⟨go,step⟩
  ·have h:=T.done Y yP yw yK yc i [] s6 Lk H6 (fun _ _=>False) I6 (HY Rk) Rj stop
   rw[yA] at h
   refine nx (Fe h fun r s7 ⟨hr,I7⟩=>?_)
   subst hr
   refine wpAny_pure ?_
   obtain⟨b1,b2,b3⟩:=back s7 Lk H6 I7
   exact hR D C s7 H6 b1 b2 b3 qn
  ·have h:=T.item Y yP yw yK yc i [] s6 Lk H6 (fun _ _=>False) I6 (HY Rk) Rj go
   rw[yA] at h
   refine nx (Fe h fun r s7 ⟨u,hr,h7⟩=>?_)
   subst hr
   refine wpAny_bind (nx (Fe h7 fun _ s8 ⟨x,H8,I8,r8,y8,PJ,TZ⟩=>?_))
   have T1:=I8.pinned (HY TZ) (T.obj _ _ PJ)
   have h9:=TU _ s8 Lk H8 x u _ T1 r8 (step x H8 y8)
   rw[yP,yw,yA,yx,ye] at h9
   refine wpAny_bind (nz (Fe h9 fun _ s9 ⟨PK,H9,I9,q9⟩=>?_))
   have KP:=Jv _ s9 PK H9 _ I9 q9
   rw[yP,yw,yA,yx,ye] at KP
   refine wpAny_bind (nz (Fe KP fun ok T2 ⟨T3,Rl,Mo⟩=>?_))
   have again:∀ {E4:St}{H':Hp}{s':Shared},Inv Y ([]++d9 fp s8.heap) E4 H' s'->(∃ m',m' < n/\W (i+1) m' E4 H')->∃ m,m < n/\∃ i E4 H',Inv Y [] E4 H' s'/\tn i s'.heap/\(∀ b∈fp,H' b=none)/\W i m E4 H':=fun {E4 H' s'} I' ⟨m',hm,w'⟩=>by
    refine⟨m',hm,i+1,E4,H',I'.Gf,T.keep _ _ _ PJ fun b hb o e=>(I'.pin (b,o) (List.mem_append_right _ (List.mem_append_right _ (cH hb e)))).1,fun b hb=>?_,w'⟩
    obtain⟨o,e,d⟩:=T.obj _ _ PJ b hb
    exact(I'.pin (b,o) (List.mem_append_right _ (List.mem_append_right _ (cH hb e)))).2.1
   cases ok with
   | false=>
    rw[if_neg Bool.false_ne_true] at Mo
    refine wpAny_bind (wpAny_pure (wpAny_pure ⟨rfl,again Rl Mo⟩))
   | true=>
    rw[if_pos rfl] at Mo
    have Mp:=Hf _ T2 PK T3 _ Rl Mo
    rw[yP,yw,yA,yx,ye] at Mp
    refine wpAny_bind (wpAny_bind (nz (Fe Mp fun y T4 ⟨v,Rn,T5,T6,ys,ey,zy,T7⟩=>?_)))
    have Hg:=gQ (X:=Y) ([]++d9 fp s8.heap) T4 PK Rn (.ref D) [v] (.ref D) [y] (fun v' H'=>v'=.EZ/\H'=upd Rn D (.lst (ys++[v]))) T5 rfl (.cons T6 .nil) ⟨D,ys,v,rfl,rfl,ey,zy,rfl,rfl⟩
    rw[yP,yw,yA,yx] at Hg
    refine wpAny_bind (nz (Fe Hg fun z Wb ⟨Wc,Wd,T8,We,Wf,PL⟩=>?_))
    subst PL
    exact wpAny_pure (wpAny_pure ⟨rfl,again T8 T7⟩)
 have start:=loop {s3 with heap:=h4,toks:=s3.toks+([]:List (Str×Value)).length} (stC Fr Tg σ) (upd H2 D (.lst [])) 0 m0 I4 Ri TV w0
 have e5:∀ (s':Shared),s' = {s3 with heap:=h4,toks:=s3.toks+([]:List (Str×Value)).length}->codeAny (model X.prog X.w) X.A (.compLoop (.ListComp elt [⟨tg,iter,ifs,0⟩] scope pos) 0 (.ref it) (.ref D) (compEnvC scope cl C X.env)) (fun r s'=>∀ V:Env,V.locals=C->V.frame=X.env.frame->RR (.ref D) V r s') s':=by
  rintro _ rfl
  exact start
 exact codeAny_compStart_list (e5 _ rfl) (T.self _ _ _ _ _ Ri (e5 _ rfl))
theorem lX (hc:X.calm=true)(S:Gs X scope cl Fr Tg)(hi:PI X tg iter wi)
  (hg:∀ C s H fp,PG (Iw X scope cl (Fr.map (·.1)++Tg) C s H fp) tg g) (ht:∀ C s H fp,J' (Iw X scope cl (Fr.map (·.1)++Tg) C s H fp) ifs tt)
  (he:∀ C s H fp,PE (Iw X scope cl (Fr.map (·.1)++Tg) C s H fp) elt te) (hs:∀ x,foldedSetIterable iter X.env x=pure x:=by intro _;rfl) :
  PE X (.ListComp elt [⟨tg,iter,ifs,0⟩] scope pos) (o9 wi (stC Fr Tg) g tt te):=by
 intro pins s σ H Q I h
 rw[eval_ListComp]
 refine wpAny_comprehension_free (use:=none) rfl hs S.Nd S.kind S.loc (Fe (hi pins s σ H _ I h) fun xv s1 h1=>Fe h1 fun Ov s2 h2=>?_)
 obtain⟨it,fp,tn,J,H2,rfl,I2,T,KH,f2,q⟩:=h2
 refine fF (XE:=fun _ _ _ _ _ _=>False) (RR:=fun acc V=>compPost (model X.prog X.w) X.A X.xe none (EP X pins σ Q) acc V.locals) hc S hg ht he I2 T KH f2 q ?_ fun _ _ _ _ _ _ _ z=>z.elim
 intro D C s' H' ⟨m,hn⟩ I' F' q' V hV _
 subst hV
 obtain⟨f0,f1,f2,f3,f4,f5⟩:=F'
 exact⟨m,hn,fun h' sb=>⟨.ref D,H',I'.turned (t':=s'.toks) (fun b o hb e=>(sb.2 b hb).trans e) f0 f1 f3 f4 f5,rfl,q'⟩⟩
theorem uA {y:Str}{py spos:Pos}{i:Nat}(hc:X.calm=true)(hN:X.N.Nodup)(T9:X.N[i]? = some y)(hy:X.env.kindOf y=some .local)(S:Gs X scope cl Fr Tg)(hi:PI X tg iter wi)
  (hg:∀ C s H fp,PG (Iw X scope cl (Fr.map (·.1)++Tg) C s H fp) tg g) (ht:∀ C s H fp,J' (Iw X scope cl (Fr.map (·.1)++Tg) C s H fp) ifs tt)
  (he:∀ C s H fp,PE (Iw X scope cl (Fr.map (·.1)++Tg) C s H fp) elt te)
  (Nk:swapsWith (.ListComp elt [⟨tg,iter,ifs,0⟩] scope pos) (some (.Name y py)) spos.line X.env=pure true) (hs:∀ x,foldedSetIterable iter X.env x=pure x:=by intro _;rfl) :
  PS X (.Assign [.Name y py] (.ListComp elt [⟨tg,iter,ifs,0⟩] scope pos) spos) (fun D σ H=>o9 wi (stC Fr Tg) g tt te σ H fun v H'=>D.nx (σ.set i (some v)) H'):=by
 intro pins s σ H D I h
 rw[exec_Assign_Name_used _ _ _ _ Nk]
 refine wpAny_bind (wpAny_standAt (wpAny_bind ?_))
 show wpAny _ X.A (do let _ <- comprehension (.ListComp elt [⟨tg,iter,ifs,0⟩] scope pos) scope X.env _ (newList []) false (eval iter X.env) (some (assign (.Name y py) X.env))) _ _ s
 refine wpAny_bind (Fe (wpAny_comprehension_free (use:=some (assign (.Name y py) X.env)) (Q:=fun _ s'=>SP X pins D .next s') rfl hs S.Nd S.kind S.loc
  (Fe (hi pins s σ H _ I h) fun xv s1 h1=>Fe h1 fun Ov s2 h2=>?_)) fun _ s' hq=>wpAny_pure (wpAny_pure hq))
 obtain⟨it,fp,tn,J,H2,rfl,I2,T,KH,f2,q⟩:=h2
 refine fF (Q:=fun v H'=>D.nx (σ.set i (some v)) H') (XE:=fun _ _ _ _ _ _=>False) (RR:=fun acc V=>compPost (model X.prog X.w) X.A X.xe (some (assign (.Name y py) X.env)) (fun _ s'=>SP X pins D .next s') acc V.locals) hc S hg ht he I2 T KH f2 q ?_ fun _ _ _ _ _ _ _ z=>z.elim
 intro D' C s' H' ⟨m,hn⟩ I' F' q' V hV _
 subst hV
 obtain⟨f0,f1,f2,f3,f4,f5⟩:=F'
 show wpAny _ X.A (assign (.Name y py) X.env (.ref D')) _ _ _
 refine wpAny_assign_Name (gH I' hN T9 (.inl hy) (show RelV (.ref D') (.ref D') from rfl) (fun Js T' ⟨a,sb,ha⟩=>?_) (.inr hy))
 have Ua:V.locals≠a:=by
  rcases ha with rfl|ha
  ·exact f1
  ·exact fun z=>f4 y a ha z.symm
 refine⟨m,hn.sameBut sb Ua,fun h' Ub=>⟨_,H',T'.turned (t':=Js.toks) (fun b o hb e=>(Ub.2 b hb).trans e) f0 f1 f3 f4 f5,q'⟩⟩
end
open PySem.SeqAt
section
variable {prog:Program}{w:World}{A:Around}{E:Value->Shared->Prop}{s:Shared}
theorem kI:typeLookup (.type "list_reverseiterator") "__len__" = pure none:=by rw[typeLookup_type,builtinLookup_eq_fast];kernel_rfl
theorem pf:typeLookup (.type "list_reverseiterator") "__length_hint__" = pure (some (.builtin "list_reverseiterator.__length_hint__")):=by rw[typeLookup_type,builtinLookup_eq_fast];kernel_rfl
theorem fG {I l:Addr}{i:Int}{Q:Bool->Shared->Prop}(hit:s.heap.IsRevIter I l i)(h:Q false s):wpAny (model prog w) A (Builtin.List.listLengthHint (.ref I)) Q E s:=by
 unfold Builtin.List.listLengthHint
 refine wpAny_bind (wpAny_specialOf hit.typeIs kI ?_)
 show wpAny _ A (specialOf (Value.ref I) (Str.ofString "__length_hint__") >>= _) _ _ _
 refine wpAny_bind (wpAny_specialOf hit.typeIs pf ?_)
 generalize JM:("list_reverseiterator.__length_hint__" : String)=PM
 wp_delta
 rw[show splitId PM=some ("list_reverseiterator","__length_hint__") from by subst JM;decide +kernel]
 subst JM
 refine wpAny_bind (wpAny_isInstance (T:="list_reverseiterator") (b:=true) hit.typeIs (by rw[isSubtype_type];kernel_rfl) ?_)
 refine wpAny_ite_split (fun IW=>absurd IW (by decide)) (fun _=>?_)
 refine wpAny_ite_split (fun _=>?_) (fun IW=>absurd (by decide +kernel) IW)
 refine wpAny_ite_split (fun IW=>absurd IW (by decide +kernel)) (fun _=>?_)
 exact wpAny_pure h
theorem en {R:Result->Shared->Prop}(hh:A.handled=none)(I l S:Addr)(items:Array Value)(Hw:l≠I)(res:Value)(c₀:Nat)(hit:s.heap.IsRevIter I l ((items.size:Int) - 1))(hl:s.heap.IsList l items)(Ro:S≠I)(Uc:S≠l)
  (hS:s.heap.get? S=some {cls:=.type "list",data:=.seq #[] c₀})
  (hR:∀ h' tk FZ c',(∀ b o,b≠S->b≠I->s.heap.get? b=some o->h'.get? b=some o)->h'.get? S=some {cls:=.type "list",dict:=none,data:=.seq FZ c',slots:=#[]}->
   ItemsOf (fun i v=>items[items.size - 1 - i]? = some v) FZ items.size->R (.ok (.ret res)) {s with heap:=h',toks:=tk}) (hn:items.size<=sizeLine) :
  wpAny (model prog w) A.in1 (Builtin.List.listExtendWith (.ref S) (.ref I) res)
   (fun fin s'=>match fin with|.done f=>R (.ok f) s'|.again c'=>c'.quiet=true/\codeAny (model prog w) A c' R s') (fun e s'=>R (.error e) s') s:=by
 have Ud:S∉[I,l]:=fun hm=>by
  rcases List.mem_cons.mp hm with e|hm
  ·exact Ro e
  ·exact Uc (List.mem_singleton.mp hm)
 unfold Builtin.List.listExtendWith
 refine wpAny_bind (wpAny_typeOf hit.typeIs ?_)
 have h1:Builtin.List.listSameRef (.ref S) (.ref I)=false:=by simp[Builtin.List.listSameRef,Ro]
 have h2:(Value.type "list_reverseiterator" == Value.type "list")=false:=by decide
 have h3:(Value.type "list_reverseiterator" == Value.type "tuple")=false:=by decide
 simp only[h1,h2,h3,Bool.or_false,Bool.false_eq_true,if_false]
 refine wpAny_bind (wpAny_pyIter_revIter hit ?_)
 refine wpAny_bind (wpAny_holding (fG hit ?_))
 refine wpAny_ite_split (fun IW=>absurd IW (by decide)) (fun _=>?_)
 have W:=(Walks.listRev (prog:=prog) (w:=w) (A:=A.in1) hh I l Hw items).toS
 refine wpAny_pure ⟨plainId_quiet F.plain_extend_loop _,codeAny_extend_loopS W hn S Ud res items.size 0 _ #[] c₀ rfl (Nat.zero_le _) ⟨Nat.zero_le _,by simpa using hit,hl⟩ hS (ItemsOf.nil _) fun s' FZ c' hm GB FA=>?_⟩
 rw[Moved.eq_with hm]
 refine hR s'.heap s'.toks FZ c' (fun b o hb Iy e=>hm.heap b o (fun Lq=>?_) e) GB FA
 rcases List.mem_cons.mp Lq with e'|Lq
 ·exact hb e'
 ·exact Iy (List.mem_singleton.mp Lq)
theorem gD {Q:Value->Shared->Prop}(hh:A.handled=none)(I l:Addr)(items:Array Value)(Hw:l≠I)(hit:s.heap.IsRevIter I l ((items.size:Int) - 1))(hl:s.heap.IsList l items)
  (hQ:∀ h' tk FZ c',(∀ b o,b≠I->s.heap.get? b=some o->h'.get? b=some o)->
   h'.get? s.heap.objs.size=some {cls:=.type "list",dict:=none,data:=.seq FZ c',slots:=#[]}->ItemsOf (fun i v=>items[items.size - 1 - i]? = some v) FZ items.size->Q (.ref s.heap.objs.size) {s with heap:=h',toks:=tk}) (hn:items.size<=sizeLine) :
  wpAny (model prog w) A (call (.type "list") [.ref I]) Q E s:=by
 have ltI:I < s.heap.objs.size:=by obtain⟨o,e,_⟩:=hit;exact Heap.lt_size e
 have OH:l < s.heap.objs.size:=by obtain⟨o,e,_⟩:=hl;exact Heap.lt_size e
 refine callType_codes (Q₁:=fun obj E5=>obj=.ref s.heap.objs.size/\E5 = {s with heap:=s.heap.push {cls:=.type "list",data:=.seq #[]}}) F.called_list (F.typeCall_list_1 _) F.entry_list_init
  (code_list_new _ ⟨rfl,rfl⟩) fun obj E5 Kb=>?_
 obtain⟨rfl,rfl⟩:=Kb
 have hS:(s.heap.push {cls:=.type "list",data:=.seq #[]}).get? s.heap.objs.size=some {cls:=.type "list",data:=.seq #[]}:=Heap.get?_push_size _ rfl
 refine⟨⟨_,hS,rfl⟩,F.args_list_init_2 _ _,?_⟩
 show wpAny _ _ (do let old <- Builtin.List.listItems (.ref s.heap.objs.size);Builtin.List.listUpdate (.ref s.heap.objs.size) (fun _=>#[]);letGo old.toList.reverse;Builtin.List.listExtendWith (.ref s.heap.objs.size) (.ref I) .none) _ _ _
 refine wpAny_bind ?_
 unfold Builtin.List.listItems
 refine wpAny_bind (wpAny_seqItems hS rfl (wpAny_pure ?_))
 show wpAny _ _ (updateSeq s.heap.objs.size (fun _=>#[]) >>= fun _=>letGo (#[]:Array Value).toList.reverse >>= fun _=>Builtin.List.listExtendWith (.ref s.heap.objs.size) (.ref I) .none) _ _ _
 refine wpAny_bind (wpAny_updateSeq hS rfl ?_)
 have Nl:=Heap.get?_update_self (Obj.mapSeq (fun _=>(#[]:Array Value))) hS rfl
 have Fj:∀ b o,b≠s.heap.objs.size->s.heap.get? b=some o->((s.heap.push {cls:=.type "list",data:=.seq #[]}).update s.heap.objs.size (Obj.mapSeq (fun _=>(#[]:Array Value)))).get? b=some o:=
  fun b o hb e=>(Heap.get?_update_other _ _ (Ne.symm hb)).trans (Heap.get?_push_of_some _ e)
 refine wpAny_bind (wpAny_letGo ?_)
 refine en (A:=A.in1) hh I l _ items Hw .none _ (hit.at fun o e=>Fj I o (Nat.ne_of_lt ltI) e) (hl.at fun o e=>Fj l o (Nat.ne_of_lt OH) e) (Nat.ne_of_gt ltI) (Nat.ne_of_gt OH) Nl (fun h' tk FZ c' hk GB FA=>?_) hn
 exact⟨rfl,hQ h' tk FZ c' (fun b o hb e=>hk b o (Nat.ne_of_lt (Heap.lt_size e)) hb (Fj b o (Nat.ne_of_lt (Heap.lt_size e)) e)) GB FA⟩
end
section
variable {X:Cx}{e:Expr}{t:TE}{p p' pos pos':Pos}
theorem Vals.rev:∀ {xs:List V}{us:List Value},Vals xs us->Vals xs.reverse us.reverse
 | [],[],_=>.nil
 | x::xs,u::us,.cons r rs=>by
  rw[List.reverse_cons,List.reverse_cons]
  exact(Vals.rev rs).append (.cons r .nil)
theorem uB (hc:X.calm=true)(g1:Gl X "list") (m1:X.mg "list" = none) (g2:Gl X "reversed") (m2:X.mg "reversed" = none) (he:PE X e t) (F8:∀ es,starEach (e::es) X.env=(false,eval e X.env)::starEach es X.env) :
  PE X (.Call (.Name "list" p) [.Call (.Name "reversed" p') [e] [] pos'] [] pos) (fun σ H Q=>t σ H fun v H1=>∃ l ys,v=.ref l/\FR X.K H1 l ys/\∀ q,H1 q=none->Q (.ref q) (upd H1 q (.lst ys.reverse))):=by
 intro pins s σ H Q I h
 refine wpAny_Call_Name_kw (dy (u:=.type "list") I g1 m1 (by decide +kernel) ?_ (by decide) (by decide))
 refine PyProof.Rows.callWith_type1 ?_ rfl rfl
 show wpAny _ _ (spliced ((false,eval (.Call (.Name "reversed" p') [e] [] pos') X.env)::backTo pos (starEach [] X.env))) _ _ s
 have key:wpAny (model X.prog X.w) X.A (eval (.Call (.Name "reversed" p') [e] [] pos') X.env) (fun u s1=>∃ s0 l ys its H1,Inv X pins σ H1 s0/\Vals ys its/\s0.heap.IsList l its.toArray/\ys.length<=sizeLine/\u=.ref s0.heap.objs.size/\s1 = {s0 with heap:=s0.heap.push (revObj l ((its.toArray.size:Int) - 1))}/\∀ q,H1 q=none->Q (.ref q) (upd H1 q (.lst ys.reverse))) X.xe s:=by
  refine wpAny_Call_Name_kw (dy (u:=.type "reversed") I g2 m2 (by decide +kernel) ?_ (by decide) (by decide))
  refine PyProof.Rows.callWith_type1 ?_ (F8 []) rfl
  rw[F8 []]
  show wpAny _ _ (spliced ((false,eval e X.env)::backTo pos' (starEach [] X.env))) _ _ s
  refine Calls.spliced_cons (Fe (he pins s σ H _ I h) fun u s1 ⟨x,H1,I1,r1,l,ys,ex,hq,q1⟩=>?_)
  subst ex
  cases r1
  refine Calls.spliced_nil ?_
  obtain⟨its,r',pl,hz⟩:=I1.list hq
  exact call_reversed_list pl.isList ⟨s1,l,ys,its,H1,I1,r',pl.isList,hz,rfl,rfl,q1⟩
 refine Calls.spliced_cons (Fe key fun u s1 ⟨s0,l,ys,its,H1,I1,rv,hl,hz,eu,es,q1⟩=>?_)
 subst eu es
 refine Calls.spliced_nil ?_
 have hlen:=rv.length
 have OH:l < s0.heap.objs.size:=by obtain⟨o,e,_⟩:=hl;exact Heap.lt_size e
 have hit:(s0.heap.push (revObj l ((its.toArray.size:Int) - 1))).IsRevIter s0.heap.objs.size l ((its.toArray.size:Int) - 1):=⟨_,Heap.get?_push_size _ rfl,rfl,rfl⟩
 have Lr:(s0.heap.push (revObj l ((its.toArray.size:Int) - 1))).IsList l its.toArray:=hl.at fun o e=>Heap.get?_push_of_some _ e
 have hsz:(s0.heap.push (revObj l ((its.toArray.size:Int) - 1))).objs.size=s0.heap.objs.size+1:=Heap.size_push ..
 refine gD (s:={s0 with heap:=s0.heap.push (revObj l ((its.toArray.size:Int) - 1))}) (show X.A.handled=none from I.ok.hd hc) s0.heap.objs.size l its.toArray (Nat.ne_of_lt OH) hit Lr (fun h' tk FZ c' kp e FA=>?_) (by simp only[List.size_toArray]<;>omega)
 have ha:FZ=(its.reverse).toArray:=by
  apply Array.ext
  ·rw[FA.1];simp
  ·intro i h1 h2
   have:=FA.2 i FZ[i] (Array.getElem?_eq_getElem h1)
   rw[FA.1] at h1
   have h3:i < its.length:=by simpa using h1
   simp only[List.size_toArray,List.getElem?_toArray] at this
   rw[List.getElem?_eq_getElem (by omega)] at this
   have:=Option.some.inj this
   rw[<- this]
   simp[List.getElem_reverse]
 subst ha
 exact⟨.ref _,_,I1.laid (t':=tk) (fun b o e=>kp b o (Nat.ne_of_lt (Heap.lt_size e)) (Heap.get?_push_of_some _ e)) (by show s0.heap.objs.size<=(s0.heap.push _).objs.size;rw[hsz];exact Nat.le_succ _) (show aJ X.prog X.w _ h' _ (.lst ys.reverse) from ⟨by simpa using hz,its.reverse,c',rv.rev,e⟩),rfl,q1 _ (I1.E7.fresh (by show s0.heap.objs.size<=(s0.heap.push _).objs.size;rw[hsz];exact Nat.le_succ _))⟩
end
section
variable {X:Cx}
theorem jB {x:Str}{n:Int}(h0 : -16000<=n)(h1:n<=16000)(hx:x.length<=1000):MulOk x n:=by
 refine⟨?_,fun hn _=>?_,fun hn _=>?_⟩
 ·rw[Bool.or_eq_false_iff]
  exact⟨decide_eq_false (by omega),decide_eq_false (by omega)⟩
 ·have:(1000:Int)<=(2 ^ 63 - 1) / n:=Int.le_ediv_of_mul_le (by omega) (by omega)
  omega
 ·have:x.length*n.toNat<=1000*16000:=Nat.mul_le_mul hx (by omega)
  unfold Builtin.Str.tooLong
  exact decide_eq_false (by rw[sizeLine_eq];omega)
theorem kJ:HS X (binaryOp .Mult) (fun x y H Q=>∃ i j,x=.str i/\y=.int j/\-16000<=j/\j<=16000/\i.length<=1000/\Q (.str (Txt.mul i j)) H):=by
 intro pins s σ H x y v u Q I rx ry h
 obtain⟨i,j,rfl,rfl,h0,h1,hz,q⟩:=h
 obtain⟨t,rfl⟩:=rx
 obtain⟨t',rfl⟩:=ry
 exact SB.mul (jB h0 h1 hz) fun t' tk=>⟨.str (Txt.mul i j),H,I.tok _,⟨_,rfl⟩,q⟩
noncomputable def ez (z:Str):List V:=z.cps.toList.map fun c=>.str ⟨#[c]⟩
theorem kK {z:Str}{FZ:Array Value}(FA:ItemsOf (SignAt z) FZ z.cps.size):Vals (ez z) FZ.toList:=by
 have hl:FZ.toList.length=z.cps.toList.length:=by rw[Array.length_toList,Array.length_toList,FA.1]
 have key:∀ (cs:List Nat) (vs:List Value),vs.length=cs.length->(∀ (i:Nat) (v:Value),vs[i]? = some v->∃ c u,cs[i]? = some c/\v=Value.str ⟨#[c]⟩ u)->Vals (cs.map fun c=>V.str ⟨#[c]⟩) vs:=by
  intro cs
  induction cs with
  | nil=>
   intro vs hl _
   cases vs with
   | nil=>exact .nil
   | cons _ _=>cases hl
  | cons c cs ih=>
   intro vs hl hv
   cases vs with
   | nil=>cases hl
   | cons v vs=>
    obtain⟨c',u,e1,e2⟩:=hv 0 v rfl
    have OF:c=c':=by simpa using e1
    subst OF e2
    exact .cons ⟨u,rfl⟩ (ih vs (by simpa using hl) fun i w hw=>by simpa using hv (i+1) w (by simpa using hw))
 refine key _ _ hl fun i v hv=>?_
 obtain⟨c,u,e1,e2⟩:=FA.2 i v (by rw[<- Array.getElem?_toList];exact hv)
 exact⟨c,u,by rw[Array.getElem?_toList];exact e1,e2⟩
theorem fH (hc:X.calm=true):bL X (.type "tuple") (fun xs H Q=>∃ z:Str,xs=[.str z]/\z.length<=sizeLine/\∀ l,H l=none->Q (.ref l) (upd H l (.tup (ez z)))):=by
 intro pins s σ H xs us Q I r h
 obtain⟨z,rfl,hz,q⟩:=h
 obtain⟨u,rfl,t,rfl⟩:=vals1 r
 refine call_tuple_str (hsz:=hz) (show X.A.handled=none from I.ok.hd hc) z t (fun h' tk acc kp FA=>?_)
 have rv:=kK FA
 have I1:Inv X pins σ H {s with heap:=h',toks:=tk}:=I.kept (t':=tk) kp
 exact⟨.ref _,_,I1.laid (t':=tk) (fun b o e=>Heap.get?_push_of_some _ e) (Nat.le_refl _) (show aJ X.prog X.w _ _ _ (.tup (ez z)) from ⟨by unfold ez;simpa[Str.length] using hz,acc.toList,rv,by simpa using IsTup.new h' acc⟩),rfl,q _ (I1.E7.fresh (Nat.le_refl _))⟩
end
open PySem.W
section
variable {prog:Program}{w:World}{A:Around}{E:Value->Shared->Prop}{s:Shared}
end
section
variable {n:Nat}
end
section
variable {prog:Program}{w:World}{A:Around}{E:Value->Shared->Prop}{s:Shared}
end
section
variable {prog:Program}{w:World}{A:Around}{E:Value->Shared->Prop}{s:Shared}
end
section
variable {X:Cx}
end
section
variable {X:Cx}
end
section
variable {X:Cx}
end
section
variable {κ:Type} [DecidableEq κ]
noncomputable def eC (kvs:List (κ×V))(k:κ):Option V:=(kvs.find? fun kv=>decide (kv.1=k)).map (·.2)
noncomputable def putK (kvs:List (κ×V))(k:κ)(v:V):List (κ×V):=
 if (kvs.any fun kv=>decide (kv.1=k))=true then kvs.map (fun kv=>if kv.1=k then (kv.1,v) else kv) else kvs++[(k,v)]
theorem fI {p:κ×V}{r:List (κ×V)}{k:κ}(e:p.1=k):eC (p::r) k=some p.2:=by simp[eC,List.find?_cons,e]
theorem fJ {p:κ×V}{r:List (κ×V)}{k:κ}(e:¬ p.1=k):eC (p::r) k=eC r k:=by simp[eC,List.find?_cons,e]
theorem jC (k:κ):∀ kvs:List (κ×V),(kvs.any fun kv=>decide (kv.1=k))=(eC kvs k).isSome
 | []=>rfl
 | p::r=>by
  rw[List.any_cons]
  by_cases e:p.1=k
  ·simp only[fI e,decide_eq_true e,Bool.true_or,Option.isSome_some]
  ·rw[fJ e,decide_eq_false e,Bool.false_or];exact jC k r
theorem eT (kvs:List (κ×V))(k:κ)(v:V):(putK kvs k v).length<=kvs.length+1:=by
 unfold putK
 split
 ·rw[List.length_map];omega
 ·rw[List.length_append,List.length_cons,List.length_nil];omega
theorem nK.FL {o:Option V}{u:Option Value}(r:nK o u):o.isSome=u.isSome:=by
 cases o with
 | none=>cases u with
  | none=>rfl
  | some _=>exact(show False from r).elim
 | some _=>cases u with
  | none=>exact(show False from r).elim
  | some _=>rfl
theorem KV.val {kvs:List (κ×V)}{vs:List (κ×Value)}(r:KV kvs vs)(k:κ):nK (eC kvs k) (valueAt vs k):=by
 unfold KV at r
 induction r with
 | nil=>exact True.intro
 | @cons p q ps qs h t ih=>
  obtain⟨h1,h2⟩:=h
  by_cases e:p.1=k
  ·have e':q.1=k:=h1.symm.trans e
   have b:valueAt (q::qs) k=some q.2:=by simp[valueAt,List.find?_cons,e']
   rw[fI e,b];exact h2
  ·have e':¬ q.1=k:=fun z=>e (h1.trans z)
   have b:valueAt (q::qs) k=valueAt qs k:=by simp[valueAt,List.find?_cons,e']
   rw[fJ e,b];exact ih
theorem KV.any {kvs:List (κ×V)}{vs:List (κ×Value)}(r:KV kvs vs)(k:κ):(kvs.any fun kv=>decide (kv.1=k))=vs.any fun kv=>decide (kv.1=k):=by
 unfold KV at r
 induction r with
 | nil=>rfl
 | cons h t ih=>rw[List.any_cons,List.any_cons,ih,h.1]
theorem KV.Lu {kvs:List (κ×V)}{vs:List (κ×Value)}(r:KV kvs vs)(k:κ){y:V}{u:Value}(ry:RelV y u) :
  KV (kvs.map fun kv=>if kv.1=k then (kv.1,y) else kv) (vs.map fun kv=>if kv.1=k then (kv.1,u) else kv):=by
 unfold KV at r ⊢
 induction r with
 | nil=>exact .nil
 | @cons p q ps qs h t ih=>
  rw[List.map_cons,List.map_cons]
  refine .cons ?_ ih
  obtain⟨h1,h2⟩:=h
  by_cases e:p.1=k
  ·rw[if_pos e,if_pos (h1.symm.trans e)];exact⟨h1,ry⟩
  ·rw[if_neg e,if_neg (fun z=>e (h1.trans z))];exact⟨h1,h2⟩
theorem KV.put {kvs:List (κ×V)}{vs:List (κ×Value)}(r:KV kvs vs)(k:κ){y:V}{u:Value}(ry:RelV y u):KV (putK kvs k y) (stored vs k u):=by
 unfold putK stored
 rw[r.any k]
 by_cases e:(vs.any fun kv=>decide (kv.1=k))=true
 ·rw[if_pos e,if_pos e];exact r.Lu k ry
 ·rw[if_neg e,if_neg e];exact Paired.snoc r ⟨rfl,ry⟩
theorem KV.length {kvs:List (κ×V)}{vs:List (κ×Value)}(r:KV kvs vs):kvs.length=vs.length:=Paired.length r
end
theorem lY {P:Program}{w:World}{k:Key}{u:Value}(r:RelV (kV k) u):(bb P w).is k u=true:=by
 cases k with
 | inl i=>obtain⟨t,e⟩:=(show ∃ t,u=Value.int i t from r);subst e;exact jq P w i t
 | inr x=>obtain⟨t,e⟩:=(show ∃ t,u=Value.str x t from r);subst e;exact jr P w x t
theorem gU {P:Program}{w:World}:∀ {ks:List Key}{us:List Value},Vals (ks.map kV) us->ItemsAre (bb P w) ks us
 | [],_,r=>by rw[List.map_nil] at r;cases r;exact .nil
 | k::ks,_,r=>by
  rw[List.map_cons] at r
  cases r with
  | cons h t=>exact .cons (lY h) (gU t)
abbrev KT (H:Hp):List (List Key×V)->List (List Key×Addr×Value)->Prop:=Paired fun p q=>p.1=q.1/\H q.2.1=some (.tup (p.1.map kV))/\RelV p.2 q.2.2
theorem KT.val {H:Hp}{kvs:List (List Key×V)}{xs:List (List Key×Addr×Value)}(r:KT H kvs xs)(k:List Key):nK (eC kvs k) ((atKey xs k).map (·.2)):=by
 induction r with
 | nil=>exact True.intro
 | @cons p q ps qs h t ih=>
  obtain⟨h1,_,h2⟩:=h
  by_cases e:p.1=k
  ·have e':q.1=k:=h1.symm.trans e
   have b:atKey (q::qs) k=some q.2:=by simp[atKey,List.find?_cons,e']
   rw[fI e,b];exact h2
  ·have e':¬ q.1=k:=fun z=>e (h1.trans z)
   have b:atKey (q::qs) k=atKey qs k:=by simp[atKey,List.find?_cons,e']
   rw[fJ e,b];exact ih
theorem KT.Lu {H:Hp}{kvs:List (List Key×V)}{xs:List (List Key×Addr×Value)}(r:KT H kvs xs)(k:List Key){y:V}{u:Value}(ry:RelV y u) :
  KT H (kvs.map fun kv=>if kv.1=k then (kv.1,y) else kv) (xs.map (putAt k u)):=by
 induction r with
 | nil=>exact .nil
 | @cons p q ps qs h t ih=>
  rw[List.map_cons,List.map_cons]
  refine .cons ?_ ih
  obtain⟨h1,h2,h3⟩:=h
  unfold putAt
  by_cases e:p.1=k
  ·rw[if_pos e,if_pos (h1.symm.trans e)];exact⟨h1,h2,ry⟩
  ·rw[if_neg e,if_neg (fun z=>e (h1.trans z))];exact⟨h1,h2,h3⟩
theorem KT.put {H:Hp}{kvs:List (List Key×V)}{xs:List (List Key×Addr×Value)}(r:KT H kvs xs)(k:List Key){b:Addr}{y:V}{u:Value}(hb:H b=some (.tup (k.map kV)))(ry:RelV y u) :
  KT H (putK kvs k y) (storedH xs k b u):=by
 have e:(kvs.any fun kv=>decide (kv.1=k))=(atKey xs k).isSome:=by
  rw[jC,(r.val k).FL,Option.isSome_map]
 unfold putK storedH
 rw[e]
 by_cases q:(atKey xs k).isSome=true
 ·rw[if_pos q,if_pos q];exact r.Lu k ry
 ·rw[if_neg q,if_neg q];exact Paired.snoc r ⟨rfl,hb,ry⟩
theorem KT.keeps {H H':Hp}{kvs:List (List Key×V)}{xs:List (List Key×Addr×Value)}(r:KT H kvs xs)(ht:∀ b ys,H b=some (.tup ys)->H' b=some (.tup ys)):KT H' kvs xs:=
 Paired.La r fun _ _ z=>⟨z.1,ht _ _ z.2.1,z.2.2⟩
section
variable {P:Program}{w:World}{H:Hp}{h:Heap}{a:Addr}
theorem vZ {u:HO}(ok:FD P w H h)(e:Rd H a u):aJ P w H h a u:=e.ok ok
theorem ph {kvs:List (Key×V)}(ok:FD P w H h)(e:Rd H a (.dK kvs)):kvs.length<=sizeLine/\(a == sysModules)=false/\∃ vs,KV kvs vs/\h.DictOf (bb P w) a vs:=
 show aJ P w H h a (.dK kvs) from vZ ok e
theorem Bg {kvs:List (Key×V)}(ok:FD P w H h)(e:H a=some (.dK kvs)):kvs.length<=sizeLine/\(a == sysModules)=false/\∃ vs,KV kvs vs/\h.DictOf (bb P w) a vs:=ph ok (.inl e)
theorem iM {ks:List Key}(ok:FD P w H h)(e:H a=some (.tup (ks.map kV))):(tupleKind (bb P w)).is h ks a:=by
 obtain⟨_,its,r,o,h1,h2,n,h3⟩:=(show aJ P w H h a (.tup (ks.map kV)) from ok a _ e)
 exact⟨o,its.toArray,n,h1,h2,h3,by simpa using gU r⟩
theorem pj {kvs:List (List Key×V)}(ok:FD P w H h)(e:Rd H a (.dT kvs)):kvs.length<=sizeLine/\(a == sysModules)=false/\
  ∃ xs,KT H kvs xs/\h.DictOfH (tupleKind (bb P w)) a xs:=by
 obtain⟨z,y,xs,r,o,es,ep,h1,h2,h3,h4,h5⟩:=(show aJ P w H h a (.dT kvs) from vZ ok e)
 refine⟨z,y,xs,r,o,es,ep,h1,h2,h3,h4,fun x hx=>?_,h5⟩
 have all:∀ {l:List (List Key×V)}{m:List (List Key×Addr×Value)},KT H l m->∀ x∈m,(tupleKind (bb P w)).is h x.1 x.2.1:=by
  intro l m q
  induction q with
  | nil=>intro x hx;exact nomatch hx
  | @cons p q ps qs hq t ih=>
   intro x hx
   rcases List.mem_cons.mp hx with e|hx
   ·subst e
    exact iM ok (by rw[<- hq.1];exact hq.2.1)
   ·exact ih x hx
 exact all r x hx
theorem Bh {kvs:List (List Key×V)}(ok:FD P w H h)(e:H a=some (.dT kvs)):kvs.length<=sizeLine/\(a == sysModules)=false/\
  ∃ xs,KT H kvs xs/\h.DictOfH (tupleKind (bb P w)) a xs:=pj ok (.inl e)
end
def nW (H:Hp)(a:Addr)(y:V)(r:Option V):Prop:=
 (∃ kvs k,Rd H a (.dK kvs)/\y=kV k/\r=eC kvs k)∨∃ kvs k b,Rd H a (.dT kvs)/\y=.ref b/\H b=some (.tup (k.map kV))/\r=eC kvs k
def Bj (H:Hp)(a:Addr)(y v:V)(H':Hp):Prop:=
 (∃ kvs k,H a=some (.dK kvs)/\y=kV k/\kvs.length < sizeLine/\H'=upd H a (.dK (putK kvs k v)))∨
 ∃ kvs k b,H a=some (.dT kvs)/\y=.ref b/\H b=some (.tup (k.map kV))/\kvs.length < sizeLine/\H'=upd H a (.dT (putK kvs k v))
section
variable {X:Cx}{pins:List (Addr×Obj)}{σ:St}{H:Hp}{s:Shared}{a:Addr}{y v:V}{u r:Value}{o:Option V}{A:Around}{E:Value->Shared->Prop}
theorem Inv.big (I:Inv X pins σ H s):sysModules < s.heap.objs.size:=by
 have h:mainGlobals < s.heap.objs.size:=(I.mod.glob.keeps I.bk).lt
 exact Nat.lt_trans (by decide) h
theorem Er {Q:Value->Shared->Prop}(hu:A.units+1 < cLine)(I:Inv X pins σ H s)(g:nW H a y o)(ry:RelV y u)(h:∀ s',Inv X pins σ H s'->Q (.bool o.isSome) s') :
  wpAny (model X.prog X.w) A (compareOp .In u (.ref a)) Q E s:=by
 rcases g with ⟨kvs,k,e,ey,l⟩|⟨kvs,k,b,e,ey,eb,l⟩
 ·subst ey
  obtain⟨z,hd,vs,rel,dd⟩:=ph I.E7 e
  refine wpAny_in_of (lY ry) hd dd.mapOf ?_
  rw[<- (rel.val k).FL,<- l]
  exact h _ (I.tok _)
 ·subst ey
  cases (show u=Value.ref b from ry)
  obtain⟨z,hd,xs,rel,dd⟩:=pj I.E7 e
  refine wpAny_in_heap (tupleKind_room_in1 hu) (iM I.E7 eb) hd dd ?_
  have q:=(rel.val k).FL
  rw[Option.isSome_map] at q
  rw[<- q,<- l]
  exact h _ (I.tok _)
theorem uC {Q:Value->Shared->Prop}(hu:A.units+1 < cLine)(I:Inv X pins σ H s)(g:nW H a y o)(ry:RelV y u)(h:∀ s',Inv X pins σ H s'->Q (.bool (!o.isSome)) s') :
  wpAny (model X.prog X.w) A (compareOp .NotIn u (.ref a)) Q E s:=by
 rcases g with ⟨kvs,k,e,ey,l⟩|⟨kvs,k,b,e,ey,eb,l⟩
 ·subst ey
  obtain⟨z,hd,vs,rel,dd⟩:=ph I.E7 e
  refine wpAny_notIn_of (lY ry) hd dd.mapOf ?_
  rw[<- (rel.val k).FL,<- l]
  exact h _ (I.tok _)
 ·subst ey
  cases (show u=Value.ref b from ry)
  obtain⟨z,hd,xs,rel,dd⟩:=pj I.E7 e
  refine wpAny_notIn_heap (tupleKind_room_in1 hu) (iM I.E7 eb) hd dd ?_
  have q:=(rel.val k).FL
  rw[Option.isSome_map] at q
  rw[<- q,<- l]
  exact h _ (I.tok _)
theorem lZ {h':Heap}{t':Nat}{ob:HO}(I:Inv X pins σ H s)(mu:MU (H a))(hs:Heap.SameBut a s.heap h')(he:∃ q,h'.get? a=some q)(new:aJ X.prog X.w (upd H a ob) h' a ob) :
  Inv X pins σ (upd H a ob) {s with heap:=h',toks:=t'}:=
 I.write (x:=a) (e:=a) mu (.inl rfl) (fun b q hb z=>(hs.2 b hb).trans z) he new
theorem zh {P:Program}{w:World}{H':Hp}{h':Heap}{kvs:List (Key×V)}{vs:List (Key×Value)}(z:kvs.length<=sizeLine)(hd:(a == sysModules)=false)(rel:KV kvs vs)(dd:h'.DictOf (bb P w) a vs) :
  aJ P w H' h' a (.dK kvs):=⟨z,hd,vs,rel,dd⟩
theorem nX {H':Hp}{Q:Unit->Shared->Prop}(hu:A.units+1 < cLine)(I:Inv X pins σ H s)(g:Bj H a y v H')(ry:RelV y u)(rv:RelV v r)(h:∀ s',Inv X pins σ H' s'->Q () s') :
  wpAny (model X.prog X.w) A (setItem (.ref a) u r) Q E s:=by
 rcases g with ⟨kvs,k,e,ey,l,eH⟩|⟨kvs,k,b,e,ey,eb,l,eH⟩
 ·subst ey eH
  obtain⟨z,hd,vs,rel,dd⟩:=Bg I.E7 e
  have hz:vs.length<=sizeLine:=by rw[<- rel.length];exact z
  have hl:(putK kvs k v).length<=sizeLine:=by have:=eT kvs k v;omega
  refine wpAny_setItem_pairs (hsz:=hz) (lY ry) dd fun h' OI hs=>h _ ?_
  have he:∃ q,h'.get? a=some q:=let ⟨q,_,_,hq,_⟩:=OI;⟨q,hq⟩
  exact lZ I (by rw[e];exact True.intro) hs he (zh hl hd (rel.put k rv) OI)
 ·subst ey eH
  cases (show u=Value.ref b from ry)
  obtain⟨z,hd,xs,rel,dd⟩:=Bh I.E7 e
  have hz:xs.length<=sizeLine:=by rw[<- Paired.length rel];exact z
  have hl:(putK kvs k v).length<=sizeLine:=by have:=eT kvs k v;omega
  refine wpAny_setItem_heap (hsz:=hz) (tupleKind_room_in1 hu) (iM I.E7 eb) dd fun h' OI hs=>h _ ?_
  obtain⟨q,es,ep,hq,h2,h3,h4,_,h5⟩:=OI
  refine lZ I (by rw[e];exact True.intro) hs ⟨q,hq⟩ ⟨hl,hd,_,(rel.put k eb rv).keeps fun c ys ec=>?_,q,es,ep,hq,h2,h3,h4,h5⟩
  rw[aj (AW ec e (fun z=>nomatch z))]
  exact ec
end
section
variable {X:Cx}{pins:List (Addr×Obj)}{σ:St}{H:Hp}{s:Shared}{a:Addr}{kvs:List (Key×V)}{k:Key}{u:Value}{A:Around}{E:Value->Shared->Prop}
end
def Es (ty td:TE):TE:=fun σ H Q=>ty σ H fun y H1=>td σ H1 fun x H2=>∃ a o,x=.ref a/\nW H2 a y o/\Q (.bl o.isSome) H2
def uD (ty td:TE):TE:=fun σ H Q=>ty σ H fun y H1=>td σ H1 fun x H2=>∃ a o,x=.ref a/\nW H2 a y o/\Q (.bl (!o.isSome)) H2
def Bl (td ty tv:TE):TS:=fun D σ H=>tv σ H fun v H1=>td σ H1 fun x H2=>ty σ H2 fun y H3=>∃ a H4,x=.ref a/\Bj H3 a y v H4/\D.nx σ H4
section
variable {X:Cx}{o i e value:Expr}{pos pos' Pk:Pos}{td ty tv:TE}
theorem pq (hu:X.A.units+1 < cLine)(hi:PE X i ty)(ho:PE X o td):PC X .In i o (Es ty td):=by
 intro pins s σ H Q I h
 refine Fe (hi pins s σ H _ I h) fun iv s1 ⟨y,H1,I1,ry,q1⟩=>Fe (ho pins s1 σ H1 _ I1 q1) fun u s2 ⟨x,H2,I2,rx,a,ov,ex,g,q2⟩=>?_
 subst ex
 obtain rfl:u=Value.ref a:=rx
 exact Er hu I2 g ry fun s3 I3=>⟨.bl ov.isSome,H2,I3,rfl,q2⟩
theorem gW (hu:X.A.units+1 < cLine)(hi:PE X i ty)(ho:PE X o td):PC X .NotIn i o (uD ty td):=by
 intro pins s σ H Q I h
 refine Fe (hi pins s σ H _ I h) fun iv s1 ⟨y,H1,I1,ry,q1⟩=>Fe (ho pins s1 σ H1 _ I1 q1) fun u s2 ⟨x,H2,I2,rx,a,ov,ex,g,q2⟩=>?_
 subst ex
 obtain rfl:u=Value.ref a:=rx
 exact uC hu I2 g ry fun s3 I3=>⟨.bl (!ov.isSome),H2,I3,rfl,q2⟩
theorem uE (hu:X.A.units+1 < cLine)(ho:PE X o td)(hi:PE X i ty)(hv:PE X value tv)(hs:swapsWith value (some (.Subscript o i pos')) pos.line X.env=pure false) :
  PS X (.Assign [.Subscript o i pos'] value pos) (Bl td ty tv):=by
 intro pins s σ H D I h
 refine wpAny_Assign_Subscript (Fe (hv pins s σ H _ I h) fun r s1 ⟨v,H1,I1,rv,q1⟩=>Fe (ho pins s1 σ H1 _ I1 q1) fun u s2 ⟨x,H2,I2,rx,q2⟩=>Fe (hi pins s2 σ H2 _ I2 q2) fun iv s3 ⟨y,H3,I3,ry,a,H4,ex,g,q3⟩=>?_) hs
 subst ex
 obtain rfl:u=Value.ref a:=rx
 exact nX hu I3 g ry rv fun s4 I4=>⟨σ,H4,I4,q3⟩
end
theorem pw {P:Program}{w:World}{H:Hp}(h:Heap)(hb:sysModules < h.objs.size):aJ P w H (h.push {cls:=.type "dict",data:=.dict #[]}) h.objs.size (.dK []):=
 ⟨Nat.zero_le _,beq_eq_false_iff_ne.mpr (Ne.symm (Nat.ne_of_lt hb)),[],.nil,Heap.DictOf.new h⟩
def zi:TE:=fun _ H Q=>∀ p,H p=none->Q (.ref p) (upd H p (.dK []))
section
variable {X:Cx}{pos:Pos}
theorem jD:PE X (.Dict [] [] pos) zi:=fun pins s σ H Q I h=>
 wpAny_Dict_empty ⟨.ref s.heap.objs.size,_,I.laid (a:=s.heap.objs.size) (o:=.dK []) (t':=s.toks) (fun _ _ q=>Heap.get?_push_of_some _ q) (Nat.le_refl _) (pw s.heap I.big),rfl,h _ (I.E7.fresh (Nat.le_refl _))⟩
end
structure M1 (X:Cx)(o:Expr)(m:Str)(apos:Pos)(e:Expr)(E2:Pos):Prop where
 base:attributeBase o m X.env (eval o X.env)=eval o X.env
 G1:((backTo E2 (starEach [e] X.env)).all (fun x=>!x.1)&&(backToKw E2 (keywordEach [] X.env)).all (fun x=>x.1.isSome)
 &&decide (([e]:List Expr).length+([]:List Keyword).length+(if ([]:List Keyword).isEmpty then 0 else 1) < 30))=true
 line:(apos.endLine == E2.line)=true
 trees:backTo E2 (starEach [e] X.env)=[(false,eval e X.env)]
structure M2 (X:Cx)(o:Expr)(m:Str)(apos:Pos)(e f:Expr)(E2:Pos):Prop where
 base:attributeBase o m X.env (eval o X.env)=eval o X.env
 G1:((backTo E2 (starEach [e,f] X.env)).all (fun x=>!x.1)&&(backToKw E2 (keywordEach [] X.env)).all (fun x=>x.1.isSome)
 &&decide (([e,f]:List Expr).length+([]:List Keyword).length+(if ([]:List Keyword).isEmpty then 0 else 1) < 30))=true
 line:(apos.endLine == E2.line)=true
 trees:backTo E2 (starEach [e,f] X.env)=[(false,eval e X.env),(false,eval f X.env)]
section
variable {X:Cx}{pins:List (Addr×Obj)}{σ:St}{H:Hp}{s:Shared}{a:Addr}{y d:V}{u r:Value}{o:Option V}{A:Around}{E:Value->Shared->Prop}
end
section
variable {X:Cx}{o e f:Expr}{apos E2:Pos}{td ty tx:TE}
end
section
variable {X:Cx}{pins:List (Addr×Obj)}{σ:St}{H:Hp}{s:Shared}{a:Addr}{kvs:List (Key×V)}{A:Around}{E:Value->Shared->Prop}
end
section
variable {X:Cx}{pins:List (Addr×Obj)}{σ:St}{H:Hp}{s:Shared}{a:Addr}{y:V}{u:Value}{A:Around}{E:Value->Shared->Prop}
end
open PySem.Builtin PySem.Builtin.Str
section
variable {X:Cx}
end
section
variable {X:Cx}
end
end L2
namespace L2.Zp
open PySem
inductive Kq where
 | l|t
def Sq (k:Kq)(h:Heap)(a:Addr)(xs:Array Value):Prop:=match k with
 | .l=>h.IsList a xs
 | .t=>h.IsTuple a xs
def It (k:Kq)(h:Heap)(i a:Addr)(n:Nat):Prop:=match k with
 | .l=>h.IsListIter i a n
 | .t=>h.IsTupleIter i a n
theorem Sq.to {k:Kq}{h h':Heap}{a:Addr}{xs:Array Value}(q:Sq k h a xs)(e:∀ o,h.get? a=some o->h'.get? a=some o):Sq k h' a xs:=by
 cases k with
 | l=>obtain⟨o,ho,r⟩:=q;exact⟨o,e o ho,r⟩
 | t=>obtain⟨o,ho,r⟩:=q;exact⟨o,e o ho,r⟩
theorem It.to {k:Kq}{h h':Heap}{i a:Addr}{n:Nat}(q:It k h i a n)(e:∀ o,h.get? i=some o->h'.get? i=some o):It k h' i a n:=by
 cases k with
 | l=>obtain⟨o,ho,r⟩:=q;exact⟨o,e o ho,r⟩
 | t=>obtain⟨o,ho,r⟩:=q;exact⟨o,e o ho,r⟩
theorem It.lt {k:Kq}{h:Heap}{i a:Addr}{n:Nat}(q:It k h i a n):i < h.objs.size:=by
 cases k with
 | l=>obtain⟨o,ho,_⟩:=q;exact Heap.lt_size ho
 | t=>obtain⟨o,ho,_⟩:=q;exact Heap.lt_size ho
section
variable {prog:Program}{w:World}{A:Around}{E:Value->Shared->Prop}{s:Shared}
theorem pA {i a:Addr}{n:Nat}{xs:Array Value}{x:Value}{Q:Value->Shared->Prop}(c:s.heap.IsTupleIter i a n)(q:s.heap.IsTuple a xs)(hx:xs[n]? = some x)
  (k:∀ h',h'.IsTupleIter i a (n+1)->Heap.SameBut i s.heap h'->Q x {s with heap:=h'}):wpAny (model prog w) A (Builtin.SmallTypes.nextOf (.ref i)) Q E s:=by
 have ty:=c.typeIs
 obtain⟨oi,gi,ci,di⟩:=c
 obtain⟨oa,ga,_,na,da⟩:=q
 unfold Builtin.SmallTypes.nextOf
 refine wpAny_bind (wpAny_callSpecial?_slot (name:=Str.ofString "__next__") ty F.slot_tuple_iterator_next (wpAny_call_entry F.slot_tuple_iterator_next ty F.entry_tuple_iterator_next ?_ (F.args_tuple_iterator_next_1 _)))
 show wpAny _ _ (field (.ref i) 0 >>= _) _ _ s
 refine wpAny_bind (wpAny_field gi di (x:=.ref a) rfl ?_)
 show wpAny _ _ (if (Value.ref a == Value.none)=true then _ else _) _ _ s
 rw[if_neg (by intro z;cases z)]
 show wpAny _ _ (field (.ref i) 1 >>= _) _ _ s
 refine wpAny_bind (wpAny_field gi di (x:=.int n 0) rfl ?_)
 show wpAny _ _ (seqItems? (.ref a) >>= _) _ _ s
 refine wpAny_bind (wpAny_seqItems ga da ?_)
 simp only[Int.toNat_natCast,hx]
 refine wpAny_bind (wpAny_setField gi di (by simp) (wpAny_pure ⟨x,rfl,wpAny_pure (k _ ⟨_,Heap.get?_update_self _ gi (Obj.isFreed_of_fields (Obj.data_mapFields di _)),(Obj.cls_mapFields ..).trans ci,?_⟩ (Heap.SameBut.update ..))⟩))
 rw[Obj.data_mapFields di]
 simp[rawInt]
theorem uF {i a:Addr}{n:Nat}{xs:Array Value}{Q:Value->Shared->Prop}(hh:A.handled=none)(c:s.heap.IsTupleIter i a n)(q:s.heap.IsTuple a xs)(hx:xs[n]? = none)
  (k:∀ h' e,Heap.ExtBut i s.heap h'->(∃ o,h'.get? e=some o/\o.cls=.type "StopIteration")->E (.ref e) {s with heap:=h'}):wpAny (model prog w) A (Builtin.SmallTypes.nextOf (.ref i)) Q E s:=by
 have ty:=c.typeIs
 obtain⟨oi,gi,ci,di⟩:=c
 obtain⟨oa,ga,_,na,da⟩:=q
 unfold Builtin.SmallTypes.nextOf
 refine wpAny_bind (wpAny_callSpecial?_slot (name:=Str.ofString "__next__") ty F.slot_tuple_iterator_next (wpAny_call_entry F.slot_tuple_iterator_next ty F.entry_tuple_iterator_next ?_ (F.args_tuple_iterator_next_1 _)))
 show wpAny _ _ (field (.ref i) 0 >>= _) _ _ s
 refine wpAny_bind (wpAny_field gi di (x:=.ref a) rfl ?_)
 show wpAny _ _ (if (Value.ref a == Value.none)=true then _ else _) _ _ s
 rw[if_neg (by intro z;cases z)]
 show wpAny _ _ (field (.ref i) 1 >>= _) _ _ s
 refine wpAny_bind (wpAny_field gi di (x:=.int n 0) rfl ?_)
 show wpAny _ _ (seqItems? (.ref a) >>= _) _ _ s
 refine wpAny_bind (wpAny_seqItems ga da ?_)
 simp only[Int.toNat_natCast,hx]
 refine wpAny_bind (wpAny_rule (wpAny_bind (wpAny_setField gi di (by simp) (wpAny_bind ?_))))
 simp only[newExc,newTuple]
 refine wpAny_bind (wpAny_newObj_type (wpAny_bind (m:=firstArgMember _ _) (wpAny_of_eq (a:=Value.none) (by first|rfl|(simp only[firstArgMember];rfl)) (wpAny_newObj_type ?_ (by size_fits)))) (by size_fits))
 simp only[raiseNew]
 refine wpAny_bind (wpAny_handled ?_)
 first|rw[show A.in1.handled=none from hh]|rw[hh]
 exact wpAny_bind (wpAny_pure (wpAny_throw (k _ _ (((Heap.SameBut.update ..).extBut.push _).push _) ⟨_,Heap.get?_push_size _ rfl,rfl⟩)))
theorem iN {k:Kq}{i a:Addr}{n:Nat}{xs:Array Value}{x:Value}{Q:Value->Shared->Prop}(c:It k s.heap i a n)(q:Sq k s.heap a xs)(hx:xs[n]? = some x)
  (f:∀ h',It k h' i a (n+1)->Heap.SameBut i s.heap h'->Q x {s with heap:=h'}):wpAny (model prog w) A (Builtin.SmallTypes.nextOf (.ref i)) Q E s:=by
 cases k with
 | l=>exact wpAny_nextOf_list_item c q hx f
 | t=>exact pA c q hx f
theorem pB {k:Kq}{i a:Addr}{n:Nat}{xs:Array Value}{Q:Value->Shared->Prop}(hh:A.handled=none)(c:It k s.heap i a n)(q:Sq k s.heap a xs)(hx:xs[n]? = none)
  (f:∀ h' e,Heap.ExtBut i s.heap h'->(∃ o,h'.get? e=some o/\o.cls=.type "StopIteration")->E (.ref e) {s with heap:=h'}):wpAny (model prog w) A (Builtin.SmallTypes.nextOf (.ref i)) Q E s:=by
 cases k with
 | l=>exact wpAny_nextOf_list_end hh c q hx f
 | t=>exact uF hh c q hx f
end
section
variable {prog:Program}{w:World}{A:Around}{E:Value->Shared->Prop}{s:Shared}
def Kept (z TO i j:Addr)(h h':Heap):Prop:=∀ c o,c≠z->c≠TO->c≠i->c≠j->h.get? c=some o->h'.get? c=some o
theorem nY {p q:Kq}{z TI TO i j l m:Addr}{n n':Nat}{xs ys:Array Value}{x y a b:Value}{Q:Value->Shared->Prop}(D:ZipApart z TI TO i j l m)(hz:IsZip s.heap z TI TO .none)(hI:IsPair s.heap TI (.ref i) (.ref j))(hO:IsPair s.heap TO a b)
  (ci:It p s.heap i l n) (cj:It q s.heap j m n') (sl:Sq p s.heap l xs) (sm:Sq q s.heap m ys) (hx:xs[n]? = some x) (hy:ys[n']? = some y)
  (k:∀ h',IsZip h' z TI TO (rawInt s.heap.objs.size)->IsPair h' TO x y->It p h' i l (n+1)->It q h' j m (n' + 1)->IsPair h' s.heap.objs.size x y->h'.objs.size=s.heap.objs.size+1->Kept z TO i j s.heap h'->Q (.ref s.heap.objs.size) {s with heap:=h'}) :
  wpAny (model prog w) A (Builtin.«zip.__next__» ⟨[.ref z],[]⟩) (fun fin s'=>∃ v,fin=.done (.ret v)/\Q v s') E s:=by
 show wpAny _ _ (field (.ref z) 2 >>= _) _ _ _
 refine wpAny_bind (wpAny_field hz rfl (x:=.bool false) rfl ?_)
 show wpAny _ _ (field (.ref z) 3 >>= _) _ _ _
 refine wpAny_bind (wpAny_field hz rfl (x:=.ref TI) rfl (wpAny_bind (wpAny_seqItems hI rfl ?_)))
 show wpAny _ _ (Builtin.SmallTypes.ownedTupleIsFree (.ref z) >>= _) _ _ _
 refine wpAny_bind ?_
 unfold Builtin.SmallTypes.ownedTupleIsFree
 refine wpAny_bind (wpAny_field hz rfl (x:=.none) rfl (wpAny_pure ?_))
 simp only[if_true]
 refine wpAny_bind (wpAny_rule (wpAny_bind (wpAny_field hz rfl (x:=.ref TO) rfl (wpAny_bind (wpAny_setField_rec hz (by simp) fun h1 z1 e1=>?_)))))
 have OJ:IsZip h1 z TI TO .ellipsis:=z1
 refine wpAny_bind ?_
 simp only[List.zipIdx_cons,List.zipIdx_nil,List.forIn_cons,List.forIn_nil]
 refine wpAny_bind (wpAny_bind (wpAny_onRaise ?_))
 show wpAny _ _ (Builtin.SmallTypes.nextOf (.ref i) >>= _) _ _ _
 refine wpAny_bind (iN (ci.to fun o e=>e1.extBut _ _ D.i1z e) (sl.to fun o e=>e1.extBut _ _ D.l1z e) hx fun h2 Rp e2=>wpAny_pure ?_)
 have O2:IsPair h2 TO a b:=e2.extBut _ _ D.TOi1 (e1.extBut _ _ D.TOz hO)
 refine wpAny_bind (wpAny_seqItems O2 rfl (wpAny_bind (wpAny_updateSeq_pair O2 fun h3 O3 e3=>?_)))
 have Ue:IsPair h3 TO x b:=O3
 refine wpAny_bind (wpAny_letGo (wpAny_pure (wpAny_bind (wpAny_bind (wpAny_onRaise ?_)))))
 show wpAny _ _ (Builtin.SmallTypes.nextOf (.ref j) >>= _) _ _ _
 refine wpAny_bind (iN (cj.to fun o e=>e3.extBut _ _ D.TOi2.symm (e2.extBut _ _ D.i12.symm (e1.extBut _ _ D.i2z e))) (sm.to fun o e=>e3.extBut _ _ D.l2TO (e2.extBut _ _ D.l2i1 (e1.extBut _ _ D.l2z e))) hy fun h4 Ug e4=>wpAny_pure ?_)
 have O4:IsPair h4 TO x b:=e4.extBut _ _ D.TOi2 Ue
 refine wpAny_bind (wpAny_seqItems O4 rfl (wpAny_bind (wpAny_updateSeq_pair O4 fun h5 O5 e5=>?_)))
 have Rq:IsPair h5 TO x y:=O5
 refine wpAny_bind (wpAny_letGo (wpAny_pure (wpAny_pure (wpAny_bind (wpAny_seqItems Rq rfl (wpAny_bind (wpAny_newTuple ?_)))))))
 have sz:h5.objs.size=s.heap.objs.size:=by rw[e5.1,e4.1,e3.1,e2.1,e1.1]
 have z5:IsZip h5 z TI TO .ellipsis:=e5.extBut _ _ D.TOz.symm (e4.extBut _ _ D.i2z.symm (e3.extBut _ _ D.TOz.symm (e2.extBut _ _ D.i1z.symm OJ)))
 have k5:Kept z TO i j s.heap h5:=fun c o c1 c2 c3 c4 e=>e5.extBut _ _ c2 (e4.extBut _ _ c4 (e3.extBut _ _ c2 (e2.extBut _ _ c3 (e1.extBut _ _ c1 e))))
 have Uh:It p h5 i l (n+1):=Rp.to fun o e=>e5.extBut _ _ D.TOi1.symm (e4.extBut _ _ D.i12 (e3.extBut _ _ D.TOi1.symm e))
 have Ui:It q h5 j m (n' + 1):=Ug.to fun o e=>e5.extBut _ _ D.TOi2.symm e
 have lz:z < h5.objs.size:=Heap.lt_size z5
 show wpAny _ _ (Builtin.SmallTypes.ownedTupleHandOut (.ref z) (.ref h5.objs.size) >>= _) _ _ _
 refine wpAny_bind ?_
 unfold Builtin.SmallTypes.ownedTupleHandOut
 have z6:IsZip (h5.push {cls:=.type "tuple",data:=.seq #[x,y]}) z TI TO .ellipsis:=Heap.get?_push_of_some _ z5
 refine wpAny_bind (wpAny_setField_rec z6 (by simp) fun h7 z7 e7=>wpAny_setField_rec (show IsZip h7 z TI TO (rawInt h5.objs.size) from z7) (by simp) fun h8 z8 e8=>?_)
 have Rr:IsZip h8 z TI TO (rawInt h5.objs.size):=z8
 have up:∀ c o,c≠z->h5.get? c=some o->h8.get? c=some o:=fun c o c1 e=>e8.extBut _ _ c1 (e7.extBut _ _ c1 (Heap.get?_push_of_some _ e))
 have t8:IsPair h8 h5.objs.size x y:=e8.extBut _ _ (Nat.ne_of_gt lz) (e7.extBut _ _ (Nat.ne_of_gt lz) (Heap.get?_push_size _ rfl))
 have s8:h8.objs.size=h5.objs.size+1:=by rw[e8.1,e7.1,Heap.size_push]
 rw[sz] at Rr t8 s8
 refine wpAny_pure ⟨_,rfl,?_⟩
 show Q (.ref h5.objs.size) _
 rw[sz]
 exact k h8 Rr (up _ _ D.TOz Rq) (Uh.to fun o e=>up _ o D.i1z e) (Ui.to fun o e=>up _ o D.i2z e) t8 s8 fun c o c1 c2 c3 c4 e=>up c o c1 (k5 c o c1 c2 c3 c4 e)
theorem nZ {p q:Kq}{z TI TO i j l m:Addr}{n n':Nat}{xs ys:Array Value}{a b:Value}{Q:PySem.Fin->Shared->Prop}(hh:A.handled=none)(D:ZipApart z TI TO i j l m)(hz:IsZip s.heap z TI TO .none)(hI:IsPair s.heap TI (.ref i) (.ref j))(hO:IsPair s.heap TO a b)
  (ci:It p s.heap i l n) (cj:It q s.heap j m n') (sl:Sq p s.heap l xs) (sm:Sq q s.heap m ys) (Lv:xs[n]? = none∨ys[n']? = none)
  (k:∀ h' e,Kept z TO i j s.heap h'->(∃ o,h'.get? e=some o/\o.cls=.type "StopIteration")->E (.ref e) {s with heap:=h'}) :
  wpAny (model prog w) A (Builtin.«zip.__next__» ⟨[.ref z],[]⟩) Q E s:=by
 show wpAny _ _ (field (.ref z) 2 >>= _) _ _ _
 refine wpAny_bind (wpAny_field hz rfl (x:=.bool false) rfl ?_)
 show wpAny _ _ (field (.ref z) 3 >>= _) _ _ _
 refine wpAny_bind (wpAny_field hz rfl (x:=.ref TI) rfl (wpAny_bind (wpAny_seqItems hI rfl ?_)))
 show wpAny _ _ (Builtin.SmallTypes.ownedTupleIsFree (.ref z) >>= _) _ _ _
 refine wpAny_bind ?_
 unfold Builtin.SmallTypes.ownedTupleIsFree
 refine wpAny_bind (wpAny_field hz rfl (x:=.none) rfl (wpAny_pure ?_))
 simp only[if_true]
 refine wpAny_bind (wpAny_rule (wpAny_bind (wpAny_field hz rfl (x:=.ref TO) rfl (wpAny_bind (wpAny_setField_rec hz (by simp) fun h1 z1 e1=>?_)))))
 have OJ:IsZip h1 z TI TO .ellipsis:=z1
 refine wpAny_bind ?_
 simp only[List.zipIdx_cons,List.zipIdx_nil,List.forIn_cons,List.forIn_nil]
 refine wpAny_bind (wpAny_bind (wpAny_onRaise ?_))
 show wpAny _ _ (Builtin.SmallTypes.nextOf (.ref i) >>= _) _ _ _
 cases hx:xs[n]? with
 | none=>
  refine wpAny_bind (pB hh (ci.to fun o e=>e1.extBut _ _ D.i1z e) (sl.to fun o e=>e1.extBut _ _ D.l1z e) hx fun h2 e e2 he=>?_)
  obtain⟨oe,g,c⟩:=he
  have z2:IsZip h2 z TI TO .ellipsis:=e2 _ _ D.i1z.symm OJ
  have ne:e≠z:=fun v=>by rw[v,z2] at g;cases g;simp at c
  exact wpAny_setField_rec z2 (by simp) fun h3 _ e3=>k h3 e (fun d o c1 _ c3 _ v=>e3.extBut _ _ c1 (e2 _ _ c3 (e1.extBut _ _ c1 v))) ⟨oe,e3.extBut _ _ ne g,c⟩
 | some x=>
  have hy:ys[n']? = none:=by
   rcases Lv with v|v
   ·rw[hx] at v;cases v
   ·exact v
  refine wpAny_bind (iN (ci.to fun o e=>e1.extBut _ _ D.i1z e) (sl.to fun o e=>e1.extBut _ _ D.l1z e) hx fun h2 Rp e2=>wpAny_pure ?_)
  have O2:IsPair h2 TO a b:=e2.extBut _ _ D.TOi1 (e1.extBut _ _ D.TOz hO)
  refine wpAny_bind (wpAny_seqItems O2 rfl (wpAny_bind (wpAny_updateSeq_pair O2 fun h3 O3 e3=>wpAny_bind (wpAny_letGo (wpAny_pure (wpAny_bind (wpAny_bind (wpAny_onRaise ?_))))))))
  show wpAny _ _ (Builtin.SmallTypes.nextOf (.ref j) >>= _) _ _ _
  refine wpAny_bind (pB hh (cj.to fun o e=>e3.extBut _ _ D.TOi2.symm (e2.extBut _ _ D.i12.symm (e1.extBut _ _ D.i2z e))) (sm.to fun o e=>e3.extBut _ _ D.l2TO (e2.extBut _ _ D.l2i1 (e1.extBut _ _ D.l2z e))) hy fun h4 e e4 he=>?_)
  obtain⟨oe,g,c⟩:=he
  have z4:IsZip h4 z TI TO .ellipsis:=e4 _ _ D.i2z.symm (e3.extBut _ _ D.TOz.symm (e2.extBut _ _ D.i1z.symm OJ))
  have ne:e≠z:=fun v=>by rw[v,z4] at g;cases g;simp at c
  exact wpAny_setField_rec z4 (by simp) fun h5 _ e5=>k h5 e (fun d o c1 c2 c3 c4 v=>e5.extBut _ _ c1 (e4 _ _ c4 (e3.extBut _ _ c2 (e2.extBut _ _ c3 (e1.extBut _ _ c1 v))))) ⟨oe,e5.extBut _ _ ne g,c⟩
end
noncomputable def Mq:Kq->Addr->Obj
 | .l,a=>{cls:=.type "list_iterator",data:=.fields #[.ref a,.int 0 0]}
 | .t,a=>{cls:=.type "tuple_iterator",data:=.fields #[.ref a,.int 0 0]}
noncomputable def Hi (p:Kq)(h:Heap)(l:Addr):Heap:=h.push (Mq p l)
noncomputable def Hj (p q:Kq)(h:Heap)(l m:Addr):Heap:=(Hi p h l).push (Mq q m)
noncomputable def HI (p q:Kq)(h:Heap)(l m:Addr):Heap:=(Hj p q h l m).push {cls:=.type "tuple",data:=.seq #[.ref h.objs.size,.ref (Hi p h l).objs.size]}
noncomputable def HO (p q:Kq)(h:Heap)(l m:Addr):Heap:=(HI p q h l m).push {cls:=.type "tuple",data:=.seq #[.none,.none]}
noncomputable def HZ (p q:Kq)(h:Heap)(l m:Addr):Heap:=(HO p q h l m).push {cls:=.type "zip",data:=.fields #[.none,.bool false,.bool false,.ref (Hj p q h l m).objs.size,.ref (HI p q h l m).objs.size]}
theorem zj (l m:Addr)(xs ys:Array Value):Meets (Builtin.«zip.__new__» ⟨[.type "zip",.ref l,.ref m],[]⟩) (fun _ R s=>Sq .l s.heap l xs/\Sq .l s.heap m ys/\R (.ok (.ret (.ref (HO .l .l s.heap l m).objs.size))) {s with heap:=HZ .l .l s.heap l m}):=
 .of_wp fun prog w A R s h=>by
  obtain⟨hp,g,d,tk,os⟩:=s
  obtain⟨q1,q2,h⟩:=h
  have sub:=sub_zip
  have a1:Heap.IsList (Shared.heap ⟨hp,g,d,tk,os⟩) l xs:=q1
  have a2:Heap.IsList (Shared.heap ⟨hp.push {cls:=.type "list_iterator",data:=.fields #[.ref l,.int 0 0]},g,d,tk,os⟩) m ys:=Heap.IsList.push (show hp.IsList m ys from q2) _
  wp_walk using wpAny_pyIter_list a1,wpAny_pyIter_list a2
  exact⟨_,rfl,h⟩
theorem zk (l m:Addr)(xs ys:Array Value):Meets (Builtin.«zip.__new__» ⟨[.type "zip",.ref l,.ref m],[]⟩) (fun _ R s=>Sq .l s.heap l xs/\Sq .t s.heap m ys/\R (.ok (.ret (.ref (HO .l .t s.heap l m).objs.size))) {s with heap:=HZ .l .t s.heap l m}):=
 .of_wp fun prog w A R s h=>by
  obtain⟨hp,g,d,tk,os⟩:=s
  obtain⟨q1,q2,h⟩:=h
  have sub:=sub_zip
  have a1:Heap.IsList (Shared.heap ⟨hp,g,d,tk,os⟩) l xs:=q1
  have a2:Heap.IsTuple (Shared.heap ⟨hp.push {cls:=.type "list_iterator",data:=.fields #[.ref l,.int 0 0]},g,d,tk,os⟩) m ys:=Heap.IsTuple.push (show hp.IsTuple m ys from q2) _
  wp_walk using wpAny_pyIter_list a1,wpAny_pyIter_tuple a2
  exact⟨_,rfl,h⟩
theorem zm (l m:Addr)(xs ys:Array Value):Meets (Builtin.«zip.__new__» ⟨[.type "zip",.ref l,.ref m],[]⟩) (fun _ R s=>Sq .t s.heap l xs/\Sq .l s.heap m ys/\R (.ok (.ret (.ref (HO .t .l s.heap l m).objs.size))) {s with heap:=HZ .t .l s.heap l m}):=
 .of_wp fun prog w A R s h=>by
  obtain⟨hp,g,d,tk,os⟩:=s
  obtain⟨q1,q2,h⟩:=h
  have sub:=sub_zip
  have a1:Heap.IsTuple (Shared.heap ⟨hp,g,d,tk,os⟩) l xs:=q1
  have a2:Heap.IsList (Shared.heap ⟨hp.push {cls:=.type "tuple_iterator",data:=.fields #[.ref l,.int 0 0]},g,d,tk,os⟩) m ys:=Heap.IsList.push (show hp.IsList m ys from q2) _
  wp_walk using wpAny_pyIter_tuple a1,wpAny_pyIter_list a2
  exact⟨_,rfl,h⟩
theorem zo (l m:Addr)(xs ys:Array Value):Meets (Builtin.«zip.__new__» ⟨[.type "zip",.ref l,.ref m],[]⟩) (fun _ R s=>Sq .t s.heap l xs/\Sq .t s.heap m ys/\R (.ok (.ret (.ref (HO .t .t s.heap l m).objs.size))) {s with heap:=HZ .t .t s.heap l m}):=
 .of_wp fun prog w A R s h=>by
  obtain⟨hp,g,d,tk,os⟩:=s
  obtain⟨q1,q2,h⟩:=h
  have sub:=sub_zip
  have a1:Heap.IsTuple (Shared.heap ⟨hp,g,d,tk,os⟩) l xs:=q1
  have a2:Heap.IsTuple (Shared.heap ⟨hp.push {cls:=.type "tuple_iterator",data:=.fields #[.ref l,.int 0 0]},g,d,tk,os⟩) m ys:=Heap.IsTuple.push (show hp.IsTuple m ys from q2) _
  wp_walk using wpAny_pyIter_tuple a1,wpAny_pyIter_tuple a2
  exact⟨_,rfl,h⟩
theorem zp (p q:Kq)(l m:Addr)(xs ys:Array Value):Meets (Builtin.«zip.__new__» ⟨[.type "zip",.ref l,.ref m],[]⟩) (fun _ R s=>Sq p s.heap l xs/\Sq q s.heap m ys/\R (.ok (.ret (.ref (HO p q s.heap l m).objs.size))) {s with heap:=HZ p q s.heap l m}):=by
 cases p<;>cases q
 ·exact zj l m xs ys
 ·exact zk l m xs ys
 ·exact zm l m xs ys
 ·exact zo l m xs ys
theorem pC {k:Kq}{h h':Heap}{i a:Addr}(e:h'.get? i=some (Mq k a)):It k h' i a 0:=by
 cases k with
 | l=>exact⟨_,e,rfl,rfl⟩
 | t=>exact⟨_,e,rfl,rfl⟩
theorem jE (k:Kq)(a:Addr):(Mq k a).isFreed=false:=by cases k<;>rfl
section
variable {prog:Program}{w:World}{A:Around}{E:Value->Shared->Prop}{s:Shared}
theorem Jw {p q:Kq}{l m:Addr}{xs ys:Array Value}{Q:Value->Shared->Prop}(h1:Sq p s.heap l xs)(h2:Sq q s.heap m ys)
  (k:∀ h',IsZip h' (s.heap.objs.size+4) (s.heap.objs.size+2) (s.heap.objs.size+3) .none->IsPair h' (s.heap.objs.size+2) (.ref s.heap.objs.size) (.ref (s.heap.objs.size+1))->IsPair h' (s.heap.objs.size+3) .none .none->
   It p h' s.heap.objs.size l 0->It q h' (s.heap.objs.size+1) m 0->h'.objs.size=s.heap.objs.size+5->(∀ c o,s.heap.get? c=some o->h'.get? c=some o)->Q (.ref (s.heap.objs.size+4)) {s with heap:=h'}) :
  wpAny (model prog w) A (call (.type "zip") [.ref l,.ref m]) Q E s:=by
 refine callType_new F.called_zip (by decide) (F.typeCall_zip_2 _ _) (F.newCall_zip_2 _ _) (fun obj=>F.args_object_init_3 obj _ _) F.entry_zip_new (zp p q l m xs ys) ⟨h1,h2,?_⟩
 have n1:(Hi p s.heap l).objs.size=s.heap.objs.size+1:=Heap.size_push ..
 have n2:(Hj p q s.heap l m).objs.size=s.heap.objs.size+2:=(Heap.size_push ..).trans (by rw[n1])
 have n3:(HI p q s.heap l m).objs.size=s.heap.objs.size+3:=(Heap.size_push ..).trans (by rw[n2])
 have n4:(HO p q s.heap l m).objs.size=s.heap.objs.size+4:=(Heap.size_push ..).trans (by rw[n3])
 have n5:(HZ p q s.heap l m).objs.size=s.heap.objs.size+5:=(Heap.size_push ..).trans (by rw[n4])
 have Rt:∀ c o,(HO p q s.heap l m).get? c=some o->(HZ p q s.heap l m).get? c=some o:=fun c o e=>Heap.get?_push_of_some _ e
 have Rv:∀ c o,(HI p q s.heap l m).get? c=some o->(HZ p q s.heap l m).get? c=some o:=fun c o e=>Rt c o (Heap.get?_push_of_some _ e)
 have Rw:∀ c o,(Hj p q s.heap l m).get? c=some o->(HZ p q s.heap l m).get? c=some o:=fun c o e=>Rv c o (Heap.get?_push_of_some _ e)
 have Rx:∀ c o,(Hi p s.heap l).get? c=some o->(HZ p q s.heap l m).get? c=some o:=fun c o e=>Rw c o (Heap.get?_push_of_some _ e)
 have g5:(HZ p q s.heap l m).get? (HO p q s.heap l m).objs.size=some _:=Heap.get?_push_size _ rfl
 have g4:(HZ p q s.heap l m).get? (HI p q s.heap l m).objs.size=some {cls:=.type "tuple",data:=.seq #[.none,.none]}:=Rt _ _ (Heap.get?_push_size _ rfl)
 have g3:(HZ p q s.heap l m).get? (Hj p q s.heap l m).objs.size=some {cls:=.type "tuple",data:=.seq #[.ref s.heap.objs.size,.ref (Hi p s.heap l).objs.size]}:=Rv _ _ (Heap.get?_push_size _ rfl)
 have g2:(HZ p q s.heap l m).get? (Hi p s.heap l).objs.size=some (Mq q m):=Rw _ _ (Heap.get?_push_size _ (jE q m))
 have g1:(HZ p q s.heap l m).get? s.heap.objs.size=some (Mq p l):=Rx _ _ (Heap.get?_push_size _ (jE p l))
 rw[n2,n3,n4] at g5
 rw[n3] at g4
 rw[n1,n2] at g3
 rw[n1] at g2
 show _/\_
 rw[n4]
 exact⟨⟨_,g5,rfl⟩,k _ g5 g3 g4 (pC (h:=s.heap) g1) (pC (h:=s.heap) g2) n5 fun c o e=>Rx c o (Heap.get?_push_of_some _ e)⟩
end
section
variable {prog:Program}{w:World}{A:Around}{E:Value->Shared->Prop}{s:Shared}
theorem Kc {p q:Kq}{z TI TO i j l m:Addr}{n n':Nat}{xs ys:Array Value}{x y a b:Value}{Q:Option Value->Shared->Prop}(D:ZipApart z TI TO i j l m)(hz:IsZip s.heap z TI TO .none)(hI:IsPair s.heap TI (.ref i) (.ref j))(hO:IsPair s.heap TO a b)
  (ci:It p s.heap i l n) (cj:It q s.heap j m n') (sl:Sq p s.heap l xs) (sm:Sq q s.heap m ys) (hx:xs[n]? = some x) (hy:ys[n']? = some y)
  (k:∀ h',IsZip h' z TI TO (rawInt s.heap.objs.size)->IsPair h' TO x y->It p h' i l (n+1)->It q h' j m (n' + 1)->IsPair h' s.heap.objs.size x y->h'.objs.size=s.heap.objs.size+1->Kept z TO i j s.heap h'->Q (some (.ref s.heap.objs.size)) {s with heap:=h'}) :
  wpAny (model prog w) A (pyNext (.ref z)) Q E s:=by
 have ty:s.TypeIs (.ref z) "zip":=⟨_,hz,rfl⟩
 unfold pyNext
 refine wpAny_bind (wpAny_attempt (wpAny_callSpecial?_slot (name:=Str.ofString "__next__") ty F.slot_zip_next (wpAny_call_entry F.slot_zip_next ty F.entry_zip_next ?_ (F.args_zip_next_1 _))))
 exact nY D hz hI hO ci cj sl sm hx hy fun h' a1 a2 a3 a4 a5 a6 a7=>wpAny_pure (k h' a1 a2 a3 a4 a5 a6 a7)
theorem Ke {p q:Kq}{z TI TO i j l m:Addr}{n n':Nat}{xs ys:Array Value}{a b:Value}{Q:Option Value->Shared->Prop}(hh:A.handled=none)(D:ZipApart z TI TO i j l m)(hz:IsZip s.heap z TI TO .none)(hI:IsPair s.heap TI (.ref i) (.ref j))(hO:IsPair s.heap TO a b)
  (ci:It p s.heap i l n) (cj:It q s.heap j m n') (sl:Sq p s.heap l xs) (sm:Sq q s.heap m ys) (Lv:xs[n]? = none∨ys[n']? = none)
  (k:∀ h',Kept z TO i j s.heap h'->Q none {s with heap:=h'}):wpAny (model prog w) A (pyNext (.ref z)) Q E s:=by
 have ty:s.TypeIs (.ref z) "zip":=⟨_,hz,rfl⟩
 unfold pyNext
 refine wpAny_bind (wpAny_attempt (wpAny_callSpecial?_slot (name:=Str.ofString "__next__") ty F.slot_zip_next (wpAny_call_entry F.slot_zip_next ty F.entry_zip_next (nZ hh D hz hI hO ci cj sl sm Lv fun h' e hk he=>?_) (F.args_zip_next_1 _))))
 obtain⟨o,g,c⟩:=he
 exact wpAny_bind (wpAny_isInstance (T:="StopIteration") (b:=true) ⟨o,g,c⟩ isSubtype_stop (wpAny_pure (k _ hk)))
end
end L2.Zp
namespace L2
open PySem PySem.Spec PyProof.Rows
def Jl (K:PySem.W.Frag)(H:Hp)(k:Zp.Kq)(a:Addr)(xs:List V):Prop:=match k with
 | .l=>FR K H a xs
 | .t=>Gn K H a xs
section
variable {X:Cx}{pins:List (Addr×Obj)}{σ:St}{H:Hp}{s:Shared}{h':Heap}{k:Zp.Kq}{a:Addr}{xs ys:List V}
theorem Inv.Mr (I:Inv X pins σ H s)(h:Jl X.K H k a xs):∃ its:List Value,Vals xs its/\Zp.Sq k s.heap a its.toArray:=by
 cases k with
 | l=>obtain⟨its,rv,p,hz⟩:=I.list h;exact⟨its,rv,p.isList⟩
 | t=>obtain⟨its,rv,p,hz⟩:=I.tuple h;exact⟨its,rv,p⟩
theorem Inv.Iz (I:Inv X pins σ H s)(h:Jl X.K H k a xs)(h':Jl X.K H k a ys):xs=ys:=by
 cases k with
 | l=>exact I.FK h h'
 | t=>exact I.Gq h h'
theorem Inv.turns {t':Nat}{ch:List Addr}(I:Inv X pins σ H s)(k:∀ b o,b∉ch->s.heap.get? b=some o->h'.get? b=some o)(hf:∀ b∈ch,dh X pins H b):Inv X pins σ H {s with heap:=h',toks:=t'}:=by
 have KA:∀ b u,H b=some u->b∉ch:=fun b u e z=>by rw[(hf b z).1] at e;cases e
 refine I.step (g':=s.gens) (d':=s.drawn) (ch:=ch) (fun b hb=>?_) (fun b o _ _ hc e _=>k b o hc e) (fun b o _ _ hc e _=>⟨o.slots,k b o hc e⟩) (fun _ _ _ _ n=>n)
  (fun b o hc e=>⟨o,k b o hc e⟩) (fun _ _ e=>e) (fun _ _ _ e=>e) (fun b ps e=>⟨#[],by rw[e];simp⟩) (fun m hm=>?_) (fun b u e=>?_) I.bare
 ·obtain⟨f0,f1,f2,f3,f4,f5⟩:=hf b hb
  exact⟨f3,f1,f4,f5⟩
 ·obtain⟨o,es,ep,ho,r⟩:=hm
  exact⟨o,es,ep,k _ o (fun z=>(hf _ z).2.1 rfl) ho,r⟩
 ·refine(I.E7 b u e).GY (fun c v hc q=>k c v ?_ q) (fun _ q=>q) fun _ _ q=>q
  rcases hc with z|z
  ·rw[z];exact KA b u e
  ·exact KA c _ z
theorem Inv.Lw {t':Nat}{ch:List Addr}{T:Addr}{ho:HO}(I:Inv X pins σ H s)(k:∀ b o,b∉ch->s.heap.get? b=some o->h'.get? b=some o)(hf:∀ b∈ch,dh X pins H b)(hp:s.heap.objs.size<=T)(new:aJ X.prog X.w (upd H T ho) h' T ho):Inv X pins σ (upd H T ho) {s with heap:=h',toks:=t'}:=by
 have KA:∀ b u,H b=some u->b∉ch:=fun b u e z=>by rw[(hf b z).1] at e;cases e
 have hn:H T=none:=I.E7.fresh hp
 refine I.step (g':=s.gens) (d':=s.drawn) (ch:=ch) (fun b hb=>?_) (fun b o _ _ hc e _=>k b o hc e) (fun b o _ _ hc e _=>⟨o.slots,k b o hc e⟩) (fun b o _ e n=>by rw[aj (Nat.ne_of_lt (Nat.lt_of_lt_of_le (Heap.lt_size e) hp))];exact n)
  (fun b o hc e=>⟨o,k b o hc e⟩) (fun b xs q=>by rw[aj (aI q hn)];exact q) (fun b u xs q=>by rw[aj (aI q hn)];exact q) (fun b ps q=>⟨#[],by rw[aj (aI q hn),q];simp⟩) (fun m hm=>?_) (fun b u e=>?_) I.bare
 ·obtain⟨f0,f1,f2,f3,f4,f5⟩:=hf b hb
  exact⟨f3,f1,f4,f5⟩
 ·obtain⟨o,es,ep,ho,r⟩:=hm
  exact⟨o,es,ep,k _ o (fun z=>(hf _ z).2.1 rfl) ho,r⟩
 ·by_cases hb:b=T
  ·subst hb;rw[av] at e;cases e;exact new
  ·rw[aj hb] at e
   refine(I.E7 b u e).GY (fun c v hc q=>k c v ?_ q) (fun c q=>by rw[aj (aI q hn)];exact q) fun c xs q=>by rw[aj (aI q hn)];exact q
   rcases hc with z|z
   ·rw[z];exact KA b u e
   ·exact KA c _ z
end
noncomputable def PN (K:PySem.W.Frag)(p q:Zp.Kq)(l m:Addr):It:=
 ⟨fun i H=>∃ xs ys x y,Jl K H p l xs/\Jl K H q m ys/\xs[i]? = some x/\ys[i]? = some y,
  fun i H v H'=>∃ T a b,v=.ref T/\H T=none/\H'=upd H T (.tup [a,b])/\∀ xs ys,Jl K H p l xs->Jl K H q m ys->xs[i]? = some a/\ys[i]? = some b,
  fun i H=>∃ xs ys,Jl K H p l xs/\Jl K H q m ys/\(xs.length<=i∨ys.length<=i)⟩
theorem Zp.It.obj {k:Zp.Kq}{h:Heap}{i a:Addr}{n:Nat}(c:Zp.It k h i a n):∃ o,h.get? i=some o/\∀ v,o.data≠.cell v:=by
 cases k with
 | l=>obtain⟨o,e,c,d⟩:=c;exact⟨o,e,fun v z=>by rw[d] at z;cases z⟩
 | t=>obtain⟨o,e,c,d⟩:=c;exact⟨o,e,fun v z=>by rw[d] at z;cases z⟩
theorem pD {P:Program}{w:World}{K:PySem.W.Frag}{es:List Expr}{c:Nat}{pos:Pos}(p q:Zp.Kq)(z TI TO i j l m:Addr)(D:ZipApart z TI TO i j l m) :
  Turn P w K (.Tuple es c pos) (PN K p q l m) [z,TI,TO,i,j] z (fun n h=>IsZip h z TI TO .none/\IsPair h TI (.ref i) (.ref j)/\(∃ a b,IsPair h TO a b)/\Zp.It p h i l n/\Zp.It q h j m n) where
 mem:=by simp
 obj:=fun n h st b hb=>by
  obtain⟨hz,hI,⟨a,b',hO⟩,ci,cj⟩:=st
  simp only[List.mem_cons,List.not_mem_nil,or_false] at hb
  rcases hb with rfl|rfl|rfl|rfl|rfl
  ·exact⟨_,hz,fun v z=>by cases z⟩
  ·exact⟨_,hI,fun v z=>by cases z⟩
  ·exact⟨_,hO,fun v z=>by cases z⟩
  ·exact ci.obj
  ·exact cj.obj
 keep:=fun n h h' st k=>by
  obtain⟨hz,hI,⟨a,b',hO⟩,ci,cj⟩:=st
  exact⟨k z (by simp) _ hz,k TI (by simp) _ hI,⟨a,b',k TO (by simp) _ hO⟩,ci.to fun o e=>k i (by simp) o e,cj.to fun o e=>k j (by simp) o e⟩
 item:=by
  intro X hP hw hK hc n pins s σ H E I hf st hg
  subst hP hw hK
  obtain⟨hz,hI,⟨a,b',hO⟩,ci,cj⟩:=st
  obtain⟨xs,ys,x,y,OK,OL,hx,hy⟩:=hg
  obtain⟨Kf,Kg,p1⟩:=I.Mr OK
  obtain⟨Fy,HD,p2⟩:=I.Mr OL
  obtain⟨u1,PQ,PR⟩:=Kg.get hx
  obtain⟨u2,Uj,Uk⟩:=HD.get hy
  refine Zp.Kc D hz hI hO ci cj p1 p2 (x:=u1) (y:=u2) (by simpa using PQ) (by simpa using Uj) fun h1 a1 a2 a3 a4 a5 a6 hk=>?_
  refine⟨_,rfl,?_⟩
  have lz:z < s.heap.objs.size:=Heap.lt_size hz
  have Ul:s.heap.objs.size≠z:=Nat.ne_of_gt lz
  refine wpAny_letOwnedTupleGo_zip (s:={s with heap:=h1}) a1 fun h2 Um Ia=>?_
  have kk:∀ b o,b∉[z,TI,TO,i,j]->s.heap.get? b=some o->h2.get? b=some o:=fun b o hb e=>by
   simp only[List.mem_cons,List.not_mem_nil,or_false,not_or] at hb
   exact Ia.extBut _ _ hb.1 (hk b o hb.1 hb.2.2.1 hb.2.2.2.1 hb.2.2.2.2 e)
  have hT:IsPair h2 s.heap.objs.size u1 u2:=Ia.extBut _ _ Ul a5
  have I2:Inv X pins σ (upd H s.heap.objs.size (.tup [x,y])) {s with heap:=h2}:=I.Lw (t':=s.toks) kk hf (Nat.le_refl _) ⟨by show 2<=sizeLine;decide,[u1,u2],.cons PR (.cons Uk .nil),⟨_,hT,rfl,_,rfl⟩⟩
  refine⟨.ref s.heap.objs.size,_,I2,rfl,⟨_,x,y,rfl,I.E7.fresh (Nat.le_refl _),rfl,fun PU Wg g1 g2=>by rw[I.Iz g1 OK,I.Iz g2 OL];exact⟨hx,hy⟩⟩,⟨Um,Ia.extBut _ _ D.TIz (hk _ _ D.TIz D.TITO D.TIi1 D.TIi2 hI),⟨_,_,Ia.extBut _ _ D.TOz a2⟩,a3.to fun o e=>Ia.extBut _ _ D.i1z e,a4.to fun o e=>Ia.extBut _ _ D.i2z e⟩,fun b hb=>?_⟩
  have Iy:b < s.heap.objs.size:=by
   simp only[List.mem_cons,List.not_mem_nil,or_false] at hb
   rcases hb with rfl|rfl|rfl|rfl|rfl
   ·exact lz
   ·exact Heap.lt_size hI
   ·exact Heap.lt_size hO
   ·exact ci.lt
   ·exact cj.lt
  rw[aj (Nat.ne_of_lt Iy)]
  exact(hf b hb).1
 done:=by
  intro X hP hw hK hc n pins s σ H E I hf st hg
  subst hP hw hK
  obtain⟨hz,hI,⟨a,b',hO⟩,ci,cj⟩:=st
  obtain⟨xs,ys,OK,OL,hx⟩:=hg
  obtain⟨Kf,Kg,p1⟩:=I.Mr OK
  obtain⟨Fy,HD,p2⟩:=I.Mr OL
  have l1:=Kg.length
  have l2:=HD.length
  refine Zp.Ke (I.ok.hd hc) D hz hI hO ci cj p1 p2 (by
   rcases hx with hx|hx
   ·exact .inl (Array.getElem?_eq_none (by simp;omega))
   ·exact .inr (Array.getElem?_eq_none (by simp;omega))) fun h1 hk=>⟨rfl,I.turns (t':=s.toks) (ch:=[z,TI,TO,i,j]) (fun b o hb e=>?_) hf⟩
  simp only[List.mem_cons,List.not_mem_nil,or_false,not_or] at hb
  exact hk b o hb.1 hb.2.2.1 hb.2.2.2.1 hb.2.2.2.2 e
 self:=fun _ _ _ _ _ st h=>wpAny_pyIter_zip st.1 h
def Et (K:PySem.W.Frag)(ta:TA):TI:=fun σ H R=>ta σ H fun vs H1=>∃ p q l m xs ys,vs=[.ref l,.ref m]/\Jl K H1 p l xs/\Jl K H1 q m ys/\R (PN K p q l m) H1
theorem Zp.Sq.lt {k:Zp.Kq}{h:Heap}{a:Addr}{xs:Array Value}(q:Zp.Sq k h a xs):a < h.objs.size:=by
 cases k with
 | l=>obtain⟨o,e,_⟩:=q;exact Heap.lt_size e
 | t=>obtain⟨o,e,_⟩:=q;exact Heap.lt_size e
theorem pE (N l m:Nat)(hl:l < N)(hm:m < N):ZipApart (N+4) (N+2) (N+3) N (N+1) l m:=by
 constructor<;>(intro e;have e':(_:Nat)=(_:Nat):=e;omega)
theorem zq {X:Cx}{a b:Expr}{ta:TA}{es:List Expr}{c:Nat}{p tp pos:Pos}(hg:Gl X "zip") (hm:X.mg "zip" = none) (ha:PA X [a,b] ta) (hs:starEach [a,b] X.env=[(false,eval a X.env),(false,eval b X.env)]) (Ia:starEach [b] X.env=[(false,eval b X.env)]) :
  PI X (.Tuple es c tp) (.Call (.Name "zip" p) [a,b] [] pos) (Et X.K ta):=by
 intro pins s σ H R I h
 refine Call_ (dy I hg hm boot_zip (PyProof.Rows.callWith_type1 (Fe (ha pos pins s σ H _ I h) fun us s1 ⟨vs,H1,I1,r1,q1⟩=>?_) (by rw[hs,Ia]) (by rw[Ia];rfl)))
 obtain⟨k1,k2,l,m,xs,ys,e,g1,g2,q⟩:=q1
 subst e
 cases r1 with
 | cons r rr=>
  cases rr with
  | cons r' rr=>
   cases rr
   cases r
   cases r'
   obtain⟨Kf,Kg,p1⟩:=I1.Mr g1
   obtain⟨Fy,HD,p2⟩:=I1.Mr g2
   have l1:=p1.lt
   have l2:=p2.lt
   refine Zp.Jw p1 p2 fun h2 b1 b2 b3 b4 b5 b6 b7=>?_
   refine wpAny_pyIter_zip (s:={s1 with heap:=h2}) b1 ?_
   refine⟨s1.heap.objs.size+4,[s1.heap.objs.size+4,s1.heap.objs.size+2,s1.heap.objs.size+3,s1.heap.objs.size,s1.heap.objs.size+1],_,_,H1,rfl,I1.kept (t':=s1.toks) b7,pD k1 k2 _ _ _ _ _ l m (pE _ l m l1 l2),⟨b1,b2,⟨_,_,b3⟩,b4,b5⟩,fun b hb=>?_,q⟩
   have Iy:s1.heap.objs.size<=b:=by
    simp only[List.mem_cons,List.not_mem_nil,or_false] at hb
    rcases hb with rfl|rfl|rfl|rfl|rfl
    ·exact Nat.le_add_right _ _
    ·exact Nat.le_add_right _ _
    ·exact Nat.le_add_right _ _
    ·exact Nat.le_refl _
    ·exact Nat.le_add_right _ _
   exact I1.IU Iy (I1.E7.fresh Iy)
end L2
namespace L2.Se
open PySem
structure Cut (xs:Array Nat)(j p:Nat):Prop where
 le:p<=xs.size
 lo:∀ i x:Nat,i < p->xs[i]? = some x->x < j
 hi:∀ i x:Nat,p<=i->xs[i]? = some x->j<=x
def Up (xs:Array Nat):Prop:=∀ i k x y:Nat,i < k->xs[i]? = some x->xs[k]? = some y->x < y
theorem pF {xs:Array Nat}{j:Nat}(u:Up xs):∀ (fuel lo hi:Nat),hi<=lo+fuel->lo<=hi->hi<=xs.size->(∀ i x,i < lo->xs[i]? = some x->x < j)->(∀ i x,hi<=i->xs[i]? = some x->j<=x)->Cut xs j (SetTable.below.go xs j fuel lo hi):=by
 intro fuel
 induction fuel with
 | zero=>
  intro lo hi h1 h2 h3 h4 h5
  have e:lo=hi:=by omega
  subst e
  exact⟨h3,h4,h5⟩
 | succ f ih=>
  intro lo hi h1 h2 h3 h4 h5
  unfold SetTable.below.go
  by_cases hl:lo < hi
  ·rw[if_pos hl]
   have hm:(lo+hi) / 2 < xs.size:=by omega
   have e:xs[(lo+hi) / 2]? = some xs[(lo+hi) / 2]:=by simp[hm]
   have eg:xs.getD ((lo+hi) / 2) j=xs[(lo+hi) / 2]:=by simp[Array.getD,hm]
   dsimp only
   rw[eg]
   by_cases hx:xs[(lo+hi) / 2] < j
   ·rw[if_pos hx]
    refine ih _ _ (by omega) (by omega) h3 (fun i x IA JN=>?_) h5
    by_cases PV:i=(lo+hi) / 2
    ·subst PV;rw[e] at JN;cases JN;exact hx
    ·exact Nat.lt_trans (u i _ x _ (by omega) JN e) hx
   ·rw[if_neg hx]
    refine ih _ _ (by omega) (by omega) (by omega) h4 (fun i x IA JN=>?_)
    by_cases PV:i=(lo+hi) / 2
    ·subst PV;rw[e] at JN;cases JN;omega
    ·have:=u _ i _ x (by omega) e JN;omega
  ·rw[if_neg hl]
   have e:lo=hi:=by omega
   subst e
   exact⟨h3,h4,h5⟩
theorem eD {xs:Array Nat}(u:Up xs)(j:Nat):Cut xs j (SetTable.below xs j):=
 pF u xs.size 0 xs.size (by omega) (Nat.zero_le _) (Nat.le_refl _) (fun i x h=>absurd h (Nat.not_lt_zero i)) (fun i x h hx=>by
  have:=(Array.getElem?_eq_some_iff.mp hx).1
  omega)
theorem uG {α:Type}{xs:Array α}{p:Nat}{x:α}(hp:p<=xs.size)(i:Nat):(SetTable.insertAt xs p x)[i]? = if i < p then xs[i]? else if i=p then some x else xs[i - 1]?:=by
 rw[<- Array.getElem?_toList,SetTable.toList_insertAt]
 by_cases h1:i < p
 ·rw[if_pos h1,List.getElem?_append_left (by simp;omega),List.getElem?_take,if_pos h1,Array.getElem?_toList]
 ·rw[if_neg h1,List.getElem?_append_right (by simp;omega)]
  have hl:(xs.toList.take p).length=p:=by simp;omega
  rw[hl]
  by_cases h2:i=p
  ·subst h2;rw[if_pos rfl,Nat.sub_self];rfl
  ·rw[if_neg h2]
   obtain⟨k,rfl⟩:∃ k,i=p+k+1:=⟨i - p - 1,by omega⟩
   rw[show p+k+1 - p=k+1 by omega,List.getElem?_cons_succ,List.getElem?_drop,Array.getElem?_toList]
   rfl
theorem zr {xs:Array Nat}{j p:Nat}(u:Up xs)(c:Cut xs j p)(hn:xs[p]?≠some j):Up (SetTable.insertAt xs p j):=by
 intro i k x y PX hx hy
 rw[uG c.le] at hx hy
 have Ry:∀ m z,p<=m->xs[m]? = some z->j < z:=fun m z hm hz=>by
  have h1:=c.hi m z hm hz
  by_cases e:m=p
  ·subst e
   have:j≠z:=fun e=>hn (by rw[hz,e])
   omega
  ·have FH:m < xs.size:=(Array.getElem?_eq_some_iff.mp hz).1
   have hp:p < xs.size:=by omega
   have ep:xs[p]? = some xs[p]:=by simp[hp]
   have h2:=c.hi p _ (Nat.le_refl _) ep
   have:=u p m _ z (by omega) ep hz
   omega
 by_cases a1:i < p
 ·rw[if_pos a1] at hx
  have Uo:=c.lo i x a1 hx
  by_cases b1:k < p
  ·rw[if_pos b1] at hy;exact u i k x y PX hx hy
  ·rw[if_neg b1] at hy
   by_cases b2:k=p
   ·rw[if_pos b2] at hy;cases hy;exact Uo
   ·rw[if_neg b2] at hy
    have:=Ry (k - 1) y (by omega) hy;omega
 ·rw[if_neg a1] at hx
  by_cases a2:i=p
  ·rw[if_pos a2] at hx;cases hx
   rw[if_neg (by omega),if_neg (by omega)] at hy
   exact Ry (k - 1) y (by omega) hy
  ·rw[if_neg a2] at hx
   rw[if_neg (by omega),if_neg (by omega)] at hy
   exact u (i - 1) (k - 1) x y (by omega) hx hy
theorem pH (n:Nat):Up (Array.range n):=by
 intro i k x y h hx hy
 obtain⟨h1,e1⟩:=Array.getElem?_eq_some_iff.mp hx
 obtain⟨h2,e2⟩:=Array.getElem?_eq_some_iff.mp hy
 simp at e1 e2
 omega
structure Tb (led:Bool)(t:SetTable):Prop where
 up:Up t.place
 dm:t.dummies = #[]
 ld:t.led=led
theorem kL {t:SetTable}{j:Nat}(h:t.slot j=.empty):t.place[SetTable.below t.place j]?≠some j:=by
 intro e
 unfold SetTable.slot at h
 dsimp only at h
 rw[if_pos (by rw[e];exact beq_self_eq_true _)] at h
 cases h
theorem has_none (j:Nat):SetTable.has #[] j=false:=by
 unfold SetTable.has
 rw[show (#[]:Array Nat)[SetTable.below #[] j]? = none by simp]
 rfl
theorem kM {t:SetTable}(hd:t.dummies = #[])(j:Nat):t.slot j≠.dummy:=by
 intro h
 unfold SetTable.slot at h
 dsimp only at h
 rw[hd,has_none] at h
 split at h
 ·cases h
 ·rw[if_neg Bool.false_ne_true] at h;cases h
theorem n0 (t:SetTable)(p:SetTable.Probe):(t.advance p).dummy=p.dummy:=by
 unfold SetTable.advance
 split<;>rfl
theorem pI {t:SetTable}(hd:t.dummies = #[]){h:Int}{f:Nat->Int}(hh:∀ i,(f i == h)=false):∀ (fuel:Nat) (p:SetTable.Probe) (m:SetTable.Met),p.dummy=none->SetTable.probe.go t f h fuel p=some m->∃ j,m=.empty j none/\t.slot j=.empty:=by
 intro fuel
 induction fuel with
 | zero=>intro p m _ e;cases e
 | succ n ih=>
  intro p m hp e
  unfold SetTable.probe.go at e
  cases hs:t.slot p.j with
  | empty=>rw[hs] at e;dsimp only at e;rw[hp] at e;cases e;exact⟨_,rfl,hs⟩
  | dummy=>exact absurd hs (kM hd _)
  | live i=>
   rw[hs] at e
   dsimp only at e
   rw[hh,if_neg Bool.false_ne_true] at e
   exact ih _ m (by rw[n0];exact hp) e
theorem n6 {t:SetTable}(hd:t.dummies = #[]){h:Int}{j:Nat}{b:Bool}(e:t.freeSlot h=some (j,b)):t.slot j=.empty/\b=false:=by
 unfold SetTable.freeSlot at e
 cases q:t.probe (fun _=>h+1) h (t.probeStart h) with
 | none=>rw[q] at e;cases e
 | some m=>
  obtain⟨j',rfl,hs⟩:=pI hd (f:=fun _=>h+1) (h:=h) (fun i=>by rw[beq_eq_false_iff_ne];omega) _ _ m rfl q
  rw[q] at e
  cases e
  exact⟨hs,rfl⟩
theorem dF {led:Bool}{t:SetTable}(T:Tb led t)(n:Nat):Tb led (t.standIn n):=⟨pH n,rfl,T.ld⟩
theorem Bm {led:Bool}{t:SetTable}(T:Tb led t)(n:Nat):Tb led (t.orStandIn n):=by
 unfold SetTable.orStandIn
 split
 ·exact T
 ·exact dF T n
theorem zt {led:Bool}{t:SetTable}(T:Tb led t){j:Nat}(hs:t.slot j=.empty):Tb led (t.put j).1:=by
 refine⟨zr T.up (eD T.up j) (kL hs),?_,T.ld⟩
 show (if SetTable.has t.dummies j then _ else t.dummies) = #[]
 rw[T.dm,has_none]
 rfl
theorem zu {led:Bool}{t:SetTable}(T:Tb led t)(es:Array (Int×Value))(h:Int)(x:Value):Tb led (layNew t es h x).2.1:=by
 unfold layNew
 cases q:t.freeSlot h with
 | none=>exact dF T _
 | some p=>
  obtain⟨j,b⟩:=p
  exact Bm (zt T (n6 T.dm q).1) _
theorem pJ (o:Nat->Option Nat)(l:List Nat):((l.filterMap fun j=>(o j).map (j,·)).map (·.1))=l.filter fun j=>(o j).isSome:=by
 induction l with
 | nil=>rfl
 | cons a l ih=>
  rw[List.filterMap_cons,List.filter_cons]
  cases o a with
  | none=>simpa using ih
  | some b=>simpa using ih
theorem uH {l:List Nat}(h:l.Pairwise (· < ·)):Up l.toArray:=by
 intro i k x y PX hx hy
 have FT:l[i]? = some x:=by simpa using hx
 have Lx:l[k]? = some y:=by simpa using hy
 obtain⟨h1,e1⟩:=List.getElem?_eq_some_iff.mp FT
 obtain⟨h2,e2⟩:=List.getElem?_eq_some_iff.mp Lx
 have:=List.pairwise_iff_getElem.mp h i k h1 h2 PX
 omega
theorem uI {mask finger moves:Nat}{led plain:Bool}{hs:Array Int}{t:SetTable}{o:Array Nat}(e:SetTable.laid mask finger moves led plain hs=some (t,o)):Tb led t:=by
 unfold SetTable.laid at e
 cases q:SetTable.layClean mask hs with
 | none=>rw[q] at e;cases e
 | some ow=>
  rw[q] at e
  have e':=Option.some.inj e
  cases e'
  refine⟨?_,rfl,rfl⟩
  show Up (List.toArray (List.map _ (List.filterMap _ _)))
  rw[pJ]
  exact uH (List.Pairwise.sublist List.filter_sublist List.pairwise_lt_range)
theorem pK {led:Bool}{t:SetTable}(T:Tb led t)(es:Array (Int×Value))(n:Nat):Tb led (relayAll t es n).2.1:=by
 unfold relayAll
 cases q:t.relaid (es.map (·.1)) n with
 | none=>exact dF T _
 | some p=>
  obtain⟨t',o⟩:=p
  dsimp only
  split
  ·have:=uI q
   rw[T.ld] at this
   exact this
  ·exact dF T _
theorem pL {led:Bool}{t:SetTable}(T:Tb led t)(b:Bool):Tb led {t with plain:=b}:=⟨T.up,T.dm,T.ld⟩
theorem pM (f m:Nat)(led:Bool):Tb led (SetTable.fresh f m led):=⟨fun i k x y _ h=>by simp[SetTable.fresh] at h,rfl,rfl⟩
open PyProof.Rows
structure Ky (prog:Program)(w:World)(α:Type) [DecidableEq α] where
 knd:PySem.KeyKind prog w α
 mv:α->Tok->Value
 is:∀ k t,knd.is k (mv k t)=true
 sc:∀ k t,(mv k t).scannable=true
inductive Ar {α:Type}(mk:α->Tok->Value):List Value->List α->Prop
 | nil:Ar mk [] []
 | cons (n:α) (t:Tok) {vs:List Value}{ns:List α}:Ar mk vs ns->Ar mk (mk n t::vs) (n::ns)
theorem Ar.length {α:Type}{mk:α->Tok->Value}{vs:List Value}{ns:List α}(h:Ar mk vs ns):vs.length=ns.length:=by
 induction h with
 | nil=>rfl
 | cons _ _ _ ih=>rw[List.length_cons,List.length_cons,ih]
theorem Ar.at {α:Type} [Inhabited α]{mk:α->Tok->Value}:∀ {vs:List Value}{ns:List α},Ar mk vs ns->∀ (i:Nat) (v:Value),vs[i]? = some v->∃ t,v=mk (ns.getD i default) t
 | _,_,.nil,i,v,h=>by simp at h
 | _,_,.cons n t hr,0,v,h=>by simp at h;exact⟨t,by rw[<- h];rfl⟩
 | _,_,.cons n t hr,i+1,v,h=>by
  simp only[List.getElem?_cons_succ] at h
  obtain⟨t',e⟩:=Ar.at hr i v h
  exact⟨t',by rw[e];rfl⟩
section
variable {prog:Program}{w:World}{α:Type} [DecidableEq α] [Inhabited α]{ky:Ky prog w α}{A:Around}{E:Value->Shared->Prop}{s:Shared}
noncomputable abbrev vals (es:Array (Int×Value)):List Value:=es.toList.map (·.2)
structure FW {prog:Program}{w:World}{α:Type} [DecidableEq α](ky:Ky prog w α)(led:Bool)(σ:List α)(o:Obj)(es:Array (Int×Value))(ep:Nat)(t:SetTable):Prop where
 ex:o.ExactSet
 da:o.data=.set es ep t
 el:ElemsOf ky.knd es.toList
 sb:es.size < scanBound
 fi:t.fits es.size=true
 tb:Tb led t
 pm:∃ ks,Ar ky.mv (vals es) ks/\ks.Perm σ
def cU {prog:Program}{w:World}{α:Type} [DecidableEq α](ky:Ky prog w α)(h:Heap)(a:Addr)(led:Bool)(σ:List α):Prop:=∃ o es ep t,h.get? a=some o/\FW ky led σ o es ep t
theorem dG {vs PY:List Value}{ks:List α}(p:PY.Perm vs)(h:Ar ky.mv vs ks):∃ Hh,Ar ky.mv PY Hh/\Hh.Perm ks:=by
 induction p generalizing ks with
 | nil=>exact⟨ks,h,.refl _⟩
 | cons x _ ih=>
  cases h with
  | cons n t h=>obtain⟨Hh,h1,h2⟩:=ih h;exact⟨n::Hh,.cons n t h1,.cons n h2⟩
 | swap x y l=>
  cases h with
  | cons n t h=>
   cases h with
   | cons m u h=>exact⟨m::n::_,.cons m u (.cons n t h),.swap n m _⟩
 | trans _ _ Uq PZ=>
  obtain⟨k1,a1,b1⟩:=PZ h
  obtain⟨k2,a2,b2⟩:=Uq a1
  exact⟨k2,a2,b2.trans b1⟩
theorem pN {vs:List Value}{ks:List α}{k:α}{t:Tok}(h:Ar ky.mv vs ks):Ar ky.mv (vs++[ky.mv k t]) (ks++[k]):=by
 induction h with
 | nil=>exact .cons k t .nil
 | cons n u _ ih=>exact .cons n u ih
theorem pO {es:List (Int×Value)}{ks:List α}{k:α}(h:Ar ky.mv (es.map (·.2)) ks):es.any (fun e=>ky.knd.is k e.2)=ks.any (· == k):=by
 induction es generalizing ks with
 | nil=>cases h;rfl
 | cons e es ih=>
  obtain⟨c,v⟩:=e
  cases h with
  | cons n t h=>
   rw[List.any_cons,List.any_cons,ih h,KeyKind.is_eq_decide (ky.is n t) k]
   congr 1
   by_cases q:k=n
   ·subst q;simp
   ·simp[q,show ¬ n=k from fun z=>q z.symm]
theorem store {h:Heap}{a:Addr}{led:Bool}{σ E4:List α}{o:Obj}{es HQ:Array (Int×Value)}{ep:Nat}{t t':SetTable}(ho:h.get? a=some o)(D:FW ky led σ o es ep t)
  (el:ElemsOf ky.knd HQ.toList) (sb:HQ.size < scanBound) (fi:t'.fits HQ.size=true) (tb:Tb led t') (pm:∃ ks,Ar ky.mv (vals HQ) ks/\ks.Perm E4) :
  (h.update a (Obj.putSet HQ t')).get? a=some {o with data:=.set HQ (ep+1) t'}/\FW ky led E4 {o with data:=.set HQ (ep+1) t'} HQ (ep+1) t':=
 ⟨(SetOf_store (knd:=ky.knd) (S':=fun k=>HQ.toList.any fun e=>ky.knd.is k e.2) ho D.ex D.da el (fun k=>by rw[List.any_eq_true]) sb fi).1,D.ex,rfl,el,sb,fi,tb,pm⟩
theorem jF {a:Addr}{led:Bool}{σ E4:List α}{o:Obj}{es Gg:Array (Int×Value)}{ep:Nat}{t t2:SetTable}{b:Bool}{g:Bool->Sem Unit}(hg:∀ (b:Bool)(E5:Shared)(Q':Unit->Shared->Prop),Q' () E5->wpAny (model prog w) A (g b) Q' E E5)
  (ho:s.heap.get? a=some o) (D:FW ky led σ o es ep t) (el:ElemsOf ky.knd Gg.toList) (sb:Gg.size < scanBound) (fi:t2.fits Gg.size=true) (tb:Tb led t2) (pm:∃ ks,Ar ky.mv (vals Gg) ks/\ks.Perm E4)
  {R:Option Bool->Shared->Prop} (h:∀ h',Heap.SameBut a s.heap h'->cU ky h' a led E4->R (some true) {s with heap:=h'}) :
  wpAny (model prog w) A (do
    storeSet a Gg t2
    if (!b&&t2.tooFull)=true then do
      g (relayAll t2 Gg (SetTable.grown Gg.size)).2.2
      storeSet a (relayAll t2 Gg (SetTable.grown Gg.size)).1 (relayAll t2 Gg (SetTable.grown Gg.size)).2.1
      pure (some true)
     else pure (some true)) R E s:=by
 obtain⟨g1,D1⟩:=store ho D el sb fi tb pm
 have b1:=Heap.SameBut.update s.heap a (Obj.putSet Gg t2)
 refine wpAny_bind (wpAny_storeSet_of ho D.da ?_ (fits_of_scanBound sb))
 split
 ·have p2:=relayAll_perm t2 Gg (SetTable.grown Gg.size)
  have f2:=relayAll_fits t2 Gg (SetTable.grown Gg.size)
  have u2:=pK tb Gg (SetTable.grown Gg.size)
  generalize relayAll t2 Gg (SetTable.grown Gg.size)=Z at p2 f2 u2 ⊢
  obtain⟨Ms,t3,gv⟩:=Z
  dsimp only at p2 f2 u2 ⊢
  have sz:Ms.size=Gg.size:=by rw[<- Array.length_toList,p2.length_eq,Array.length_toList]
  have Rz:Ms.size < scanBound:=by rw[sz];exact sb
  obtain⟨ks,k1,k2⟩:=pm
  obtain⟨Hh,k3,k4⟩:=dG (p2.map (·.2)) k1
  obtain⟨g2,D2⟩:=store g1 D1 (el.perm p2) Rz f2 u2 ⟨Hh,k3,k4.trans k2⟩
  refine wpAny_bind (hg _ _ _ (wpAny_bind (wpAny_storeSet_of g1 rfl ?_ (fits_of_scanBound Rz))))
  exact wpAny_pure (h _ (b1.trans (Heap.SameBut.update _ a _)) ⟨_,_,_,_,g2,D2⟩)
 ·exact wpAny_pure (h _ b1 ⟨_,_,_,_,g1,D1⟩)
theorem add_int {a:Addr}{led:Bool}{σ:List α}{k:α}{tk:Tok}{Q:Bool->Shared->Prop}(hS:cU ky s.heap a led σ)(hr:σ.length+1 < scanBound)
  (h:∀ h',Heap.SameBut a s.heap h'->cU ky h' a led (step_dedup σ k)->∀ b,Q b {s with heap:=h'}) :
  wpAny (model prog w) A (setAddHashed a (ky.mv k tk) (ky.knd.hash k)) Q E s:=by
 obtain⟨o,es,ep,t,ho,D⟩:=hS
 obtain⟨ks,k1,k2⟩:=D.pm
 have lk:es.size=ks.length:=by have:=Ar.length k1;rw[List.length_map,Array.length_toList] at this;exact this
 have Nm:es.toList.any (fun e=>ky.knd.is k e.2)=σ.any (· == k):=(pO k1).trans (k2.any_eq)
 unfold setAddHashed setAddHashedIn
 refine wpAny_holding (wpAny_bind (wpAny_setState_of ho D.da D.fi ?_))
 dsimp only
 rw[byScan_of (x:=ky.mv k tk) (ky.sc k tk) D.sb D.el,if_pos rfl]
 unfold setAddByScan
 refine wpAny_bind (wpAny_bind (wpAny_rule (wpAny_bind (wpAny_setScan_of (ky.is k tk) ho D.da D.fi D.el ?_))))
 cases hq:List.findIdx? (fun e=>ky.knd.is k e.2) es.toList with
 | some j=>
  dsimp only
  obtain⟨hj,Ur,_⟩:=List.findIdx?_eq_some_iff_getElem.mp hq
  have P0:σ.any (· == k)=true:=by rw[<- Nm,List.any_eq_true];exact⟨_,List.getElem_mem hj,Ur⟩
  have e2:step_dedup σ k=σ:=by unfold step_dedup;rw[if_pos P0]
  refine wpAny_pure (wpAny_pure ?_)
  have z:=h s.heap (Heap.SameBut.refl a s.heap) (by rw[e2];exact⟨o,es,ep,t,ho,D⟩) false
  cases s;exact z
 | none=>
  dsimp only
  have P1:σ.any (· == k)=false:=by
   rw[<- Nm,List.any_eq_false]
   intro e he
   have:=List.findIdx?_eq_none_iff.mp hq e he
   rw[this];exact Bool.false_ne_true
  have e2:step_dedup σ k=σ++[k]:=by unfold step_dedup;rw[if_neg (by rw[P1];exact Bool.false_ne_true)]
  have p1:=layNew_perm t es (ky.knd.hash k) (ky.mv k tk)
  have f1:=layNew_fits t es (ky.knd.hash k) (ky.mv k tk)
  have u1:=zu D.tb es (ky.knd.hash k) (ky.mv k tk)
  generalize layNew t es (ky.knd.hash k) (ky.mv k tk)=L at p1 f1 u1 ⊢
  obtain⟨Gg,t1,wd,gv⟩:=L
  dsimp only at p1 f1 u1 ⊢
  rw[Array.toList_push] at p1
  have RB:ElemsOf ky.knd Gg.toList:=(D.el.push (ky.is k tk) (ky.sc k tk)).perm p1
  have Us:Gg.size=es.size+1:=by rw[<- Array.length_toList,p1.length_eq,List.length_append,Array.length_toList];rfl
  have RC:Gg.size < scanBound:=by rw[Us,lk,k2.length_eq];exact hr
  have RE:∃ Hh,Ar ky.mv (vals Gg) Hh/\Hh.Perm (step_dedup σ k):=by
   obtain⟨Hh,k3,k4⟩:=dG (p1.map (·.2)) (by rw[List.map_append];exact pN (k:=k) (t:=tk) k1)
   exact⟨Hh,k3,k4.trans (by rw[e2];exact k2.append_right _)⟩
  refine wpAny_bind ((show ∀ (b:Bool) (E5:Shared) (Q':Unit->Shared->Prop),Q' () E5->wpAny (model prog w) A (match b with|true=>rule "set.scan.the-table-gave-way" | false=>pure ()) Q' E E5 from fun b E5 Q' hq=>by cases b<;>first|exact wpAny_pure hq|exact wpAny_rule hq) _ _ _ ?_)
  have fin:∀ h',Heap.SameBut a s.heap h'->cU ky h' a led (step_dedup σ k)->wpAny (model prog w) A (pure true) Q E {s with heap:=h'}:=fun h' hb GB=>wpAny_pure (h h' hb GB true)
  split
  ·rw[hashByValue_scannable 8 (x:=ky.mv k tk) (ky.sc k tk)]
   refine wpAny_bind (wpAny_pure (jF ?_ ho D RB RC ?_ ?_ RE fun h' hb GB=>?_))
   ·intro b E5 Q' hq;cases b<;>first|exact wpAny_pure hq|exact wpAny_rule hq
   ·split
    ·exact f1
    ·exact SetTable.fits_plain_off f1
   ·split
    ·exact u1
    ·exact pL u1 _
   ·exact fin h' hb GB
  ·refine wpAny_bind (wpAny_pure ?_)
   rw[if_pos rfl]
   refine jF ?_ ho D RB RC f1 u1 RE fun h' hb GB=>fin h' hb GB
   intro b E5 Q' hq;cases b<;>first|exact wpAny_pure hq|exact wpAny_rule hq
end
noncomputable abbrev aR (w:World):Bool:=w.params.followText "set-order"
section
variable {prog:Program}{w:World}{α:Type} [DecidableEq α] [Inhabited α]{ky:Ky prog w α}{A:Around}{E:Value->Shared->Prop}{s:Shared}{R:Result->Shared->Prop}{I:Addr}{fp wr:List Addr}{G:Array GenState->Array GenState->Prop}{n:Nat}{P:Nat->Value->Prop}{St:Nat->Shared->Prop}
theorem cU.moved {h h':Heap}{a:Addr}{led:Bool}{σ:List α}(hS:cU ky h a led σ)(k:∀ o,h.get? a=some o->h'.get? a=some o):cU ky h' a led σ:=by
 obtain⟨o,es,ep,t,ho,D⟩:=hS
 exact⟨o,es,ep,t,k o ho,D⟩
theorem FN (l:List α):∀ σ:List α,(l.foldl step_dedup σ).length<=σ.length+l.length:=fun σ=>foldl_step_dedup_length_le σ l
theorem loop (W:WalksS prog w A.in1 I fp wr G n P St)(a:Addr)(ha:a∉fp){led:Bool}{ns:List α}(hv:∀ i v,P i v->∃ t,v=ky.mv (ns.getD i default) t)(hn:ns.length=n)(hb:n+1 < scanBound) :
  ∀ (k i:Nat) (s:Shared),n - i=k->i<=n->St i s->cU ky s.heap a led ((ns.take i).foldl step_dedup [])->
   (∀ s',Moved (a::wr) G s s'->cU ky s'.heap a led (ns.foldl step_dedup [])->R (.ok (.ret .none)) s')->
   codeAny (model prog w) A (.builtin "set.update.loop" ⟨[.ref a,.ref I],[]⟩) R s:=by
 have RF:a∉wr:=fun z=>ha (W.sub _ z)
 have sub:∀ b∈wr,b∈a::wr:=fun b z=>List.mem_cons_of_mem _ z
 intro k
 induction k with
 | zero=>
  intro i s hk hi F8 hS hR
  have e:i=n:=by omega
  subst e
  rw[<- hn,List.take_length] at hS
  refine codeAny_builtin F.entry_set_update_loop ?_
  rw[Around.under_plainId F.plain_set_update_loop _]
  show wpAny _ A.in1 (pyNext (.ref I) >>= _) _ _ s
  exact wpAny_bind (W.done s _ _ F8 fun s' hm=>show wpAny _ A.in1 (ret Value.none) _ _ s' from wpAny_pure (hR s' (hm.mono sub) (hS.moved fun o e=>hm.heap a o RF e)))
 | succ k ih=>
  intro i s hk hi F8 hS hR
  have FH:i < n:=by omega
  refine codeAny_builtin F.entry_set_update_loop ?_
  rw[Around.under_plainId F.plain_set_update_loop _]
  show wpAny _ A.in1 (pyNext (.ref I) >>= _) _ _ s
  refine wpAny_bind (W.item i s _ _ FH F8 fun v s' hP FE hm=>?_)
  obtain⟨t,rfl⟩:=hv i v hP
  have P2:cU ky s'.heap a led ((ns.take i).foldl step_dedup []):=hS.moved fun o e=>hm.heap a o RF e
  show wpAny _ A.in1 (holding [ky.mv (ns.getD i default) t] (setAdd a (ky.mv (ns.getD i default) t)) >>= _) _ _ s'
  unfold setAdd
  refine wpAny_bind (wpAny_holding (wpAny_holding (wpAny_bind (ky.knd.pyHash (ky.is _ _) ?_))))
  have hlen:=FN (ns.take i) []
  rw[List.length_take,List.length_nil] at hlen
  refine add_int (s:={s' with toks:=s'.toks+1}) P2 (by omega) fun h' Nh RG b=>?_
  have et:(ns.take (i+1)).foldl step_dedup []=step_dedup ((ns.take i).foldl step_dedup []) (ns.getD i default):=by
   have IA:i < ns.length:=by omega
   rw[List.take_succ,List.foldl_append,List.getElem?_eq_getElem IA,List.getD_eq_getElem?_getD,List.getElem?_eq_getElem IA]
   rfl
  rw[<- et] at RG
  refine wpAny_pure ⟨plainId_quiet F.plain_set_update_loop _,ih (i+1) _ (by omega) FH (W.frame _ s' _ _ FE (Nat.le_succ _) fun b hb o e=>?_) RG fun Js Ly P4=>?_⟩
  ·rw[Nh.2 b fun z=>ha (z ▸ hb)];exact e
  ·refine hR Js (Moved.trans W.gtrans ((hm.mono sub).then_heap (Nat.le_succ _) fun b o hb e=>?_) Ly) P4
   rw[Nh.2 b fun z=>hb (z ▸ List.mem_cons_self)];exact e
theorem pP (x:Value){Q1:Value->Shared->Prop}(h:Q1 (.ref s.heap.objs.size) {s with heap:=s.heap.push {cls:=.type "set",dict:=none,data:=.set #[] 0 (.fresh 0 0 (!aR w))}}) :
  codeAny (model prog w) A (.call (.builtin "set.__new__") ⟨[.type "set",x],[]⟩) (wants Q1 E) s:=by
 refine codeAny_of_tree (show wpAny _ A.in1 (do checkBuiltinCall "set.__new__" ⟨[.type "set",x],[]⟩;again (.builtin "set.__new__" ⟨[.type "set",x],[]⟩)) _ _ s from wpAny_bind (wpAny_of_eq (F.newCall_set_1 x) (wpAny_pure ⟨plainId_quiet F.plain_set_new _,codeAny_builtin F.entry_set_new ?_⟩)))
 rw[Around.under_plainId F.plain_set_new _]
 unfold Builtin.«set.__new__» Builtin.Frozenset.newClass
 have RH:=sub_set_self
 obtain⟨hp,g,d,tk,os⟩:=s
 dsimp only
 wp_walk
 refine wpAny_askSetting (wpAny_pure ?_)
 dsimp only
 simp only[newObj]
 exact wpAny_bind (wpAny_alloc (wpAny_pure (wpAny_pure h)))
end
section
variable {prog:Program}{w:World}{α:Type} [DecidableEq α] [Inhabited α]{ky:Ky prog w α}{A:Around}{E:Value->Shared->Prop}{s:Shared}
noncomputable abbrev oS (w:World):Obj:={cls:=.type "set",dict:=none,data:=.set #[] 0 (.fresh 0 0 (!aR w))}
theorem n9 (h:Heap):cU ky (h.push (oS w)) h.objs.size (!aR w) []:=
 ⟨_,#[],0,_,Heap.get?_push_size _ rfl,⟨rfl,rfl,rfl⟩,rfl,fun e he=>by simp at he,by decide,rfl,pM _ _ _,[],.nil,.refl _⟩
theorem jG {l:Addr}{items:Array Value}{ns:List α}{Q:Value->Shared->Prop}(hh:A.handled=none)(hl:s.heap.IsList l items)(hi:Ar ky.mv items.toList ns)(hb:items.size+1 < scanBound)
  (h:∀ (h':Heap) (tk:Nat),cU ky h' s.heap.objs.size (!aR w) (ns.foldl step_dedup [])->(∀ b o,b < s.heap.objs.size->s.heap.get? b=some o->h'.get? b=some o)->Q (.ref s.heap.objs.size) {s with heap:=h',toks:=tk}) :
  wpAny (model prog w) A (call (.type "set") [.ref l]) Q E s:=by
 obtain⟨c,tl,mro⟩:=F.called_set.mro
 have made:=F.called_set.made
 have sub:=F.called_set.sub
 refine wpAny_call (codeAny_of_tree (show wpAny _ _ (callAny (.type "set") _) _ _ _ from wpAny_pure ⟨Code.quiet_builtin _ (by decide +kernel),codeAny_builtin F.entry_type_call ?_⟩))
 rw[Around.under_plain (weight_type_call_type "set" [.ref l] []) rfl]
 have n1:=F.called_set.notType
 have n2:=F.called_set.canCreate
 have n3:=F.typeCall_set_1 (.ref l)
 repeat (any_goals (first|assumption|wp_step))
 refine codeAny_mono (pP (.ref l) (E:=E) (Q1:=fun obj s1=>obj=.ref s.heap.objs.size/\s1 = {s with heap:=s.heap.push (oS w)}) ⟨rfl,rfl⟩) fun r s1 hr=>?_
 cases r with
 | error e=>exact hr
 | ok fl=>
  cases fl with
  | ret obj=>
   obtain⟨rfl,rfl⟩:=hr
   have gS:(s.heap.push (oS w)).get? s.heap.objs.size=some (oS w):=Heap.get?_push_size _ rfl
   have hT:Shared.TypeIs {s with heap:=s.heap.push (oS w)} (.ref s.heap.objs.size) "set":=⟨_,gS,rfl⟩
   have i1:=F.called_set.init.lookup
   have i2:=F.called_set.init.bind (.ref s.heap.objs.size)
   repeat (any_goals (first|assumption|wp_step))
   refine codeAny_mono (codeAny_call_builtin (R:=wants (fun r s2=>r=.none/\∃ h' tk,s2 = {s with heap:=h',toks:=tk}/\cU ky h' s.heap.objs.size (!aR w) (ns.foldl step_dedup [])/\
     (∀ b o,b < s.heap.objs.size->s.heap.get? b=some o->h'.get? b=some o)) E) F.called_set.init.plain F.entry_set_init (check_set_init_1 hT ?_)) fun r2 s2 P5=>?_
   ·obtain⟨ol,RJ,P6,nl,RK⟩:=hl
    obtain⟨Ut,Nn,RL,Lz⟩:=ol
    simp only at P6 RK
    subst P6;subst RK
    have P7:(s.heap.push (oS w)).get? l=some {cls:=.type "list",dict:=Nn,data:=.seq items nl,slots:=Lz}:=Heap.get?_push_of_some _ RJ
    have w1:=F.sub_list_set
    have w2:=F.sub_list_frozenset
    have w3:(Value.type "list" == Value.type "dict")=false:=by decide
    have Mu:(s.heap.push (oS w)).IsList l items:=⟨_,P7,rfl,nl,rfl⟩
    unfold Builtin.«set.__init__» noKeywords Builtin.Frozenset.updateFrom
    generalize Uu:pyIter=PI
    wp_walk
    subst Uu
    refine wpAny_pyIter_list Mu (wpAny_bind (wpAny_runValue ?_))
    have lS:l < s.heap.objs.size:=Heap.lt_size RJ
    have nI:l≠(s.heap.push (oS w)).objs.size:=by rw[Heap.size_push];exact Nat.ne_of_lt (Nat.lt_succ_of_lt lS)
    have aS:s.heap.objs.size∉[(s.heap.push (oS w)).objs.size,l]:=by
     rw[Heap.size_push]
     intro z
     rcases List.mem_cons.mp z with z|z
     ·exact Nat.ne_of_lt (Nat.lt_succ_self _) z
     ·exact Nat.ne_of_gt lS (List.mem_singleton.mp z)
    have hlen:ns.length=items.size:=by have:=Ar.length hi;rw[Array.length_toList] at this;exact this.symm
    refine loop ((Walks.list (show A.in1.in1.in1.handled=none by simp[hh]) _ l nI items).toS) s.heap.objs.size aS (ns:=ns) (fun i v hv=>Ar.at hi i v (by rw[Array.getElem?_toList];exact hv)) hlen hb (items.size - 0) 0 _ (by omega) (Nat.zero_le _)
     ⟨⟨_,Heap.get?_push_size _ rfl,rfl,rfl⟩,(Mu.push _)⟩ ((n9 s.heap).moved fun o e=>Heap.get?_push_of_some _ e) ?_
    intro s' hm GB
    obtain⟨h',g',d',Uv,Pl⟩:=s'
    have eg:g'=s.gens:=hm.gens
    have ed:d'=s.drawn:=hm.drawn
    have eo:Pl=s.os:=hm.os
    subst eg ed eo
    show wpAny _ _ _ _ _ _
    refine wpAny_pure (show wpAny _ _ (ret Value.none) _ _ _ from wpAny_pure ⟨rfl,h',Uv,rfl,GB,fun b o hb e=>?_⟩)
    refine hm.heap b o (fun z=>?_) (Heap.get?_push_of_some _ (Heap.get?_push_of_some _ e))
    rcases List.mem_cons.mp z with z|z
    ·exact Nat.ne_of_lt hb z
    ·have:=List.mem_singleton.mp z
     rw[Heap.size_push] at this
     exact Nat.ne_of_lt (Nat.lt_succ_of_lt hb) this
   ·cases r2 with
    | error e=>exact P5
    | ok Uw=>
     cases Uw with
     | ret r=>
      obtain⟨rfl,h',tk,rfl,GB,Mv⟩:=P5
      repeat (any_goals (first|assumption|wp_step))
      exact h _ _ GB Mv
     | _=>exact P5.elim
  | _=>exact hr.elim
end
theorem aq:Slot "set_iterator" "__next__" "set_iterator.__next__":=.of (owner:="set_iterator") (n:="__next__")
 (by rw[typeLookup_type,builtinLookup_eq_fast];kernel_rfl) (by decide +kernel) (by decide +kernel) (by decide +kernel) (by first|exact .inl (by decide +kernel)|exact .inr (by decide +kernel)) (by rw[isSubtype_type];kernel_rfl)
theorem dq:Slot "set_iterator" "__iter__" "set_iterator.__iter__":=.of (owner:="set_iterator") (n:="__iter__")
 (by rw[typeLookup_type,builtinLookup_eq_fast];kernel_rfl) (by decide +kernel) (by decide +kernel) (by decide +kernel) (by first|exact .inl (by decide +kernel)|exact .inr (by decide +kernel)) (by rw[isSubtype_type];kernel_rfl)
theorem bC:entryFor table "set_iterator.__next__" = some Builtin.«set_iterator.__next__»:=entryFor_of_tree (by kernel_rfl)
theorem bK (a:Value):argsOk "set_iterator.__next__" ⟨[a],[]⟩:=by unfold argsOk;kernel_rfl
theorem iO:entryFor table "set.__iter__" = some Builtin.«frozenset.__iter__»:=
 entryFor_alias (id':="frozenset.__iter__") (by kernel_rfl) (by first|rfl|decide +kernel|(unfold String.splitOn;simp +decide [String.splitOnAux])) (by decide +kernel) (by kernel_rfl)
section
variable {prog:Program}{w:World}{α:Type} [DecidableEq α] [Inhabited α]{ky:Ky prog w α}{A:Around}{E:Value->Shared->Prop}{s:Shared}
noncomputable abbrev Jx (first:Value)(i n:Nat)(a:Addr)(ep:Nat):Obj:={cls:=.type "set_iterator",data:=.fields #[first,rawInt i,.ref a,rawInt n,rawInt ep]}
theorem eZ {Q:Bool->Shared->Prop}(h:Q (aR w) s):wpAny (model prog w) A setsByText Q E s:=by
 unfold setsByText
 exact wpAny_bind (wpAny_askSetting (wpAny_pure h))
theorem og {a:Addr}{σ:List α}{o:Obj}{es:Array (Int×Value)}{ep:Nat}{t:SetTable}{led:Bool}{Q:Array (Int×Value)->Shared->Prop}(hb:aR w=true)(ho:s.heap.get? a=some o)(D:FW ky led σ o es ep t)
  (h:Q (pickOrder (w.params.setOrder a ep) es) s):wpAny (model prog w) A (setWalk a) Q E s:=by
 unfold setWalk
 refine wpAny_bind (wpAny_setState_of ho D.da D.fi ?_)
 dsimp only
 refine wpAny_bind (eZ ?_)
 rw[hb,if_pos rfl]
 exact wpAny_bind (wpAny_askSetting (wpAny_pure h))
theorem gX {a:Addr}{σ:List α}{o:Obj}{es:Array (Int×Value)}{ep slot i:Nat}{t:SetTable}{led:Bool}{Q:Option (Value×Nat)->Shared->Prop}(hb:aR w=true)(ho:s.heap.get? a=some o)(D:FW ky led σ o es ep t)
  (h:Q (((pickOrder (w.params.setOrder a ep) es)[i]?).map fun e=>(e.2,slot)) s):wpAny (model prog w) A (setNext a slot i ep) Q E s:=by
 unfold setNext
 refine wpAny_bind (wpAny_setState_of ho D.da D.fi ?_)
 dsimp only
 refine wpAny_bind (eZ ?_)
 rw[hb,if_pos rfl]
 rw[if_neg (by rw[bne_self_eq_false];exact Bool.false_ne_true)]
 exact wpAny_bind (og hb ho D (wpAny_pure h))
theorem fK {a:Addr}{σ:List α}{o:Obj}{es:Array (Int×Value)}{ep slot i:Nat}{t:SetTable}{Q:Option (Value×Nat)->Shared->Prop}(hb:aR w=false)(ho:s.heap.get? a=some o)(D:FW ky (!aR w) σ o es ep t)
  (hd:(!t.plain&&decide (es.size > 1))=false)
  (h:Q (match es[SetTable.below t.place slot]?,t.place[SetTable.below t.place slot]? with
   | some (_,x),some j=>some (x,j+1)
   | _,_=>none) s):wpAny (model prog w) A (setNext a slot i ep) Q E s:=by
 unfold setNext
 refine wpAny_bind (wpAny_setState_of ho D.da D.fi ?_)
 dsimp only
 refine wpAny_bind (eZ ?_)
 rw[hb,if_neg Bool.false_ne_true]
 refine wpAny_bind (wpAny_pure ?_)
 show wpAny _ _ (if (!t.plain&&decide (es.size > 1))=true then _ else _) _ _ _
 rw[hd,if_neg Bool.false_ne_true]
 have hl:t.led=true:=by rw[D.tb.ld,hb];rfl
 show wpAny _ _ ((if (!t.led&&!es.isEmpty)=true then _ else _) >>= _) _ _ _
 rw[hl]
 exact wpAny_bind (wpAny_pure (wpAny_pure h))
end
section
variable {prog:Program}{w:World}{α:Type} [DecidableEq α] [Inhabited α]{ky:Ky prog w α}{A:Around}{E:Value->Shared->Prop}{s:Shared}{it a:Addr}{i n ep slot:Nat}{σ:List α}{o:Obj}{es:Array (Int×Value)}{t:SetTable}{led:Bool}
theorem stop {M:Model}{A:Around}{h:Heap}{hh:A.handled=none}{R:Fin->Shared->Prop}{R':Value->Shared->Prop}(hQ:∀ h' e,(∀ b o,s.heap.get? b=some o->h'.get? b=some o)->(∃ o,h'.get? e=some o/\o.cls=.type "StopIteration")->R' (.ref e) {s with heap:=h'}) :
  wpAny M A (do raiseNew (<- newExc (.type "StopIteration") [])) R R' s:=by
 refine wpAny_bind ?_
 simp only[newExc,newTuple]
 refine wpAny_bind (wpAny_newObj_type ?_ (by size_fits))
 refine wpAny_bind (m:=firstArgMember _ _) (wpAny_of_eq (a:=Value.none) (by first|rfl|(simp only[firstArgMember];rfl)) (wpAny_newObj_type ?_ (by size_fits)))
 simp only[raiseNew]
 refine wpAny_bind (wpAny_handled ?_)
 rw[hh]
 exact wpAny_bind (wpAny_pure (wpAny_throw (hQ _ _ (fun b o e=>Heap.get?_push_of_some _ (Heap.get?_push_of_some _ e)) ⟨_,Heap.get?_push_size _ rfl,rfl⟩)))
theorem l0 {nx:Nat}{x:Value}(hit:s.heap.get? it=some (Jx (rawInt slot) i n a ep))(ho:s.heap.get? a=some o)(D:FW ky led σ o es ep t)(hn:es.size=n)
  (hs:∀ (A':Around) (E':Value->Shared->Prop) (Q':Option (Value×Nat)->Shared->Prop),Q' (some (x,nx)) s->wpAny (model prog w) A' (setNext a slot i ep) Q' E' s) {Q:Option Value->Shared->Prop}
  (h:∀ h',h'.get? it=some (Jx (rawInt nx) (i+1) n a ep)->Heap.SameBut it s.heap h'->Q (some x) {s with heap:=h'}):wpAny (model prog w) A (pyNext (.ref it)) Q E s:=by
 have hT:s.TypeIs (.ref it) "set_iterator":=⟨_,hit,rfl⟩
 unfold pyNext
 refine wpAny_bind (wpAny_attempt (wpAny_callSpecial?_slot (name:=Str.ofString "__next__") hT aq (wpAny_call_entry aq hT bC ?_ (bK _))))
 show wpAny _ _ (fieldsOf (.ref it) >>= _) _ _ s
 refine wpAny_bind (wpAny_fieldsOf hit rfl ?_)
 show wpAny _ _ (setEntries a >>= _) _ _ s
 refine wpAny_bind (wpAny_setEntries_of ho D.da D.fi ?_)
 rw[if_neg (by rw[hn];simp)]
 show wpAny _ _ (setNext a slot i ep >>= _) _ _ s
 refine wpAny_bind (hs _ _ _ ?_)
 show wpAny _ _ (setField (.ref it) 0 (rawInt nx) >>= _) _ _ s
 refine wpAny_bind (wpAny_setField_rec hit (by simp) fun h1 g1 b1=>?_)
 refine wpAny_bind (wpAny_setField_rec g1 (by simp) fun h2 g2 b2=>?_)
 exact wpAny_pure ⟨x,rfl,wpAny_pure (h h2 g2 (b1.trans b2))⟩
theorem l5 (hh:A.handled=none)(hit:s.heap.get? it=some (Jx (rawInt slot) i n a ep))(ho:s.heap.get? a=some o)(D:FW ky led σ o es ep t)(hn:es.size=n)
  (hs:∀ (A':Around) (E':Value->Shared->Prop) (Q':Option (Value×Nat)->Shared->Prop),Q' none s->wpAny (model prog w) A' (setNext a slot i ep) Q' E' s) {Q:Option Value->Shared->Prop}
  (h:∀ h',(∀ b o,b≠it->s.heap.get? b=some o->h'.get? b=some o)->Q none {s with heap:=h'}):wpAny (model prog w) A (pyNext (.ref it)) Q E s:=by
 have hT:s.TypeIs (.ref it) "set_iterator":=⟨_,hit,rfl⟩
 unfold pyNext
 refine wpAny_bind (wpAny_attempt (wpAny_callSpecial?_slot (name:=Str.ofString "__next__") hT aq (wpAny_call_entry aq hT bC ?_ (bK _))))
 show wpAny _ _ (fieldsOf (.ref it) >>= _) _ _ s
 refine wpAny_bind (wpAny_fieldsOf hit rfl ?_)
 show wpAny _ _ (setEntries a >>= _) _ _ s
 refine wpAny_bind (wpAny_setEntries_of ho D.da D.fi ?_)
 rw[if_neg (by rw[hn];simp)]
 show wpAny _ _ (setNext a slot i ep >>= _) _ _ s
 refine wpAny_bind (hs _ _ _ ?_)
 show wpAny _ _ (setField (.ref it) 2 .none >>= _) _ _ s
 refine wpAny_bind (wpAny_setField_rec hit (by simp) fun h1 g1 b1=>?_)
 refine stop (h:=h1) (hh:=show A.in1.handled=none from hh) (s:={s with heap:=h1}) fun h' e k he=>?_
 obtain⟨oe,ge,ce⟩:=he
 refine wpAny_bind (wpAny_isInstance (T:="StopIteration") (b:=true) ⟨_,ge,ce⟩ isSubtype_stop ?_)
 exact wpAny_pure (h h' fun b o hb e=>k b o (b1.extBut b o hb e))
end
section
variable {prog:Program}{w:World}{α:Type} [DecidableEq α] [Inhabited α]{ky:Ky prog w α}{A:Around}{E:Value->Shared->Prop}{s:Shared}{it a T:Addr}{i n ep slot:Nat}{σ:List α}{o:Obj}{es:Array (Int×Value)}{t:SetTable}{led:Bool}
noncomputable abbrev LA (ps:List Nat):Obj:={cls:=.type "tuple",data:=.seq (ps.map fun (k:Nat)=>rawInt k).toArray}
theorem kN {pl:Nat}{c:Int}{x:Value}{Q:Value->Shared->Prop}(ho:s.heap.get? a=some o)(D:FW ky led σ o es ep t)(he:es[pl]? = some (c,x))(h:Q x s):wpAny (model prog w) A (setNextDrawn a pl ep) Q E s:=by
 unfold setNextDrawn
 refine wpAny_bind (wpAny_setState_of ho D.da D.fi ?_)
 dsimp only
 rw[if_neg (by rw[bne_self_eq_false];exact Bool.false_ne_true)]
 rw[he]
 exact wpAny_pure h
theorem pQ {ps:List Nat}{pl:Nat}{c:Int}{x:Value}(hit:s.heap.get? it=some (Jx (.ref T) i n a ep))(hT:s.heap.get? T=some (LA ps))(ho:s.heap.get? a=some o)(D:FW ky led σ o es ep t)(hn:es.size=n)
  (hp:ps[i]? = some pl) (he:es[pl]? = some (c,x)) {Q:Option Value->Shared->Prop}
  (h:∀ h',h'.get? it=some (Jx (.ref T) (i+1) n a ep)->Heap.SameBut it s.heap h'->Q (some x) {s with heap:=h'}):wpAny (model prog w) A (pyNext (.ref it)) Q E s:=by
 have Np:s.TypeIs (.ref it) "set_iterator":=⟨_,hit,rfl⟩
 unfold pyNext
 refine wpAny_bind (wpAny_attempt (wpAny_callSpecial?_slot (name:=Str.ofString "__next__") Np aq (wpAny_call_entry aq Np bC ?_ (bK _))))
 show wpAny _ _ (fieldsOf (.ref it) >>= _) _ _ s
 refine wpAny_bind (wpAny_fieldsOf hit rfl ?_)
 show wpAny _ _ (setEntries a >>= _) _ _ s
 refine wpAny_bind (wpAny_setEntries_of ho D.da D.fi ?_)
 rw[if_neg (by rw[hn];simp)]
 show wpAny _ _ (seqItems? (.ref T) >>= _) _ _ s
 refine wpAny_bind (wpAny_seqItems hT rfl ?_)
 dsimp only
 have e:((ps.map fun (k:Nat)=>rawInt k).toArray)[((i:Nat):Int).toNat]? = some (rawInt pl):=by simp[hp]
 rw[e]
 show wpAny _ _ (setNextDrawn a pl ep >>= _) _ _ s
 refine wpAny_bind (kN ho D he ?_)
 refine wpAny_bind (wpAny_setField_rec hit (by simp) fun h1 g1 b1=>?_)
 exact wpAny_pure ⟨x,rfl,wpAny_pure (h h1 g1 b1)⟩
theorem pR {ps:List Nat}(hh:A.handled=none)(hit:s.heap.get? it=some (Jx (.ref T) i n a ep))(hT:s.heap.get? T=some (LA ps))(ho:s.heap.get? a=some o)(D:FW ky led σ o es ep t)(hn:es.size=n)
  (hp:ps[i]? = none) {Q:Option Value->Shared->Prop}
  (h:∀ h',(∀ b o,b≠it->s.heap.get? b=some o->h'.get? b=some o)->Q none {s with heap:=h'}):wpAny (model prog w) A (pyNext (.ref it)) Q E s:=by
 have Np:s.TypeIs (.ref it) "set_iterator":=⟨_,hit,rfl⟩
 unfold pyNext
 refine wpAny_bind (wpAny_attempt (wpAny_callSpecial?_slot (name:=Str.ofString "__next__") Np aq (wpAny_call_entry aq Np bC ?_ (bK _))))
 show wpAny _ _ (fieldsOf (.ref it) >>= _) _ _ s
 refine wpAny_bind (wpAny_fieldsOf hit rfl ?_)
 show wpAny _ _ (setEntries a >>= _) _ _ s
 refine wpAny_bind (wpAny_setEntries_of ho D.da D.fi ?_)
 rw[if_neg (by rw[hn];simp)]
 show wpAny _ _ (seqItems? (.ref T) >>= _) _ _ s
 refine wpAny_bind (wpAny_seqItems hT rfl ?_)
 dsimp only
 have e:((ps.map fun (k:Nat)=>rawInt k).toArray)[((i:Nat):Int).toNat]? = none:=by
  have:=hp
  simp at this ⊢
  exact this
 rw[e]
 show wpAny _ _ (setField (.ref it) 0 (rawInt 0) >>= _) _ _ s
 refine wpAny_bind (wpAny_setField_rec hit (by simp) fun h1 g1 b1=>?_)
 refine wpAny_bind (wpAny_setField_rec g1 (by simp) fun h2 g2 b2=>?_)
 refine stop (h:=h2) (hh:=show A.in1.handled=none from hh) (s:={s with heap:=h2}) fun h' e k he=>?_
 obtain⟨oe,ge,ce⟩:=he
 refine wpAny_bind (wpAny_isInstance (T:="StopIteration") (b:=true) ⟨_,ge,ce⟩ isSubtype_stop ?_)
 exact wpAny_pure (h h' fun b o hb e=>k b o (b2.extBut b o hb (b1.extBut b o hb e)))
theorem fM {α:Type}(l:List α):∀ (j:Nat) (h:j < l.length),(l[j]::l.eraseIdx j).Perm l:=by
 induction l with
 | nil=>intro j h;cases h
 | cons a l ih=>
  intro j h
  cases j with
  | zero=>exact .refl _
  | succ j=>
   have h':j < l.length:=by simpa using h
   exact(List.Perm.swap a l[j] (l.eraseIdx j)).trans (List.Perm.cons a (ih j h'))
theorem oh {α:Type}(f:Nat->Nat):∀ (fuel k:Nat) (left:List α) (out:Array α),left.length<=fuel->(pickOrder.go f fuel k left out).toList.Perm (out.toList++left):=by
 intro fuel
 induction fuel with
 | zero=>
  intro k left out h
  have:left=[]:=List.length_eq_zero_iff.mp (by omega)
  subst this
  unfold pickOrder.go
  rw[List.append_nil]
 | succ n ih=>
  intro k left out h
  unfold pickOrder.go
  cases left with
  | nil=>simp
  | cons y l=>
   have FH:f k % (y::l).length < (y::l).length:=Nat.mod_lt _ (by simp)
   generalize f k % (y::l).length=j at FH
   rw[List.getElem?_eq_getElem FH]
   dsimp only
   refine(ih (k+1) _ _ (by rw[List.length_eraseIdx_of_lt FH];simp at h ⊢;omega)).trans ?_
   rw[Array.toList_push,List.append_assoc]
   refine List.Perm.append_left _ ?_
   exact(fM _ _ FH)
theorem dH {α:Type}(f:Nat->Nat)(xs:Array α):(pickOrder f xs).toList.Perm xs.toList:=by
 have:=oh f xs.size 0 xs.toList #[] (by simp)
 rw[show (#[]:Array α).toList++xs.toList=xs.toList by simp] at this
 exact this
theorem oj {src:Source}{m:Nat}{Q:Nat->Shared->Prop}(hm:m≠0)(h:∀ k d,k < m->Q k {s with drawn:=d}):wpAny (model prog w) A (choose src m) Q E s:=fun Γ p Wh=>
 show m≠0/\Q _ _ from ⟨hm,h _ _ (Nat.mod_lt _ (Nat.pos_of_ne_zero hm))⟩
theorem uJ {α:Type}{Q:List α->Shared->Prop}:∀ (m:Nat) (xs:List α) (s:Shared),xs.length=m->(∀ ys d,ys.Perm xs->Q ys {s with drawn:=d})->wpAny (model prog w) A (drawOrder m xs) Q E s:=by
 intro m
 induction m generalizing Q with
 | zero=>
  intro xs s hx h
  have:xs=[]:=List.length_eq_zero_iff.mp hx
  subst this
  exact wpAny_pure (by cases s;exact h [] _ (.refl _))
 | succ m ih=>
  intro xs s hx h
  cases xs with
  | nil=>cases hx
  | cons y l=>
   unfold drawOrder
   refine wpAny_bind (oj (by simp) fun k d hk=>?_)
   rw[List.getElem?_eq_getElem hk]
   dsimp only
   refine wpAny_bind (ih _ _ (by rw[List.length_eraseIdx_of_lt hk];simp at hx ⊢;omega) fun ys d' hy=>wpAny_pure ?_)
   exact h _ d' ((List.Perm.cons _ hy).trans (fM _ _ hk))
end
theorem fN:entryFor table "set_iterator.__iter__" = some Builtin.«dict_keyiterator.__iter__»:=
 entryFor_alias (id':="dict_keyiterator.__iter__") (by kernel_rfl) (by first|rfl|decide +kernel|(unfold String.splitOn;simp +decide [String.splitOnAux])) (by decide +kernel) (by kernel_rfl)
theorem gE (a:Value):argsOk "set_iterator.__iter__" ⟨[a],[]⟩:=by unfold argsOk;kernel_rfl
section
variable {prog:Program}{w:World}{α:Type} [DecidableEq α] [Inhabited α]{ky:Ky prog w α}{A:Around}{E:Value->Shared->Prop}{s:Shared}{it a T:Addr}{i n ep slot:Nat}{σ:List α}{o:Obj}{es:Array (Int×Value)}{t:SetTable}{led:Bool}
theorem fO {f:Value}{Q:Value->Shared->Prop}(hit:s.heap.get? it=some (Jx f i n a ep))(h:Q (.ref it) s):wpAny (model prog w) A (pyIter (.ref it)) Q E s:=by
 have hT:s.TypeIs (.ref it) "set_iterator":=⟨_,hit,rfl⟩
 refine wpAny_pyIter_slot hT dq (wpAny_call_entry dq hT fN ?_ (gE _))
 exact wpAny_pure ⟨_,rfl,"set_iterator",_,hT,aq.lookup,h⟩
theorem l6 {xs:Array Nat}{j p q:Nat}(h1:Cut xs j p)(h2:Cut xs j q):p=q:=by
 have key:∀ p q:Nat,Cut xs j p->Cut xs j q->¬ p < q:=fun p q h1 h2 h=>by
  have hl:p < xs.size:=Nat.lt_of_lt_of_le h h2.le
  have e:xs[p]? = some xs[p]:=by simp[hl]
  have:=h2.lo p _ h e
  have:=h1.hi p _ (Nat.le_refl _) e
  omega
 have:=key p q h1 h2
 have:=key q p h2 h1
 omega
theorem Bn (hh:A.handled=none)(hb:aR w=true)(D:FW ky led σ o es ep t)(Hw:a≠it) :
  Walks prog w A it [it,a] [it] es.size (fun i v=>((pickOrder (w.params.setOrder a ep) es).toList.map (·.2))[i]? = some v) (fun i h=>h.get? it=some (Jx (rawInt 0) i es.size a ep)/\h.get? a=some o) where
 sub:=fun b hb=>by rw[List.mem_singleton.mp hb];exact List.mem_cons_self
 frame:=fun _ _ _ st k=>⟨k it (by simp) _ st.1,k a (by simp) _ st.2⟩
 item:=fun i s Q E hi st hQ=>by
  have hl:(pickOrder (w.params.setOrder a ep) es).size=es.size:=by rw[<- Array.length_toList,(dH _ es).length_eq,Array.length_toList]
  have e:(pickOrder (w.params.setOrder a ep) es)[i]? = some (pickOrder (w.params.setOrder a ep) es)[i]:=by simp[hl,hi]
  refine l0 (x:=(pickOrder (w.params.setOrder a ep) es)[i].2) (nx:=0) st.1 st.2 D rfl (fun A' E' Q' q=>gX hb st.2 D (by rw[e];exact q)) fun h' g b=>?_
  exact hQ _ h' s.toks (by rw[List.getElem?_map,Array.getElem?_toList,e];rfl) ⟨g,b.extBut a o Hw st.2⟩ fun c o hc e=>b.extBut c o (fun z=>hc (by simp[z])) e
 done:=fun s Q E st hQ=>by
  have hl:(pickOrder (w.params.setOrder a ep) es).size=es.size:=by rw[<- Array.length_toList,(dH _ es).length_eq,Array.length_toList]
  have e:(pickOrder (w.params.setOrder a ep) es)[es.size]? = none:=by simp[hl]
  exact l5 hh st.1 st.2 D rfl (fun A' E' Q' q=>gX hb st.2 D (by rw[e];exact q)) fun h' k=>hQ h' s.toks fun c o hc e=>k c o (fun z=>hc (by simp[z])) e
 self:=fun _ _ _ _ st hQ=>fO st.1 hQ
noncomputable def gY (t:SetTable):Nat->Nat
 | 0=>0
 | i+1=>t.place.getD i 0+1
theorem gZ (u:Up t.place)(hi:i<=t.place.size):Cut t.place (gY t i) i:=by
 cases i with
 | zero=>exact⟨hi,fun i x h=>absurd h (Nat.not_lt_zero i),fun i x _ _=>Nat.zero_le _⟩
 | succ k=>
  have hk:k < t.place.size:=by omega
  have e:t.place[k]? = some t.place[k]:=by simp[hk]
  have eg:t.place.getD k 0=t.place[k]:=by simp[Array.getD,hk]
  refine⟨hi,fun j x hj hx=>?_,fun j x hj hx=>?_⟩
  ·show x < t.place.getD k 0+1
   rw[eg]
   by_cases q:j=k
   ·subst q;rw[e] at hx;cases hx;omega
   ·have:=u j k x _ (by omega) hx e;omega
  ·show t.place.getD k 0+1<=x
   rw[eg]
   have:=u k j _ x (by omega) e hx
   omega
theorem Bo (hh:A.handled=none)(hb:aR w=false)(D:FW ky (!aR w) σ o es ep t)(hd:(!t.plain&&decide (es.size > 1))=false)(Hw:a≠it) :
  Walks prog w A it [it,a] [it] es.size (fun i v=>(vals es)[i]? = some v) (fun i h=>h.get? it=some (Jx (rawInt (gY t i)) i es.size a ep)/\h.get? a=some o) where
 sub:=fun b hb=>by rw[List.mem_singleton.mp hb];exact List.mem_cons_self
 frame:=fun _ _ _ st k=>⟨k it (by simp) _ st.1,k a (by simp) _ st.2⟩
 item:=fun i s Q E hi st hQ=>by
  have hz:t.place.size=es.size:=by have:=D.fi;unfold SetTable.fits at this;rw[Bool.and_eq_true] at this;exact eq_of_beq this.1
  have hp:i < t.place.size:=by omega
  have eb:SetTable.below t.place (gY t i)=i:=l6 (eD D.tb.up _) (gZ D.tb.up (Nat.le_of_lt hp))
  have e1:es[i]? = some (es[i].1,es[i].2):=by simp[hi]
  have e2:t.place[i]? = some t.place[i]:=by simp[hp]
  have e3:gY t (i+1)=t.place[i]+1:=by show t.place.getD i 0+1=_;simp[Array.getD,hp]
  refine l0 (x:=es[i].2) (nx:=gY t (i+1)) st.1 st.2 D rfl (fun A' E' Q' q=>fK hb st.2 D hd (by rw[eb,e1,e2];rw[e3] at q;exact q)) fun h' g b=>?_
  exact hQ _ h' s.toks (by rw[List.getElem?_map,Array.getElem?_toList,e1];rfl) ⟨g,b.extBut a o Hw st.2⟩ fun c o hc e=>b.extBut c o (fun z=>hc (by simp[z])) e
 done:=fun s Q E st hQ=>by
  have hz:t.place.size=es.size:=by have:=D.fi;unfold SetTable.fits at this;rw[Bool.and_eq_true] at this;exact eq_of_beq this.1
  have eb:SetTable.below t.place (gY t es.size)=es.size:=l6 (eD D.tb.up _) (gZ D.tb.up (by omega))
  have e1:es[es.size]? = none:=by simp
  exact l5 hh st.1 st.2 D rfl (fun A' E' Q' q=>fK hb st.2 D hd (by rw[eb,e1];exact q)) fun h' k=>hQ h' s.toks fun c o hc e=>k c o (fun z=>hc (by simp[z])) e
 self:=fun _ _ _ _ st hQ=>fO st.1 hQ
theorem Bp (hh:A.handled=none)(D:FW ky led σ o es ep t){ps:List Nat}(hp:ps.Perm (List.range es.size))(Hw:a≠it)(Ux:T≠it) :
  Walks prog w A it [it,a,T] [it] es.size (fun i v=>(ps.map fun k=>(es.getD k (0,.none)).2)[i]? = some v) (fun i h=>h.get? it=some (Jx (.ref T) i es.size a ep)/\h.get? a=some o/\h.get? T=some (LA ps)) where
 sub:=fun b hb=>by rw[List.mem_singleton.mp hb];exact List.mem_cons_self
 frame:=fun _ _ _ st k=>⟨k it (by simp) _ st.1,k a (by simp) _ st.2.1,k T (by simp) _ st.2.2⟩
 item:=fun i s Q E hi st hQ=>by
  have hl:ps.length=es.size:=by rw[hp.length_eq,List.length_range]
  have IA:i < ps.length:=by omega
  have FH:ps[i] < es.size:=List.mem_range.mp (hp.mem_iff.mp (List.getElem_mem IA))
  have e1:ps[i]? = some ps[i]:=List.getElem?_eq_getElem IA
  have e2:es[ps[i]]? = some (es[ps[i]].1,es[ps[i]].2):=by simp[FH]
  refine pQ st.1 st.2.2 st.2.1 D rfl e1 e2 fun h' g b=>?_
  exact hQ _ h' s.toks (by rw[List.getElem?_map,e1];simp[Array.getD,FH]) ⟨g,b.extBut a o Hw st.2.1,b.extBut T _ Ux st.2.2⟩ fun c o hc e=>b.extBut c o (fun z=>hc (by simp[z])) e
 done:=fun s Q E st hQ=>by
  have hl:ps.length=es.size:=by rw[hp.length_eq,List.length_range]
  exact pR hh st.1 st.2.2 st.2.1 D rfl (by rw[List.getElem?_eq_none];omega) fun h' k=>hQ h' s.toks fun c o hc e=>k c o (fun z=>hc (by simp[z])) e
 self:=fun _ _ _ _ st hQ=>fO st.1 hQ
end
section
variable {prog:Program}{w:World}{α:Type} [DecidableEq α] [Inhabited α]{ky:Ky prog w α}{A:Around}{E:Value->Shared->Prop}{s:Shared}{it a T:Addr}{i n ep slot:Nat}{σ:List α}{o:Obj}{es:Array (Int×Value)}{t:SetTable}{led:Bool}
structure P8 {prog:Program}{w:World}{α:Type} [DecidableEq α](ky:Ky prog w α)(A:Around)(a:Addr)(σ:List α)(h h1:Heap)(it:Addr)(seq:List Value)(n:Nat)(fp:List Addr)(St:Nat->Heap->Prop):Prop where
 keep:∀ b o,h.get? b=some o->h1.get? b=some o
 new:h.get? it=none
 pm:∃ ks,Ar ky.mv seq ks/\ks.Perm σ
 ln:seq.length=n
 wk:Walks prog w A it fp [it] n (fun i v=>seq[i]? = some v) St
 st:St 0 h1
 Uy:∀ b∈fp,b=a∨h.get? b=none
theorem dI (h:Heap):h.get? h.objs.size=none:=by
 cases e:h.get? h.objs.size with
 | none=>rfl
 | some o=>exact absurd (Heap.lt_size e) (Nat.lt_irrefl _)
theorem jH (h:Heap)(o:Obj):h.get? (h.push o).objs.size=none:=by
 cases e:h.get? (h.push o).objs.size with
 | none=>rfl
 | some o'=>
  have:=Heap.lt_size e
  rw[Heap.size_push] at this
  exact absurd this (Nat.not_lt.mpr (Nat.le_succ _))
theorem map_range (es:Array (Int×Value)):(List.range es.size).map (fun k=>(es.getD k (0,.none)).2)=vals es:=by
 apply List.ext_getElem?
 intro j
 rw[List.getElem?_map,List.getElem?_map]
 by_cases h:j < es.size
 ·rw[List.getElem?_range h];simp[Array.getD,h]
 ·rw[List.getElem?_eq_none (by simp;omega)];simp[h]
theorem pT (hh:A.handled=none)(hS:cU ky s.heap a (!aR w) σ){Q:Value->Shared->Prop}(h:∀ h1 d it seq n fp St,P8 ky A a σ s.heap h1 it seq n fp St->Q (.ref it) {s with heap:=h1,drawn:=d}) :
  wpAny (model prog w) A (pyIter (.ref a)) Q E s:=by
 obtain⟨o,es,ep,t,ho,D⟩:=hS
 obtain⟨ks,k1,k2⟩:=D.pm
 have hT:s.TypeIs (.ref a) "set":=⟨_,ho,D.ex.1⟩
 have alt:a < s.heap.objs.size:=Heap.lt_size ho
 refine wpAny_pyIter_slot hT F.slot_set_iter (wpAny_call_entry F.slot_set_iter hT iO ?_ (F.args_set_iter_1 _))
 show wpAny _ _ (Builtin.Frozenset.sizeOf a >>= _) _ _ s
 unfold Builtin.Frozenset.sizeOf
 refine wpAny_bind (wpAny_bind (wpAny_setEntries_of ho D.da D.fi (wpAny_pure ?_)))
 have P9:∀ {f:Value}{h1:Heap}{d:Drawn}{x:Addr},h1.get? x=some (Jx f 0 es.size a ep)->Shared.TypeIs {s with heap:=h1,drawn:=d} (.ref x) "set_iterator":=fun e=>⟨_,e,rfl⟩
 show wpAny _ _ (setDrawn a >>= _) _ _ s
 unfold setDrawn
 refine wpAny_bind (wpAny_bind (wpAny_setState_of ho D.da D.fi ?_))
 dsimp only
 refine wpAny_bind (eZ (wpAny_pure ?_))
 cases hb:aR w with
 | true=>
  show wpAny _ _ (if (!true&&_)=true then _ else _) _ _ _
  rw[Bool.not_true,Bool.false_and,if_neg Bool.false_ne_true]
  refine wpAny_bind (wpAny_pure (wpAny_bind (wpAny_setEpoch_of ho D.da D.fi (wpAny_bind (wpAny_newObj_type ?_ (by size_fits))))))
  obtain⟨Hh,k3,k4⟩:=dG ((dH (w.params.setOrder a ep) es).map (·.2)) k1
  have hl:((pickOrder (w.params.setOrder a ep) es).toList.map (·.2)).length=es.size:=by rw[List.length_map,(dH _ es).length_eq,Array.length_toList]
  have W:=Bn (A:=A) (it:=s.heap.objs.size) hh hb D (Nat.ne_of_lt alt)
  exact wpAny_pure ⟨_,rfl,"set_iterator",_,P9 (d:=s.drawn) (Heap.get?_push_size _ rfl),aq.lookup,h _ s.drawn s.heap.objs.size _ _ _ _
   ⟨fun b o e=>Heap.get?_push_of_some _ e,dI _,⟨Hh,k3,k4.trans k2⟩,hl,W,⟨Heap.get?_push_size _ rfl,Heap.get?_push_of_some _ ho⟩,fun b hb=>by
    rcases List.mem_cons.mp hb with e|hb
    ·rw[e];exact .inr (dI _)
    ·exact .inl (List.mem_singleton.mp hb)⟩⟩
 | false=>
  cases hd:(!t.plain&&decide (es.size > 1)) with
  | false=>
   show wpAny _ _ (if (!false&&(!t.plain&&decide (es.size > 1)))=true then _ else _) _ _ _
   rw[hd,Bool.and_false,if_neg Bool.false_ne_true]
   refine wpAny_bind (wpAny_pure (wpAny_bind (wpAny_setEpoch_of ho D.da D.fi (wpAny_bind (wpAny_newObj_type ?_ (by size_fits))))))
   have hl:(vals es).length=es.size:=by rw[List.length_map,Array.length_toList]
   have W:=Bo (A:=A) (it:=s.heap.objs.size) hh hb D hd (Nat.ne_of_lt alt)
   exact wpAny_pure ⟨_,rfl,"set_iterator",_,P9 (d:=s.drawn) (Heap.get?_push_size _ rfl),aq.lookup,h _ s.drawn s.heap.objs.size _ _ _ _
    ⟨fun b o e=>Heap.get?_push_of_some _ e,dI _,⟨ks,k1,k2⟩,hl,W,⟨Heap.get?_push_size _ rfl,Heap.get?_push_of_some _ ho⟩,fun b hb=>by
     rcases List.mem_cons.mp hb with e|hb
     ·rw[e];exact .inr (dI _)
     ·exact .inl (List.mem_singleton.mp hb)⟩⟩
  | true=>
   show wpAny _ _ (if (!false&&(!t.plain&&decide (es.size > 1)))=true then _ else _) _ _ _
   rw[hd,Bool.not_false,Bool.and_self,if_pos rfl]
   have hz:=fits_of_scanBound D.sb
   refine wpAny_bind (uJ _ _ _ List.length_range fun ps d hp=>?_)
   have RM:ps.length=es.size:=by rw[hp.length_eq,List.length_range]
   have RP:(s.heap.push (LA ps)).get? a=some o:=Heap.get?_push_of_some _ ho
   refine wpAny_bind (wpAny_newTuple (wpAny_bind (wpAny_setEpoch_of RP D.da D.fi (wpAny_bind (wpAny_newObj_type ?_ (by size_fits))))) (by rw[List.length_map,RM];exact hz))
   have pv:(ps.map fun k=>(es.getD k (0,.none)).2).Perm (vals es):=by rw[<- map_range];exact hp.map _
   obtain⟨Hh,k3,k4⟩:=dG pv k1
   have hl:(ps.map fun k=>(es.getD k (0,.none)).2).length=es.size:=by rw[List.length_map,RM]
   have hsz:(s.heap.push (LA ps)).objs.size=s.heap.objs.size+1:=Heap.size_push ..
   have W:=Bp (A:=A) (T:=s.heap.objs.size) (it:=(s.heap.push (LA ps)).objs.size) hh D hp (by rw[hsz];exact Nat.ne_of_lt (Nat.lt_succ_of_lt alt)) (by rw[hsz];exact Nat.ne_of_lt (Nat.lt_succ_self _))
   exact wpAny_pure ⟨_,rfl,"set_iterator",_,P9 (d:=d) (Heap.get?_push_size _ rfl),aq.lookup,h _ d (s.heap.push (LA ps)).objs.size _ _ _ _
    ⟨fun b o e=>Heap.get?_push_of_some _ (Heap.get?_push_of_some _ e),jH _ _,⟨Hh,k3,k4.trans k2⟩,hl,W,
     ⟨Heap.get?_push_size _ rfl,Heap.get?_push_of_some _ RP,Heap.get?_push_of_some _ (Heap.get?_push_size _ rfl)⟩,fun b hb=>by
     rcases List.mem_cons.mp hb with e|hb
     ·rw[e];exact .inr (jH _ _)
     ·rcases List.mem_cons.mp hb with e|hb
      ·exact .inl e
      ·rw[List.mem_singleton.mp hb];exact .inr (dI _)⟩⟩
end
section
variable {prog:Program}{w:World}{α:Type} [DecidableEq α] [Inhabited α]{ky:Ky prog w α}{A:Around}{E:Value->Shared->Prop}{s:Shared}{a:Addr}{σ:List α}
theorem pU {Q:Bool->Shared->Prop}(hT:s.TypeIs (.ref a) "set") (h:Q false s):wpAny (model prog w) A (Builtin.List.listLengthHint (.ref a)) Q E s:=by
 unfold Builtin.List.listLengthHint
 refine wpAny_bind (wpAny_specialOf hT PySem.F.slot_set_len.lookup ?_)
 generalize JM:("set.__len__" : String)=PM
 wp_delta
 rw[show splitId PM=some ("set","__len__") from by subst JM;decide +kernel]
 subst JM
 refine wpAny_bind (wpAny_isInstance (T:="set") (b:=true) hT (by rw[isSubtype_type];kernel_rfl) (wpAny_ite_split (fun z=>absurd z (by decide)) fun _=>wpAny_ite_split (fun _=>?_) fun z=>absurd (by decide +kernel) z))
 exact wpAny_bind (wpAny_typeOf hT (wpAny_pure h))
theorem zv {seq:List Value}{acc:Array Value}(h:ItemsOf (fun i v=>seq[i]? = some v) acc seq.length):acc.toList=seq:=by
 apply List.ext_getElem?
 intro j
 rw[Array.getElem?_toList]
 by_cases hj:j < acc.size
 ·have e:acc[j]? = some acc[j]:=by simp[hj]
  rw[e,h.2 j _ e]
 ·have h1:acc[j]? = none:=by simp;omega
  rw[h1,List.getElem?_eq_none (by rw[<- h.1];omega)]
theorem uK {R:Result->Shared->Prop}(hh:A.handled=none)(hS:cU ky s.heap a (!aR w) σ)(S:Addr)(RQ:S≠a)(res:Value)(c0:Nat)(hg:s.heap.get? S=some {cls:=.type "list",data:=.seq #[] c0}) (hn:σ.length<=sizeLine)
  (hR:∀ h' tk d acc c,(∀ b o,b≠S->s.heap.get? b=some o->h'.get? b=some o)->h'.get? S=some {cls:=.type "list",dict:=none,data:=.seq acc c,slots:=#[]}->(∃ ks,Ar ky.mv acc.toList ks/\ks.Perm σ)->R (.ok (.ret res)) {s with heap:=h',toks:=tk,drawn:=d}) :
  wpAny (model prog w) A.in1 (Builtin.List.listExtendWith (.ref S) (.ref a) res)
   (fun fin s'=>match fin with|.done f=>R (.ok f) s'|.again c'=>c'.quiet=true/\codeAny (model prog w) A c' R s') (fun e s'=>R (.error e) s') s:=by
 have hT:s.TypeIs (.ref a) "set":=by obtain⟨o,es,ep,t,ho,D⟩:=hS;exact⟨o,ho,D.ex.1⟩
 unfold Builtin.List.listExtendWith
 refine wpAny_bind (wpAny_typeOf (T:="set") hT ?_)
 have h1:Builtin.List.listSameRef (.ref S) (.ref a)=false:=by simp[Builtin.List.listSameRef,RQ]
 rw[if_neg (by rw[h1];decide)]
 refine wpAny_bind (pT (A:=A.in1) hh hS fun h1 d it seq n fp St C=>?_)
 have RU:S∉fp:=fun z=>(C.Uy S z).elim RQ fun e=>by rw[hg] at e;cases e
 have Wi:S≠it:=fun z=>by rw[z,C.new] at hg;cases hg
 obtain⟨ks,q1,q2⟩:=C.pm
 have Uz:n<=sizeLine:=by rw[<- C.ln,Ar.length q1,q2.length_eq];exact hn
 have key:∀ (h:Heap) (c1 tk:Nat),St 0 h->(∀ b o,b≠S->s.heap.get? b=some o->h.get? b=some o)->h.get? S=some {cls:=.type "list",data:=.seq #[] c1}->
   codeAny (model prog w) A (.builtin "list.extend.loop" ⟨[.ref S,.ref it,res],[]⟩) R {s with heap:=h,toks:=tk,drawn:=d}:=by
  intro h c1 tk F8 hk P2
  refine codeAny_extend_loopS C.wk.toS Uz S RU res n 0 _ #[] c1 rfl (Nat.zero_le _) F8 P2 (ItemsOf.nil _) fun s' acc c hm GB FA=>?_
  rw[Moved.eq_with hm]
  rw[<- C.ln] at FA
  refine hR s'.heap s'.toks d acc c (fun b o hb e=>hm.heap b o (fun z=>?_) (hk b o hb e)) GB ⟨ks,by rw[zv FA];exact q1,q2⟩
  rcases List.mem_cons.mp z with z|z
  ·exact hb z
  ·rw[List.mem_singleton.mp z,C.new] at e;cases e
 have UA:Shared.TypeIs {s with heap:=h1,drawn:=d} (.ref a) "set":=by obtain⟨o,es,ep,t,ho,D⟩:=hS;exact⟨o,C.keep _ _ ho,D.ex.1⟩
 have g1:=C.keep _ _ hg
 refine wpAny_bind (wpAny_holding (pU UA (wpAny_ite_split (fun _=>?_) fun _=>wpAny_pure ⟨plainId_quiet PySem.F.plain_extend_loop _,key _ c0 _ C.st (fun b o _ e=>C.keep b o e) g1⟩)))
 refine wpAny_bind (wpAny_rule (wpAny_bind ?_))
 show wpAny _ _ (updateSeq S (·.push .none) >>= fun _=>updateSeq S (·.pop)) _ _ _
 have g2:=Heap.get?_update_self (Obj.mapSeq (·.push Value.none)) g1 rfl
 have g3:=Heap.get?_update_self (Obj.mapSeq (·.pop)) g2 rfl
 refine wpAny_bind (wpAny_updateSeq g1 rfl (wpAny_updateSeq (hz:=by seq_fits) g2 rfl (wpAny_pure ⟨plainId_quiet PySem.F.plain_extend_loop _,key _ _ _ ?_ (fun b o hb e=>?_) g3⟩)))
 ·refine C.wk.frame 0 _ _ C.st fun b hb o e=>?_
  have Nq:S≠b:=fun z=>RU (z ▸ hb)
  exact(Heap.get?_update_other _ _ Nq).trans ((Heap.get?_update_other _ _ Nq).trans e)
 ·have Nq:S≠b:=fun z=>hb z.symm
  exact(Heap.get?_update_other _ _ Nq).trans ((Heap.get?_update_other _ _ Nq).trans (C.keep b o e))
end
section
variable {prog:Program}{w:World}{α:Type} [DecidableEq α] [Inhabited α]{ky:Ky prog w α}{A:Around}{E:Value->Shared->Prop}{s:Shared}{a:Addr}{σ:List α}
theorem jI {Q:List Value->Shared->Prop}(hh:A.handled=none)(hS:cU ky s.heap a (!aR w) σ)(hn:σ.length<=sizeLine)
  (h:∀ h' tk d (acc:Array Value),s.heap.objs.size < h'.objs.size->(∀ b o,s.heap.get? b=some o->h'.get? b=some o)->(∃ ks,Ar ky.mv acc.toList ks/\ks.Perm σ)->Q acc.toList {s with heap:=h',toks:=tk,drawn:=d}):wpAny (model prog w) A (collect (.ref a)) Q E s:=by
 have FH:a < s.heap.objs.size:=by obtain⟨o,es,ep,t,ho,D⟩:=hS;exact Heap.lt_size ho
 unfold collect
 refine wpAny_bind (wpAny_runValue (codeAny_builtin entry_proto_collect' ?_))
 rw[Around.under_plainId PySem.F.plain_proto_collect _]
 refine(show wpAny _ A.in1 (newList [] >>= fun l=>again (.builtin "list.__iadd__" ⟨[l,.ref a],[]⟩)) _ _ s from wpAny_bind (wpAny_newObj_type (wpAny_pure ⟨plainId_quiet PySem.F.plain_list_iadd _,codeAny_builtin entry_list_iadd' ?_⟩)))
 rw[Around.under_plainId PySem.F.plain_list_iadd _]
 have g1:(s.heap.push {cls:=.type "list",data:=.seq ([]:List Value).toArray}).get? s.heap.objs.size=some {cls:=.type "list",data:=.seq #[]}:=Heap.get?_push_size _ rfl
 show wpAny _ A.in1 (Builtin.List.listExtendWith (.ref s.heap.objs.size) (.ref a) (.ref s.heap.objs.size)) _ _ _
 have key:=uK (A:=A) (s:={s with heap:=s.heap.push {cls:=.type "list",data:=.seq ([]:List Value).toArray}})
  (R:=fun (q:Result) (s':Shared)=>∃ (h':Heap) (tk:Nat) (d:Drawn) (acc:Array Value) (c:Nat),q=.ok (.ret (.ref s.heap.objs.size))/\s' = {s with heap:=h',toks:=tk,drawn:=d}/\
   (∀ b o,s.heap.get? b=some o->h'.get? b=some o)/\h'.get? s.heap.objs.size=some {cls:=.type "list",dict:=none,data:=.seq acc c,slots:=#[]}/\∃ ks,Ar ky.mv acc.toList ks/\ks.Perm σ)
  hh (hS.moved fun o e=>Heap.get?_push_of_some _ e) s.heap.objs.size (Nat.ne_of_gt FH) (.ref s.heap.objs.size) 0 g1 hn
  (fun h' tk d acc c hk GB FA=>⟨h',tk,d,acc,c,rfl,rfl,fun b o e=>hk b o (Nat.ne_of_lt (Heap.lt_size e)) (Heap.get?_push_of_some _ e),GB,FA⟩)
 refine wpAny_mono key (fun fin s' x=>?_) fun e s' x=>?_
 ·cases fin with
  | done f=>
   obtain⟨h',tk,d,acc,c,e,rfl,hk,GB,FA⟩:=x
   cases e
   exact show wpAny _ A (load s.heap.objs.size >>= _) _ _ _ from wpAny_bind (wpAny_load GB (wpAny_pure (h h' tk d acc (Heap.lt_size GB) hk FA)))
  | again c1=>
   refine⟨x.1,codeAny_mono x.2 fun q s2 y=>?_⟩
   obtain⟨h',tk,d,acc,c,rfl,rfl,hk,GB,FA⟩:=y
   exact show wpAny _ A (load s.heap.objs.size >>= _) _ _ _ from wpAny_bind (wpAny_load GB (wpAny_pure (h h' tk d acc (Heap.lt_size GB) hk FA)))
 ·obtain⟨_,_,_,_,_,e',_⟩:=x
  cases e'
theorem fP {Q:Value->Shared->Prop}(hh:A.handled=none)(hS:cU ky s.heap a (!aR w) σ)(HE:σ.length < 64){Od:List α->Prop}(UB:∀ {A:Around}{E:Value->Shared->Prop}{s:Shared}{a:Addr}{vs:List Value}{ss:List α}{n:Nat}{P:Fin->Shared->Prop},s.heap.get? a=some (seqObj "list" vs.toArray n)->Ar ky.mv vs ss->vs.length < 64->
   (∀ (out:Array Value) (Ib:List α),Ar ky.mv out.toList Ib->Ib.Perm ss->Od Ib->P (.done (.ret .none)) {s with heap:=sortedHeap s.heap a vs out})->wpAny (model prog w) A (Builtin.«list.sort» ⟨[.ref a],[]⟩) P E s)
  (h:∀ h' tk d D (out:Array Value) c IX,(∀ b o,s.heap.get? b=some o->h'.get? b=some o)->s.heap.objs.size<=D->h'.get? D=some (seqObj "list" out c)->Ar ky.mv out.toList IX->IX.Perm σ->Od IX->Q (.ref D) {s with heap:=h',toks:=tk,drawn:=d}) :
  wpAny (model prog w) A (call (.builtin "sorted") [.ref a]) Q E s:=by
 have hz:σ.length<=sizeLine:=by rw[sizeLine_eq];omega
 refine Calls.call_function_entry kind_sorted plain_sorted entry_sorted (args_sorted1 _) ?_
 unfold Builtin.«sorted»
 refine wpAny_bind (m:=checkCount "sorted" 1 1 _) (wpAny_pure (wpAny_bind (jI (A:=A.in1) hh hS hz fun h' tk d acc FH hk FA=>?_)))
 obtain⟨ks,k1,k2⟩:=FA
 have hl:acc.toList.length=σ.length:=by rw[Ar.length k1,k2.length_eq]
 refine wpAny_bind (wpAny_newList ?_ (by rw[hl];exact hz))
 have gL:(h'.push (seqObj "list" acc.toList.toArray 0)).get? h'.objs.size=some (seqObj "list" acc.toList.toArray 0):=Heap.get?_push_size _ rfl
 have nD:s.heap.get? h'.objs.size=none:=by
  cases e:s.heap.get? h'.objs.size with
  | none=>rfl
  | some o=>exact absurd (Heap.lt_size (hk _ _ e)) (Nat.lt_irrefl _)
 refine wpAny_bind (wpAny_holding (wpAny_call_entry (s:={s with heap:=h'.push (seqObj "list" acc.toList.toArray 0),toks:=tk,drawn:=d}) slot_list_sort ⟨_,gL,rfl⟩ entry_list_sort (UB (s:={s with heap:=h'.push (seqObj "list" acc.toList.toArray 0),toks:=tk,drawn:=d}) gL k1 (by rw[hl];exact HE) fun out IX a1 a2 a3=>⟨_,rfl,?_⟩) (args_list_sort _)))
 obtain⟨c,hc⟩:=sortedHeap_at (out:=out) gL
 refine wpAny_pure ⟨_,rfl,h _ tk d _ out c IX (fun b o e=>?_) (Nat.le_of_lt FH) hc a1 (a2.trans k2) a3⟩
 have e1:=Heap.get?_push_of_some (seqObj "list" acc.toList.toArray 0) (hk b o e)
 rw[sortedHeap_old (fun z=>by rw[z,nD] at e;cases e) (Heap.lt_size e1)]
 exact e1
end
section
variable {prog:Program}{w:World}{A:Around}{E:Value->Shared->Prop}{s:Shared}
instance:Inhabited Str:=⟨⟨#[]⟩⟩
theorem UC (x:Str)(t:Tok):(PySem.strKind prog w).is x (.str x t)=true:=by
 show (x == x)=true
 simp
noncomputable def Nr (prog:Program)(w:World):Ky prog w Int:=⟨intKind prog w,fun n t=>.int n t,fun n t=>intKind_is prog w n t,fun _ _=>rfl⟩
noncomputable def Nt (prog:Program)(w:World):Ky prog w Str:=⟨PySem.strKind prog w,fun n t=>.str n t,UC,fun _ _=>rfl⟩
theorem zw {vs:List Value}{ns:List Int}:IntsAre vs ns↔Ar (Nr prog w).mv vs ns:=by
 constructor
 ·intro h
  induction h with
  | nil=>exact .nil
  | cons n t _ ih=>exact .cons n t ih
 ·intro h
  induction h with
  | nil=>exact .nil
  | cons n t _ ih=>exact .cons n t ih
theorem zA {vs:List Value}{ns:List Str}:StrsAre vs ns↔Ar (Nt prog w).mv vs ns:=by
 constructor
 ·intro h
  induction h with
  | nil=>exact .nil
  | cons n t _ ih=>exact .cons n t ih
 ·intro h
  induction h with
  | nil=>exact .nil
  | cons n t _ ih=>exact .cons n t ih
theorem Eu {A:Around}{E:Value->Shared->Prop}{s:Shared}{a:Addr}{vs:List Value}{ss:List Int}{n:Nat}{P:Fin->Shared->Prop}(ho:s.heap.get? a=some (seqObj "list" vs.toArray n)) (hS:Ar (Nr prog w).mv vs ss) (HE:vs.length < 64)
  (h:∀ (out:Array Value) (Ib:List Int),Ar (Nr prog w).mv out.toList Ib->Ib.Perm ss->Ib.Pairwise (·<=·)->P (.done (.ret .none)) {s with heap:=sortedHeap s.heap a vs out}):wpAny (model prog w) A (Builtin.«list.sort» ⟨[.ref a],[]⟩) P E s:=
 list_sort_tree ho (zw.mpr hS) HE fun out Ib a1 a2 a3=>h out Ib (zw.mp a1) a2 a3
theorem Ew {A:Around}{E:Value->Shared->Prop}{s:Shared}{a:Addr}{vs:List Value}{ss:List Str}{n:Nat}{P:Fin->Shared->Prop}(ho:s.heap.get? a=some (seqObj "list" vs.toArray n)) (GB:Ar (Nt prog w).mv vs ss) (HE:vs.length < 64)
  (h:∀ (out:Array Value) (Ib:List Str),Ar (Nt prog w).mv out.toList Ib->Ib.Perm ss->sortedS Ib=true->P (.done (.ret .none)) {s with heap:=sortedHeap s.heap a vs out}):wpAny (model prog w) A (Builtin.«list.sort» ⟨[.ref a],[]⟩) P E s:=by
 have hS:StrsAre vs ss:=zA.mpr GB
 refine list_sort_treeK strKind_oneLt ho hS.keysOf (fun UD UE rest e=>keyKind_strs (by rw[<- e];exact hS)) HE fun Jj hp hs=>?_
 obtain⟨Ib,h1,h2,h3⟩:=sorted_out_str hS hp hs
 exact h _ Ib (zA.mp h1) h2 h3
end
end L2.Se
namespace L2.Sv
open PySem PyProof.Rows
noncomputable def Jy (σ:List Str)(v:Str):List Str:=if σ.any (· == v) then σ else σ++[v]
theorem pV : @step_dedup Str instBEqOfDecidableEq=Jy:=by
 funext σ v
 unfold step_dedup Jy
 have e:(σ.any fun x=>@BEq.beq Str instBEqOfDecidableEq x v)=σ.any (· == v):=by
  congr 1
 rw[e]
theorem FN (l:List Str)(σ:List Str):(l.foldl Jy σ).length<=σ.length+l.length:=by
 rw[<- pV]
 exact Se.FN l σ
end L2.Sv
namespace L2
open PySem PySem.Spec PyProof.Rows PySem.SeqAt
noncomputable def dd (ns:List Int):List Int:=ns.foldl step_dedup []
theorem pW (ns:List Int):(dd ns).length<=ns.length:=by
 have:=Se.FN ns []
 simpa[dd] using this
def Hx (a b:Str):Prop:=ltCps b.cps.toList a.cps.toList=false
theorem cJ {a b:Str}:Hx a b↔a.cps.toList<=b.cps.toList:=by
 unfold Hx
 rw[ltCps_eq,decide_eq_false_iff_not,List.not_lt]
theorem jJ {a b:Str}(h:Hx a b)(k:Hx b a):a=b:=by
 have:=List.le_antisymm (cJ.mp h) (cJ.mp k)
 obtain⟨⟨x⟩⟩:=a
 obtain⟨⟨y⟩⟩:=b
 exact congrArg (fun z=>Str.mk ⟨z⟩) this
theorem g7 {a b c:Str}(h:Hx a b)(k:Hx b c):Hx a c:=cJ.mpr (List.le_trans (cJ.mp h) (cJ.mp k))
theorem om (a b:Str):Hx a b∨Hx b a:=(List.le_total a.cps.toList b.cps.toList).imp cJ.mpr cJ.mpr
noncomputable def kO (x:Str):List Str->List Str
 | []=>[x]
 | y::r=>if ltCps y.cps.toList x.cps.toList=true then y::kO x r else x::y::r
noncomputable def bH:List Str->List Str
 | []=>[]
 | x::r=>kO x (bH r)
theorem eE (x:Str):∀ l,(kO x l).Perm (x::l)
 | []=>.refl _
 | y::r=>by
  unfold kO;split
  ·exact((eE x r).cons y).trans (.swap _ _ _)
  ·exact .refl _
theorem bu:∀ ns,(bH ns).Perm ns
 | []=>.refl _
 | x::r=>(eE x _).trans ((bu r).cons x)
theorem fQ (x:Str):∀ l:List Str,l.Pairwise Hx->(kO x l).Pairwise Hx
 | [],_=>by simp[kO]
 | y::r,h=>by
  obtain⟨h1,h2⟩:=List.pairwise_cons.mp h
  unfold kO;split
  ·rename_i hc
   refine List.pairwise_cons.mpr ⟨fun z hz=>?_,fQ x r h2⟩
   rcases List.mem_cons.mp ((eE x r).mem_iff.mp hz) with rfl|hz
   ·rcases om y z with q|q
    ·exact q
    ·exact absurd hc (by rw[show ltCps y.cps.toList z.cps.toList=false from q];exact Bool.false_ne_true)
   ·exact h1 z hz
  ·rename_i hc
   have RV:Hx x y:=by simpa[Hx] using hc
   refine List.pairwise_cons.mpr ⟨fun z hz=>?_,h⟩
   rcases List.mem_cons.mp hz with rfl|hz
   ·exact RV
   ·exact g7 RV (h1 z hz)
theorem cn:∀ ns,(bH ns).Pairwise Hx
 | []=>.nil
 | x::r=>fQ x _ (cn r)
theorem jK:∀ (p:Str) (l:List Str),risingS p l=true->(p::l).Pairwise Hx
 | p,[],_=>by simp
 | p,x::r,h=>by
  have h':=Bool.and_eq_true_iff.mp (show (!ltCps x.cps.toList p.cps.toList&&risingS x r)=true from h)
  have hx:Hx p x:=by simpa[Hx] using h'.1
  have ih:=jK x r h'.2
  refine List.pairwise_cons.mpr ⟨fun z hz=>?_,ih⟩
  rcases List.mem_cons.mp hz with rfl|hz
  ·exact hx
  ·exact g7 hx ((List.pairwise_cons.mp ih).1 z hz)
theorem pX {ns IX:List Str}(hp:IX.Perm ns)(hs:sortedS IX=true):IX=bH ns:=by
 have h:IX.Pairwise Hx:=by
  cases IX with
  | nil=>exact .nil
  | cons x r=>exact jK x r hs
 exact List.Perm.eq_of_pairwise (fun _ _ _ _ a b=>jJ a b) h (cn ns) (hp.trans (bu ns).symm)
noncomputable def HU (ns:List Str):List Str:=ns.foldl Sv.Jy []
theorem l7 (ns:List Str):(HU ns).length<=ns.length:=by
 have:=Sv.FN ns []
 simpa[HU] using this
section
variable {X:Cx}
noncomputable def XS:HO:=.ext fun _=>True
def uL (X:Cx)(σ:List Int)(o:Obj):Prop:=∃ es ep t,Se.FW (Se.Nr X.prog X.w) (!Se.aR X.w) σ o es ep t
theorem oo (hc:X.calm=true):bL X (.type "set") (fun xs H Q=>∃ (p:Addr) (ns:List Int),xs=[.ref p]/\FR X.K H p (ns.map V.int)/\ns.length < 64/\∀ a o,H a=none->uL X (dd ns) o->Q (.ref a) (upd H a (.Fb o XS))):=by
 intro pins s σ H xs us Q I r h
 obtain⟨p,ns,rfl,hq,HE,q⟩:=h
 obtain⟨u,rfl,rx⟩:=vals1 r
 cases rx
 obtain⟨its,rv,pl,hz⟩:=I.list hq
 have hi:=intsAre_of rv
 have hlen:=rv.length
 rw[List.length_map] at hlen
 refine Se.jG (ky:=Se.Nr X.prog X.w) (I.ok.hd hc) pl.isList (Se.zw.mp (by simpa using hi)) (by rw[List.size_toArray];unfold scanBound;omega) fun h' tk hS k=>?_
 obtain⟨o,es,ep,t,ho,D⟩:=hS
 exact⟨.ref _,_,I.laid (t':=tk) (fun b u e=>k b u (Heap.lt_size e) e) (Nat.le_refl _) (show aJ X.prog X.w _ _ _ (.Fb o XS) from ⟨ho,trivial,⟨_,ho⟩,fun _ _ _ _=>trivial⟩),rfl,q _ o (I.E7.fresh (Nat.le_refl _)) ⟨es,ep,t,D⟩⟩
theorem Inv.IB {pins:List (Addr×Obj)}{σ:St}{H:Hp}{s:Shared}(I:Inv X pins σ H s)(d:Drawn):Inv X pins σ H {s with drawn:=d}:=⟨I.ok,I.os,I.bare,I.base,I.loc,I.cell,I.free,I.F4,I.pin,I.E7,I.len⟩
theorem iP (hc:X.calm=true):bL X (.builtin "sorted") (fun xs H Q=>∃ (p:Addr) (o:Obj) (ns:List Int),xs=[.ref p]/\H p=some (.Fb o XS)/\uL X ns o/\ns.length < 64/\∀ l,H l=none->Q (.ref l) (upd H l (.lst ((PySem.W.sortI ns).map V.int)))):=by
 intro pins s σ H xs us Q I r h
 obtain⟨p,o,ns,rfl,hp,⟨es,ep,t,D⟩,HE,q⟩:=h
 obtain⟨u,rfl,rx⟩:=vals1 r
 cases rx
 have ho:s.heap.get? p=some o:=(I.E7 p _ hp).1
 refine Se.fP (I.ok.hd hc) ⟨o,es,ep,t,ho,D⟩ HE Se.Eu fun h' tk d Dn out c IX k hD e a1 a2 a3=>?_
 rw[PySem.W.eq_sortI a2 a3] at a1
 have JO:Vals ((PySem.W.sortI ns).map V.int) out.toList:=by
  generalize PySem.W.sortI ns=ms at a1
  generalize out.toList=vs at a1
  induction a1 with
  | nil=>exact .nil
  | cons n t _ ih=>exact .cons ⟨t,rfl⟩ ih
 have J:=I.laid (t':=tk) (o:=.lst ((PySem.W.sortI ns).map V.int)) k hD (show aJ X.prog X.w _ _ _ (.lst _) from ⟨by rw[List.length_map,(PySem.W.sortI_perm ns).length_eq,sizeLine_eq];omega,out.toList,c,JO,by simpa using e⟩)
 exact⟨.ref _,_,J.IB d,rfl,q _ (I.E7.fresh hD)⟩
theorem fR:∀ {ns:List Str}{its:List Value},Vals (ns.map V.str) its->StrsAre its ns
 | [],_,.nil=>.nil
 | n::ns,_,.cons r h=>by
  obtain⟨t,rfl⟩:=r
  exact .cons n t (fR h)
def uM (X:Cx)(σ:List Str)(o:Obj):Prop:=∃ es ep t,Se.FW (Se.Nt X.prog X.w) (!Se.aR X.w) σ o es ep t
theorem oq (hc:X.calm=true):bL X (.type "set") (fun xs H Q=>∃ (p:Addr) (ns:List Str),xs=[.ref p]/\FR X.K H p (ns.map V.str)/\ns.length < 64/\∀ a o,H a=none->uM X (HU ns) o->Q (.ref a) (upd H a (.Fb o XS))):=by
 intro pins s σ H xs us Q I r h
 obtain⟨p,ns,rfl,hq,HE,q⟩:=h
 obtain⟨u,rfl,rx⟩:=vals1 r
 cases rx
 obtain⟨its,rv,pl,hz⟩:=I.list hq
 have hi:=fR rv
 have hlen:=rv.length
 rw[List.length_map] at hlen
 refine Se.jG (ky:=Se.Nt X.prog X.w) (I.ok.hd hc) pl.isList (Se.zA.mp (by simpa using hi)) (by rw[List.size_toArray];unfold scanBound;omega) fun h' tk hS k=>?_
 obtain⟨o,es,ep,t,ho,D⟩:=hS
 rw[Sv.pV] at D
 exact⟨.ref _,_,I.laid (t':=tk) (fun b u e=>k b u (Heap.lt_size e) e) (Nat.le_refl _) (show aJ X.prog X.w _ _ _ (.Fb o XS) from ⟨ho,trivial,⟨_,ho⟩,fun _ _ _ _=>trivial⟩),rfl,q _ o (I.E7.fresh (Nat.le_refl _)) ⟨es,ep,t,D⟩⟩
theorem iQ (hc:X.calm=true):bL X (.builtin "sorted") (fun xs H Q=>∃ (p:Addr) (o:Obj) (ns:List Str),xs=[.ref p]/\H p=some (.Fb o XS)/\uM X ns o/\ns.length < 64/\∀ l,H l=none->Q (.ref l) (upd H l (.lst ((bH ns).map V.str)))):=by
 intro pins s σ H xs us Q I r h
 obtain⟨p,o,ns,rfl,hp,⟨es,ep,t,D⟩,HE,q⟩:=h
 obtain⟨u,rfl,rx⟩:=vals1 r
 cases rx
 have ho:s.heap.get? p=some o:=(I.E7 p _ hp).1
 refine Se.fP (I.ok.hd hc) ⟨o,es,ep,t,ho,D⟩ HE Se.Ew fun h' tk d Dn out c IX k hD e a1 a2 a3=>?_
 rw[pX a2 a3] at a1
 have JO:Vals ((bH ns).map V.str) out.toList:=by
  generalize bH ns=ms at a1
  generalize out.toList=vs at a1
  induction a1 with
  | nil=>exact .nil
  | cons n t _ ih=>exact .cons ⟨t,rfl⟩ ih
 have J:=I.laid (t':=tk) (o:=.lst ((bH ns).map V.str)) k hD (show aJ X.prog X.w _ _ _ (.lst _) from ⟨by rw[List.length_map,(bu ns).length_eq,sizeLine_eq];omega,out.toList,c,JO,by simpa using e⟩)
 exact⟨.ref _,_,J.IB d,rfl,q _ (I.E7.fresh hD)⟩
end
section
variable {X:Cx}
theorem uN (l:Addr)(items:Array Value)(n:Nat)(b:Addr)(GN:Array Value)(n2:Nat)(sl:Array (Option Value))(OM:¬(!items.isEmpty&&Builtin.List.listTooLong (items.size+GN.size))=true)(RW:items.size<=sizeLine)(Ia:items.size+GN.size<=sizeLine+1) :
  Meets (Builtin.«list.extend» ⟨[.ref l,.ref b],[]⟩) (fun _ R s=>s.heap.get? l=some {cls:=.type "list",dict:=none,data:=.seq items n,slots:=#[]}/\s.heap.get? b=some {cls:=.type "list",dict:=none,data:=.seq GN n2,slots:=sl}/\R (.ok (.ret Value.none)) {s with heap:=s.heap.update l (Obj.mapSeq fun x=>x++GN),toks:=s.toks}):=
 .of_wp fun prog w A R s h=>by
  obtain⟨hp,g,d,tk,os⟩:=s
  obtain⟨hl,hb,h⟩:=h
  have f1:=AutoSeq1.idx_int
  have f2:=AutoSeq1.sub_tuple_tuple
  have f3:=AutoSeq1.sub_list_list
  have f4:=AutoSeq1.sub_tuple_list
  have f5:=AutoSeq1.sub_list_tuple
  have P':(items++GN).size<=sizeLine+1:=by rw[Array.size_append];exact Ia
  wp_walk using(wpAny_updateSeq hl rfl (hz:=RW) (_hz':=P')),AutoSeq1.wpAny_loadPart' hl,AutoSeq1.wpAny_loadPart' hb
  exact⟨_,rfl,h⟩
def Bq (X:Cx):V->List V->Hp->VK->Prop:=fun x vs H Q=>∃ l b xs zs,x=.ref l/\vs=[.ref b]/\H l=some (.lst xs)/\FR X.K H b zs/\xs.length+zs.length<=sizeLine/\Q .EZ (upd H l (.lst (xs++zs)))
theorem uO:OB X "list.extend" (Bq X):=by
 intro pins s σ H x vs v us Q I rx rv h
 obtain⟨l,b,xs,zs,rfl,rfl,hH,hB,hz,q⟩:=h
 cases rx
 obtain⟨u,rfl,ru⟩:=rv.one
 cases ru
 obtain⟨z,its,n,r,hl,e⟩:=I.J7 hH
 obtain⟨Fy,n2,Nu,r2,z2,e2⟩:∃ (Fy:List Value) (n2:Nat) (Nu:Array (Option Value)),Vals zs Fy/\zs.length<=sizeLine/\s.heap.get? b=some {cls:=.type "list",dict:=none,data:=.seq Fy.toArray n2,slots:=Nu}:=by
  rcases hB with hB|⟨o,its,n,hk,hc,hd,hs,hz,r⟩
  ·obtain⟨z,its,n,r,e⟩:=hB.ok I.E7
   exact⟨its,n,_,r,z,e⟩
  ·obtain⟨c,d,dt,sl⟩:=o
   dsimp only at hc hd hs
   subst hc hd hs
   exact⟨its.toList,n,sl,r,by rw[r.length];simpa using hz,I.Hz _ _ hk⟩
 have Mw:=r2.length
 have hsz:its.toArray.size+Fy.toArray.size<=sizeLine:=by rw[List.size_toArray,List.size_toArray];omega
 have Nv:¬ (!its.toArray.isEmpty&&Builtin.List.listTooLong (its.toArray.size+Fy.toArray.size))=true:=by
  rw[o5 hsz,Bool.and_false]
  exact Bool.false_ne_true
 refine call_meets F.slot_list_extend ⟨_,e,rfl⟩ F.entry_list_extend (F.args_list_extend_2 _ _)
  (uN l its.toArray n b Fy.toArray n2 Nu Nv (by rw[List.size_toArray];omega) (by omega)) ⟨e,e2,?_⟩
 refine⟨.EZ,_,I.J6 (its':=its++Fy) hH e (by simp) (r.append r2) ?_,rfl,q⟩
 rw[List.length_append]
 omega
def Ex:V->List V->Hp->VK->Prop:=fun x vs H Q=>∃ l xs i y,x=.ref l/\vs=[.int i,y]/\H l=some (.lst xs)/\0<=i/\i.toNat<=xs.length/\xs.length < sizeLine/\Q .EZ (upd H l (.lst (xs.take i.toNat++y::xs.drop i.toNat)))
theorem zB:OB X "list.insert" Ex:=by
 intro pins s σ H x vs v us Q I rx rv h
 obtain⟨l,xs,i,y,rfl,rfl,hH,h0,hi,hz,q⟩:=h
 cases rx
 have hs:sizeLine=16777216:=sizeLine_eq
 cases rv with
 | cons r1 JO=>
  obtain⟨t,rfl⟩:=r1
  obtain⟨u,rfl,ru⟩:=Vals.one JO
  obtain⟨z,its,n,r,hl,e⟩:=I.J7 hH
  refine call_meets F.slot_list_insert ⟨_,e,rfl⟩ F.entry_list_insert (F.args_list_insert_3 _ _ _) (AutoSeq1.list_insert_list_int_val_1 l its.toArray n i t u (by rw[fitsIndex_both (by omega) (by omega)];decide) (by rw[List.size_toArray];omega)) ⟨e,?_⟩
  refine⟨.EZ,_,I.J6 (its':=its.take i.toNat++u::its.drop i.toNat) hH e ?_ ((r.take i.toNat).append (.cons ru (r.drop i.toNat))) ?_,rfl,q⟩
  ·have h1:¬ i < 0:=by omega
   have h2:min i.toNat its.toArray.size=i.toNat:=by rw[List.size_toArray];omega
   simp only[h1,if_false,h2]
   apply Array.ext'
   simp
   rw[List.take_of_length_le (by rw[List.length_drop];omega)]
  ·rw[List.length_append,List.length_cons,List.length_take,List.length_drop]
   omega
end
inductive D where
 | EZ|bl (b:Bool)|int (i:Int)|str (x:Str)|tup (ds:List D)|lst (own:Bool) (ds:List D)|exc (c:Str)|Ff (own:Bool) (ks:List Key) (ds:List D)
 deriving Inhabited
mutual
noncomputable def er:D->D
 | .tup ds=>.tup (E0 ds)
 | .lst _ ds=>.lst false (E0 ds)
 | .Ff _ ks ds=>.Ff false ks (E0 ds)
 | .EZ=>.EZ
 | .bl b=>.bl b
 | .int i=>.int i
 | .str x=>.str x
 | .exc c=>.exc c
noncomputable def E0:List D->List D
 | []=>[]
 | d::ds=>er d::E0 ds
end
mutual
noncomputable def ao:D->Bool
 | .tup ds=>af ds
 | .lst _ _=>false
 | .Ff _ _ _=>false
 | .EZ=>true
 | .bl _=>true
 | .int _=>true
 | .str _=>true
 | .exc _=>true
noncomputable def af:List D->Bool
 | []=>true
 | d::ds=>ao d&&af ds
end
theorem aF:∀ ds:List D,E0 ds=ds.map er
 | []=>rfl
 | d::ds=>by rw[E0,aF ds];rfl
theorem bV:∀ ds:List D,af ds=ds.all ao
 | []=>rfl
 | d::ds=>by rw[af,bV ds];rfl
theorem bW (ds:List D):(E0 ds).length=ds.length:=by rw[aF,List.length_map]
mutual
theorem pY:∀ {d:D},ao d=true->er d=d
 | .EZ,_=>rfl
 | .bl _,_=>rfl
 | .int _,_=>rfl
 | .str _,_=>rfl
 | .exc _,_=>rfl
 | .tup ds,h=>by rw[er,aK (ds:=ds) h]
 | .lst o ds,h=>by cases (show false=true from h)
 | .Ff o ks ds,h=>by cases (show false=true from h)
theorem aK:∀ {ds:List D},af ds=true->E0 ds=ds
 | [],_=>rfl
 | d::ds,h=>by
  have h':(ao d&&af ds)=true:=h
  rw[Bool.and_eq_true] at h'
  rw[E0,pY h'.1,aK h'.2]
end
mutual
theorem pZ:∀ d:D,er (er d)=er d
 | .EZ=>rfl
 | .bl _=>rfl
 | .int _=>rfl
 | .str _=>rfl
 | .exc _=>rfl
 | .tup ds=>by rw[er,er,FP ds]
 | .lst _ ds=>by rw[er,er,FP ds]
 | .Ff _ ks ds=>by rw[er,er,FP ds]
theorem FP:∀ ds:List D,E0 (E0 ds)=E0 ds
 | []=>rfl
 | d::ds=>by rw[E0,E0,pZ d,FP ds]
end
inductive Exc where
 | stuck|exc (c:Str)
noncomputable abbrev Res (α:Type):=Except Exc α
noncomputable abbrev EY {α:Type}:Res α:=.error .stuck
noncomputable def U {α β:Type}(x:Res α)(f:α->Res β):Res β:=match x with
 | .ok a=>f a
 | .error e=>.error e
noncomputable def EX {α:Type}(c:Bool)(x:Res α):Res α:=if c=true then x else EY
def ES {α:Type}(ex:Str->Prop)(x:Res α)(k:α->Prop):Prop:=match x with
 | .ok a=>k a
 | .error (.exc c)=>ex c
 | .error .stuck=>False
theorem ES.U {α β:Type}{ex:Str->Prop}{x:Res α}{f:α->Res β}{k:β->Prop}(h:ES ex (U x f) k):ES ex x fun a=>ES ex (f a) k:=by
 cases x with
 | ok a=>exact h
 | error e=>cases e<;>exact h
theorem ES.EX {α:Type}{ex:Str->Prop}{c:Bool}{x:Res α}{k:α->Prop}(h:ES ex (EX c x) k):c=true/\ES ex x k:=by
 unfold L2.EX at h
 cases c with
 | true=>exact⟨rfl,h⟩
 | false=>exact False.elim h
theorem ES.mono {α:Type}{ex:Str->Prop}{x:Res α}{k k':α->Prop}(h:ES ex x k)(m:∀ a,k a->k' a):ES ex x k':=by
 cases x with
 | ok a=>exact m a h
 | error e=>cases e<;>exact h
theorem ES.mk {α β:Type}{ex:Str->Prop}{x:Res α}{f:α->Res β}{k:β->Prop}(h:ES ex x fun a=>ES ex (f a) k):ES ex (L2.U x f) k:=by
 cases x with
 | ok a=>exact h
 | error e=>cases e<;>exact h
theorem ES.eq {α:Type}{ex:Str->Prop}{x:Res α}{k:α->Prop}(h:ES ex x k):ES ex x fun a=>x=.ok a/\k a:=by
 cases x with
 | ok a=>exact⟨rfl,h⟩
 | error e=>cases e<;>exact h
theorem ES.ok {α:Type}{ex:Str->Prop}{a:α}{k:α->Prop}(h:ES ex (.ok a:Res α) k):k a:=h
theorem ES.no {α:Type}{ex:Str->Prop}{k:α->Prop}(h:ES ex (EY:Res α) k):False:=h
inductive LD where
 | l (xs:List V)|d (kvs:List (Key×V))
noncomputable abbrev LD.o:LD->HO
 | .l xs=>.lst xs
 | .d kvs=>.dK kvs
theorem KL.sq {K:PySem.W.Frag}{H:Hp}{a:Addr}{xs:List V}(h:KL K a xs):FR K H a xs:=by
 obtain⟨its,n,h1,h2,h3⟩:=h
 exact .inr ⟨_,its.toArray,n,h1,rfl,rfl,rfl,by simpa using h2,by simpa using h3⟩
theorem Inv.ls {X:Cx}{pins:List (Addr×Obj)}{σ:St}{H:Hp}{s:Shared}{a:Addr}{xs:List V}(I:Inv X pins σ H s)(h:Ls X.K H a xs) :
  xs.length<=sizeLine/\∃ (its:List Value) (n:Nat),Vals xs its/\s.heap.get? a=some {cls:=.type "list",data:=.seq its.toArray n}:=by
 rcases h with h|⟨its,n,h1,h2,h3⟩
 ·obtain⟨z,its,n,r,e⟩:=h.ok I.E7
  exact⟨z,its,n,r,e⟩
 ·exact⟨by rw[h3.length];exact h2,its,n,h3,I.Hz _ _ h1⟩
noncomputable def nameIn (K:PySem.W.Frag)(C:Addr):Option Str:=match K.lookup C with
 | some ⟨_,_,.cls cd,_⟩=>some cd.name
 | _=>none
noncomputable def XU:HO:=.ext fun _=>True
def XO (K:PySem.W.Frag)(H:Hp)(a:Addr)(c:Str):Prop:=∃ (C:Addr) (o:Obj) (vs:Array Value),PySem.W.nsIn K mainGlobals c=some (some (.ref C))/\nameIn K C=some c/\H a=some (.Fb o XU)/\o.cls=.ref C/\o.data=.fields vs
noncomputable def FQ (K:PySem.W.Frag)(H:Hp)(a:Addr):List V ⊕ Str->Prop
 | .inl xs=>Gn K H a xs
 | .inr c=>XO K H a c
mutual
inductive ET (K:PySem.W.Frag)(S:Addr->Prop)(H:Hp):V->D->Prop where
 | EZ:ET K S H .EZ .EZ
 | bl (b:Bool):ET K S H (.bl b) (.bl b)
 | int (i:Int):ET K S H (.int i) (.int i)
 | str (x:Str):ET K S H (.str x) (.str x)
 | exc {a:Addr}{c:Str}:FQ K H a (.inr c)->ET K S H (.ref a) (.exc c)
 | tup {a:Addr}{xs:List V}{ds:List D}:Gn K H a xs->ER K S H xs ds->ET K S H (.ref a) (.tup ds)
 | lst {a:Addr}{xs:List V}{o:Bool}{ds:List D}:S a->Rd H a (.lst xs)->ER K S H xs ds->ET K S H (.ref a) (.lst o ds)
 | lstK {a:Addr}{xs:List V}{o:Bool}{ds:List D}:KL K a xs->ER K S H xs ds->ET K S H (.ref a) (.lst o ds)
 | Ff {a:Addr}{kvs:List (Key×V)}{o:Bool}{ks:List Key}{ds:List D}:S a->Rd H a (.dK kvs)->kvs.map (·.1)=ks->ER K S H (kvs.map (·.2)) ds->ET K S H (.ref a) (.Ff o ks ds)
inductive ER (K:PySem.W.Frag)(S:Addr->Prop)(H:Hp):List V->List D->Prop where
 | nil:ER K S H [] []
 | cons {v:V}{d:D}{vs:List V}{ds:List D}:ET K S H v d->ER K S H vs ds->ER K S H (v::vs) (d::ds)
end
mutual
inductive E6 (K:PySem.W.Frag)(F:Addr->Prop)(H:Hp):V->D->List Addr->Prop where
 | EZ:E6 K F H .EZ .EZ []
 | bl (b:Bool):E6 K F H (.bl b) (.bl b) []
 | int (i:Int):E6 K F H (.int i) (.int i) []
 | str (x:Str):E6 K F H (.str x) (.str x) []
 | exc {a:Addr}{c:Str}:FQ K H a (.inr c)->E6 K F H (.ref a) (.exc c) []
 | tup {a:Addr}{xs:List V}{ds:List D}{f:List Addr}:Gn K H a xs->EU K F H xs ds f->E6 K F H (.ref a) (.tup ds) f
 | Ic {a:Addr}{xs:List V}{ds:List D}:F a->Rd H a (.lst xs)->EU K F H xs ds []->E6 K F H (.ref a) (.lst false ds) []
 | lstK {a:Addr}{xs:List V}{ds:List D}:KL K a xs->EU K F H xs ds []->E6 K F H (.ref a) (.lst false ds) []
 | Gh {a:Addr}{xs:List V}{ds:List D}{f:List Addr}:¬ F a->H a=some (.lst xs)->EU K F H xs ds f->E6 K F H (.ref a) (.lst true ds) (a::f)
 | Kh {a:Addr}{kvs:List (Key×V)}{ks:List Key}{ds:List D}:F a->Rd H a (.dK kvs)->kvs.map (·.1)=ks->EU K F H (kvs.map (·.2)) ds []->E6 K F H (.ref a) (.Ff false ks ds) []
 | Jz {a:Addr}{kvs:List (Key×V)}{ks:List Key}{ds:List D}{f:List Addr}:¬ F a->H a=some (.dK kvs)->kvs.map (·.1)=ks->EU K F H (kvs.map (·.2)) ds f->E6 K F H (.ref a) (.Ff true ks ds) (a::f)
inductive EU (K:PySem.W.Frag)(F:Addr->Prop)(H:Hp):List V->List D->List Addr->Prop where
 | nil:EU K F H [] [] []
 | cons {v:V}{d:D}{f:List Addr}{vs:List V}{ds:List D}{g:List Addr}:E6 K F H v d f->EU K F H vs ds g->EU K F H (v::vs) (d::ds) (f++g)
end
theorem ak.rd {H H':Hp}{a:Addr}{u:HO}(e:ak H H')(h:Rd H a u):Rd H' a u:=by
 rcases h with h|⟨o,h⟩
 ·exact .inl (e _ _ h)
 ·exact .inr ⟨o,e _ _ h⟩
theorem ak.G2 {K:PySem.W.Frag}{H H':Hp}{a:Addr}{xs:List V ⊕ Str}(e:ak H H')(h:FQ K H a xs):FQ K H' a xs:=by
 cases xs with
 | inl xs=>
  rcases h with h|h
  ·exact .inl (e.rd h)
  ·exact .inr h
 | inr c=>
  obtain⟨C,o,vs,h0,h1,h2,h3⟩:=h
  exact⟨C,o,vs,h0,h1,e _ _ h2,h3⟩
theorem FQ.upd {K:PySem.W.Frag}{H:Hp}{a l:Addr}{xs:List V ⊕ Str}{ys zs:List V}(hl:H l=some (.lst ys))(h:FQ K H a xs):FQ K (upd H l (.lst zs)) a xs:=by
 cases xs with
 | inl xs=>
  rcases h with h|h
  ·have:a≠l:=by
    rintro rfl
    rcases h with h|⟨o,h⟩<;>(rw[hl] at h;cases h)
   refine .inl ?_
   unfold Rd
   rw[aj this]
   exact h
  ·exact .inr h
 | inr c=>
  obtain⟨C,o,vs,h0,h1,h2,h3⟩:=h
  have:a≠l:=by
   rintro rfl
   rw[hl] at h2;cases h2
  exact⟨C,o,vs,h0,h1,by rw[aj this];exact h2,h3⟩
theorem Rd.some {H:Hp}{a:Addr}{u:HO}(h:Rd H a u):H a≠none:=by
 rcases h with h|⟨o,h⟩<;>(rw[h];simp)
section
variable {K:PySem.W.Frag}{S S' F F':Addr->Prop}{H H':Hp}
theorem ET.step (hl:∀ a (u:LD),S a->Rd H a u.o->S' a/\Rd H' a u.o)(ht:∀ a xs,FQ K H a xs->FQ K H' a xs){v:V}{d:D}(h:ET K S H v d):ET K S' H' v d:=
 ET.rec (motive_1:=fun v d _=>ET K S' H' v d) (motive_2:=fun v d _=>ER K S' H' v d) .EZ .bl .int .str (fun h=>.exc (ht _ (.inr _) h)) (fun h1 _ i=>.tup (ht _ (.inl _) h1) i)
  (fun h0 h1 _ i=>.lst (hl _ (.l _) h0 h1).1 (hl _ (.l _) h0 h1).2 i) (fun h1 _ i=>.lstK h1 i) (fun h0 h1 h2 _ i=>.Ff (hl _ (.d _) h0 h1).1 (hl _ (.d _) h0 h1).2 h2 i) .nil (fun _ _ i j=>.cons i j) h
theorem ER.step (hl:∀ a (u:LD),S a->Rd H a u.o->S' a/\Rd H' a u.o)(ht:∀ a xs,FQ K H a xs->FQ K H' a xs){v:List V}{d:List D}(h:ER K S H v d):ER K S' H' v d:=
 ER.rec (motive_1:=fun v d _=>ET K S' H' v d) (motive_2:=fun v d _=>ER K S' H' v d) .EZ .bl .int .str (fun h=>.exc (ht _ (.inr _) h)) (fun h1 _ i=>.tup (ht _ (.inl _) h1) i)
  (fun h0 h1 _ i=>.lst (hl _ (.l _) h0 h1).1 (hl _ (.l _) h0 h1).2 i) (fun h1 _ i=>.lstK h1 i) (fun h0 h1 h2 _ i=>.Ff (hl _ (.d _) h0 h1).1 (hl _ (.d _) h0 h1).2 h2 i) .nil (fun _ _ i j=>.cons i j) h
theorem ET.mono {v:V}{d:D}(h:ET K S H v d)(hS:∀ a,S a->S' a)(e:ak H H'):ET K S' H' v d:=h.step (fun a xs s r=>⟨hS a s,e.rd r⟩) fun a xs s=>e.G2 s
theorem ER.mono {v:List V}{d:List D}(h:ER K S H v d)(hS:∀ a,S a->S' a)(e:ak H H'):ER K S' H' v d:=h.step (fun a xs s r=>⟨hS a s,e.rd r⟩) fun a xs s=>e.G2 s
theorem ER.HF {v:List V}{d:List D}(h:ER K S H v d):ER K (fun a=>S a/\H a≠none) H v d:=h.step (fun a xs s r=>⟨⟨s,r.some⟩,r⟩) fun a xs s=>s
theorem ET.frozen {v:V}{d:D}(h:ET K F H v d):E6 K F H v (L2.er d) []:=
 ET.rec (motive_1:=fun v d _=>E6 K F H v (L2.er d) []) (motive_2:=fun v d _=>EU K F H v (L2.E0 d) []) .EZ .bl .int .str (fun h=>.exc h) (fun h1 _ i=>.tup h1 i) (fun h0 h1 _ i=>.Ic h0 h1 i) (fun h1 _ i=>.lstK h1 i) (fun h0 h1 h2 _ i=>.Kh h0 h1 h2 i) .nil (fun _ _ i j=>.cons (f:=[]) (g:=[]) i j) h
theorem ER.frozen {v:List V}{d:List D}(h:ER K F H v d):EU K F H v (L2.E0 d) []:=
 ER.rec (motive_1:=fun v d _=>E6 K F H v (L2.er d) []) (motive_2:=fun v d _=>EU K F H v (L2.E0 d) []) .EZ .bl .int .str (fun h=>.exc h) (fun h1 _ i=>.tup h1 i) (fun h0 h1 _ i=>.Ic h0 h1 i) (fun h1 _ i=>.lstK h1 i) (fun h0 h1 h2 _ i=>.Kh h0 h1 h2 i) .nil (fun _ _ i j=>.cons (f:=[]) (g:=[]) i j) h
theorem uP {a b:Bool}(h:(a&&b)=true):a=true/\b=true:=by rwa [Bool.and_eq_true] at h
theorem ET.free {v:V}{d:D}(n:ao d=true)(h:ET K S H v d):E6 K F H v d []:=
 ET.rec (motive_1:=fun v d _=>ao d=true->E6 K F H v d []) (motive_2:=fun v d _=>af d=true->EU K F H v d []) (fun _=>.EZ) (fun b _=>.bl b) (fun b _=>.int b) (fun b _=>.str b) (fun h _=>.exc h) (fun h1 _ i n=>.tup h1 (i n)) (fun _ _ _ _ n=>nomatch n) (fun _ _ _ n=>nomatch n) (fun _ _ _ _ _ n=>nomatch n) (fun _=>.nil) (fun _ _ i j n=>.cons (f:=[]) (g:=[]) (i (uP n).1) (j (uP n).2)) h n
theorem ER.free {v:List V}{d:List D}(n:af d=true)(h:ER K S H v d):EU K F H v d []:=
 ER.rec (motive_1:=fun v d _=>ao d=true->E6 K F H v d []) (motive_2:=fun v d _=>af d=true->EU K F H v d []) (fun _=>.EZ) (fun b _=>.bl b) (fun b _=>.int b) (fun b _=>.str b) (fun h _=>.exc h) (fun h1 _ i n=>.tup h1 (i n)) (fun _ _ _ _ n=>nomatch n) (fun _ _ _ n=>nomatch n) (fun _ _ _ _ _ n=>nomatch n) (fun _=>.nil) (fun _ _ i j n=>.cons (f:=[]) (g:=[]) (i (uP n).1) (j (uP n).2)) h n
theorem bw {p:Addr->Prop}:∀ a∈([]:List Addr),p a:=fun _ h=>nomatch h
theorem E6.read {v:V}{d:D}{f:List Addr}(hF:∀ a,F a->S a)(hf:∀ a∈f,S a)(h:E6 K F H v d f):ET K S H v d:=
 E6.rec (motive_1:=fun v d f _=>(∀ a∈f,S a)->ET K S H v d) (motive_2:=fun v d f _=>(∀ a∈f,S a)->ER K S H v d) (fun _=>.EZ) (fun b _=>.bl b) (fun b _=>.int b) (fun b _=>.str b) (fun h _=>.exc h) (fun h1 _ i hf=>.tup h1 (i hf))
  (fun h0 h1 _ i _=>.lst (hF _ h0) h1 (i bw)) (fun h1 _ i _=>.lstK h1 (i bw)) (fun _ h1 _ i hf=>.lst (hf _ (.head _)) (.inl h1) (i fun b hb=>hf b (.tail _ hb))) (fun h0 h1 h2 _ i _=>.Ff (hF _ h0) h1 h2 (i bw)) (fun _ h1 h2 _ i hf=>.Ff (hf _ (.head _)) (.inl h1) h2 (i fun b hb=>hf b (.tail _ hb))) (fun _=>.nil)
  (fun _ _ i j hf=>.cons (i fun a ha=>hf a (List.mem_append_left _ ha)) (j fun a ha=>hf a (List.mem_append_right _ ha))) h hf
theorem EU.read {v:List V}{d:List D}{f:List Addr}(hF:∀ a,F a->S a)(hf:∀ a∈f,S a)(h:EU K F H v d f):ER K S H v d:=
 EU.rec (motive_1:=fun v d f _=>(∀ a∈f,S a)->ET K S H v d) (motive_2:=fun v d f _=>(∀ a∈f,S a)->ER K S H v d) (fun _=>.EZ) (fun b _=>.bl b) (fun b _=>.int b) (fun b _=>.str b) (fun h _=>.exc h) (fun h1 _ i hf=>.tup h1 (i hf))
  (fun h0 h1 _ i _=>.lst (hF _ h0) h1 (i bw)) (fun h1 _ i _=>.lstK h1 (i bw)) (fun _ h1 _ i hf=>.lst (hf _ (.head _)) (.inl h1) (i fun b hb=>hf b (.tail _ hb))) (fun h0 h1 h2 _ i _=>.Ff (hF _ h0) h1 h2 (i bw)) (fun _ h1 h2 _ i hf=>.Ff (hf _ (.head _)) (.inl h1) h2 (i fun b hb=>hf b (.tail _ hb))) (fun _=>.nil)
  (fun _ _ i j hf=>.cons (i fun a ha=>hf a (List.mem_append_left _ ha)) (j fun a ha=>hf a (List.mem_append_right _ ha))) h hf
theorem cq {α:Type}{x:Option α}{y:α}(h:x=some y):x≠none:=fun e=>nomatch h.symm.trans e
theorem E6.step (hl:∀ a (u:LD),F a->Rd H a u.o->F' a/\Rd H' a u.o)(ht:∀ a xs,FQ K H a xs->FQ K H' a xs){v:V}{d:D}{f:List Addr}(k:∀ a∈f,¬ F a->H a≠none->¬ F' a/\H' a=H a)
  (h:E6 K F H v d f):E6 K F' H' v d f:=
 E6.rec (motive_1:=fun v d f _=>(∀ a∈f,¬ F a->H a≠none->¬ F' a/\H' a=H a)->E6 K F' H' v d f) (motive_2:=fun v d f _=>(∀ a∈f,¬ F a->H a≠none->¬ F' a/\H' a=H a)->EU K F' H' v d f) (fun _=>.EZ) (fun b _=>.bl b) (fun b _=>.int b) (fun b _=>.str b)
  (fun h _=>.exc (ht _ (.inr _) h)) (fun h1 _ i k=>.tup (ht _ (.inl _) h1) (i k)) (fun h0 h1 _ i _=>.Ic (hl _ (.l _) h0 h1).1 (hl _ (.l _) h0 h1).2 (i bw)) (fun h1 _ i _=>.lstK h1 (i bw))
  (fun h0 h1 _ i k=>.Gh (k _ (.head _) h0 (cq h1)).1 ((k _ (.head _) h0 (cq h1)).2.trans h1) (i fun b hb=>k b (.tail _ hb))) (fun h0 h1 h2 _ i _=>.Kh (hl _ (.d _) h0 h1).1 (hl _ (.d _) h0 h1).2 h2 (i bw)) (fun h0 h1 h2 _ i k=>.Jz (k _ (.head _) h0 (cq h1)).1 ((k _ (.head _) h0 (cq h1)).2.trans h1) h2 (i fun b hb=>k b (.tail _ hb))) (fun _=>.nil)
  (fun _ _ i j k=>.cons (i fun a ha=>k a (List.mem_append_left _ ha)) (j fun a ha=>k a (List.mem_append_right _ ha))) h k
theorem EU.step (hl:∀ a (u:LD),F a->Rd H a u.o->F' a/\Rd H' a u.o)(ht:∀ a xs,FQ K H a xs->FQ K H' a xs){v:List V}{d:List D}{f:List Addr}(k:∀ a∈f,¬ F a->H a≠none->¬ F' a/\H' a=H a)
  (h:EU K F H v d f):EU K F' H' v d f:=
 EU.rec (motive_1:=fun v d f _=>(∀ a∈f,¬ F a->H a≠none->¬ F' a/\H' a=H a)->E6 K F' H' v d f) (motive_2:=fun v d f _=>(∀ a∈f,¬ F a->H a≠none->¬ F' a/\H' a=H a)->EU K F' H' v d f) (fun _=>.EZ) (fun b _=>.bl b) (fun b _=>.int b) (fun b _=>.str b)
  (fun h _=>.exc (ht _ (.inr _) h)) (fun h1 _ i k=>.tup (ht _ (.inl _) h1) (i k)) (fun h0 h1 _ i _=>.Ic (hl _ (.l _) h0 h1).1 (hl _ (.l _) h0 h1).2 (i bw)) (fun h1 _ i _=>.lstK h1 (i bw))
  (fun h0 h1 _ i k=>.Gh (k _ (.head _) h0 (cq h1)).1 ((k _ (.head _) h0 (cq h1)).2.trans h1) (i fun b hb=>k b (.tail _ hb))) (fun h0 h1 h2 _ i _=>.Kh (hl _ (.d _) h0 h1).1 (hl _ (.d _) h0 h1).2 h2 (i bw)) (fun h0 h1 h2 _ i k=>.Jz (k _ (.head _) h0 (cq h1)).1 ((k _ (.head _) h0 (cq h1)).2.trans h1) h2 (i fun b hb=>k b (.tail _ hb))) (fun _=>.nil)
  (fun _ _ i j k=>.cons (i fun a ha=>k a (List.mem_append_left _ ha)) (j fun a ha=>k a (List.mem_append_right _ ha))) h k
theorem uQ {p:Addr->Prop}{x:Addr}{f:List Addr}(h:p x)(i:∀ a∈f,p a):∀ a∈x::f,p a:=by
 intro b hb
 rcases List.mem_cons.mp hb with rfl|hb
 ·exact h
 ·exact i b hb
theorem Br {p:Addr->Prop}{f g:List Addr}(h:∀ a∈f,p a)(i:∀ a∈g,p a):∀ a∈f++g,p a:=fun b hb=>(List.mem_append.mp hb).elim (h b) (i b)
theorem E6.own {v:V}{d:D}{f:List Addr}(h:E6 K F H v d f):∀ a∈f,¬ F a/\∃ u,H a=some u:=
 E6.rec (motive_1:=fun _ _ f _=>∀ a∈f,¬ F a/\∃ u,H a=some u) (motive_2:=fun _ _ f _=>∀ a∈f,¬ F a/\∃ u,H a=some u) bw (fun _=>bw) (fun _=>bw) (fun _=>bw) (fun _=>bw) (fun _ _ i=>i) (fun _ _ _ _=>bw) (fun _ _ _=>bw)
  (fun h0 h1 _ i=>uQ ⟨h0,_,h1⟩ i) (fun _ _ _ _ _=>bw) (fun h0 h1 _ _ i=>uQ ⟨h0,_,h1⟩ i) bw (fun _ _ i j=>Br i j) h
theorem EU.own {v:List V}{d:List D}{f:List Addr}(h:EU K F H v d f):∀ a∈f,¬ F a/\∃ u,H a=some u:=
 EU.rec (motive_1:=fun _ _ f _=>∀ a∈f,¬ F a/\∃ u,H a=some u) (motive_2:=fun _ _ f _=>∀ a∈f,¬ F a/\∃ u,H a=some u) bw (fun _=>bw) (fun _=>bw) (fun _=>bw) (fun _=>bw) (fun _ _ i=>i) (fun _ _ _ _=>bw) (fun _ _ _=>bw)
  (fun h0 h1 _ i=>uQ ⟨h0,_,h1⟩ i) (fun _ _ _ _ _=>bw) (fun h0 h1 _ _ i=>uQ ⟨h0,_,h1⟩ i) bw (fun _ _ i j=>Br i j) h
theorem ER.ind {P:List V->List D->Prop}(n:P [] [])(c:∀ v d vs ds,ET K S H v d->ER K S H vs ds->P vs ds->P (v::vs) (d::ds)){vs:List V}{ds:List D}(h:ER K S H vs ds):P vs ds:=
 ER.rec (motive_1:=fun _ _ _=>True) (motive_2:=fun v d _=>P v d) trivial (fun _=>trivial) (fun _=>trivial) (fun _=>trivial) (fun _=>trivial) (fun _ _ _=>trivial) (fun _ _ _ _=>trivial) (fun _ _ _=>trivial) (fun _ _ _ _ _=>trivial) n (fun a b _ j=>c _ _ _ _ a b j) h
theorem EU.ind {P:List V->List D->List Addr->Prop}(n:P [] [] [])(c:∀ v d f vs ds g,E6 K F H v d f->EU K F H vs ds g->P vs ds g->P (v::vs) (d::ds) (f++g)){vs:List V}{ds:List D}{f:List Addr}(h:EU K F H vs ds f):P vs ds f:=
 EU.rec (motive_1:=fun _ _ _ _=>True) (motive_2:=fun v d f _=>P v d f) trivial (fun _=>trivial) (fun _=>trivial) (fun _=>trivial) (fun _=>trivial) (fun _ _ _=>trivial) (fun _ _ _ _=>trivial) (fun _ _ _=>trivial) (fun _ _ _ _=>trivial) (fun _ _ _ _ _=>trivial) (fun _ _ _ _ _=>trivial) n (fun a b _ j=>c _ _ _ _ _ _ a b j) h
theorem ER.length {vs:List V}{ds:List D}(h:ER K S H vs ds):vs.length=ds.length:=
 ER.ind (P:=fun v d=>v.length=d.length) rfl (fun _ _ _ _ _ _ j=>congrArg (· + 1) j) h
theorem ER.get {i:Nat}{vs:List V}{ds:List D}{d:D}(h:ER K S H vs ds)(e:ds[i]? = some d):∃ v,vs[i]? = some v/\ET K S H v d:=
 ER.ind (P:=fun vs ds=>∀ i d,ds[i]? = some d->∃ v,vs[i]? = some v/\ET K S H v d) (fun i d e=>nomatch (show none=some d from e)) (fun v d _ _ a _ j i d e=>by
  cases i with
  | zero=>exact⟨_,rfl,Option.some.inj e ▸ a⟩
  | succ i=>exact j i d e) h i d e
theorem ER.LB {i:Nat}{vs:List V}{ds:List D}{v:V}(h:ER K S H vs ds)(e:vs[i]? = some v):∃ d,ds[i]? = some d/\ET K S H v d:=
 ER.ind (P:=fun vs ds=>∀ i v,vs[i]? = some v->∃ d,ds[i]? = some d/\ET K S H v d) (fun i d e=>nomatch (show none=some d from e)) (fun v d _ _ a _ j i d e=>by
  cases i with
  | zero=>exact⟨_,rfl,Option.some.inj e ▸ a⟩
  | succ i=>exact j i d e) h i v e
theorem ER.append {vs ws:List V}{ds es:List D}(h:ER K S H vs ds)(h':ER K S H ws es):ER K S H (vs++ws) (ds++es):=
 ER.ind (P:=fun v d=>ER K S H (v++ws) (d++es)) h' (fun _ _ _ _ a _ j=>.cons a j) h
theorem ER.take {vs:List V}{ds:List D}(n:Nat)(h:ER K S H vs ds):ER K S H (vs.take n) (ds.take n):=
 ER.ind (P:=fun v d=>∀ n,ER K S H (v.take n) (d.take n)) (fun n=>by cases n<;>exact .nil) (fun _ _ _ _ a _ j n=>by
  cases n with
  | zero=>exact .nil
  | succ n=>exact .cons a (j n)) h n
theorem ER.drop {vs:List V}{ds:List D}(n:Nat)(h:ER K S H vs ds):ER K S H (vs.drop n) (ds.drop n):=
 ER.ind (P:=fun v d=>∀ n,ER K S H (v.drop n) (d.drop n)) (fun n=>by cases n<;>exact .nil) (fun _ _ _ _ a b j n=>by
  cases n with
  | zero=>exact .cons a b
  | succ n=>exact j n) h n
theorem EU.length {vs:List V}{ds:List D}{f:List Addr}(h:EU K F H vs ds f):vs.length=ds.length:=
 EU.ind (P:=fun v d _=>v.length=d.length) rfl (fun _ _ _ _ _ _ _ _ j=>congrArg (· + 1) j) h
theorem EU.append {vs ws:List V}{ds es:List D}{f g:List Addr}(h:EU K F H vs ds f)(h':EU K F H ws es g):EU K F H (vs++ws) (ds++es) (f++g):=
 EU.ind (P:=fun v d f=>EU K F H (v++ws) (d++es) (f++g)) h' (fun _ _ _ _ _ _ a _ j=>by
  rw[List.append_assoc]
  exact .cons a j) h
theorem ET.FF {v:V}{o:Bool}{ds:List D}(h:ET K S H v (.lst o ds)):∃ a xs,v=.ref a/\FR K H a xs/\ER K S H xs ds:=by
 cases h with
 | lst h0 h1 h2=>exact⟨_,_,rfl,.inl h1,h2⟩
 | lstK h1 h2=>exact⟨_,_,rfl,h1.sq,h2⟩
theorem ET.Ki {v:V}{o:Bool}{ds:List D}(h:ET K S H v (.lst o ds)):∃ a xs,v=.ref a/\Ls K H a xs/\ER K S H xs ds:=by
 cases h with
 | lst h0 h1 h2=>exact⟨_,_,rfl,.inl h1,h2⟩
 | lstK h1 h2=>exact⟨_,_,rfl,.inr h1,h2⟩
theorem ET.F0 {v:V}{ds:List D}(h:ET K S H v (.tup ds)):∃ a xs,v=.ref a/\Gn K H a xs/\ER K S H xs ds:=by
 cases h with
 | tup h1 h2=>exact⟨_,_,rfl,h1,h2⟩
theorem ET.E9 {v:V}{i:Int}(h:ET K S H v (.int i)):v=.int i:=by cases h;rfl
theorem ET.Jm {v:V}{i:Bool}(h:ET K S H v (.bl i)):v=.bl i:=by cases h;rfl
theorem ET.Ft {v:V}{i:Str}(h:ET K S H v (.str i)):v=.str i:=by cases h;rfl
theorem ET.GC {v:V}(h:ET K S H v .EZ):v=.EZ:=by cases h;rfl
theorem ER.ints {vs:List V}{ns:List Int}(h:ER K S H vs (ns.map .int)):vs=ns.map .int:=
 ER.ind (P:=fun v d=>∀ ns:List Int,d=ns.map .int->v=ns.map .int) (fun ns e=>by
  cases ns with
  | nil=>rfl
  | cons n ns=>exact nomatch e) (fun _ _ _ _ a _ j ns e=>by
  cases ns with
  | nil=>exact nomatch e
  | cons n ns=>
   obtain⟨h1,h2⟩:=List.cons.inj e
   subst h1
   rw[j ns h2,a.E9]
   rfl) h ns rfl
theorem ER.strs {vs:List V}{ns:List Str}(h:ER K S H vs (ns.map .str)):vs=ns.map .str:=
 ER.ind (P:=fun v d=>∀ ns:List Str,d=ns.map .str->v=ns.map .str) (fun ns e=>by
  cases ns with
  | nil=>rfl
  | cons n ns=>exact nomatch e) (fun _ _ _ _ a _ j ns e=>by
  cases ns with
  | nil=>exact nomatch e
  | cons n ns=>
   obtain⟨h1,h2⟩:=List.cons.inj e
   subst h1
   rw[j ns h2,a.Ft]
   rfl) h ns rfl
theorem ER.UG {vs:List V}{ns:List Bool}(h:ER K S H vs (ns.map .bl)):vs=ns.map .bl:=
 ER.ind (P:=fun v d=>∀ ns:List Bool,d=ns.map .bl->v=ns.map .bl) (fun ns e=>by
  cases ns with
  | nil=>rfl
  | cons n ns=>exact nomatch e) (fun _ _ _ _ a _ j ns e=>by
  cases ns with
  | nil=>exact nomatch e
  | cons n ns=>
   obtain⟨h1,h2⟩:=List.cons.inj e
   subst h1
   rw[j ns h2,a.Jm]
   rfl) h ns rfl
theorem ER.ofInts:∀ (ns:List Int),ER K S H (ns.map .int) (ns.map .int)
 | []=>.nil
 | n::ns=>.cons (.int n) (ER.ofInts ns)
end
theorem ak.upd {H:Hp}{a:Addr}{o:HO}(h:H a=none):ak H (upd H a o):=fun b u e=>by
 rw[aj (aI e h)]
 exact e
inductive JA where
 | add|sub|mul|fdiv|mod|pow
 deriving DecidableEq
inductive IY where
 | eq|ne|lt|le|gt|ge|Hy|JB|IZ|LC
 deriving DecidableEq
inductive Kd where
 | str|int|bool|list|tuple
 deriving DecidableEq
inductive Bi where
 | len|sum|min2|max2|HG|sorted|list|tuple|ord|int|all|any|str|set|abs
 deriving DecidableEq
inductive Mt where
 | join|index|starts
 deriving DecidableEq
inductive Tg where
 | nm (i:Nat)|tp (ts:List Tg)
structure Gm where
 N:List Str
 kd:List NameKind
 gl:List Nat
 df:Bool
 cm:Bool:=true
 rs:Bool:=true
 tr:Bool:=false
mutual
inductive IR where
 | c (d:D)
 | g (n:Nat) (d:D)
 | v (i:Nat)
 | bin (op:JA) (a b:IR)
 | neg (a:IR)
 | cmp (op:IY) (a b:IR)
 | chain (op ON:IY) (a b c:IR)
 | E8 (a b:IR)
 | HH (a b:IR)
 | F3 (a:IR)
 | ite (t a b:IR)
 | tup (es:List IR)
 | lst (es:List IR)
 | idx (a i:IR)
 | sl (a:IR) (lo hi:Option IR)
 | call (f:Nat) (es:List IR)
 | bi (f:Bi) (es:List IR)
 | G3
 | Kj (a k:IR)
 | KQ (n:Bool) (k a:IR)
 | FG (a:IR) (k:Kd)
 | OO (a:IR) (ns:List Nat) (tb:List (Str×Bool))
 | Gu (a:IR)
 | sset (a:IR)
 | OP (x:Str) (a:IR) (y:Option Str)
 | HV (m:Mt) (o:IR) (es:List IR)
 | comp (G:Gm) (fr:List Nat) (tg:Tg) (src:Sr) (ifs:List IR) (elt:IR)
inductive Sr where
 | FO (n:IR)|G4 (a b:IR)|val (e:IR)|zip (a b:IR)
end
inductive IS where
 | asg (tg:Tg) (e:IR)
 | par (i j:Nat) (a b:IR)
 | KR (i:Nat) (k e:IR)
 | app (i:Nat) (e:IR)
 | Nw (i:Nat) (k:Nat) (e:IR)
 | Ie (i:Nat) (k e:IR)
 | ext (i:Nat) (e:IR)
 | ins (i:Nat) (k e:IR)
 | RX (i:Nat)
 | pop (j i:Nat)
 | RY (i:Nat)
 | exp (e:IR)
 | ret (e:IR)
 | Kl
 | Fg (t:IR) (a b:List IS)
 | Fp (tg:Tg) (src:Sr) (body:List IS)
 | Gv (t:IR) (body:List IS)
 | brk|cnt|pass
 | never
 | JC (n:Nat) (c:Str) (w:Str)
 | JD (n:Nat) (c:Str) (e:IR)
 | Nx (i f:Nat) (es:List IR) (n:Nat) (cs:List Str) (k:Nat) (h:List IS)
 | Ny (body:List IS) (n:Nat) (cs:List Str) (i:Nat) (h:List IS)
noncomputable abbrev Ev:=List (Option D)
inductive Fl where
 | nx (τ:Ev)|rt (d:D)|bk (τ:Ev)|ct (τ:Ev)
noncomputable def bp {α:Type}(xs:List α)(lo hi:Option Int):List α:=(xs.drop (HT.FY xs.length 0 lo)).take (HT.FY xs.length xs.length hi - HT.FY xs.length 0 lo)
noncomputable def aV (n:Nat):Bool:=decide (n<=sizeLine)
noncomputable def cb (n:Nat):Bool:=decide (n < sizeLine)
noncomputable def GW:JA->D->D->Res D
 | .add,.int a,.int b=>.ok (.int (a+b))
 | .add,.str a,.str b=>EX (aV (a.length+b.length)) (.ok (.str (a++b)))
 | .add,.lst _ a,.lst _ b=>EX (aV (a.length+b.length)) (.ok (.lst true (a++b)))
 | .sub,.int a,.int b=>.ok (.int (a - b))
 | .mul,.int a,.int b=>EX (decide (-(2 ^ 64) < a/\a < 2 ^ 64)||decide (-(2 ^ 64) < b/\b < 2 ^ 64)) (.ok (.int (a*b)))
 | .mul,.str a,.int b=>EX (decide (-16000<=b/\b<=16000/\a.length<=1000)) (.ok (.str (Txt.mul a b)))
 | .fdiv,.int a,.int b=>EX (decide (0 < b/\b < 1073741824)) (.ok (.int (a / b)))
 | .mod,.int a,.int b=>EX (decide (0 < b)) (.ok (.int (a % b)))
 | .pow,.int a,.int b=>EX (decide (0<=b/\b<=1000000/\a.natAbs < 2 ^ 64)) (.ok (.int (a ^ b.toNat)))
 | _,_,_=>EY
noncomputable def bt:D->D->Res D
 | .lst _ ds,.int i=>match F9 ds i with
  | some d=>.ok d
  | none=>EY
 | .tup ds,.int i=>match F9 ds i with
  | some d=>.ok d
  | none=>EY
 | .str z,.int i=>EX (aV z.length) (match F9 z.cps.toList i with
  | some c=>.ok (.str ⟨#[c]⟩)
  | none=>EY)
 | _,_=>EY
noncomputable def jL:D->Option Int->Option Int->Res D
 | .lst _ ds,lo,hi=>.ok (.lst true (bp ds lo hi))
 | .str z,lo,hi=>EX (aV z.length) (.ok (.str (Txt.slice z lo hi)))
 | _,_,_=>EY
noncomputable def aD:D->Res Bool
 | .EZ=>.ok false
 | .bl b=>.ok b
 | .int i=>.ok (i != 0)
 | .str x=>EX (aV x.length) (.ok ((x.length:Int) != 0))
 | .tup ds=>.ok (!ds.isEmpty)
 | .lst _ ds=>.ok (!ds.isEmpty)
 | .exc _=>EY
 | .Ff _ _ _=>EY
noncomputable def bO (f:D->D->Res Bool):List D->List D->Res Bool
 | [],[]=>.ok true
 | a::r,b::t=>U (f a b) fun x=>U (bO f r t) fun y=>.ok (x&&y)
 | _,_=>.ok false
noncomputable def FC:Nat->D->D->Res Bool
 | 0,_,_=>EY
 | _+1,.exc _,_=>EY
 | _+1,_,.exc _=>EY
 | _+1,.Ff _ _ _,_=>EY
 | _+1,_,.Ff _ _ _=>EY
 | _+1,.EZ,.EZ=>.ok true
 | _+1,.EZ,_=>.ok false
 | _+1,.bl a,.bl b=>.ok (a == b)
 | _+1,.bl a,.int b=>.ok ((if a then 1 else 0) == b)
 | _+1,.bl _,_=>.ok false
 | _+1,.int a,.bl b=>.ok (a == (if b then 1 else 0))
 | _+1,.int a,.int b=>.ok (a == b)
 | _+1,.int _,_=>.ok false
 | _+1,.str a,.str b=>.ok (a == b)
 | _+1,.str _,_=>.ok false
 | n+1,.tup a,.tup b=>bO (FC n) a b
 | _+1,.tup _,_=>.ok false
 | n+1,.lst _ a,.lst _ b=>bO (FC n) a b
 | _+1,.lst _ _,_=>.ok false
noncomputable def Fh (d:D):List D->Res Bool
 | []=>.ok false
 | e::r=>U (FC 40 e d) fun x=>U (Fh d r) fun y=>.ok (x||y)
noncomputable def l8 (x y:Str):Bool:=!(Builtin.Str.occurrences x y 0 x.length 1).isEmpty
noncomputable def cv:D->Bool
 | .EZ=>true
 | _=>false
noncomputable def eF:D->Bool
 | .exc _=>false
 | .Ff _ _ _=>false
 | _=>true
noncomputable def G5:IY->D->D->Res Bool
 | .eq,a,b=>FC 40 a b
 | .ne,a,b=>U (FC 40 a b) fun r=>.ok !r
 | .lt,.int a,.int b=>.ok (decide (a < b))
 | .le,.int a,.int b=>.ok (decide (a<=b))
 | .gt,.int a,.int b=>.ok (decide (b < a))
 | .Hy,.str y,.str x=>.ok (l8 x y)
 | .JB,.str y,.str x=>.ok (!l8 x y)
 | .Hy,a,.lst _ ds=>Fh a ds
 | .JB,a,.lst _ ds=>U (Fh a ds) fun r=>.ok !r
 | .Hy,a,.tup ds=>Fh a ds
 | .JB,a,.tup ds=>U (Fh a ds) fun r=>.ok !r
 | .IZ,a,.EZ=>.ok (cv a)
 | .LC,a,.EZ=>.ok (!cv a)
 | .LC,.bl a,.bl b=>.ok (a != b)
 | .LC,.EZ,.bl _=>.ok true
 | _,_,_=>EY
noncomputable def bg:List D->Option (List Int)
 | []=>some []
 | .int i::r=>(bg r).map (i::·)
 | _::_=>none
noncomputable def aY:List D->Option (List Str)
 | []=>some []
 | .str i::r=>(aY r).map (i::·)
 | _::_=>none
noncomputable def du:List D->Option (List Bool)
 | []=>some []
 | .bl i::r=>(du r).map (i::·)
 | _::_=>none
noncomputable def br:Kd->D->Bool
 | .str,.str _=>true
 | .int,.int _=>true
 | .int,.bl _=>true
 | .bool,.bl _=>true
 | .list,.lst _ _=>true
 | .tuple,.tup _=>true
 | _,_=>false
noncomputable def Ey (tb:List (Str×Bool)):D->Res D
 | .exc c=>match tb.lookup c with
  | some b=>.ok (.bl b)
  | none=>EY
 | _=>EY
noncomputable def bD (x:Str):List D:=x.cps.toList.map fun c=>.str ⟨#[c]⟩
noncomputable def cV (n:Int):List Int->Int
 | []=>n
 | m::r=>cV (if n < m then m else n) r
noncomputable def cR:Bi->List D->Res D
 | .len,[.str x]=>EX (aV x.length) (.ok (.int x.length))
 | .len,[.tup ds]=>.ok (.int ds.length)
 | .len,[.lst _ ds]=>.ok (.int ds.length)
 | .min2,[.int a,.int b]=>.ok (.int (if b < a then b else a))
 | .max2,[.int a,.int b]=>.ok (.int (if b > a then b else a))
 | .HG,[.lst _ ds]=>match bg ds with
  | some (n::ns)=>.ok (.int (cV n ns))
  | _=>EY
 | .tuple,[.lst _ ds]=>.ok (.tup ds)
 | .tuple,[.str x]=>EX (aV x.length) (.ok (.tup (bD x)))
 | .all,[.lst _ ds]=>match du ds with
  | some bs=>.ok (.bl (bs.all id))
  | none=>EY
 | _,_=>EY
noncomputable def eG:D->Option Key
 | .int i=>some (.inl i)
 | .str x=>some (.inr x)
 | _=>none
noncomputable def look:List Key->List D->Key->Option D
 | k::ks,d::ds,q=>if k=q then some d else look ks ds q
 | _,_,_=>none
noncomputable def jM (ks:List Key)(q:Key):Bool:=ks.any fun k=>decide (k=q)
noncomputable def dJ (ks:List Key)(q:Key):List Key:=if jM ks q=true then ks else ks++[q]
noncomputable def cP (ks:List Key)(ds:List D)(q:Key)(d:D):List D:=if jM ks q=true then List.zipWith (fun k e=>if k=q then d else e) ks ds else ds++[d]
noncomputable def Bt:D->D->Res D
 | .Ff _ ks ds,y=>match eG y with
  | some q=>(match look ks ds q with
   | some d=>.ok d
   | none=>EY)
  | none=>EY
 | _,_=>EY
noncomputable def jN (n:Bool):D->D->Res D
 | .Ff _ ks ds,y=>match eG y with
  | some q=>.ok (.bl (n != (look ks ds q).isSome))
  | none=>EY
 | _,_=>EY
noncomputable def dz:D->Bool
 | .str _=>true
 | _=>false
noncomputable def fS:Mt->D->List D->Res D
 | .join,.str x,[.lst _ ds]=>match aY ds with
  | some ys=>EX (decide ((ys.map (·.length)).sum+ys.length*x.length<=16777216)) (.ok (.str (Txt.join x ys)))
  | none=>EY
 | .starts,.str x,[.str y]=>.ok (.bl (Txt.startswith x y))
 | _,_,_=>EY
noncomputable def eI:D->Res (List D)
 | .lst _ ds=>.ok ds
 | .tup ds=>.ok ds
 | .str x=>EX (aV x.length) (.ok (bD x))
 | _=>EY
noncomputable def kP:D->Res (List D)
 | .lst _ ds=>.ok ds
 | .tup ds=>.ok ds
 | _=>EY
noncomputable def dj (ds es:List D):List D:=List.zipWith (fun a b=>.tup [a,b]) ds es
noncomputable def uR (x y:D):Res (List D):=U (kP x) fun ds=>U (kP y) fun es=>.ok (dj ds es)
noncomputable def bA (a b:Int):List D:=(List.range (b - a).toNat).map fun k=>.int (a+(k:Nat))
noncomputable def uS:D->Res D
 | .lst _ ds=>.ok (.lst true ds.reverse)
 | _=>EY
noncomputable def jO:D->Res D
 | .lst _ ds=>match bg ds with
  | some ns=>EX (decide (ns.length < 64)) (.ok (.lst true ((PySem.W.sortI (dd ns)).map .int)))
  | none=>match aY ds with
   | some ns=>EX (decide (ns.length < 64)) (.ok (.lst true ((bH (HU ns)).map .str)))
   | none=>EY
 | _=>EY
noncomputable def Ez (x:Str)(y:Option Str):D->Res D
 | .str z=>EX (aV (x.length+(reprText z).length+(y.getD Str.empty).length)) (.ok (.str (x++reprText z++y.getD Str.empty)))
 | _=>EY
noncomputable def bQ (i:Int):Bool:=decide (-(2 ^ 62)<=i/\i < 2 ^ 62)
noncomputable def ax {α β:Type}(f:α->Res (Option β)):List α->Res (List β)
 | []=>.ok []
 | x::xs=>U (f x) fun
  | some d=>U (ax f xs) fun r=>.ok (d::r)
  | none=>ax f xs
noncomputable def I0 {α:Type}:Res α->Res α
 | .error _=>EY
 | .ok a=>.ok a
mutual
noncomputable def bP:Tg->D->Ev->Res Ev
 | .nm i,d,τ=>.ok (τ.set i (some d))
 | .tp ts,.tup ds,τ=>EX (decide (ds.length=ts.length)) (dM ts ds τ)
 | .tp ts,.lst _ ds,τ=>EX (decide (ds.length=ts.length)) (dM ts ds τ)
 | .tp _,_,_=>EY
noncomputable def dM:List Tg->List D->Ev->Res Ev
 | t::ts,d::ds,τ=>U (bP t d τ) fun EW=>dM ts ds EW
 | [],[],τ=>.ok τ
 | _,_,_=>EY
end
noncomputable def ai (τ:Ev)(i:Nat):Option D:=(τ[i]?).join
mutual
noncomputable def vars:IR->List Nat
 | .c _=>[]
 | .g _ _=>[]
 | .v i=>[i]
 | .bin _ a b=>vars a++vars b
 | .neg a=>vars a
 | .cmp _ a b=>vars a++vars b
 | .chain _ _ a b c=>vars a++vars b++vars c
 | .E8 a b=>vars a++vars b
 | .HH a b=>vars a++vars b
 | .F3 a=>vars a
 | .ite t a b=>vars t++vars a++vars b
 | .tup es=>ay es
 | .lst es=>ay es
 | .idx a i=>vars a++vars i
 | .sl a lo hi=>vars a++p0 lo++p0 hi
 | .call _ es=>ay es
 | .bi _ es=>ay es
 | .G3=>[]
 | .Kj a k=>vars a++vars k
 | .KQ _ k a=>vars k++vars a
 | .FG a _=>vars a
 | .OO a _ _=>vars a
 | .Gu a=>vars a
 | .sset a=>vars a
 | .OP _ a _=>vars a
 | .HV _ o es=>vars o++ay es
 | .comp _ fr _ src _ _=>fr++dN src
noncomputable def ay:List IR->List Nat
 | []=>[]
 | e::es=>vars e++ay es
noncomputable def p0:Option IR->List Nat
 | none=>[]
 | some e=>vars e
noncomputable def dN:Sr->List Nat
 | .FO n=>vars n
 | .G4 a b=>vars a++vars b
 | .val e=>vars e
 | .zip a b=>vars a++vars b
end
mutual
noncomputable def EV (cl:Nat->List D->Res D):IR->Ev->Res D
 | .c d,_=>.ok d
 | .g _ d,_=>.ok d
 | .v i,τ=>match ai τ i with
  | some d=>.ok d
  | none=>EY
 | .bin op a b,τ=>U (EV cl a τ) fun x=>U (EV cl b τ) fun y=>GW op x y
 | .neg a,τ=>U (EV cl a τ) fun
  | .int i=>.ok (.int (-i))
  | _=>EY
 | .cmp op a b,τ=>U (EV cl a τ) fun x=>U (EV cl b τ) fun y=>U (G5 op x y) fun r=>.ok (.bl r)
 | .chain op ON a b c,τ=>U (EV cl a τ) fun x=>U (EV cl b τ) fun y=>U (G5 op x y) fun r=>
  if r=true then U (EV cl c τ) fun z=>U (G5 ON y z) fun r'=>.ok (.bl r') else .ok (.bl false)
 | .E8 a b,τ=>U (EV cl a τ) fun x=>U (aD x) fun r=>if r=true then EV cl b τ else .ok x
 | .HH a b,τ=>U (EV cl a τ) fun x=>U (aD x) fun r=>if r=true then .ok x else EV cl b τ
 | .F3 a,τ=>U (EV cl a τ) fun x=>U (aD x) fun r=>.ok (.bl !r)
 | .ite t a b,τ=>U (EV cl t τ) fun x=>U (aD x) fun r=>if r=true then EV cl a τ else EV cl b τ
 | .tup es,τ=>U (bh cl es τ) fun ds=>EX (aV ds.length) (.ok (.tup ds))
 | .lst es,τ=>U (bh cl es τ) fun ds=>EX (aV ds.length) (.ok (.lst true ds))
 | .idx a i,τ=>U (EV cl a τ) fun x=>U (EV cl i τ) fun y=>bt x y
 | .sl a lo hi,τ=>U (EV cl a τ) fun x=>U (iR cl lo τ) fun l=>U (iR cl hi τ) fun h=>jL x l h
 | .call f es,τ=>U (bh cl es τ) fun ds=>cl f (E0 ds)
 | .bi f es,τ=>U (bh cl es τ) fun ds=>cR f ds
 | .G3,_=>.ok (.Ff true [] [])
 | .Kj a k,τ=>U (EV cl a τ) fun x=>U (EV cl k τ) fun y=>Bt x y
 | .KQ n k a,τ=>U (EV cl k τ) fun y=>U (EV cl a τ) fun x=>jN n x y
 | .FG a k,τ=>U (EV cl a τ) fun x=>EX (eF x) (.ok (.bl (br k x)))
 | .OO a _ tb,τ=>U (EV cl a τ) (Ey tb)
 | .Gu a,τ=>U (EV cl a τ) uS
 | .sset a,τ=>U (EV cl a τ) jO
 | .OP x a y,τ=>U (EV cl a τ) (Ez x y)
 | .HV m o es,τ=>U (EV cl o τ) fun x=>EX (dz x) (U (bh cl es τ) fun ds=>fS m x ds)
 | .comp G fr tg src ifs elt,τ=>U (dn cl src τ) fun its=>EX (cb its.length) (U (I0 (ax (fun x=>U (bP tg x (fr.map (ai τ)++List.replicate (G.N.length - fr.length) none)) fun KS=>
   U (dA cl ifs KS) fun r=>if r=true then U (EV cl elt KS) fun d=>.ok (some d) else .ok none) its)) fun ds=>.ok (.lst true ds))
noncomputable def bh (cl:Nat->List D->Res D):List IR->Ev->Res (List D)
 | [],_=>.ok []
 | e::es,τ=>U (EV cl e τ) fun d=>U (bh cl es τ) fun ds=>.ok (d::ds)
noncomputable def iR (cl:Nat->List D->Res D):Option IR->Ev->Res (Option Int)
 | none,_=>.ok none
 | some e,τ=>U (EV cl e τ) fun
  | .int i=>.ok (some i)
  | _=>EY
noncomputable def dA (cl:Nat->List D->Res D):List IR->Ev->Res Bool
 | [],_=>.ok true
 | e::es,τ=>U (U (EV cl e τ) aD) fun r=>if r=true then dA cl es τ else .ok false
noncomputable def dn (cl:Nat->List D->Res D):Sr->Ev->Res (List D)
 | .FO n,τ=>U (EV cl n τ) fun
  | .int i=>EX (bQ i) (.ok (bA 0 i))
  | _=>EY
 | .G4 a b,τ=>U (EV cl a τ) fun x=>U (EV cl b τ) fun y=>match x,y with
  | .int i,.int j=>EX (bQ i&&bQ j) (.ok (bA i j))
  | _,_=>EY
 | .val e,τ=>U (EV cl e τ) eI
 | .zip a b,τ=>U (EV cl a τ) fun x=>U (EV cl b τ) fun y=>uR x y
end
noncomputable def Hk (cl:Nat->List D->Res D)(t:IR)(τ:Ev):Res Bool:=U (EV cl t τ) aD
noncomputable def gF (is:List Nat):Nat->Ev->Ev
 | _,[]=>[]
 | k,o::τ=>(if is.contains k then o.map er else o)::gF is (k+1) τ
noncomputable abbrev Fb (is:List Nat)(τ:Ev):Ev:=gF is 0 τ
noncomputable def aE : IR->Bool
 | .bin .add _ _=>true
 | .sl _ _ _=>true
 | .comp _ _ _ _ _ _=>true
 | _=>false
noncomputable def aL (e:IR)(d:D)(τ:Ev):D×Ev:=
 if ao d=true then (d,τ)
 else match aE e,d with
  | true,.lst _ ds=>if af ds=true then (.lst true ds,τ) else (.lst true (E0 ds),Fb (vars e) τ)
  | _,_=>(er d,Fb (vars e) τ)
mutual
noncomputable def Fs (cl:Nat->List D->Res D)(mv:Bool):IR->Ev->Res (D×Ev)
 | .v i,τ=>match ai τ i with
  | some d=>if mv=true then .ok (d,τ.set i none) else .ok (er d,τ.set i (some (er d)))
  | none=>EY
 | .tup es,τ=>U (fT cl mv es τ) fun p=>EX (aV p.1.length) (.ok (.tup p.1,p.2))
 | .lst es,τ=>U (fT cl mv es τ) fun p=>EX (aV p.1.length) (.ok (.lst true p.1,p.2))
 | .G3,τ=>.ok (.Ff true [] [],τ)
 | .ite t a b,τ=>U (Hk cl t τ) fun r=>if r=true then Fs cl mv a τ else Fs cl mv b τ
 | .call f es,τ=>U (bh cl es τ) fun ds=>U (cl f (E0 ds)) fun d=>if ao d=true then .ok (d,τ) else .ok (d,Fb (ay es) τ)
 | e,τ=>U (EV cl e τ) fun d=>.ok (aL e d τ)
noncomputable def fT (cl:Nat->List D->Res D)(mv:Bool):List IR->Ev->Res (List D×Ev)
 | [],τ=>.ok ([],τ)
 | e::es,τ=>U (Fs cl mv e τ) fun p=>U (fT cl mv es p.2) fun q=>.ok (p.1::q.1,q.2)
end
noncomputable def forM (body:D->Ev->Res Fl):List D->Ev->Res Fl
 | [],τ=>.ok (.nx τ)
 | x::xs,τ=>U (body x τ) fun
  | .nx EW=>forM body xs EW
  | .ct EW=>forM body xs EW
  | .bk EW=>.ok (.nx EW)
  | .rt d=>.ok (.rt d)
noncomputable def bI (test:Ev->Res Bool)(body:Ev->Res Fl):Nat->Ev->Res Fl
 | 0,_=>EY
 | n+1,τ=>U (test τ) fun r=>if r=true then U (body τ) fun
  | .nx EW=>bI test body n EW
  | .ct EW=>bI test body n EW
  | .bk EW=>.ok (.nx EW)
  | .rt d=>.ok (.rt d)
  else .ok (.nx τ)
noncomputable def kQ (cl:Nat->List D->Res D)(s:Sr)(τ:Ev):Res (List D×Ev):=U (dn cl s τ) fun its=>match s with
 | .FO _=>.ok (its,τ)
 | .G4 _ _=>.ok (its,τ)
 | s=>.ok (E0 its,Fb (dN s) τ)
noncomputable def jP:Nat:=1000000
mutual
noncomputable def Gw (cl:Nat->List D->Res D):IS->Ev->Res Fl
 | .asg tg e,τ=>U (Fs cl false e τ) fun p=>U (bP tg p.1 p.2) fun EW=>.ok (.nx EW)
 | .par i j a b,τ=>U (fT cl false [a,b] τ) fun p=>match p.1 with
  | [x,y]=>.ok (.nx ((p.2.set i (some x)).set j (some y)))
  | _=>EY
 | .KR i k e,τ=>U (Fs cl false e τ) fun p=>match ai p.2 i with
  | some (.lst true ds)=>U (EV cl k p.2) fun
   | .int z=>(match KJ ds.length z with
    | some j=>.ok (.nx (p.2.set i (some (.lst true (ds.set j p.1)))))
    | none=>EY)
   | _=>EY
  | _=>EY
 | .app i e,τ=>match ai τ i with
  | some (.lst _ _)=>U (Fs cl false e τ) fun p=>(match ai p.2 i with
   | some (.lst true ds)=>EX (cb ds.length) (.ok (.nx (p.2.set i (some (.lst true (ds++[p.1]))))))
   | _=>EY)
  | _=>EY
 | .Ie i k e,τ=>U (EV cl e τ) fun d=>match ai τ i with
  | some (.Ff true ks ds)=>U (EV cl k τ) fun y=>(match eG y with
   | some q=>EX (ao d&&af ds&&cb ks.length) (.ok (.nx (τ.set i (some (.Ff true (dJ ks q) (cP ks ds q d))))))
   | none=>EY)
  | _=>EY
 | .ext i e,τ=>match ai τ i with
  | some (.lst _ _)=>U (Fs cl false e τ) fun p=>(match p.1,ai p.2 i with
   | .lst _ es,some (.lst true ds)=>EX (aV (ds.length+es.length)) (.ok (.nx (p.2.set i (some (.lst true (ds++es))))))
   | _,_=>EY)
  | _=>EY
 | .ins i k e,τ=>match ai τ i with
  | some (.lst _ _)=>U (EV cl k τ) fun y=>U (Fs cl false e τ) fun p=>(match y,ai p.2 i with
   | .int z,some (.lst true ds)=>EX (decide (0<=z/\z.toNat<=ds.length)&&cb ds.length) (.ok (.nx (p.2.set i (some (.lst true (ds.take z.toNat++p.1::ds.drop z.toNat))))))
   | _,_=>EY)
  | _=>EY
 | .Nw _ _ _,_=>EY
 | .RX i,τ=>match ai τ i with
  | some (.lst true ds)=>.ok (.nx (τ.set i (some (.lst true ds.reverse))))
  | _=>EY
 | .pop j i,τ=>match ai τ i with
  | some (.lst true (.str x::ds))=>.ok (.nx ((τ.set i (some (.lst true ds))).set j (some (.str x))))
  | _=>EY
 | .RY i,τ=>match ai τ i with
  | some (.lst true _)=>.ok (.nx (τ.set i (some (.lst true []))))
  | _=>EY
 | .exp e,τ=>U (EV cl e τ) fun _=>.ok (.nx τ)
 | .ret e,τ=>U (Fs cl true e τ) fun p=>.ok (.rt p.1)
 | .Kl,_=>.ok (.rt .EZ)
 | .Fg t a b,τ=>U (Hk cl t τ) fun r=>if r=true then aG cl a τ else aG cl b τ
 | .Fp tg s body,τ=>U (kQ cl s τ) fun p=>forM (fun x τ=>U (bP tg x τ) fun EW=>aG cl body EW) p.1 p.2
 | .Gv t body,τ=>bI (Hk cl t) (aG cl body) jP τ
 | .brk,τ=>.ok (.bk τ)
 | .cnt,τ=>.ok (.ct τ)
 | .pass,τ=>.ok (.nx τ)
 | .never,_=>EY
 | .JC _ c _,_=>.error (.exc c)
 | .JD _ c e,τ=>U (I0 (EV cl e τ)) fun _=>.error (.exc c)
 | .Nx i f es _ cs k h,τ=>U (I0 (bh cl es τ)) fun ds=>match cl f (E0 ds) with
  | .ok d=>if ao d=true then .ok (.nx (τ.set i (some d))) else .ok (.nx ((Fb (ay es) τ).set i (some d)))
  | .error (.exc c)=>EX (cs.contains c) (U (I0 (aG cl h (τ.set k (some (.exc c))))) fun
   | .nx EW=>.ok (.nx (EW.set k none))
   | _=>EY)
  | .error .stuck=>EY
 | .Ny body _ cs i h,τ=>match aG cl body τ with
  | .ok (.nx EW)=>.ok (.nx EW)
  | .error (.exc c)=>EX (cs.contains c) (U (I0 (aG cl h ((List.replicate τ.length none).set i (some (.exc c))))) fun
   | .nx EW=>.ok (.nx (EW.set i none))
   | _=>EY)
  | _=>EY
noncomputable def aG (cl:Nat->List D->Res D):List IS->Ev->Res Fl
 | [],τ=>.ok (.nx τ)
 | s::r,τ=>U (Gw cl s τ) fun
  | .nx EW=>aG cl r EW
  | .ct EW=>.ok (.ct EW)
  | .bk EW=>.ok (.bk EW)
  | .rt d=>.ok (.rt d)
end
structure Fn where
 np:Nat
 G:Gm
 body:List IS
noncomputable def iS (cl:Nat->List D->Res D)(fn:Fn)(ds:List D):Res D:=
 EX (decide (ds.length=fn.np)) (U (aG cl fn.body (ds.map some++List.replicate (fn.G.N.length - fn.np) none)) fun
  | .nx _=>.ok .EZ
  | .rt d=>.ok d
  | _=>EY)
noncomputable abbrev Tb:=Nat->Option Fn
noncomputable def ae (T:Tb):Nat->Nat->List D->Res D
 | 0,_,_=>EY
 | n+1,f,ds=>match T f with
  | some fn=>iS (ae T n) fn ds
  | none=>EY
theorem Bu {cl:Nat->List D->Res D}{i:Nat}{τ:Ev}:EV cl (.v i) τ=(match ai τ i with|some d=>.ok d|none=>EY):=rfl
theorem Bv {cl:Nat->List D->Res D}{i:Nat}{τ:Ev}{mv:Bool}:Fs cl mv (.v i) τ=(match ai τ i with|some d=>if mv=true then .ok (d,τ.set i none) else .ok (er d,τ.set i (some (er d)))|none=>EY):=rfl
section
variable {X:Cx}{pins:List (Addr×Obj)}{σ:St}{H:Hp}{S:Addr->Prop}{s:Shared}
theorem Inv.Gi (I:Inv X pins σ H s){a:Addr}{xs ys:List V}(h1:FR X.K H a xs)(h2:Gn X.K H a ys):False:=by
 obtain⟨its,_,⟨o,n,e,c,_⟩,_⟩:=I.list h1
 obtain⟨its',_,⟨o',e',c',_⟩,_⟩:=I.tuple h2
 rw[e] at e';cases e'
 rw[c] at c'
 injection c' with c'
 exact absurd c' (by decide)
theorem Inv.GO (I:Inv X pins σ H s){a:Addr}{c:Str}(h:FQ X.K H a (.inr c)):∃ C o vs,PySem.W.nsIn X.K mainGlobals c=some (some (.ref C))/\nameIn X.K C=some c/\s.heap.get? a=some o/\o.cls=.ref C/\o.data=.fields vs:=by
 obtain⟨C,o,vs,h0,h1,h2,h3,h4⟩:=h
 exact⟨C,o,vs,h0,h1,(I.E7 a _ h2).1,h3,h4⟩
theorem Inv.Km (I:Inv X pins σ H s){a:Addr}{c c':Str}(h:FQ X.K H a (.inr c))(k:FQ X.K H a (.inr c')):c=c':=by
 obtain⟨C,o,vs,_,n1,e,c1,_⟩:=I.GO h
 obtain⟨C',o',PY,_,n2,e',c2,_⟩:=I.GO k
 rw[e] at e';cases e'
 rw[c1] at c2;cases c2
 rw[n1] at n2;cases n2
 rfl
theorem Inv.IC (I:Inv X pins σ H s){a:Addr}{c:Str}{xs:List V}(h:FQ X.K H a (.inr c))(k:Gn X.K H a xs):False:=by
 obtain⟨C,o,vs,_,_,e,c1,_⟩:=I.GO h
 obtain⟨its',_,⟨o',e',c',_⟩,_⟩:=I.tuple k
 rw[e] at e';cases e'
 rw[c1] at c';cases c'
theorem Inv.GF (I:Inv X pins σ H s){a:Addr}{c:Str}{xs:List V}(h:FQ X.K H a (.inr c))(k:FR X.K H a xs):False:=by
 obtain⟨C,o,vs,_,_,e,c1,_⟩:=I.GO h
 obtain⟨its',_,⟨o',n,e',c',_⟩,_⟩:=I.list k
 rw[e] at e';cases e'
 rw[c1] at c';cases c'
theorem Inv.Ig (I:Inv X pins σ H s){a:Addr}{kvs:List (Key×V)}(h:Rd H a (.dK kvs)):∃ o es ep,s.heap.get? a=some o/\o.data=.dict es ep:=by
 obtain⟨_,_,vs,_,o,es,ep,e,c,d,_⟩:=h.ok I.E7
 exact⟨o,es,ep,e,d⟩
theorem Inv.ID (I:Inv X pins σ H s){a:Addr}{kvs:List (Key×V)}{xs:List V}(h:Rd H a (.dK kvs))(k:Gn X.K H a xs):False:=by
 obtain⟨o,es,ep,e,d⟩:=I.Ig h
 obtain⟨its',_,⟨o',e',c',n,d'⟩,_⟩:=I.tuple k
 rw[e] at e';cases e'
 rw[d] at d';cases d'
theorem Inv.GG (I:Inv X pins σ H s){a:Addr}{kvs:List (Key×V)}{xs:List V}(h:Rd H a (.dK kvs))(k:FR X.K H a xs):False:=by
 obtain⟨o,es,ep,e,d⟩:=I.Ig h
 obtain⟨its',_,⟨o',n,e',c',n',d'⟩,_⟩:=I.list k
 rw[e] at e';cases e'
 rw[d] at d';cases d'
theorem Inv.IE (I:Inv X pins σ H s){a:Addr}{c:Str}{kvs:List (Key×V)}(h:FQ X.K H a (.inr c))(k:Rd H a (.dK kvs)):False:=by
 obtain⟨C,o,vs,_,_,e,c1,d1⟩:=I.GO h
 obtain⟨o',es,ep,e',d⟩:=I.Ig k
 rw[e] at e';cases e'
 rw[d] at d1;cases d1
theorem Rd.dk {H:Hp}{a:Addr}{u v:List (Key×V)}(h:Rd H a (.dK u))(k:Rd H a (.dK v)):u=v:=by
 rcases h with h|⟨o,h⟩<;>rcases k with k|⟨o',k⟩<;>(rw[h] at k;cases k;try rfl)
mutual
theorem ET.one (I:Inv X pins σ H s):∀ {v:V}{d e:D},ET X.K S H v d->ET X.K S H v e->er d=er e
 | _,_,_,.EZ,h=>by cases h;rfl
 | _,_,_,.bl b,h=>by cases h;rfl
 | _,_,_,.int i,h=>by cases h;rfl
 | _,_,_,.str x,h=>by cases h;rfl
 | _,_,_,.exc h0,h=>by
  cases h with
  | exc k1=>exact congrArg D.exc (I.Km h0 k1)
  | tup k1 k2=>exact(I.IC h0 k1).elim
  | lst k0 k1 k2=>exact(I.GF h0 (.inl k1)).elim
  | lstK k1 k2=>exact(I.GF h0 k1.sq).elim
  | Ff k0 k1 k2 k3=>exact(I.IE h0 k1).elim
 | _,_,_,.tup h1 h2,h=>by
  cases h with
  | exc k1=>exact(I.IC k1 h1).elim
  | tup k1 k2=>
   have e:=I.Gq h1 k1
   subst e
   rw[er,er,ER.one I h2 k2]
  | lst k0 k1 k2=>exact(I.Gi (.inl k1) h1).elim
  | lstK k1 k2=>exact(I.Gi k1.sq h1).elim
  | Ff k0 k1 k2 k3=>exact(I.ID k1 h1).elim
 | _,_,_,.lst h0 h1 h2,h=>by
  cases h with
  | exc k1=>exact(I.GF k1 (.inl h1)).elim
  | tup k1 k2=>exact(I.Gi (.inl h1) k1).elim
  | lst k0 k1 k2=>
   have e:=I.FK (.inl h1) (.inl k1)
   subst e
   rw[er,er,ER.one I h2 k2]
  | lstK k1 k2=>
   have e:=I.FK (.inl h1) k1.sq
   subst e
   rw[er,er,ER.one I h2 k2]
  | Ff k0 k1 k2 k3=>exact(I.GG k1 (.inl h1)).elim
 | _,_,_,.lstK h1 h2,h=>by
  cases h with
  | exc k1=>exact(I.GF k1 h1.sq).elim
  | tup k1 k2=>exact(I.Gi h1.sq k1).elim
  | lst k0 k1 k2=>
   have e:=I.FK h1.sq (.inl k1)
   subst e
   rw[er,er,ER.one I h2 k2]
  | lstK k1 k2=>
   have e:=I.FK h1.sq k1.sq
   subst e
   rw[er,er,ER.one I h2 k2]
  | Ff k0 k1 k2 k3=>exact(I.GG k1 h1.sq).elim
 | _,_,_,.Ff h0 h1 h2 h3,h=>by
  cases h with
  | exc k1=>exact(I.IE k1 h1).elim
  | tup k1 k2=>exact(I.ID h1 k1).elim
  | lst k0 k1 k2=>exact(I.GG h1 (.inl k1)).elim
  | lstK k1 k2=>exact(I.GG h1 k1.sq).elim
  | Ff k0 k1 k2 k3=>
   have e:=Rd.dk h1 k1
   subst e
   rw[er,er,ER.one I h3 k3,<- h2,<- k2]
theorem ER.one (I:Inv X pins σ H s):∀ {vs:List V}{ds es:List D},ER X.K S H vs ds->ER X.K S H vs es->E0 ds=E0 es
 | _,_,_,.nil,h=>by cases h;rfl
 | _,_,_,.cons h1 h2,h=>by
  cases h with
  | cons k1 k2=>rw[E0,E0,ET.one I h1 k1,ER.one I h2 k2]
end
end
theorem bE {α β:Type}{x:Res α}{f:α->Res β}{b:β}(h:U x f=.ok b):∃ a,x=.ok a/\f a=.ok b:=by
 cases x with
 | error e=>cases h
 | ok a=>exact⟨a,rfl,h⟩
theorem zC {α:Type}{c:Bool}{x:Res α}{b:α}(h:EX c x=.ok b):c=true/\x=.ok b:=by
 unfold EX at h
 cases c with
 | true=>exact⟨rfl,h⟩
 | false=>cases h
theorem cB {f:D->D->Res Bool}(hf:∀ d e r,f d e=.ok r->er d=er e->r=true):∀ {ds es:List D}{r:Bool},bO f ds es=.ok r->E0 ds=E0 es->r=true
 | [],[],r,h,_=>by cases h;rfl
 | [],_::_,_,_,h=>by rw[E0,E0] at h;cases h
 | _::_,[],_,_,h=>by rw[E0,E0] at h;cases h
 | a::ds,b::es,r,h,h'=>by
  rw[E0,E0] at h'
  injection h' with e1 e2
  obtain⟨x,hx,h⟩:=bE (show U (f a b) (fun x=>U (bO f ds es) fun y=>.ok (x&&y))=.ok r from h)
  obtain⟨y,hy,h⟩:=bE h
  cases h
  rw[hf a b x hx e1,cB hf hy e2]
  rfl
theorem dO:∀ (n:Nat) (d e:D) (r:Bool),FC n d e=.ok r->er d=er e->r=true
 | 0,_,_,_,h,_=>by cases h
 | n+1,d,e,r,h,h'=>by
  cases d with
  | tup ds=>
   cases e with
   | tup es=>
    rw[er,er] at h'
    injection h' with e1
    exact cB (dO n) h e1
   | EZ=>rw[er,er] at h';cases h'
   | bl _=>rw[er,er] at h';cases h'
   | int _=>rw[er,er] at h';cases h'
   | str _=>rw[er,er] at h';cases h'
   | lst _ _=>rw[er,er] at h';cases h'
   | exc _=>cases h
   | Ff _ _ _=>cases h
  | lst o ds=>
   cases e with
   | lst o' es=>
    rw[er,er] at h'
    injection h' with _ e1
    exact cB (dO n) h e1
   | EZ=>rw[er,er] at h';cases h'
   | bl _=>rw[er,er] at h';cases h'
   | int _=>rw[er,er] at h';cases h'
   | str _=>rw[er,er] at h';cases h'
   | tup _=>rw[er,er] at h';cases h'
   | exc _=>cases h
   | Ff _ _ _=>cases h
  | exc _=>cases h
  | Ff _ _ _=>cases e<;>cases h
  | EZ=>cases e<;>first|(cases h;done)|(cases h;rfl)|(exfalso;simp[er] at h')
  | bl b=>cases e<;>first|(simp only[er,D.bl.injEq] at h';subst h';cases h;simp)|(exfalso;simp[er] at h')
  | int b=>cases e<;>first|(simp only[er,D.int.injEq] at h';subst h';cases h;simp)|(exfalso;simp[er] at h')
  | str b=>cases e<;>first|(simp only[er,D.str.injEq] at h';subst h';cases h;simp)|(exfalso;simp[er] at h')
theorem jQ {f:D->D->Res Bool}:∀ {ds es:List D}{r:Bool},bO f ds es=.ok r->ds.length≠es.length->r=false
 | [],[],_,_,h=>absurd rfl h
 | [],_::_,_,h,_=>by cases h;rfl
 | _::_,[],_,h,_=>by cases h;rfl
 | a::ds,b::es,r,h,n=>by
  obtain⟨x,hx,h⟩:=bE (show U (f a b) (fun x=>U (bO f ds es) fun y=>.ok (x&&y))=.ok r from h)
  obtain⟨y,hy,h⟩:=bE h
  cases h
  rw[jQ hy (fun z=>n (by rw[List.length_cons,List.length_cons,z]))]
  simp
theorem l9 {f:D->D->Res Bool}:∀ {ds es:List D}{r:Bool},bO f ds es=.ok r->ds.length=es.length->
  ∃ e:Nat->Bool,(∀ j a b,ds[j]? = some a->es[j]? = some b->f a b=.ok (e j))/\r=(List.range ds.length).all e
 | [],[],r,h,_=>by cases h;exact⟨fun _=>true,fun j a b h=>by simp at h,rfl⟩
 | [],_::_,_,_,h=>by cases h
 | _::_,[],_,_,h=>by cases h
 | a::ds,b::es,r,h,n=>by
  obtain⟨x,hx,h⟩:=bE (show U (f a b) (fun x=>U (bO f ds es) fun y=>.ok (x&&y))=.ok r from h)
  obtain⟨y,hy,h⟩:=bE h
  cases h
  obtain⟨e,h1,h2⟩:=l9 hy (by simpa using n)
  refine⟨fun j=>match j with|0=>x|k+1=>e k,fun j a' b' e1 e2=>?_,?_⟩
  ·cases j with
   | zero=>simp at e1 e2;subst e1 e2;exact hx
   | succ k=>exact h1 k a' b' (by simpa using e1) (by simpa using e2)
  ·rw[h2,List.length_cons,List.range_succ_eq_map,List.all_cons,List.all_map]
   rfl
section
variable {X:Cx}{pins:List (Addr×Obj)}{σ:St}{H:Hp}{S:Addr->Prop}{s:Shared}
structure KU (A:Around)(s:Shared)(v u:Value)(r:Bool):Prop where
 eq:EqAt A s v u r
 rc:RcAt A s v u r
 ne:RcNeAt A s v u (!r)
theorem jR (n:Nat)(A:Around)(ih:∀ (x y:V)(v u:Value)(d e:D)(r:Bool),ET X.K S H x d->ET X.K S H y e->RelV x v->RelV y u->FC n d e=.ok r->EqAt A.in1 s v u r)
  {xs ys:List V}{ds es:List D}{its its':List Value}{r:Bool} (rv:Vals xs its) (JO:Vals ys its') (h2:ER X.K S H xs ds) (k2:ER X.K S H ys es) (hr:bO (FC n) ds es=.ok r) :
  ∃ e:Nat->Bool,(∀ j (q1:j < its.toArray.size) (q2:j < its'.toArray.size),EqAt A.in1 s its.toArray[j] its'.toArray[j] (e j))/\r=((List.range (min its.toArray.size its'.toArray.size)).all e&&its.toArray.size == its'.toArray.size):=by
 have l1:=h2.length
 have l2:=k2.length
 have l3:=rv.length
 have l4:=JO.length
 have pair:∀ j (j1:j < its.toArray.size) (j2:j < its'.toArray.size) (b:Bool) (d1:j < ds.length) (d2:j < es.length),FC n ds[j] es[j]=.ok b->EqAt A.in1 s its.toArray[j] its'.toArray[j] b:=by
  intro j j1 j2 b d1 d2 hb
  obtain⟨x',e1,m1⟩:=h2.get (i:=j) (d:=ds[j]) (by simp)
  obtain⟨y',e2,m2⟩:=k2.get (i:=j) (d:=es[j]) (by simp)
  obtain⟨v',ev,Kg⟩:=rv.get e1
  obtain⟨u',eu,PR⟩:=JO.get e2
  have hv:its.toArray[j]=v':=by
   have:=(List.getElem?_eq_some_iff.mp ev).2
   simpa using this
  have OQ:its'.toArray[j]=u':=by
   have:=(List.getElem?_eq_some_iff.mp eu).2
   simpa using this
  rw[hv,OQ]
  exact ih x' y' v' u' _ _ _ m1 m2 Kg PR hb
 have z1:its.toArray.size=ds.length:=by simp;omega
 have z2:its'.toArray.size=es.length:=by simp;omega
 by_cases hl:ds.length=es.length
 ·obtain⟨e,q1,q2⟩:=l9 hr hl
  refine⟨e,fun j j1 j2=>pair j j1 j2 _ (by omega) (by omega) (q1 j _ _ (by simp) (by simp)),?_⟩
  rw[q2,z1,z2,hl]
  simp
 ·have LF:=jQ hr hl
  have each:∀ (ds es:List D) (r:Bool),bO (FC n) ds es=.ok r->∀ j (q1:j < ds.length) (q2:j < es.length),∃ b,FC n ds[j] es[j]=.ok b:=by
   intro ds
   induction ds with
   | nil=>intro es r _ j q1;simp at q1
   | cons a ds ih=>
    intro es r h j q1 q2
    cases es with
    | nil=>simp at q2
    | cons b es=>
     obtain⟨x,hx,h⟩:=bE (show U (FC n a b) (fun x=>U (bO (FC n) ds es) fun y=>.ok (x&&y))=.ok r from h)
     obtain⟨y,hy,h⟩:=bE h
     cases j with
     | zero=>exact⟨x,hx⟩
     | succ k=>exact ih es y hy k (by simpa using q1) (by simpa using q2)
  refine⟨fun j=>if q:j < ds.length/\j < es.length then ((match FC n (ds[j]'q.1) (es[j]'q.2) with|.ok b=>b|.error _=>false)) else false,fun j j1 j2=>?_,?_⟩
  ·have d1:j < ds.length:=by omega
   have d2:j < es.length:=by omega
   obtain⟨b,hb⟩:=each ds es r hr j d1 d2
   have q:=pair j j1 j2 b d1 d2 hb
   show EqAt A.in1 s its.toArray[j] its'.toArray[j] (dite _ _ _)
   rw[dif_pos (show j < ds.length/\j < es.length from ⟨d1,d2⟩),hb]
   exact q
  ·rw[LF]
   have:(its.toArray.size == its'.toArray.size)=false:=by
    rw[beq_eq_false_iff_ne,z1,z2]
    exact hl
   rw[this,Bool.and_false]
theorem p5 (I:Inv X pins σ H s)(n:Nat)(A:Around)(ih:∀ (x y:V)(v u:Value)(d e:D)(r:Bool),ET X.K S H x d->ET X.K S H y e->RelV x v->RelV y u->FC n d e=.ok r->EqAt A.in1 s v u r)
  {a b:Addr}{o o':Bool}{xs ys:List V}{ds es:List D}{r:Bool} (ha:FR X.K H a xs) (hb:FR X.K H b ys) (h2:ER X.K S H xs ds) (k2:ER X.K S H ys es)
  (m1:ET X.K S H (.ref a) (.lst o ds)) (m2:ET X.K S H (.ref b) (.lst o' es)) (hr:bO (FC n) ds es=.ok r) (Fm:A.units < cLine):KU A s (.ref a) (.ref b) r:=by
 obtain⟨its,rv,p,_⟩:=I.list ha
 obtain⟨its',JO,p',_⟩:=I.list hb
 obtain⟨e,he,Mx⟩:=jR n A ih rv JO h2 k2 hr
 have both:RcAt A s (.ref a) (.ref b) r/\RcNeAt A s (.ref a) (.ref b) (!r):=by
  by_cases hl:its.toArray.size=its'.toArray.size
  ·have LG:r=(List.range its.toArray.size).all e:=by
    rw[Mx,<- hl,Nat.min_self]
    simp
   rw[LG]
   exact⟨.lists p.isList p'.isList hl Fm he,.lists p.isList p'.isList hl Fm he⟩
  ·have Hw:(its.toArray.size != its'.toArray.size)=true:=by simpa using hl
   have LG:r=false:=by
    rw[Mx]
    have:(its.toArray.size == its'.toArray.size)=false:=by rw[beq_eq_false_iff_ne];exact hl
    rw[this,Bool.and_false]
   rw[LG]
   exact⟨.lists_lengths p.isList p'.isList Hw Fm,.lists_lengths p.isList p'.isList Hw Fm⟩
 refine⟨?_,both.1,both.2⟩
 by_cases IW:a=b
 ·subst IW
  have hd:=ET.one I m1 m2
  rw[er,er] at hd
  injection hd with _ hd
  rw[cB (dO n) hr hd]
  exact .same _
 ·exact .of_refs IW both.1
set_option maxHeartbeats 4000000 in
theorem iT (I:Inv X pins σ H s):∀ (n:Nat) (A:Around) (x y:V) (v u:Value) (d e:D) (r:Bool),ET X.K S H x d->ET X.K S H y e->RelV x v->RelV y u->FC n d e=.ok r->
  A.units+n < cLine->KU A s v u r
 | 0,_,_,_,_,_,_,_,_,_,_,_,_,h,_=>by cases h
 | n+1,A,x,y,v,u,d,e,r,hx,hy,rx,ry,h,hu=>by
  have Fm:A.units < cLine:=by omega
  have PQ:A.in1.units+n < cLine:=by show A.units+1+n < cLine;omega
  have ih:∀ (x y:V) (v u:Value) (d e:D) (r:Bool),ET X.K S H x d->ET X.K S H y e->RelV x v->RelV y u->FC n d e=.ok r->EqAt A.in1 s v u r:=
   fun x y v u d e r a1 a2 a3 a4 a5=>(iT I n A.in1 x y v u d e r a1 a2 a3 a4 a5 PQ).eq
  cases d with
  | EZ=>
   cases hx.GC;cases rx
   cases e with
   | EZ=>cases hy.GC;cases ry;cases h;exact⟨.same _,.none_none,.none_none⟩
   | bl b'=>cases hy.Jm;cases ry;cases h;exact⟨.none_bool _,.none_bool _,.none_bool _⟩
   | int i'=>cases hy.E9;obtain⟨t2,rfl⟩:=ry;cases h;exact⟨.none_int _ _,.none_int _ _,.none_int _ _⟩
   | str z'=>cases hy.Ft;obtain⟨t2,rfl⟩:=ry;cases h;exact⟨.none_str _ _,.none_str _ _,.none_str _ _⟩
   | tup es=>obtain⟨a2,JE,rfl,q2,m2⟩:=hy.F0;cases ry;obtain⟨Fy,HD,p2,_⟩:=I.tuple q2;cases h;exact⟨.none_tuple p2 Fm,.none_tuple p2 Fm,.none_tuple p2 Fm⟩
   | lst o' es=>obtain⟨a2,JE,rfl,q2,m2⟩:=hy.FF;cases ry;obtain⟨Fy,HD,p2,_⟩:=I.list q2;cases h;exact⟨.none_list p2.isList Fm,.none_list p2.isList Fm,.none_list p2.isList Fm⟩
   | exc _=>cases h
   | Ff _ _ _=>cases h
  | bl b=>
   cases hx.Jm;cases rx
   cases e with
   | EZ=>cases hy.GC;cases ry;cases h;exact⟨.bool_none _,.bool_none _,.bool_none _⟩
   | bl b'=>cases hy.Jm;cases ry;cases h;exact⟨.bool_bool _ _,.bool_bool _ _,.bool_bool _ _⟩
   | int i'=>cases hy.E9;obtain⟨t2,rfl⟩:=ry;cases h;exact⟨.bool_int _ _ _,.bool_int _ _ _,.bool_int _ _ _⟩
   | str z'=>cases hy.Ft;obtain⟨t2,rfl⟩:=ry;cases h;exact⟨.bool_str _ _ _,.bool_str _ _ _,.bool_str _ _ _⟩
   | tup es=>obtain⟨a2,JE,rfl,q2,m2⟩:=hy.F0;cases ry;obtain⟨Fy,HD,p2,_⟩:=I.tuple q2;cases h;exact⟨.bool_tuple _ p2 Fm,.bool_tuple _ p2 Fm,.bool_tuple _ p2 Fm⟩
   | lst o' es=>obtain⟨a2,JE,rfl,q2,m2⟩:=hy.FF;cases ry;obtain⟨Fy,HD,p2,_⟩:=I.list q2;cases h;exact⟨.bool_list _ p2.isList Fm,.bool_list _ p2.isList Fm,.bool_list _ p2.isList Fm⟩
   | exc _=>cases h
   | Ff _ _ _=>cases h
  | int i=>
   cases hx.E9;obtain⟨t1,rfl⟩:=rx
   cases e with
   | EZ=>cases hy.GC;cases ry;cases h;exact⟨.int_none _ _,.int_none _ _,.int_none _ _⟩
   | bl b'=>cases hy.Jm;cases ry;cases h;exact⟨.int_bool _ _ _,.int_bool _ _ _,.int_bool _ _ _⟩
   | int i'=>cases hy.E9;obtain⟨t2,rfl⟩:=ry;cases h;exact⟨.int_int _ _ _ _,.int_int _ _ _ _,.int_int _ _ _ _⟩
   | str z'=>cases hy.Ft;obtain⟨t2,rfl⟩:=ry;cases h;exact⟨.int_str _ _ _ _,.int_str _ _ _ _,.int_str _ _ _ _⟩
   | tup es=>obtain⟨a2,JE,rfl,q2,m2⟩:=hy.F0;cases ry;obtain⟨Fy,HD,p2,_⟩:=I.tuple q2;cases h;exact⟨.int_tuple _ _ p2 Fm,.int_tuple _ _ p2 Fm,.int_tuple _ _ p2 Fm⟩
   | lst o' es=>obtain⟨a2,JE,rfl,q2,m2⟩:=hy.FF;cases ry;obtain⟨Fy,HD,p2,_⟩:=I.list q2;cases h;exact⟨.int_list _ _ p2.isList Fm,.int_list _ _ p2.isList Fm,.int_list _ _ p2.isList Fm⟩
   | exc _=>cases h
   | Ff _ _ _=>cases h
  | str z=>
   cases hx.Ft;obtain⟨t1,rfl⟩:=rx
   cases e with
   | EZ=>cases hy.GC;cases ry;cases h;exact⟨.str_none _ _,.str_none _ _,.str_none _ _⟩
   | bl b'=>cases hy.Jm;cases ry;cases h;exact⟨.str_bool _ _ _,.str_bool _ _ _,.str_bool _ _ _⟩
   | int i'=>cases hy.E9;obtain⟨t2,rfl⟩:=ry;cases h;exact⟨.str_int _ _ _ _,.str_int _ _ _ _,.str_int _ _ _ _⟩
   | str z'=>cases hy.Ft;obtain⟨t2,rfl⟩:=ry;cases h;exact⟨.str_str _ _ _ _,.str_str _ _ _ _,.str_str _ _ _ _⟩
   | tup es=>obtain⟨a2,JE,rfl,q2,m2⟩:=hy.F0;cases ry;obtain⟨Fy,HD,p2,_⟩:=I.tuple q2;cases h;exact⟨.str_tuple _ _ p2 Fm,.str_tuple _ _ p2 Fm,.str_tuple _ _ p2 Fm⟩
   | lst o' es=>obtain⟨a2,JE,rfl,q2,m2⟩:=hy.FF;cases ry;obtain⟨Fy,HD,p2,_⟩:=I.list q2;cases h;exact⟨.str_list _ _ p2.isList Fm,.str_list _ _ p2.isList Fm,.str_list _ _ p2.isList Fm⟩
   | exc _=>cases h
   | Ff _ _ _=>cases h
  | tup ds=>
   obtain⟨a1,OR,rfl,q1,m1⟩:=hx.F0;cases rx;obtain⟨Kf,Kg,p1,_⟩:=I.tuple q1
   cases e with
   | EZ=>cases hy.GC;cases ry;cases h;exact⟨.tuple_none p1 Fm,.tuple_none p1 Fm,.tuple_none p1 Fm⟩
   | bl b'=>cases hy.Jm;cases ry;cases h;exact⟨.tuple_bool _ p1 Fm,.tuple_bool _ p1 Fm,.tuple_bool _ p1 Fm⟩
   | int i'=>cases hy.E9;obtain⟨t2,rfl⟩:=ry;cases h;exact⟨.tuple_int _ _ p1 Fm,.tuple_int _ _ p1 Fm,.tuple_int _ _ p1 Fm⟩
   | str z'=>cases hy.Ft;obtain⟨t2,rfl⟩:=ry;cases h;exact⟨.tuple_str _ _ p1 Fm,.tuple_str _ _ p1 Fm,.tuple_str _ _ p1 Fm⟩
   | tup es=>
    have FT:=hx
    have Lx:=hy
    obtain⟨a2,JE,rfl,q2,m2⟩:=hy.F0;cases ry;obtain⟨Fy,HD,p2,_⟩:=I.tuple q2
    have hr:bO (FC n) ds es=.ok r:=h
    obtain⟨e,he,Mx⟩:=jR n A ih Kg HD m1 m2 hr
    refine⟨?_,?_,?_⟩
    ·by_cases IW:a1=a2
     ·subst IW
      have hd:=ET.one I FT Lx
      rw[er,er] at hd
      injection hd with hd
      rw[cB (dO n) hr hd]
      exact .same _
     ·rw[Mx]
      exact .of_refs IW (.tuples p1 p2 Fm he)
    ·rw[Mx]
     exact .tuples p1 p2 Fm he
    ·rw[Mx]
     exact .tuples p1 p2 Fm he
   | lst o' es=>obtain⟨a2,JE,rfl,q2,m2⟩:=hy.FF;cases ry;obtain⟨Fy,HD,p2,_⟩:=I.list q2;cases h;exact⟨.tuple_list p1 p2.isList Fm,.tuple_list p1 p2.isList Fm,.tuple_list p1 p2.isList Fm⟩
   | exc _=>cases h
   | Ff _ _ _=>cases h
  | lst o ds=>
   obtain⟨a1,OR,rfl,q1,m1⟩:=hx.FF;cases rx;obtain⟨Kf,Kg,p1,_⟩:=I.list q1
   cases e with
   | EZ=>cases hy.GC;cases ry;cases h;exact⟨.list_none p1.isList Fm,.list_none p1.isList Fm,.list_none p1.isList Fm⟩
   | bl b'=>cases hy.Jm;cases ry;cases h;exact⟨.list_bool _ p1.isList Fm,.list_bool _ p1.isList Fm,.list_bool _ p1.isList Fm⟩
   | int i'=>cases hy.E9;obtain⟨t2,rfl⟩:=ry;cases h;exact⟨.list_int _ _ p1.isList Fm,.list_int _ _ p1.isList Fm,.list_int _ _ p1.isList Fm⟩
   | str z'=>cases hy.Ft;obtain⟨t2,rfl⟩:=ry;cases h;exact⟨.list_str _ _ p1.isList Fm,.list_str _ _ p1.isList Fm,.list_str _ _ p1.isList Fm⟩
   | tup es=>obtain⟨a2,JE,rfl,q2,m2⟩:=hy.F0;cases ry;obtain⟨Fy,HD,p2,_⟩:=I.tuple q2;cases h;exact⟨.list_tuple p1.isList p2 Fm,.list_tuple p1.isList p2 Fm,.list_tuple p1.isList p2 Fm⟩
   | lst o' es=>
    have FT:=hx
    have Lx:=hy
    obtain⟨a2,JE,rfl,q2,m2⟩:=hy.FF;cases ry;obtain⟨Fy,HD,p2,_⟩:=I.list q2
    exact p5 I n A ih q1 q2 m1 m2 FT Lx h Fm
   | exc _=>cases h
   | Ff _ _ _=>cases h
  | exc _=>cases h
  | Ff _ _ _=>cases e<;>cases h
end
abbrev nw (S:Addr->Prop)(H:Hp):Addr->Prop:=fun a=>S a∨H a=none
abbrev Kk (K:PySem.W.Frag)(S:Addr->Prop)(H:Hp)(Q:VK):D->Prop:=fun d=>∀ w H',ak H H'->ET K (nw S H) H' w d->Q w H'
theorem ET.nw {K:PySem.W.Frag}{S:Addr->Prop}{H:Hp}{v:V}{d:D}(h:ET K S H v d):ET K (nw S H) H v d:=h.mono (fun _=>.inl) (.refl _)
theorem zD {K:PySem.W.Frag}{S:Addr->Prop}{H:Hp}{p:Addr}{vs:List V}{ds:List D}(hp:H p=none)(h:ER K S H vs ds):ET K (nw S H) (upd H p (.tup vs)) (.ref p) (.tup ds):=
 .tup (.inl (.inl av)) (h.mono (fun _=>.inl) (.upd hp))
theorem uT {K:PySem.W.Frag}{S:Addr->Prop}{H:Hp}{p:Addr}{vs:List V}{ds:List D}{o:Bool}(hp:H p=none)(h:ER K S H vs ds):ET K (nw S H) (upd H p (.lst vs)) (.ref p) (.lst o ds):=
 .lst (.inr hp) (.inl av) (h.mono (fun _=>.inl) (.upd hp))
noncomputable def LH:JA->Operator
 | .add=>.Add|.sub=>.Sub|.mul=>.Mult|.fdiv=>.FloorDiv|.mod=>.Mod|.pow=>.Pow
noncomputable def LI:IY->CmpOp
 | .eq=>.Eq|.ne=>.NotEq|.lt=>.Lt|.le=>.LtE|.gt=>.Gt|.ge=>.GtE|.Hy=>.In|.JB=>.NotIn|.IZ=>.Is|.LC=>.IsNot
noncomputable def EA (K:PySem.W.Frag)(ex:Str->Prop)(op:JA):R2:=fun x y H Q=>∃ S d e,ET K S H x d/\ET K S H y e/\ES ex (GW op d e) (Kk K S H Q)
noncomputable def EB (K:PySem.W.Frag)(ex:Str->Prop)(op:IY):R2:=fun x y H Q=>∃ S d e,ET K S H x d/\ET K S H y e/\ES ex (G5 op d e) fun r=>Q (.bl r) H
section
variable {X:Cx}{ex:Str->Prop}
theorem bq {n:Nat}(h:aV n=true):n<=sizeLine:=of_decide_eq_true h
theorem e9 {n:Nat}(h:cb n=true):n < sizeLine:=of_decide_eq_true h
theorem ma:HS X (binaryOp .Add) (fun x y H Q=>∃ l b xs zs,x=.ref l/\y=.ref b/\Ls X.K H l xs/\Ls X.K H b zs/\xs.length+zs.length<=sizeLine/\∀ p,H p=none->Q (.ref p) (upd H p (.lst (xs++zs)))):=by
 intro pins s σ H x y v u Q I rx ry h
 obtain⟨l,b,xs,zs,rfl,rfl,hH,hB,hz,q⟩:=h
 cases rx
 cases ry
 obtain⟨hl,its,n,r,e⟩:=I.ls hH
 obtain⟨Mw,Fy,n2,r2,e'⟩:=I.ls hB
 have e1:=r.length
 have e2:=r2.length
 refine PySem.P.add_list e e' ?_ (by rw[List.size_toArray,List.size_toArray];omega)
 have ea:its.toArray++Fy.toArray=(its++Fy).toArray:=by simp
 rw[ea]
 exact⟨.ref _,_,I.M' (t':=s.toks) (r.append r2) (by rw[List.length_append];omega),rfl,q _ I.fresh⟩
theorem zE (op:JA):HS X (binaryOp (LH op)) (EA X.K ex op):=by
 intro pins s σ H x y v u Q I rx ry h
 obtain⟨S,d,e,hx,hy,h⟩:=h
 have stuck:∀ {P:Prop},GW op d e=EY->P:=fun z=>by rw[z] at h;exact h.no.elim
 cases op with
 | add=>
  cases d with
  | int a=>
   cases e with
   | int b=>cases hx.E9;cases hy.E9;exact yV pins s σ H _ _ v u Q I rx ry ⟨a,b,rfl,rfl,h.ok _ _ (.refl _) (.int _)⟩
   | _=>exact stuck rfl
  | str a=>
   cases e with
   | str b=>
    cases hx.Ft;cases hy.Ft
    obtain⟨g,h⟩:=ES.EX h
    exact kF pins s σ H _ _ v u Q I rx ry ⟨a,b,rfl,rfl,bq g,h.ok _ _ (.refl _) (.str _)⟩
   | _=>exact stuck rfl
  | lst o a=>
   cases e with
   | lst o' b=>
    obtain⟨p,xs,rfl,q1,m1⟩:=hx.Ki
    obtain⟨p',ys,rfl,q2,m2⟩:=hy.Ki
    obtain⟨g,h⟩:=ES.EX h
    have g':=bq g
    have l1:=m1.length
    have l2:=m2.length
    exact ma pins s σ H _ _ v u Q I rx ry ⟨p,p',xs,ys,rfl,rfl,q1,q2,by omega,fun z hz=>h.ok _ _ (.upd hz) (uT hz (m1.append m2))⟩
   | _=>exact stuck rfl
  | _=>exact stuck rfl
 | sub=>
  cases d with
  | int a=>
   cases e with
   | int b=>cases hx.E9;cases hy.E9;exact yW pins s σ H _ _ v u Q I rx ry ⟨a,b,rfl,rfl,h.ok _ _ (.refl _) (.int _)⟩
   | _=>exact stuck rfl
  | _=>exact stuck rfl
 | mul=>
  cases d with
  | int a=>
   cases e with
   | int b=>
    cases hx.E9;cases hy.E9
    obtain⟨g,h⟩:=ES.EX h
    rw[Bool.or_eq_true] at g
    exact yX pins s σ H _ _ v u Q I rx ry ⟨a,b,rfl,rfl,g.elim (fun z=>.inl (of_decide_eq_true z)) (fun z=>.inr (of_decide_eq_true z)),h.ok _ _ (.refl _) (.int _)⟩
   | _=>exact stuck rfl
  | str a=>
   cases e with
   | int b=>
    cases hx.Ft;cases hy.E9
    obtain⟨g,h⟩:=ES.EX h
    have g':=of_decide_eq_true g
    exact kJ pins s σ H _ _ v u Q I rx ry ⟨a,b,rfl,rfl,g'.1,g'.2.1,g'.2.2,h.ok _ _ (.refl _) (.str _)⟩
   | _=>exact stuck rfl
  | lst _ _=>cases e<;>exact stuck rfl
  | _=>exact stuck rfl
 | fdiv=>
  cases d with
  | int a=>
   cases e with
   | int b=>
    cases hx.E9;cases hy.E9
    obtain⟨g,h⟩:=ES.EX h
    exact uj pins s σ H _ _ v u Q I rx ry ⟨a,b,rfl,rfl,show 0 < b/\b < 1073741824 from of_decide_eq_true g,h.ok _ _ (.refl _) (.int _)⟩
   | _=>exact stuck rfl
  | _=>exact stuck rfl
 | mod=>
  cases d with
  | int a=>
   cases e with
   | int b=>
    cases hx.E9;cases hy.E9
    obtain⟨g,h⟩:=ES.EX h
    exact yY pins s σ H _ _ v u Q I rx ry ⟨a,b,rfl,rfl,of_decide_eq_true g,h.ok _ _ (.refl _) (.int _)⟩
   | _=>exact stuck rfl
  | _=>exact stuck rfl
 | pow=>
  cases d with
  | int a=>
   cases e with
   | int b=>
    cases hx.E9;cases hy.E9
    obtain⟨g,h⟩:=ES.EX h
    exact yZ pins s σ H _ _ v u Q I rx ry ⟨a,b,rfl,rfl,show 0<=b/\b<=1000000/\a.natAbs < 2 ^ 64 from of_decide_eq_true g,h.ok _ _ (.refl _) (.int _)⟩
   | _=>exact stuck rfl
  | _=>exact stuck rfl
theorem ES.FC {ex:Str->Prop}:∀ {n:Nat}{d e:D}{k:Bool->Prop},ES ex (L2.FC n d e) k->∃ r,L2.FC n d e=.ok r/\k r:=by
 have no:∀ (n:Nat) (d e:D) (c:Str),L2.FC n d e≠.error (.exc c):=by
  intro n
  have Qa:∀ (f:D->D->Res Bool),(∀ d e c,f d e≠.error (.exc c))->∀ (ds es:List D) (c:Str),bO f ds es≠.error (.exc c):=by
   intro f hf ds
   induction ds with
   | nil=>intro es c h;cases es<;>cases h
   | cons a ds ih=>
    intro es c h
    cases es with
    | nil=>cases h
    | cons b es=>
     have h':L2.U (f a b) (fun x=>L2.U (bO f ds es) fun y=>.ok (x&&y))=.error (.exc c):=h
     cases q:f a b with
     | error z=>rw[q] at h';exact hf a b c (by rw[q];exact h')
     | ok x=>
      rw[q] at h'
      have h2:L2.U (bO f ds es) (fun y=>.ok (x&&y))=.error (.exc c):=h'
      cases q2:bO f ds es with
      | error z=>rw[q2] at h2;exact ih es c (by rw[q2];exact h2)
      | ok y=>rw[q2] at h2;cases h2
  induction n with
  | zero=>intro d e c h;cases h
  | succ n ih=>
   intro d e c h
   cases d<;>cases e<;>first|cases h|exact Qa _ ih _ _ _ h
 intro n d e k h
 cases q:L2.FC n d e with
 | ok r=>rw[q] at h;exact⟨r,rfl,h⟩
 | error z=>
  rw[q] at h
  cases z with
  | stuck=>exact h.no.elim
  | exc c=>exact absurd q (no n d e c)
theorem ES.Fh {ex:Str->Prop}{d:D}:∀ {ds:List D}{k:Bool->Prop},ES ex (L2.Fh d ds) k->∃ f:Nat->Bool,(∀ i e,ds[i]? = some e->L2.FC 40 e d=.ok (f i))/\k ((List.range ds.length).any f)
 | [],k,h=>⟨fun _=>false,fun i e z=>by simp at z,h⟩
 | e::r,k,h=>by
  obtain⟨x,Q4,h1⟩:=ES.FC (ES.U h)
  obtain⟨f,h2,h3⟩:=ES.Fh (ES.U h1)
  refine⟨fun i=>match i with|0=>x|j+1=>f j,fun i e' z=>?_,?_⟩
  ·cases i with
   | zero=>simp at z;subst z;exact Q4
   | succ j=>exact h2 j e' (by simpa using z)
  ·rw[List.length_cons,List.range_succ_eq_map,List.any_cons,List.any_map]
   exact h3
theorem kR {A:Around}{s:Shared}{v:Value}(its:List Value)(f:Nat->Bool)(h:∀ i u,its[i]? = some u->EqAt A s u v (f i)) :
  ∃ e:Value->Bool,(∀ y,y∈its.toArray->EqAt A s y v (e y))/\its.toArray.any e=(List.range its.length).any f:=by
 classical
 refine⟨fun y=>decide (∃ i,its[i]? = some y/\f i=true),fun y hy=>?_,?_⟩
 ·have Lx:y∈its:=by simpa using hy
  obtain⟨j,hj⟩:=List.getElem?_of_mem Lx
  show EqAt A s y v (decide (∃ i,its[i]? = some y/\f i=true))
  by_cases q:∃ i,its[i]? = some y/\f i=true
  ·rw[decide_eq_true q]
   obtain⟨i,hi,fi⟩:=q
   have:=h i y hi
   rw[fi] at this
   exact this
  ·rw[decide_eq_false q]
   have:=h j y hj
   have fj:f j=false:=by
    cases z:f j with
    | false=>rfl
    | true=>exact absurd ⟨j,hj,z⟩ q
   rw[fj] at this
   exact this
 ·rw[Bool.eq_iff_iff]
  simp only[List.any_toArray,List.any_eq_true,List.mem_range,decide_eq_true_eq]
  constructor
  ·rintro ⟨y,hy,i,hi,fi⟩
   exact⟨i,(List.getElem?_eq_some_iff.mp hi).1,fi⟩
  ·rintro ⟨i,hi,fi⟩
   exact⟨its[i],List.getElem_mem hi,i,by simp[hi],fi⟩
theorem c9 (hu:X.A.units+42 < cLine){pins:List (Addr×Obj)}{s:Shared}{σ:St}{H:Hp}{S:Addr->Prop}{x:V}{v:Value}{d:D}{k:Bool->Prop}(I:Inv X pins σ H s)(rx:RelV x v)(hx:ET X.K S H x d)
  {xs:List V}{its:List Value}{ds:List D} (rv:Vals xs its) (m:ER X.K S H xs ds) (h:ES ex (Fh d ds) k) :
  ∃ e:Value->Bool,(∀ y,y∈its.toArray->EqAt X.A.in1 s y v (e y))/\k (its.toArray.any e):=by
 obtain⟨f,h1,h2⟩:=ES.Fh h
 have l1:=rv.length
 have l2:=m.length
 obtain⟨e,h3,h4⟩:=kR (A:=X.A.in1) (s:=s) (v:=v) its f fun i u hi=>by
  have FH:i < its.length:=(List.getElem?_eq_some_iff.mp hi).1
  obtain⟨y,hy,my⟩:=m.get (i:=i) (d:=ds[i]'(by omega)) (by simp)
  obtain⟨u',OQ,ru⟩:=rv.get hy
  rw[hi] at OQ;cases OQ
  exact(iT I 40 X.A.in1 y x u v _ d _ my hx ru rx (h1 i _ (by simp)) (by show X.A.units+1+40 < cLine;omega)).eq
 refine⟨e,h3,?_⟩
 rw[h4,show its.length=ds.length by omega]
 exact h2
theorem p6 (hu:X.A.units+42 < cLine)(op:IY):HS X (compareOp (LI op)) (EB X.K ex op):=by
 intro pins s σ H x y v u Q I rx ry h
 obtain⟨S,d,e,hx,hy,h⟩:=h
 have stuck:∀ {P:Prop},G5 op d e=EY->P:=fun z=>by rw[z] at h;exact h.no.elim
 have fin:∀ {b:Bool},Q (.bl b) H->EP X pins σ Q (.bool b) s:=fun q=>⟨.bl _,H,I,rfl,q⟩
 cases op with
 | eq=>
  obtain⟨r,h1,h2⟩:=ES.FC h
  exact(iT I 40 X.A x y v u d e r hx hy rx ry h1 (by omega)).rc _ _ _ _ (fin h2)
 | ne=>
  obtain⟨r,h1,h2⟩:=ES.FC (ES.U h)
  exact(iT I 40 X.A x y v u d e r hx hy rx ry h1 (by omega)).ne _ _ _ _ (fin h2.ok)
 | lt=>
  cases d with
  | int a=>
   cases e with
   | int b=>cases hx.E9;cases hy.E9;obtain⟨t,rfl⟩:=rx;obtain⟨t',rfl⟩:=ry;exact lt_int (fin h.ok)
   | _=>exact stuck rfl
  | _=>exact stuck rfl
 | le=>
  cases d with
  | int a=>
   cases e with
   | int b=>cases hx.E9;cases hy.E9;obtain⟨t,rfl⟩:=rx;obtain⟨t',rfl⟩:=ry;exact le_int (fin h.ok)
   | _=>exact stuck rfl
  | _=>exact stuck rfl
 | gt=>
  cases d with
  | int a=>
   cases e with
   | int b=>cases hx.E9;cases hy.E9;obtain⟨t,rfl⟩:=rx;obtain⟨t',rfl⟩:=ry;exact gt_int (fin h.ok)
   | _=>exact stuck rfl
  | _=>exact stuck rfl
 | ge=>cases d<;>cases e<;>exact stuck rfl
 | Hy=>
  cases e with
  | str b=>
   cases d with
   | str a=>cases hx.Ft;cases hy.Ft;obtain⟨t,rfl⟩:=rx;obtain⟨t',rfl⟩:=ry;exact in_str (fin h.ok)
   | _=>exact stuck rfl
  | lst o ds=>
   obtain⟨a,xs,rfl,q1,m1⟩:=hy.FF
   cases ry
   obtain⟨its,rv,pl,_⟩:=I.list q1
   obtain⟨e,h1,h2⟩:=c9 (ex:=ex) hu I rx hx rv m1 (by cases d<;>exact h)
   exact in_listAt e pl.isList h1 (fin h2)
  | tup ds=>
   obtain⟨a,xs,rfl,q1,m1⟩:=hy.F0
   cases ry
   obtain⟨its,rv,pl,_⟩:=I.tuple q1
   obtain⟨e,h1,h2⟩:=c9 (ex:=ex) hu I rx hx rv m1 (by cases d<;>exact h)
   exact in_tupleAt e pl h1 (fin h2)
  | EZ=>cases d<;>exact stuck rfl
  | bl _=>cases d<;>exact stuck rfl
  | int _=>cases d<;>exact stuck rfl
  | exc _=>cases d<;>exact stuck rfl
  | Ff _ _ _=>cases d<;>exact stuck rfl
 | JB=>
  cases e with
  | str b=>
   cases d with
   | str a=>cases hx.Ft;cases hy.Ft;obtain⟨t,rfl⟩:=rx;obtain⟨t',rfl⟩:=ry;exact notIn_str (fin h.ok)
   | _=>exact stuck rfl
  | lst o ds=>
   obtain⟨a,xs,rfl,q1,m1⟩:=hy.FF
   cases ry
   obtain⟨its,rv,pl,_⟩:=I.list q1
   obtain⟨e,h1,h2⟩:=c9 (ex:=ex) (k:=fun r=>Q (.bl !r) H) hu I rx hx rv m1 ((ES.U (show ES ex (U (Fh d ds) fun r=>.ok !r) (fun r=>Q (.bl r) H) by cases d<;>exact h)).mono fun _ z=>z)
   exact notIn_listAt e pl.isList h1 (fin h2)
  | tup ds=>
   obtain⟨a,xs,rfl,q1,m1⟩:=hy.F0
   cases ry
   obtain⟨its,rv,pl,_⟩:=I.tuple q1
   obtain⟨e,h1,h2⟩:=c9 (ex:=ex) (k:=fun r=>Q (.bl !r) H) hu I rx hx rv m1 ((ES.U (show ES ex (U (Fh d ds) fun r=>.ok !r) (fun r=>Q (.bl r) H) by cases d<;>exact h)).mono fun _ z=>z)
   exact notIn_tupleAt e pl h1 (fin h2)
  | EZ=>cases d<;>exact stuck rfl
  | bl _=>cases d<;>exact stuck rfl
  | int _=>cases d<;>exact stuck rfl
  | exc _=>cases d<;>exact stuck rfl
  | Ff _ _ _=>cases d<;>exact stuck rfl
 | IZ=>
  cases e with
  | EZ=>
   cases hy.GC;cases ry
   have ev:cv d=(v == Value.none):=by
    cases hx with
    | EZ=>cases rx;rfl
    | bl b=>cases rx;rfl
    | int i=>obtain⟨t,rfl⟩:=rx;rfl
    | str z=>obtain⟨t,rfl⟩:=rx;rfl
    | tup _ _=>cases rx;rfl
    | lst _ _ _=>cases rx;rfl
    | lstK _ _=>cases rx;rfl
    | exc _=>cases rx;rfl
    | Ff _ _ _ _=>cases rx;rfl
   have h':Q (.bl (cv d)) H:=by cases d<;>exact h
   rw[ev] at h'
   exact is_none_gen (fin h')
  | _=>cases d<;>exact stuck rfl
 | LC=>
  cases e with
  | EZ=>
   cases hy.GC;cases ry
   have ev:cv d=(v == Value.none):=by
    cases hx with
    | EZ=>cases rx;rfl
    | bl b=>cases rx;rfl
    | int i=>obtain⟨t,rfl⟩:=rx;rfl
    | str z=>obtain⟨t,rfl⟩:=rx;rfl
    | tup _ _=>cases rx;rfl
    | lst _ _ _=>cases rx;rfl
    | lstK _ _=>cases rx;rfl
    | exc _=>cases rx;rfl
    | Ff _ _ _ _=>cases rx;rfl
   have h':Q (.bl (!cv d)) H:=by cases d<;>exact h
   rw[ev] at h'
   exact isnot_none_gen (fin h')
  | bl b'=>
   cases hy.Jm;cases ry
   cases d with
   | bl b=>
    cases hx.Jm;cases rx
    have ee:(!(Value.bool b == Value.bool b'))=(b != b'):=by cases b<;>cases b'<;>rfl
    exact wpAny_isNot_plain rfl (by rw[ee];exact fin h)
   | EZ=>cases hx.GC;cases rx;exact wpAny_isNot_plain rfl (fin h)
   | _=>exact stuck rfl
  | _=>cases d<;>exact stuck rfl
theorem ff {pins:List (Addr×Obj)}{s:Shared}{σ:St}{H:Hp}{S:Addr->Prop}{x:V}{v:Value}{d:D}{Q:Bool->Hp->Prop}(I:Inv X pins σ H s)(rx:RelV x v)(hx:ET X.K S H x d)(h:ES ex (aD d) fun b=>Q b H) :
  wpAny (model X.prog X.w) X.A (truthy v) (TP X pins σ Q) X.xe s:=by
 refine y3 pins s σ H x v Q I rx ?_
 cases d with
 | exc c=>exact h.no.elim
 | Ff _ _ _=>exact h.no.elim
 | EZ=>cases hx.GC;exact⟨false,rfl,h⟩
 | bl b=>cases hx.Jm;exact⟨b,rfl,h⟩
 | int i=>cases hx.E9;exact⟨_,rfl,h⟩
 | str z=>
  cases hx.Ft
  obtain⟨g,h⟩:=ES.EX h
  exact⟨_,⟨bq g,rfl⟩,h⟩
 | tup ds=>
  obtain⟨a,xs,rfl,q,m⟩:=hx.F0
  refine⟨!ds.isEmpty,.inr (.inl ⟨xs,q,?_⟩),h⟩
  have:=m.length
  cases xs<;>cases ds<;>simp_all
 | lst o ds=>
  obtain⟨a,xs,rfl,q,m⟩:=hx.FF
  refine⟨!ds.isEmpty,.inl ⟨xs,q,?_⟩,h⟩
  have:=m.length
  cases xs<;>cases ds<;>simp_all
theorem md {K:PySem.W.Frag}{S:Addr->Prop}{H:Hp}{vs:List V}{ds:List D}{i:Int}{d:D}(m:ER K S H vs ds)(h:F9 ds i=some d):∃ v,F9 vs i=some v/\ET K S H v d:=by
 unfold F9 at h ⊢
 rw[m.length]
 cases q:KJ ds.length i with
 | none=>rw[q] at h;cases h
 | some j=>rw[q] at h;exact m.get h
noncomputable def EC (K:PySem.W.Frag)(ex:Str->Prop):R2:=fun x y H Q=>∃ S d e,ET K S H x d/\ET K S H y e/\ES ex (bt d e) (Kk K S H Q)
theorem uU:JL X (EC X.K ex):=by
 intro value slice pins s σ H x y v u Q I rx ry h hs
 obtain⟨S,d,e,hx,hy,h⟩:=h
 refine zb value slice pins s σ H x y v u Q I rx ry ?_ hs
 have stuck:∀ {P:Prop},bt d e=EY->P:=fun z=>by rw[z] at h;exact h.no.elim
 cases e with
 | int i=>
  cases hy.E9
  cases d with
  | lst o ds=>
   obtain⟨a,xs,rfl,q,m⟩:=hx.FF
   have h':ES ex (match F9 ds i with|some d=>.ok d|none=>EY) (Kk X.K S H Q):=h
   cases z:F9 ds i with
   | none=>rw[z] at h';exact h'.no.elim
   | some d=>
    rw[z] at h'
    obtain⟨w,ew,mw⟩:=md m z
    exact .inl ⟨a,xs,i,w,rfl,rfl,q,ew,h'.ok _ _ (.refl _) mw.nw⟩
  | tup ds=>
   obtain⟨a,xs,rfl,q,m⟩:=hx.F0
   have h':ES ex (match F9 ds i with|some d=>.ok d|none=>EY) (Kk X.K S H Q):=h
   cases z:F9 ds i with
   | none=>rw[z] at h';exact h'.no.elim
   | some d=>
    rw[z] at h'
    obtain⟨w,ew,mw⟩:=md m z
    exact .inr (.inl ⟨a,xs,i,w,rfl,rfl,q,ew,h'.ok _ _ (.refl _) mw.nw⟩)
  | str z=>
   cases hx.Ft
   obtain⟨g,h⟩:=ES.EX h
   cases q:F9 z.cps.toList i with
   | none=>rw[q] at h;exact h.no.elim
   | some c=>
    rw[q] at h
    exact .inr (.inr ⟨z,i,c,rfl,rfl,bq g,q,h.ok _ _ (.refl _) (.str _)⟩)
  | _=>exact stuck rfl
 | _=>cases d<;>exact stuck rfl
def ED (K:PySem.W.Frag)(ex:Str->Prop):V->Option Int->Option Int->Hp->VK->Prop:=fun x lo hi H Q=>∃ S d,ET K S H x d/\ES ex (jL d lo hi) (Kk K S H Q)
theorem zF:OA X (fun x lo hi H Q=>∃ z,x=.str z/\z.length<=sizeLine/\Q (.str (Txt.slice z lo hi)) H):=by
 intro pins s σ H x v vl vu lo hi sl Q I rx hs pl pu h
 obtain⟨z,rfl,hz,q⟩:=h
 obtain⟨t,rfl⟩:=rx
 refine⟨"str",_,F.slot_str_getitem.lookup,typeIs_str s z t,?_⟩
 have fin:∀ (l u:Option (Int×Tok)),vl=partValue l->vu=partValue u->l.map (·.1)=lo->u.map (·.1)=hi->wpAny (model X.prog X.w) X.A (getItem (.str z t) (.ref sl)) (EP X pins σ Q) X.xe s:=by
  intro l u e1 e2 e3 e4
  subst e1 e2 e3 e4
  refine wpAny_getItem_str_slice (l:=l) (u:=u) (st:=none) hs rfl ?_
  exact post_val_or_str ⟨Nat.le_trans (Txt.slice_le z _ _) hz,fun t' k=>⟨.str _,H,I.tok _,⟨_,rfl⟩,q⟩⟩
 cases pl with
 | none=>
  cases pu with
  | none=>exact fin none none rfl rfl rfl rfl
  | int j t'=>exact fin none (some (j,t')) rfl rfl rfl rfl
 | int i t'=>
  cases pu with
  | none=>exact fin (some (i,t')) none rfl rfl rfl rfl
  | int j UH=>exact fin (some (i,t')) (some (j,UH)) rfl rfl rfl rfl
end
open PySem.W
section
variable {prog:Program}{w:World}{A:Around}{E:Value->Shared->Prop}{K:Frag}{x C:Addr}{hh:Heap}{g:Array GenState}{d:Drawn}{t:Nat}{os:OsState}
structure ExcAt (K:Frag)(C:Addr):Prop where
 ga:findIn K (.ref C) "__getattribute__" = some (some (.builtin "BaseException.__getattribute__"))
 no:findIn K (.ref C) "__getattr__" = some none
 cl:findIn K (.ref C) "__class__" = some (some (.builtin "object.__class__"))
 be:mroIn K C (.type "BaseException")=some true
 ob:mroIn K C (.type "object")=some true
 is:(clsIn K C).isSome=true
open Builtin Builtin.ObjectAttr Builtin.Getset_descriptor in
end
section
variable {X:Cx}{ex:Str->Prop}
theorem me {K:PySem.W.Frag}{S:Addr->Prop}{H:Hp}{vs:List V}{ds:List D}(lo hi:Option Int)(m:ER K S H vs ds):ER K S H (nS vs lo hi) (bp ds lo hi):=by
 unfold nS bp
 rw[m.length]
 exact(m.drop _).take _
theorem uV:OA X (ED X.K ex):=by
 intro pins s σ H x v vl vu lo hi sl Q I rx hs pl pu h
 obtain⟨S,d,hx,h⟩:=h
 cases d with
 | lst o ds=>
  obtain⟨a,xs,rfl,q,m⟩:=hx.FF
  exact lW pins s σ H _ v vl vu lo hi sl Q I rx hs pl pu ⟨a,xs,rfl,q,fun p hp=>h.ok _ _ (.upd hp) (uT hp (me lo hi m))⟩
 | str z=>
  cases hx.Ft
  obtain⟨g,h⟩:=ES.EX h
  exact zF pins s σ H _ v vl vu lo hi sl Q I rx hs pl pu ⟨z,rfl,bq g,h.ok _ _ (.refl _) (.str _)⟩
 | _=>exact h.no.elim
theorem jS {ns:List Int}{us:List Value}(r:Vals (ns.map V.int) us):IntsAre us ns:=intsAre_of r
theorem jT {ns:List Str}:∀ {us:List Value},Vals (ns.map V.str) us->StrsAre us ns:=by
 induction ns with
 | nil=>intro us r;rw[List.map_nil] at r;cases r;exact .nil
 | cons n ns ih=>
  intro us r
  rw[List.map_cons] at r
  cases r with
  | cons r1 r2=>
   obtain⟨t,e⟩:=r1
   subst e
   exact .cons n t (ih r2)
theorem dB:∀ {ds:List D}{ns:List Int},bg ds=some ns->ds=ns.map .int
 | [],ns,h=>by cases h;rfl
 | .int i::r,ns,h=>by
  have h':(bg r).map (i::·)=some ns:=h
  cases q:bg r with
  | none=>rw[q] at h';cases h'
  | some ms=>
   rw[q] at h'
   cases h'
   rw[dB q]
   rfl
 | .EZ::_,_,h=>by cases h
 | .bl _::_,_,h=>by cases h
 | .str _::_,_,h=>by cases h
 | .tup _::_,_,h=>by cases h
 | .lst _ _::_,_,h=>by cases h
theorem dC:∀ {ds:List D}{ns:List Str},aY ds=some ns->ds=ns.map .str
 | [],ns,h=>by cases h;rfl
 | .str i::r,ns,h=>by
  have h':(aY r).map (i::·)=some ns:=h
  cases q:aY r with
  | none=>rw[q] at h';cases h'
  | some ms=>
   rw[q] at h'
   cases h'
   rw[dC q]
   rfl
 | .EZ::_,_,h=>by cases h
 | .bl _::_,_,h=>by cases h
 | .int _::_,_,h=>by cases h
 | .tup _::_,_,h=>by cases h
 | .lst _ _::_,_,h=>by cases h
theorem g8:∀ {ds:List D}{ns:List Bool},du ds=some ns->ds=ns.map .bl
 | [],ns,h=>by cases h;rfl
 | .bl i::r,ns,h=>by
  have h':(du r).map (i::·)=some ns:=h
  cases q:du r with
  | none=>rw[q] at h';cases h'
  | some ms=>
   rw[q] at h'
   cases h'
   rw[g8 q]
   rfl
 | .EZ::_,_,h=>by cases h
 | .str _::_,_,h=>by cases h
 | .int _::_,_,h=>by cases h
 | .tup _::_,_,h=>by cases h
 | .lst _ _::_,_,h=>by cases h
theorem iU:∀ (ns:List Int) (n:Int),n<=cV n ns/\(∀ m∈ns,m<=cV n ns)/\cV n ns∈n::ns
 | [],n=>⟨Int.le_refl n,fun m hm=>absurd hm (by simp),List.mem_singleton.mpr rfl⟩
 | a::ns,n=>by
  obtain⟨h1,h2,h3⟩:=iU ns (if n < a then a else n)
  show n<=cV (if n < a then a else n) ns/\(∀ m∈a::ns,m<=cV (if n < a then a else n) ns)/\cV (if n < a then a else n) ns∈n::a::ns
  split at h1<;>split<;>first|omega|skip
  ·refine⟨by omega,fun m hm=>?_,?_⟩
   ·rcases List.mem_cons.mp hm with rfl|hm
    ·exact h1
    ·rename_i q _;rw[if_pos q] at h2;exact h2 m hm
   ·rename_i q _;rw[if_pos q] at h3;exact List.mem_cons_of_mem _ h3
  ·refine⟨h1,fun m hm=>?_,?_⟩
   ·rcases List.mem_cons.mp hm with rfl|hm
    ·omega
    ·rename_i q _;rw[if_neg q] at h2;exact h2 m hm
   ·rename_i q _;rw[if_neg q] at h3
    rcases List.mem_cons.mp h3 with e|h3
    ·rw[e];exact .head _
    ·exact List.mem_cons_of_mem _ (List.mem_cons_of_mem _ h3)
theorem p7 {its:List Value}{ns:List Int}(h:IntsAre its ns):∃ ps:List (Int×Tok),its.toArray=intItems ps.toArray/\ps.map (·.1)=ns:=by
 induction h with
 | nil=>exact⟨[],by simp[intItems],rfl⟩
 | cons n t _ ih=>
  obtain⟨ps,e1,e2⟩:=ih
  refine⟨(n,t)::ps,?_,by rw[List.map_cons,e2]⟩
  unfold intItems at e1 ⊢
  have e3:=congrArg Array.toList e1
  apply Array.ext'
  simpa using e3
theorem ot (hc:X.calm=true):bL X (.builtin "max") (fun xs H Q=>∃ (p:Addr) (n:Int) (ns:List Int),xs=[.ref p]/\FR X.K H p ((n::ns).map V.int)/\Q (.int (cV n ns)) H):=by
 intro pins s σ H xs us Q I r h
 obtain⟨p,n,ns,rfl,hq,q⟩:=h
 obtain⟨u,rfl,rx⟩:=vals1 r
 cases rx
 obtain⟨its,rv,pl,hz⟩:=I.list hq
 obtain⟨ps,e1,e2⟩:=p7 (jS rv)
 have hl:ps.length=(n::ns).length:=by rw[<- e2,List.length_map]
 have hp:0 < ps.toArray.size:=by rw[List.size_toArray,hl];exact Nat.succ_pos _
 refine max_intList (I.ok.hd hc) (xs:=ps.toArray) (by rw[<- e1];exact pl.isList) hp fun v h' tk hv kp=>?_
 obtain⟨t,rfl⟩:=intItems_at hv
 refine⟨.int (cV n ns),H,I.kept kp,⟨t,?_⟩,q⟩
 obtain⟨b1,b2⟩:=argBest_gt (numAt ps.toArray) (ps.toArray.size - 1)
 generalize argBest (fun i j=>decide (numAt ps.toArray i > numAt ps.toArray j)) (ps.toArray.size - 1)=k at b1 b2 ⊢
 have at_:∀ j,numAt ps.toArray j=(n::ns).getD j 0:=fun j=>by rw[numAt_eq];simp only[e2]
 obtain⟨m1,m2,m3⟩:=iU ns n
 have up:∀ m∈n::ns,m<=cV n ns:=fun m hm=>by
  rcases List.mem_cons.mp hm with rfl|hm
  ·exact m1
  ·exact m2 m hm
 have gd:∀ (k:Nat) (h:k < (n::ns).length),(n::ns).getD k 0=(n::ns)[k]:=fun k h=>by rw[List.getD_eq_getElem?_getD,List.getElem?_eq_getElem h];rfl
 have hk:k < (n::ns).length:=by rw[<- hl,<- List.size_toArray];omega
 have a1:numAt ps.toArray k<=cV n ns:=by
  rw[at_]
  refine up _ ?_
  rw[gd k hk]
  exact List.getElem_mem hk
 obtain⟨j,hj,ej⟩:=List.getElem_of_mem m3
 have a2:cV n ns<=numAt ps.toArray k:=by
  have:=b2 j (by rw[List.size_toArray,hl];omega)
  rw[at_ j,gd j hj,ej] at this
  exact this
 rw[Int.le_antisymm a1 a2]
theorem ou (hc:X.calm=true):bL X (.builtin "all") (fun xs H Q=>∃ (p:Addr) (bs:List Bool),xs=[.ref p]/\FR X.K H p (bs.map V.bl)/\Q (.bl (bs.all id)) H):=by
 intro pins s σ H xs us Q I r h
 obtain⟨p,bs,rfl,hq,q⟩:=h
 obtain⟨u,rfl,rx⟩:=vals1 r
 cases rx
 obtain⟨its,rv,pl,hz⟩:=I.list hq
 have hl:=rv.length
 rw[List.length_map] at hl
 have FH:p < s.heap.objs.size:=by
  obtain⟨o,e,_⟩:=pl.isList
  exact Heap.lt_size e
 refine call_all_walk (wpAny_pyIter_list pl.isList ?_)
 refine⟨s.heap.objs.size,_,_,_,_,_,fun i=>bs.getD i true,rfl,Walks.list (A:=X.A.in1) (show X.A.in1.handled=none from I.ok.hd hc) s.heap.objs.size p (Nat.ne_of_lt FH) its.toArray,⟨⟨_,Heap.get?_push_size _ rfl,rfl,rfl⟩,?_⟩,?_,?_⟩
 ·obtain⟨o,e,c,n,d⟩:=pl.isList
  exact⟨o,Heap.get?_push_of_some _ e,c,n,d⟩
 ·intro i v s' Q' E' hv UI
  have RZ:its[i]? = some v:=by simpa using hv
  have Nz:i < bs.length:=by
   have:=(List.getElem?_eq_some_iff.mp RZ).1
   omega
  obtain⟨u,hu,ru⟩:=rv.get (i:=i) (x:=.bl bs[i]) (by rw[List.getElem?_map,List.getElem?_eq_getElem Nz];rfl)
  rw[RZ] at hu
  cases hu
  cases ru
  refine wpAny_truthy_bool ?_
  have e:bs.getD i true=bs[i]:=by simp[List.getD,Nz]
  rw[<- e]
  exact UI
 ·intro h' tk kp
  have Ju:(List.range its.toArray.size).all (fun i=>bs.getD i true)=bs.all id:=by
   rw[show its.toArray.size=bs.length by simp[hl]]
   rw[Bool.eq_iff_iff,List.all_eq_true,List.all_eq_true]
   constructor
   ·intro z b hb
    obtain⟨i,hi,rfl⟩:=List.getElem_of_mem hb
    have:=z i (List.mem_range.mpr hi)
    simpa[List.getD,hi] using this
   ·intro z i hi
    have IA:=List.mem_range.mp hi
    have:=z bs[i] (List.getElem_mem IA)
    simpa[List.getD,IA] using this
  rw[Ju]
  refine⟨.bl (bs.all id),H,I.kept (t':=tk) fun b o e=>kp b o ?_ (Heap.get?_push_of_some _ e),rfl,q⟩
  intro hm
  have hb:b=s.heap.objs.size:=by simpa using hm
  subst hb
  exact absurd (Heap.lt_size e) (Nat.lt_irrefl _)
noncomputable def eJ:Bi->Str
 | .len=>"len" | .sum=>"sum" | .min2=>"min" | .max2=>"max" | .HG=>"max" | .sorted=>"sorted" | .list=>"list" | .tuple=>"tuple" | .ord=>"ord" | .int=>"int" | .all=>"all" | .any=>"any" | .str=>"str" | .set=>"set" | .abs=>"abs"
noncomputable def Bw:Bi->Bool
 | .list=>true|.tuple=>true|.int=>true|.str=>true|.set=>true
 | _=>false
noncomputable def Bx:Bi->String
 | .len=>"len" | .sum=>"sum" | .min2=>"min" | .max2=>"max" | .HG=>"max" | .sorted=>"sorted" | .list=>"list" | .tuple=>"tuple" | .ord=>"ord" | .int=>"int" | .all=>"all" | .any=>"any" | .str=>"str" | .set=>"set" | .abs=>"abs"
noncomputable def p8 (f:Bi):Value:=if Bw f=true then .type (Bx f) else .builtin (Bx f)
theorem uW (f:Bi):bootBuiltins (eJ f)=some (p8 f):=by cases f<;>decide +kernel
def R0 (K:PySem.W.Frag)(ex:Str->Prop)(f:Bi):List V->Hp->VK->Prop:=fun xs H Q=>∃ S ds,ER K S H xs ds/\ES ex (cR f ds) (Kk K S H Q)
theorem ER.NA {K:PySem.W.Frag}{S:Addr->Prop}{H:Hp}{xs:List V}{d:D}(h:ER K S H xs [d]):∃ x,xs=[x]/\ET K S H x d:=by
 cases h with
 | cons h1 h2=>cases h2;exact⟨_,rfl,h1⟩
theorem ER.Qb {K:PySem.W.Frag}{S:Addr->Prop}{H:Hp}{xs:List V}{d e:D}(h:ER K S H xs [d,e]):∃ x y,xs=[x,y]/\ET K S H x d/\ET K S H y e:=by
 cases h with
 | cons h1 h2=>
  cases h2 with
  | cons h3 h4=>cases h4;exact⟨_,_,rfl,h1,h3⟩
theorem ox {K:PySem.W.Frag}{S:Addr->Prop}{H:Hp}(z:Str):ER K S H (ez z) (bD z):=by
 unfold ez bD
 induction z.cps.toList with
 | nil=>exact .nil
 | cons c cs ih=>exact .cons (.str _) ih
theorem uX (hc:X.calm=true)(f:Bi):bL X (p8 f) (R0 X.K ex f):=by
 intro pins s σ H xs us Q I r h
 obtain⟨S,ds,hx,h⟩:=h
 have stuck:∀ {P:Prop},cR f ds=EY->P:=fun z=>by rw[z] at h;exact h.no.elim
 have one:∀ {d e:D}{r':List D},ds=d::e::r'->¬ (f=.min2∨f=.max2)->cR f ds=EY:=by
  intro d e r' z nf
  subst z
  cases f<;>first|rfl|(exfalso;exact nf (.inl rfl))|(exfalso;exact nf (.inr rfl))|(cases d<;>rfl)
 have two:∀ {d e g:D}{r':List D},ds=d::e::g::r'->cR f ds=EY:=by
  intro d e g r' z
  subst z
  cases f<;>first|rfl|(cases d<;>rfl)|(cases d<;>cases e<;>rfl)
 have nil:ds=[]->cR f ds=EY:=by
  intro z
  subst z
  cases f<;>rfl
 match ds,hx with
 | [],hx=>exact stuck (nil rfl)
 | d::e::g::r',hx=>exact stuck (two rfl)
 | [d,e],hx=>
  by_cases nf:f=.min2∨f=.max2
  ·obtain⟨x,y,rfl,hd,he⟩:=hx.Qb
   rcases nf with rfl|rfl
   ·cases d with
    | int a=>
     cases e with
     | int b=>cases hd.E9;cases he.E9;exact nP hc pins s σ H _ us Q I r ⟨a,b,rfl,h.ok _ _ (.refl _) (.int _)⟩
     | _=>exact stuck rfl
    | _=>exact stuck rfl
   ·cases d with
    | int a=>
     cases e with
     | int b=>cases hd.E9;cases he.E9;exact nO hc pins s σ H _ us Q I r ⟨a,b,rfl,h.ok _ _ (.refl _) (.int _)⟩
     | _=>exact stuck rfl
    | _=>exact stuck rfl
  ·exact stuck (one rfl nf)
 | [d],hx=>
  obtain⟨x,rfl,hd⟩:=hx.NA
  cases f with
  | len=>
   cases d with
   | str z=>cases hd.Ft;obtain⟨g,h⟩:=ES.EX h;exact fC pins s σ H _ us Q I r ⟨_,_,rfl,⟨bq g,rfl⟩,h.ok _ _ (.refl _) (.int _)⟩
   | tup ds=>
    obtain⟨a,ys,rfl,q,m⟩:=hd.F0
    exact fC pins s σ H _ us Q I r ⟨_,ds.length,rfl,.inr ⟨ys,q,m.length.symm⟩,h.ok _ _ (.refl _) (.int _)⟩
   | lst o ds=>
    obtain⟨a,ys,rfl,q,m⟩:=hd.FF
    exact fC pins s σ H _ us Q I r ⟨_,ds.length,rfl,.inl ⟨ys,q,m.length.symm⟩,h.ok _ _ (.refl _) (.int _)⟩
   | _=>exact stuck rfl
  | sum=>cases d<;>exact stuck rfl
  | all=>
   cases d with
   | lst o ds=>
    obtain⟨a,ys,rfl,q,m⟩:=hd.FF
    have h':ES ex (match du ds with|some bs=>.ok (.bl (bs.all id))|none=>EY) (Kk X.K S H Q):=h
    cases z:du ds with
    | none=>rw[z] at h';exact h'.no.elim
    | some ns=>
     rw[z] at h'
     rw[g8 z] at m
     rw[m.UG] at q
     exact ou hc pins s σ H _ us Q I r ⟨a,ns,rfl,q,h'.ok _ _ (.refl _) (.bl _)⟩
   | _=>exact stuck rfl
  | any=>cases d<;>exact stuck rfl
  | ord=>cases d<;>exact stuck rfl
  | int=>cases d<;>exact stuck rfl
  | list=>cases d<;>exact stuck rfl
  | abs=>cases d<;>exact stuck rfl
  | min2=>cases d<;>exact stuck rfl
  | max2=>cases d<;>exact stuck rfl
  | HG=>
   cases d with
   | lst o ds=>
    obtain⟨a,ys,rfl,q,m⟩:=hd.FF
    have h':ES ex (match bg ds with|some (n::ns)=>.ok (.int (cV n ns))|_=>EY) (Kk X.K S H Q):=h
    cases z:bg ds with
    | none=>rw[z] at h';exact h'.no.elim
    | some ns=>
     rw[z] at h'
     cases ns with
     | nil=>exact h'.no.elim
     | cons n ns=>
      rw[dB z] at m
      rw[m.ints] at q
      exact ot hc pins s σ H _ us Q I r ⟨a,n,ns,rfl,q,h'.ok _ _ (.refl _) (.int _)⟩
   | _=>exact stuck rfl
  | sorted=>cases d<;>exact stuck rfl
  | tuple=>
   cases d with
   | str z=>
    cases hd.Ft
    obtain⟨g,h⟩:=ES.EX h
    exact fH hc pins s σ H _ us Q I r ⟨z,rfl,bq g,fun p hp=>h.ok _ _ (.upd hp) (zD hp (ox z))⟩
   | lst o ds=>
    obtain⟨a,ys,rfl,q,m⟩:=hd.FF
    exact gC pins s σ H _ us Q I r ⟨a,ys,rfl,.inl ⟨q,fun p hp=>h.ok _ _ (.upd hp) (zD hp m)⟩⟩
   | _=>exact stuck rfl
  | str=>exact stuck rfl
  | set=>exact stuck rfl
noncomputable def dD:Kd->Str
 | .str=>"str" | .int=>"int" | .bool=>"bool" | .list=>"list" | .tuple=>"tuple"
noncomputable def p9:Kd->Value
 | .str=>.type "str" | .int=>.type "int" | .bool=>.type "bool" | .list=>.type "list" | .tuple=>.type "tuple"
theorem uY (k:Kd):bootBuiltins (dD k)=some (p9 k):=by cases k<;>decide +kernel
noncomputable def UJ:D->Value
 | .EZ=>.type "NoneType" | .bl _=>.type "bool" | .int _=>.type "int" | .str _=>.type "str" | .tup _=>.type "tuple" | .lst _ _=>.type "list" | .exc _=>.none|.Ff _ _ _=>.none
theorem uZ (K:PySem.W.Frag)(k:Kd)(d:D)(hn:eF d=true):PySem.W.kitOne K (UJ d) (p9 k)=some (br k d):=by
 cases k<;>cases d<;>first|rfl|cases hn
theorem u0 {pins:List (Addr×Obj)}{s:Shared}{σ:St}{H:Hp}{S:Addr->Prop}{x:V}{v:Value}{d:D}{Q:VK}(I:Inv X pins σ H s)(rx:RelV x v)(hx:ET X.K S H x d)(k:Kd)(hn:eF d=true)(h:Q (.bl (br k d)) H) :
  wpAny (model X.prog X.w) X.A (call (.builtin "isinstance") [v,p9 k]) (EP X pins σ Q) X.xe s:=by
 have e:=uZ X.K k d hn
 have fin:∀ tk,EP X pins σ Q (.bool (br k d)) {s with toks:=tk}:=fun tk=>⟨.bl _,H,I.tok _,rfl,h⟩
 cases d with
 | EZ=>cases hx.GC;cases rx;exact PySem.W.kia_one PySem.W.kitx_none I.Hz True.intro e (fun z=>nomatch z) fin
 | bl b=>cases hx.Jm;cases rx;exact PySem.W.kia_one PySem.W.kitx_bool I.Hz True.intro e (fun z=>nomatch z) fin
 | int b=>cases hx.E9;obtain⟨t,rfl⟩:=rx;exact PySem.W.kia_one PySem.W.kitx_int I.Hz True.intro e (fun z=>nomatch z) fin
 | str b=>cases hx.Ft;obtain⟨t,rfl⟩:=rx;exact PySem.W.kia_one PySem.W.kitx_str I.Hz True.intro e (fun z=>nomatch z) fin
 | tup ds=>
  obtain⟨a,ys,rfl,q,m⟩:=hx.F0
  cases rx
  obtain⟨its,_,⟨o,h1,h2,_⟩,_⟩:=I.tuple q
  exact PySem.W.kia_one PySem.W.kitx_tuple I.Hz ⟨o,h1,h2⟩ e (fun z=>nomatch z) fin
 | lst o ds=>
  obtain⟨a,ys,rfl,q,m⟩:=hx.FF
  cases rx
  obtain⟨its,_,pl,_⟩:=I.list q
  obtain⟨o,h1,h2,_⟩:=pl.isList
  exact PySem.W.kia_one PySem.W.kitx_list I.Hz ⟨o,h1,h2⟩ e (fun z=>nomatch z) fin
 | exc c=>cases hn
 | Ff o ks ds=>cases hn
def CV (X:Cx)(x:Str)(v:V):Prop:=(∃ C,v=.ref C/\X.mg x=some (.ref C))∨(∃ T,v=.ty T/\X.mg x=none/\bootBuiltins x=some (.type T))
noncomputable def vv:V->Value
 | .ref C=>.ref C
 | .ty T=>.type T
 | _=>.none
noncomputable def fU:Mt->Str
 | .join=>"join" | .index=>"index" | .starts=>"startswith"
noncomputable def EE:Mt->String
 | .join=>"str.join" | .index=>"str.index" | .starts=>"str.startswith"
def R1 (K:PySem.W.Frag)(ex:Str->Prop)(m:Mt):V->List V->Hp->VK->Prop:=fun x xs H Q=>∃ S d ds,ET K S H x d/\ER K S H xs ds/\ES ex (fS m d ds) (Kk K S H Q)
theorem qa {m:Mt}{d:D}{ds:List D}{k:D->Prop}(h:ES ex (fS m d ds) k):∃ x,d=.str x:=by
 cases m<;>cases d<;>first|exact⟨_,rfl⟩|exact h.no.elim
theorem iV (m:Mt)(hc:m=.index->X.calm=true):Rb X (EE m) (R1 X.K ex m):=by
 intro pins s σ H x xs v us Q I rx rs h
 obtain⟨S,d,ds,hx,hs,h⟩:=h
 obtain⟨z,rfl⟩:=qa h
 cases hx.Ft
 obtain⟨t,rfl⟩:=rx
 have stuck:∀ {P:Prop},fS m (.str z) ds=EY->P:=fun z=>by rw[z] at h;exact h.no.elim
 match ds,hs with
 | [],_=>cases m<;>exact stuck rfl
 | d::e::r,_=>cases m<;>cases d<;>exact stuck rfl
 | [d],hs=>
  obtain⟨y,rfl,hd⟩:=hs.NA
  obtain⟨u,rfl,ru⟩:=vals1 rs
  cases m with
  | join=>
   cases d with
   | lst o ds=>
    obtain⟨a,ys,rfl,q,m⟩:=hd.FF
    cases ru
    have h':ES ex (match aY ds with|some ys=>EX (decide ((ys.map (·.length)).sum+ys.length*z.length<=16777216)) (.ok (.str (Txt.join z ys)))|none=>EY) (Kk X.K S H Q):=h
    cases w:aY ds with
    | none=>rw[w] at h';exact h'.no.elim
    | some ns=>
     rw[w] at h'
     obtain⟨g,h'⟩:=ES.EX h'
     rw[dC w] at m
     rw[m.strs] at q
     obtain⟨its,rv,pl,_⟩:=I.list q
     exact join_list pl.isList (by simpa using jT rv) (of_decide_eq_true g) fun t' k=>⟨.str _,H,I.tok _,⟨_,rfl⟩,h'.ok _ _ (.refl _) (.str _)⟩
   | _=>exact stuck rfl
  | index=>cases d<;>exact stuck rfl
  | starts=>
   cases d with
   | str y=>
    cases hd.Ft
    obtain⟨t',rfl⟩:=ru
    exact SC.startswith ⟨.bl _,H,I,rfl,ES.ok h _ _ (.refl _) (.bl _)⟩
   | _=>exact stuck rfl
noncomputable def Qc (x:Str):It:=⟨fun i _=>i < x.cps.size,fun i H v H'=>H'=H/\∃ c,x.cps[i]? = some c/\v=.str ⟨#[c]⟩,fun i _=>x.cps.size<=i⟩
theorem qb {P:Program}{w:World}{K:PySem.W.Frag}{tg:Expr}{it:Addr}{x:Str}{t:Tok}{ty:String}(Mm:ty = "str_ascii_iterator"∨ty = "str_iterator")
  (W:∀ A':Around,A'.handled=none->Walks P w A' it [it] [it] x.cps.size (SignAt x) (fun i h=>h.IsStrIter it ty x t i)):Turn P w K tg (Qc x) [it] it (fun i h=>i<=x.cps.size/\h.IsStrIter it ty x t i) where
 mem:=by simp
 obj:=fun i h st b hb=>by
  have e:b=it:=by simpa using hb
  subst e
  obtain⟨_,o,e,c,d⟩:=st
  exact⟨o,e,fun v z=>by rw[d] at z;cases z⟩
 keep:=fun i h h' st k=>by
  obtain⟨l,o,e,c,d⟩:=st
  exact⟨l,o,k it (by simp) o e,c,d⟩
 item:=by
  intro X hP hw hK hc i pins s σ H E I hf st hg
  subst hP hw hK
  obtain⟨f0,f1,f2,f3,f4,f5⟩:=hf it (by simp)
  refine(W X.A (I.ok.hd hc)).item i s _ _ hg st.2 fun v h' tk hv Jj kk=>?_
  obtain⟨c,u,UK,rfl⟩:=hv
  have I1:Inv X pins σ H {s with heap:=h',toks:=tk}:=I.turned (fun b o hb e=>kk b o (by simpa using hb) e) f0 f1 f3 f4 f5
  obtain⟨o,e,cc,d⟩:=id Jj
  refine⟨_,rfl,lV (s:={s with heap:=h',toks:=tk}) (n:=ty) e cc d (by rcases Mm with rfl|rfl<;>decide) ⟨.str ⟨#[c]⟩,H,I1,⟨u,rfl⟩,⟨rfl,c,UK,rfl⟩,⟨hg,Jj⟩,fun b hb=>(hf b hb).1⟩⟩
 done:=by
  intro X hP hw hK hc i pins s σ H E I hf st hg
  subst hP hw hK
  obtain⟨f0,f1,f2,f3,f4,f5⟩:=hf it (by simp)
  have e:i=x.cps.size:=Nat.le_antisymm st.1 hg
  refine(W X.A (I.ok.hd hc)).done s _ _ (by rw[<- e];exact st.2) fun h' tk kk=>⟨rfl,I.turned (fun b o hb e=>kk b o (by simpa using hb) e) f0 f1 f3 f4 f5⟩
 self:=fun A i s Q E st h=>by
  obtain⟨_,st⟩:=st
  rcases Mm with rfl|rfl
  ·exact wpAny_pyIter_striter_ascii st h
  ·exact wpAny_pyIter_striter_wide st h
theorem zG {tg:Expr}{pins:List (Addr×Obj)}{s:Shared}{σ:St}{H:Hp}{x:Str}{t:Tok}{R:It->Hp->Prop}(I:Inv X pins σ H s)(q:R (Qc x) H):wpAny (model X.prog X.w) X.A (pyIter (.str x t)) (Ml X pins σ tg R) X.xe s:=by
 have fin:∀ ty,(ty = "str_ascii_iterator"∨ty = "str_iterator")->(∀ A':Around,A'.handled=none->Walks X.prog X.w A' s.heap.objs.size [s.heap.objs.size] [s.heap.objs.size] x.cps.size (SignAt x) (fun i h=>h.IsStrIter s.heap.objs.size ty x t i))->
   Ml X pins σ tg R (.ref s.heap.objs.size) {s with heap:=s.heap.push {cls:=.type ty,data:=.fields #[.str x t,.int 0 0]}}:=fun ty Mm W=>by
  refine⟨s.heap.objs.size,[s.heap.objs.size],_,_,H,rfl,I.kept (t':=s.toks) fun b o e=>Heap.get?_push_of_some _ e,qb Mm W,⟨Nat.zero_le _,_,Heap.get?_push_size _ rfl,rfl,rfl⟩,fun b hb=>?_,q⟩
  have e:b=s.heap.objs.size:=by simpa using hb
  subst e
  exact I.IU (Nat.le_refl _) (I.E7.fresh (Nat.le_refl _))
 cases ha:x.cps.all (· < 128)
 ·exact wpAny_pyIter_wide ha (fin _ (.inr rfl) fun A' hA=>Walks.strWide hA _ x t)
 ·exact wpAny_pyIter_ascii ha (fin _ (.inl rfl) fun A' hA=>Walks.strAscii hA _ x t)
end
theorem aJ.at {P:Program}{w:World}{H:Hp}{h:Heap}{a:Addr}{o:HO}(x:aJ P w H h a o):∃ ob,h.get? a=some ob:=by
 cases o with
 | lst xs=>obtain⟨_,_,_,_,e⟩:=x;exact⟨_,e⟩
 | tup xs=>obtain⟨_,_,_,ob,e,_⟩:=x;exact⟨_,e⟩
 | dK kvs=>obtain⟨_,_,_,_,o,_,_,e,_⟩:=x;exact⟨_,e⟩
 | dT kvs=>obtain⟨_,_,_,_,o,_,_,e,_⟩:=x;exact⟨_,e⟩
 | set S n=>obtain⟨o,_,_,_,e,_⟩:=x;exact⟨_,e⟩
 | ins C dx fs=>obtain⟨_,_,_,e,_⟩:=x;exact⟨_,e⟩
 | own y=>exact x
 | xd fs=>obtain⟨_,⟨_,_,_,e,_⟩,_⟩:=x;exact⟨_,e⟩
 | Jg lo hi=>obtain⟨_,_,_,e⟩:=x;exact⟨_,e⟩
 | Fb ob u=>exact⟨_,x.1⟩
 | Kz ps=>exact⟨_,x⟩
 | met f y=>exact⟨_,x⟩
 | ext φ=>exact x.2.1
noncomputable def indep:HO->Bool
 | .lst _=>true
 | .tup _=>true
 | .ext _=>true
 | .dK _=>true
 | _=>false
theorem fV {P:Program}{w:World}{H H':Hp}{h:Heap}{a:Addr}{u:HO}(i:indep u=true)(x:aJ P w H h a u):aJ P w H' h a u:=by
 cases u with
 | lst _=>exact x
 | tup _=>exact x
 | ext _=>exact x
 | dK _=>exact x
 | _=>cases i
noncomputable def aM (h:Heap)(H:Hp):Hp:=fun b=>match H b with
 | some (.lst xs)=>(h.get? b).map fun o=>.Fb o (.lst xs)
 | some (.dK kvs)=>(h.get? b).map fun o=>.Fb o (.dK kvs)
 | some (.tup xs)=>some (.tup xs)
 | some (.Fb o u)=>if indep u=true then some (.Fb o u) else none
 | _=>none
noncomputable def dP (H H':Hp):Hp:=fun b=>match H b with
 | some o=>some o
 | none=>H' b
def LJ (H:Hp):Prop:=∀ b o,H b=some o->(∃ ob u,o=.Fb ob u)∨∃ xs,o=.tup xs
theorem qc (h:Heap)(H:Hp):LJ (aM h H):=fun b o e=>by
 unfold aM at e
 split at e
 ·obtain⟨ob,_,rfl⟩:=Option.map_eq_some_iff.mp e
  exact .inl ⟨_,_,rfl⟩
 ·obtain⟨ob,_,rfl⟩:=Option.map_eq_some_iff.mp e
  exact .inl ⟨_,_,rfl⟩
 ·cases e;exact .inr ⟨_,rfl⟩
 ·split at e
  ·cases e;exact .inl ⟨_,_,rfl⟩
  ·cases e
 ·cases e
structure Ih (h:Heap)(Hc H':Hp):Prop where
 FV:∀ b o u,Hc b=some (.Fb o u)->H' b=some (.Fb o u)
 Gd:∀ b xs,Hc b=some (.tup xs)->H' b=some (.tup xs)
 free:∀ b o,h.get? b=some o->Hc b=none->H' b=none
inductive Bk (h:Heap)(H H':Hp)(b:Addr):HO->Prop where
 | lst {xs:List V}{ob:Obj}:h.get? b=some ob->H' b=some (.Fb ob (.lst xs))->Bk h H H' b (.lst xs)
 | dK {xs:List (Key×V)}{ob:Obj}:h.get? b=some ob->H' b=some (.Fb ob (.dK xs))->Bk h H H' b (.dK xs)
 | tup {xs:List V}:H' b=some (.tup xs)->Bk h H H' b (.tup xs)
 | Fb {o:Obj}{u:HO}:indep u=true->H' b=some (.Fb o u)->Bk h H H' b (.Fb o u)
 | Fj {o:HO}{ob:Obj}:h.get? b=some ob->aM h H b=none->H' b=none->(∀ xs,o≠.lst xs)->(∀ xs,o≠.tup xs)->(∀ xs,o≠.dK xs)->Bk h H H' b o
section
variable {P:Program}{w:World}{H H':Hp}{h g:Heap}
theorem g9 (x:FD P w H h)(p:Ih h (aM h H) H'){b:Addr}{o:HO}(e:H b=some o):Bk h H H' b o:=by
 obtain⟨ob,he⟩:=(x b o e).at
 have hc:aM h H b=(match (some o:Option HO) with
  | some (.lst xs)=>(h.get? b).map fun o=>.Fb o (.lst xs)
  | some (.dK kvs)=>(h.get? b).map fun o=>.Fb o (.dK kvs)
  | some (.tup xs)=>some (.tup xs)
  | some (.Fb o u)=>if indep u=true then some (.Fb o u) else none
  | _=>none):=by unfold aM;rw[e]
 cases o with
 | lst xs=>
  have hc:aM h H b=(h.get? b).map fun o=>.Fb o (.lst xs):=hc
  rw[he] at hc
  exact .lst he (p.FV _ _ _ hc)
 | dK xs=>
  have hc:aM h H b=(h.get? b).map fun o=>.Fb o (.dK xs):=hc
  rw[he] at hc
  exact .dK he (p.FV _ _ _ hc)
 | tup xs=>exact .tup (p.Gd _ _ hc)
 | Fb o' u=>
  have hc:aM h H b=if indep u=true then some (.Fb o' u) else none:=hc
  by_cases i:indep u=true
  ·rw[if_pos i] at hc
   exact .Fb i (p.FV _ _ _ hc)
  ·rw[if_neg i] at hc
   exact .Fj he hc (p.free _ _ he hc) (fun _ z=>by cases z) (fun _ z=>by cases z) (fun _ z=>by cases z)
 | _=>exact .Fj he hc (p.free _ _ he hc) (fun _ z=>by cases z) (fun _ z=>by cases z) (fun _ z=>by cases z)
theorem qd (x:FD P w H h):FD P w (aM h H) h:=fun b o e=>by
 cases q:H b with
 | none=>unfold aM at e;rw[q] at e;cases e
 | some u=>
  have y:=x b u q
  unfold aM at e
  rw[q] at e
  cases u with
  | lst xs=>
   obtain⟨ob,he⟩:=y.at
   have e:(h.get? b).map (fun o=>HO.Fb o (.lst xs))=some o:=e
   rw[he] at e
   cases e
   exact⟨he,y⟩
  | dK xs=>
   obtain⟨ob,he⟩:=y.at
   have e:(h.get? b).map (fun o=>HO.Fb o (.dK xs))=some o:=e
   rw[he] at e
   cases e
   exact⟨he,y⟩
  | tup xs=>cases e;exact y
  | Fb o' u=>
   have e:(if indep u=true then some (HO.Fb o' u) else none)=some o:=e
   by_cases i:indep u=true
   ·rw[if_pos i] at e;cases e;exact⟨y.1,fV i y.2⟩
   ·rw[if_neg i] at e;cases e
  | _=>cases e
theorem bM (e:H a=none):aM h H a=none:=by unfold aM;rw[e]
theorem res_some {b:Addr}{o:HO}(e:H b=some o):dP H H' b=some o:=by unfold dP;rw[e]
theorem res_none {b:Addr}(e:H b=none):dP H H' b=H' b:=by unfold dP;rw[e]
theorem jU:ak H (dP H H'):=fun b o e=>res_some e
theorem kS (x:FD P w H h)(y:FD P w H' g)(p:Ih h (aM h H) H'){fs:List Addr}(keep:∀ b o,h.get? b=some o->aM h H b=none->b∉fs->g.get? b=some o)(fr:∀ b∈fs,H b=none):FD P w (dP H H') g:=by
 have tp:∀ c xs,H' c=some (.tup xs)->dP H H' c=some (.tup xs):=fun c xs e=>by
  cases q:H c with
  | none=>rw[res_none q];exact e
  | some o=>
   rw[res_some q]
   cases g9 x p q with
   | lst _ z=>rw[z] at e;cases e
   | dK _ z=>rw[z] at e;cases e
   | tup z=>rw[z] at e;exact e
   | Fb _ z=>rw[z] at e;cases e
   | Fj _ _ z _ _ _=>rw[z] at e;cases e
 intro b o e
 cases q:H b with
 | some o'=>
  rw[res_some q] at e
  cases e
  cases g9 x p q with
  | lst h1 z=>
   have h2:=(y b _ z).1
   obtain⟨a1,its,n,a2,a3⟩:=x b _ q
   rw[h1] at a3
   exact⟨a1,its,n,a2,by rw[h2,<- a3]⟩
  | dK h1 z=>exact fV rfl (y b _ z).2
  | tup z=>exact y b _ z
  | Fb i z=>exact⟨(y b _ z).1,fV i (y b _ z).2⟩
  | Fj h1 h2 z n1 n2 n3=>
   refine(x b _ q).GY (fun c u hc hu=>?_) (fun c hc=>res_some hc) fun c xs hc=>res_some hc
   rcases hc with rfl|hc
   ·exact keep _ _ hu h2 fun z=>by rw[fr _ z] at q;cases q
   ·refine keep _ _ hu ?_ fun z=>by rw[fr _ z] at hc;cases hc
    unfold aM
    rw[hc]
 | none=>
  rw[res_none q] at e
  refine(y b o e).GY (fun _ _ _ z=>z) (fun c hc=>?_) tp
  cases q':H c with
  | none=>rw[res_none q'];exact hc
  | some o'=>
   exfalso
   cases g9 x p q' with
   | lst _ z=>rw[z] at hc;cases hc
   | dK _ z=>rw[z] at hc;cases hc
   | tup z=>rw[z] at hc;cases hc
   | Fb _ z=>rw[z] at hc;cases hc
   | Fj _ _ z _ _ _=>rw[z] at hc;cases hc
theorem dQ {fs:List Addr}(u:Un fs [] (aM h H) H' h g):Ih h (aM h H) H':=⟨u.FV,u.Gd,fun b o e n=>u.free b o e n (by simp)⟩
theorem kT {fs:List Addr}(x:FD P w H h)(u:Un fs [] (aM h H) H' h g):Un fs [] H (dP H H') h g where
 keep:=fun b o e n f i=>u.keep b o e (bM n) f i
 slot:=fun b o e n f i=>u.slot b o e (bM n) f i
 free:=fun b o e n i=>by rw[res_none n];exact u.free b o e (bM n) i
 there:=u.there
 Gd:=fun b xs e=>res_some e
 FV:=fun b o v e=>res_some e
 G8:=fun b ps e=>⟨#[],by rw[res_some e];simp⟩
end
noncomputable def H0:Hp:=fun _=>none
noncomputable def GH (P:Program)(w:World):F5:=fun outer H s E e s'=>∃ (a:Addr) (cls a0:Value) (H':Hp) (B:Heap),e=.ref a/\s'.os=s.os/\AllBare s'.gens/\Un (FX outer) [] H H' s.heap s'.heap/\FD P w H' B/\ak H H'/\
 (∀ b o,s.heap.get? b=some o->H b=none->b∉FX outer->B.get? b=some o)/\Heap.FlyingW B outer a cls a0 s'.heap/\E cls none H0
def JF (K:PySem.W.Frag):XK->Hp->Str->Prop:=fun E _ c=>∀ C,PySem.W.nsIn K mainGlobals c=some (some (.ref C))->E (.ref C) none H0
noncomputable def aZ:List Str:=["len","sum","min","max","sorted","list","tuple","ord","int","all","any","str","set","abs","isinstance","range","bool","zip","reversed"]
noncomputable def mf:Bi->Nat
 | .len=>0|.sum=>1|.min2=>2|.max2=>3|.HG=>3|.sorted=>4|.list=>5|.tuple=>6|.ord=>7|.int=>8|.all=>9|.any=>10|.str=>11|.set=>12|.abs=>13
noncomputable def mh:Kd->Nat
 | .str=>11|.int=>8|.bool=>16|.list=>5|.tuple=>6
theorem zH (f:Bi):aZ[mf f]? = some (eJ f):=by cases f<;>rfl
theorem zI (f:Kd):aZ[mh f]? = some (dD f):=by cases f<;>rfl
mutual
noncomputable def oy:D->D->Bool
 | .EZ,.EZ=>true
 | .bl a,.bl b=>a == b
 | .int a,.int b=>a == b
 | .str a,.str b=>a == b
 | .tup a,.tup b=>fW a b
 | .lst o a,.lst o' b=>o == o'&&fW a b
 | _,_=>false
noncomputable def fW:List D->List D->Bool
 | [],[]=>true
 | a::r,b::s=>oy a b&&fW r s
 | _,_=>false
end
mutual
theorem mi:∀ {a b:D},oy a b=true->a=b
 | .EZ,b,h=>by cases b<;>first|rfl|cases h
 | .bl a,b,h=>by cases b<;>first|(rw[eq_of_beq (show (a == _)=true from h)])|cases h
 | .int a,b,h=>by cases b<;>first|(rw[eq_of_beq (show (a == _)=true from h)])|cases h
 | .str a,b,h=>by cases b<;>first|(rw[eq_of_beq (show (a == _)=true from h)])|cases h
 | .tup a,b,h=>by
  cases b with
  | tup b=>rw[fX (show fW a b=true from h)]
  | _=>cases h
 | .lst o a,b,h=>by
  cases b with
  | lst o' b=>
   have h':(o == o'&&fW a b)=true:=h
   rw[Bool.and_eq_true] at h'
   rw[eq_of_beq h'.1,fX h'.2]
  | _=>cases h
theorem fX:∀ {a b:List D},fW a b=true->a=b
 | [],b,h=>by cases b<;>first|rfl|cases h
 | a::r,b,h=>by
  cases b with
  | nil=>cases h
  | cons b s=>
   have h':(oy a b&&fW r s)=true:=h
   rw[Bool.and_eq_true] at h'
   rw[mi h'.1,fX h'.2]
end
structure Sg where
 nm:List Str
 My:List (Nat×D)
 fns:List Nat
 cls:List Nat:=[]
 xt:List (Str×Nat×Bool):=[]
 pl:List Nat:=[]
 rc:List (Nat×Str):=[]
 xm:List (Str×Nat):=[]
noncomputable def Sg.name (Z:Sg)(n:Nat):Option Str:=(aZ++Z.nm)[n]?
noncomputable def Gm.JG (G:Gm)(n:Nat):Bool:=G.cm&&G.gl.contains n
theorem qe {G:Gm}{n:Nat}(h:G.JG n=true):G.gl.contains n=true:=by
 unfold Gm.JG at h;rw[Bool.and_eq_true] at h;exact h.2
theorem qf {G:Gm}{n:Nat}(h:G.JG n=true):G.cm=true:=by
 unfold Gm.JG at h;rw[Bool.and_eq_true] at h;exact h.1
noncomputable def Sg.KW (Z:Sg)(G:Gm)(f:Nat):Bool:=Z.fns.contains f&&(G.cm||Z.pl.contains f)
theorem iW {Z:Sg}{G:Gm}{f:Nat}(h:Z.KW G f=true):f∈Z.fns/\(G.cm=true∨f∈Z.pl):=by
 unfold Sg.KW at h
 rw[Bool.and_eq_true,Bool.or_eq_true] at h
 exact⟨by simpa using h.1,h.2.elim .inl fun z=>.inr (by simpa using z)⟩
noncomputable def kU:Mt->Bool
 | .join=>true
 | _=>false
noncomputable def notStar:Expr->Bool
 | .Starred ..=>false
 | _=>true
noncomputable def cC:Expr->Bool
 | .Slice ..=>false
 | _=>true
noncomputable def fY:Expr->Bool
 | .Call _ [] [] _=>false
 | _=>true
noncomputable def cD (G:Gm)(i:Nat)(x:Str):Bool:=G.N[i]? == some x&&(G.kd[i]? == some .local||G.kd[i]? == some .cell||G.kd[i]? == some .free)
noncomputable def fZ (Z:Sg)(G:Gm)(n:Nat)(x:Str):Bool:=Z.name n == some x&&G.gl.contains n
noncomputable def By:D->Const->Bool
 | .int i,.int j=>i == j
 | .str x,.str y=>x == y
 | .bl a,.bool b=>a == b
 | .EZ,.none=>true
 | _,_=>false
mutual
noncomputable def cf (G:Gm):Tg->Expr->Bool
 | .nm i,.Name x _=>G.N[i]? == some x&&(G.kd[i]? == some .local||(G.df&&G.kd[i]? == some .cell))
 | .tp ts,.Tuple es _ _=>G.cm&&f6 G ts es
 | _,_=>false
noncomputable def f6 (G:Gm):List Tg->List Expr->Bool
 | [],[]=>true
 | t::ts,e::es=>notStar e&&cf G t e&&f6 G ts es
 | _,_=>false
end
mutual
noncomputable def HJ:Tg->List Nat
 | .nm i=>[i]
 | .tp ts=>qg ts
noncomputable def qg:List Tg->List Nat
 | []=>[]
 | t::ts=>HJ t++qg ts
end
noncomputable def bF (Z : Sg)(G : Gm)(scope : Scope)(G' : Gm)(fr : List Nat) : Bool :=
  (G.cm&&scope.kind == .function)&&!G'.tr&&!G'.df&&G'.kd.length == G'.N.length
 &&scope.names.all (fun y => y.2 != .cell)&&scope.names.all (fun y => y.2 != .local||scope.names.lookup y.1 == some .local)
 &&scope.names.all (fun y => y.2 != .free||(List.range G.N.length).any fun i => G.N[i]? == some y.1&&(G.kd[i]? == some .cell||G.kd[i]? == some .free))
 &&(List.range fr.length).all (fun j => G'.N[j]? == (fr[j]?).bind (G.N[·]?)&&((G'.N[j]?).bind (scope.names.lookup ·) == some .free)&&((fr[j]?).bind (G.kd[·]?) == some .cell||(fr[j]?).bind (G.kd[·]?) == some .free)
     &&(G'.kd[j]? == some (if ((fr[j]?).bind (G.kd[·]?) == some .cell) then .cell else .free)))
 &&decide (fr.length <= G'.N.length)
 &&((List.range G'.N.length).drop fr.length).all (fun j => (G'.N[j]?).bind (scope.names.lookup ·) == some .local&&G'.kd[j]? == some .local)
 &&G'.N.all (fun x => !(x == "__debug__")&&!(x == "__classdict__"))
 &&decide (G'.N.Nodup)
 &&G'.gl.all (fun n => match Z.name n with|some x => scope.names.lookup x == some .globalImplicit|none => false)
theorem aa {P:Prop}(h:false=true):P:=by cases h
noncomputable def oz:List Comprehension->(Expr->Expr->List Expr->Bool)->Bool
 | [⟨t,it,fs,0⟩],k=>k t it fs
 | _,_=>false
theorem iX {gens:List Comprehension}{k:Expr->Expr->List Expr->Bool}(h:oz gens k=true):∃ t it fs,gens=[⟨t,it,fs,0⟩]/\k t it fs=true:=by
 unfold oz at h
 split at h
 ·exact⟨_,_,_,rfl,h⟩
 ·cases h
noncomputable def zJ:Expr->Bool
 | .Tuple _ _ _=>true
 | _=>false
noncomputable def eW:Sr->Expr->Bool
 | .zip _ _,t=>zJ t
 | _,_=>true
noncomputable def oA:Bool->CmpOp
 | true=>.NotIn
 | false=>.In
noncomputable def OS:Expr->Bool
 | .Dict ks vs _=>ks.isEmpty&&vs.isEmpty
 | _=>false
theorem qh {e:Expr}(h:OS e=true):∃ p,e=.Dict [] [] p:=by
 cases e with
 | Dict ks vs p=>
  have h':=Bool.and_eq_true_iff.mp (show (ks.isEmpty&&vs.isEmpty)=true from h)
  cases ks with
  | cons _ _=>exact aa h'.1
  | nil=>
   cases vs with
   | cons _ _=>exact aa h'.2
   | nil=>exact⟨p,rfl⟩
 | _=>exact aa h
noncomputable def OT:Expr->(Expr->CmpOp->Expr->Bool)->Bool
 | .Compare l [o] [r] _,k=>k l o r
 | _,_=>false
theorem zK {e:Expr}{k:Expr->CmpOp->Expr->Bool}(h:OT e k=true):∃ l o r p,e=.Compare l [o] [r] p/\k l o r=true:=by
 unfold OT at h
 split at h
 ·exact⟨_,_,_,_,rfl,h⟩
 ·cases h
noncomputable def Mz:Expr->(Str->Str->Expr->Bool)->Bool
 | .Call (.Name x _) [.Call (.Name y _) [e] [] _] [] _,k=>k x y e
 | _,_=>false
theorem qi {e:Expr}{k:Str->Str->Expr->Bool}(h:Mz e k=true):∃ x p y p' e' q' q,e=.Call (.Name x p) [.Call (.Name y p') [e'] [] q'] [] q/\k x y e'=true:=by
 unfold Mz at h
 split at h
 ·exact⟨_,_,_,_,_,_,_,rfl,h⟩
 ·cases h
mutual
noncomputable def E3 (Z:Sg)(G:Gm):IR->Expr->Bool
 | .c d,.Constant k _ _=>By d k
 | .g n d,.Name x _=>fZ Z G n x&&Z.My.any fun p=>p.1 == n&&oy p.2 d
 | .v i,.Name x _=>cD G i x
 | .bin op a b,.BinOp l o r _=>o == LH op&&E3 Z G a l&&E3 Z G b r
 | .neg a,.UnaryOp .USub e _=>E3 Z G a e
 | .cmp op a b,.Compare l [o] [r] _=>o == LI op&&E3 Z G a l&&E3 Z G b r&&!behindInMarks o r
 | .E8 a b,.BoolOp .And [e,e'] _=>E3 Z G a e&&E3 Z G b e'
 | .E8 a b,.BoolOp .And (e::e'::Qd::rest) p=>E3 Z G a e&&E3 Z G b (.BoolOp .And (e'::Qd::rest) p)
 | .HH a b,.BoolOp .Or [e,e'] _=>E3 Z G a e&&E3 Z G b e'
 | .HH a b,.BoolOp .Or (e::e'::Qd::rest) p=>E3 Z G a e&&E3 Z G b (.BoolOp .Or (e'::Qd::rest) p)
 | .F3 a,.UnaryOp .Not e _=>E3 Z G a e
 | .ite t a b,.IfExp c x y _=>E3 Z G t c&&E3 Z G a x&&E3 Z G b y
 | .tup es,.Tuple l _ _=>bj Z G es l
 | .lst es,.List l _=>bj Z G es l
 | .sl a lo hi,.Subscript e (.Slice l h none _) _=>E3 Z G a e&&kW Z G lo l&&kW Z G hi h
 | .idx a i,.Subscript e s _=>cC s&&E3 Z G a e&&E3 Z G i s
 | .call f es,.Call (.Name x _) args [] _=>fZ Z G f x&&Z.KW G f&&bj Z G es args
 | .bi f es,.Call (.Name x _) (a::args) [] _=>x == eJ f&&G.JG (mf f)&&bj Z G es (a::args)
 | .FG a k,.Call (.Name x _) [e,.Name y _] [] _=>x == "isinstance"&&G.gl.contains 14&&y == dD k&&G.gl.contains (mh k)&&notStar e&&E3 Z G a e
 | .G3,e=>OS e
 | .KQ n k a,e=>OT e fun l o r=>o == oA n&&E3 Z G k l&&E3 Z G a r&&!behindInMarks o r
 | .Gu a,e=>Mz e fun x y e=>x == "list"&&G.JG 5&&y == "reversed"&&G.gl.contains 18&&notStar e&&E3 Z G a e
 | .sset a,e=>Mz e fun x y e=>x == "sorted"&&G.gl.contains 4&&y == "set"&&G.gl.contains 12&&(notStar e&&G.cm)&&E3 Z G a e
 | .HV m o es,.Call (.Attribute oe name apos) (a::args) [] E2=>name == fU m&&fY oe&&apos.endLine == E2.line&&(decide ((a::args).length < 29)&&(G.cm||kU m))&&E3 Z G o oe&&bj Z G es (a::args)
 | .comp G' fr tg src ifs elt,.ListComp e gens scope _=>oz gens fun t it fs=>bF Z G scope G' fr&&cf G' tg t&&(HJ tg).all (fun i=>decide (fr.length<=i))&&(cw Z G src it&&eW src t)&&bj Z G' ifs fs&&E3 Z G' elt e
 | _,_=>false
noncomputable def bj (Z:Sg)(G:Gm):List IR->List Expr->Bool
 | [],[]=>true
 | a::es,e::l=>notStar e&&E3 Z G a e&&bj Z G es l
 | _,_=>false
noncomputable def kW (Z:Sg)(G:Gm):Option IR->Option Expr->Bool
 | none,none=>true
 | some a,some e=>E3 Z G a e
 | _,_=>false
noncomputable def cw (Z:Sg)(G:Gm):Sr->Expr->Bool
 | .FO n,.Call (.Name x _) [e] [] _=>x == "range"&&G.gl.contains 15&&notStar e&&E3 Z G n e
 | .zip a b,.Call (.Name x _) [e,e'] [] _=>x == "zip"&&G.gl.contains 17&&notStar e&&notStar e'&&E3 Z G a e&&E3 Z G b e'
 | .val a,e=>E3 Z G a e
 | _,_=>false
end
noncomputable def R3:List Value:=[.type "ValueError",.type "Exception",.type "BaseException",.type "object"]
def Hl (F:Addr->Prop)(H:Hp):Prop:=∀ a,F a->H a≠none
structure Out (K:PySem.W.Frag)(F:Addr->Prop)(H:Hp)(F':Addr->Prop)(H':Hp)(v:V)(d:D)(fv:List Addr):Prop where
 Fi:Hl F' H'
 same:ak H H'
 rep:E6 K F' H' v d fv
 FI:fv.Nodup
 new:∀ a∈fv,H a=none
 G7:∀ a,F a->F' a
 out:∀ a,F' a->F a∨H a=none
noncomputable def LL (K:PySem.W.Frag)(cl:Nat->List D->Res D)(xp:XK->Hp->Str->Prop)(f:Nat)(ps:List Str):Sp:=fun vs H Q E=>vs.length=ps.length/\LJ H/\∃ F ds,Hl F H/\ER K F H vs ds/\
 ES (xp E H) (cl f (E0 ds)) fun d=>∀ v H' F' fv,Out K F H F' H' v d fv->Q v H'
structure NB (P:Program)(w:World)(K:PySem.W.Frag)(mg:Str->Option Value)(base:Heap)(CX:F5)(A:Around)(cl:Nat->List D->Res D)(xp:XK->Hp->Str->Prop)(f:Nat)(x:Str):Prop where
 ex:∃ (k:Nat) (fa:Addr) (fd:FuncData) (ps:List Str),mg x=some (.ref fa)/\PySem.W.keepIn K (.ref fa)=true/\Binds K fd ps []/\GL P w K mg base CX k fa fd ps (LL K cl xp f ps)/\F7 k A/\
  ∀ (ex:Str->Prop) ds (k:D->Prop),ES ex (cl f ds) k->ds.length=ps.length
structure Qe (Z:Sg)(CX:F5)(cl:Nat->List D->Res D)(xp:XK->Hp->Str->Prop)(X:Cx):Prop where
 st:X.stack=X.env::X.outer
 fr:X.env.frame=some X.env.locals
 lt:LJ X.G9
 pl:∀ a:Addr,∀ f∈Z.fns,f∈Z.pl->∀ x,Z.name f=some x->NB X.prog X.w X.K X.mg X.base CX (X.A.mark (some (.ref a))) cl xp f x
 cx:∀ (outer:List Env) (H:Hp) (s:Shared) (E:XK) (e:Value) (s':Shared),CX outer H s E e s'->GH X.prog X.w outer H s E e s'
 xp:∀ (c:Str) (C:Addr) (H:Hp),PySem.W.nsIn X.K mainGlobals c=some (some (.ref C))->xp (fun cls _ _=>cls=.ref C) H c
structure Fz (Z:Sg)(CX:F5)(cl:Nat->List D->Res D)(xp:XK->Hp->Str->Prop)(X:Cx)(ex:Str->Prop)(G:Gm):Prop where
 N:X.N=G.N
 FI:G.N.Nodup
 calm:G.cm=true->X.calm=true
 fk:X.env.scope.kind=.function
 un:X.A.units+42 < cLine
 own:G.rs=true->PassesOwn (model X.prog X.w) X.A X.env X.xe
 kd:∀ (i:Nat) (x:Str),G.N[i]? = some x->X.env.kindOf x=G.kd[i]?
 Ko:∀ (i:Nat) (x:Str),G.N[i]? = some x->(x == ("__debug__" : Str))=false/\(x == ("__classdict__" : Str))=false
 gl:∀ n∈G.gl,∀ x,Z.name n=some x->Gl X x
 LM:∀ n x,Z.name n=some x->x≠"__name__"/\(x == ("__debug__" : Str))=false
 df:G.df=true->∀ x,X.fn x=true
 blt:∀ (n:Nat) (x:Str),aZ[n]? = some x->X.mg x=none
 cst:∀ n d x,(n,d)∈Z.My->Z.name n=some x->∃ u v,X.mg x=some u/\RelV v u/\∀ S H,ET X.K S H v d
 fns:∀ f∈Z.fns,(G.cm=true∨f∈Z.pl)->∀ x,Z.name f=some x->NB X.prog X.w X.K X.mg X.base CX X.A cl xp f x
 NC:∀ n∈Z.cls,∀ x,Z.name n=some x->∃ v,CV X x v
 ND:∀ c n b x,(c,n,b)∈Z.xt->Z.name n=some x->∃ C,PySem.W.nsIn X.K mainGlobals c=some (some (.ref C))/\ExcAt X.K C/\∀ v,CV X x v->PySem.W.kitOne X.K (.ref C) (vv v)=some b
 NF:∀ c n x,(c,n)∈Z.xm->Z.name n=some x->∃ C C',PySem.W.nsIn X.K mainGlobals c=some (some (.ref C))/\PySem.W.nsIn X.K mainGlobals x=some (some (.ref C'))/\nameIn X.K C=some c/\X.mg x=some (.ref C')/\PySem.W.exmOne X.K (.ref C) (.ref C')=some true
 NG:∀ n c,(n,c)∈Z.rc->Z.name n=some c/\∃ C,X.mg c=some (.ref C)/\PySem.W.nsIn X.K mainGlobals c=some (some (.ref C))/\PySem.W.excIn X.K C R3 "ValueError.__new__" = true
 UL:G.rs=true->∀ (pins:List (Addr×Obj)) (σ:St) (H:Hp) (s:Shared) (c:Str) (C:Addr) (h':Heap) (e:Addr) (vs:List Value),Inv X pins σ H s->ex c->PySem.W.nsIn X.K mainGlobals c=some (some (.ref C))->Heap.MadeExcOf s.heap h' e (.ref C) vs->X.xe (.ref e) {s with heap:=h'}
 tr:G.tr=true->Qe Z CX cl xp X
 HK:∃ E:XK,Passes CX X E/\∀ c H,ex c->xp E H c
 JM:∀ (outer:List Env) (H:Hp) (s:Shared) (E:XK) (e:Value) (s':Shared),FD X.prog X.w H s.heap->(∀ b∈FX outer,H b=none)->CX outer (aM s.heap H) s E e s'->CX outer H s E e s'
 Qf:∀ (H:Hp) (outer:List Env) (s:Shared) (e:Value) (s':Shared),¬ CX outer H s (fun _ _ _=>False) e s'
section
variable {P:Program}{w:World}{H H':Hp}{h:Heap}{K:PySem.W.Frag}{Fc F':Addr->Prop}
theorem mj {vs:List V}{ds:List D}(x:FD P w H h)(m:ER K Fc H vs ds):ER K (fun a=>Fc a/\aM h H a≠none) (aM h H) vs ds:=by
 refine(m.step (S':=Fc) (H':=aM h H) (fun a xs f r=>⟨f,?_⟩) fun a xs r=>?_).HF
 ·rcases r with r|⟨o,r⟩
  ·obtain⟨ob,he⟩:=(x a _ r).at
   refine .inr ⟨ob,?_⟩
   unfold aM
   rw[r]
   cases xs with
   | l ys=>show (h.get? a).map _=_;rw[he];rfl
   | d ys=>show (h.get? a).map _=_;rw[he];rfl
  ·refine .inr ⟨o,?_⟩
   unfold aM
   rw[r]
   cases xs<;>rfl
 ·cases xs with
  | inl xs=>
   rcases r with (r|⟨o,r⟩)|r
   ·refine .inl (.inl ?_)
    unfold aM
    rw[r]
   ·refine .inl (.inr ⟨o,?_⟩)
    unfold aM
    rw[r]
    rfl
   ·exact .inr r
  | inr c=>
   obtain⟨C,o,vs,h0,h1,h2,h3⟩:=r
   refine⟨C,o,vs,h0,h1,?_,h3⟩
   unfold aM
   rw[h2]
   rfl
theorem jV (x:FD P w H h)(p:Ih h (aM h H) H'){a:Addr}(n:aM h H a=none)(e:H' a≠none):H a=none:=by
 cases q:H a with
 | none=>rfl
 | some o=>
  obtain⟨ob,he⟩:=(x a o q).at
  exact absurd (p.free a ob he n) e
theorem ml {v:V}{d:D}{fv:List Addr}(x:FD P w H h)(Fi:Hl Fc H)(p:Ih h (aM h H) H')(o:Out K (fun a=>Fc a/\aM h H a≠none) (aM h H) F' H' v d fv):Out K Fc H (fun a=>Fc a∨F' a) (dP H H') v d fv:=by
 have new:∀ a∈fv,H a=none:=fun a ha=>jV x p (o.new a ha) (by obtain⟨_,xs,e⟩:=o.rep.own a ha;rw[e];simp)
 refine⟨fun a ha=>?_,jU,o.rep.step (fun a xs f r=>⟨.inr f,?_⟩) (fun a xs r=>?_) fun a ha nf hn=>⟨fun z=>?_,res_none (new a ha)⟩,o.FI,new,fun a ha=>.inl ha,fun a ha=>?_⟩
 ·cases q:H a with
  | some u=>rw[res_some q];simp
  | none=>
   rw[res_none q]
   rcases ha with ha|ha
   ·exact absurd q (Fi a ha)
   ·exact o.Fi a ha
 ·cases q:H a with
  | none=>unfold Rd;rw[res_none q];exact r
  | some u=>
   unfold Rd
   rw[res_some q]
   cases g9 x p q with
   | lst _ z=>
    cases xs with
    | l ys=>
     rcases r with r|⟨o',r⟩
     ·rw[z] at r;cases r
     ·rw[z] at r;cases r;exact .inl rfl
    | d ys=>rcases r with r|⟨o',r⟩<;>(rw[z] at r;cases r)
   | dK _ z=>
    cases xs with
    | d ys=>
     rcases r with r|⟨o',r⟩
     ·rw[z] at r;cases r
     ·rw[z] at r;cases r;exact .inl rfl
    | l ys=>rcases r with r|⟨o',r⟩<;>(rw[z] at r;cases r)
   | tup z=>cases xs<;>rcases r with r|⟨o',r⟩<;>(rw[z] at r;cases r)
   | Fb _ z=>
    cases xs with
    | l ys=>
     rcases r with r|⟨o',r⟩
     ·rw[z] at r;cases r
     ·rw[z] at r;cases r;exact .inr ⟨_,rfl⟩
    | d ys=>
     rcases r with r|⟨o',r⟩
     ·rw[z] at r;cases r
     ·rw[z] at r;cases r;exact .inr ⟨_,rfl⟩
   | Fj _ _ z _ _ _=>exact absurd z r.some
 ·cases xs with
  | inl xs=>
   rcases r with r|r
   ·refine .inl ?_
    cases q:H a with
    | none=>unfold Rd;rw[res_none q];exact r
    | some u=>
     unfold Rd
     rw[res_some q]
     cases g9 x p q with
     | lst _ z=>rcases r with r|⟨o',r⟩<;>(rw[z] at r;cases r)
     | dK _ z=>rcases r with r|⟨o',r⟩<;>(rw[z] at r;cases r)
     | tup z=>
      rcases r with r|⟨o',r⟩
      ·rw[z] at r;cases r;exact .inl rfl
      ·rw[z] at r;cases r
     | Fb _ z=>
      rcases r with r|⟨o',r⟩
      ·rw[z] at r;cases r
      ·rw[z] at r;cases r;exact .inr ⟨_,rfl⟩
     | Fj _ _ z _ _ _=>exact absurd z r.some
   ·exact .inr r
  | inr c=>
   obtain⟨C,ob,vs,h0,h1,h2,h3⟩:=r
   refine⟨C,ob,vs,h0,h1,?_,h3⟩
   cases q:H a with
   | none=>rw[res_none q];exact h2
   | some u=>
    rw[res_some q]
    cases g9 x p q with
    | lst _ z=>rw[z] at h2;cases h2
    | dK _ z=>rw[z] at h2;cases h2
    | tup z=>rw[z] at h2;cases h2
    | Fb _ z=>rw[z] at h2;cases h2;rfl
    | Fj _ _ z _ _ _=>rw[z] at h2;cases h2
 ·rcases z with z|z
  ·exact Fi a z (new a ha)
  ·exact nf z
 ·rcases ha with ha|ha
  ·exact .inl ha
  ·rcases o.out a ha with z|z
   ·exact .inl z.1
   ·exact .inr (jV x p z (o.Fi a ha))
end
section
variable {X:Cx}{CX:F5}{cl:Nat->List D->Res D}{xp:XK->Hp->Str->Prop}
theorem Inv.NH {pins:List (Addr×Obj)}{σ:St}{H:Hp}{s:Shared}(I:Inv X pins σ H s):IV X.prog X.w X.K X.mg X.base X.A X.stack s (aM s.heap H):=
 ⟨I.G0.frames,I.G0.mod,fun b o e=>⟨(I.G0.bs b o e).1,bM (I.G0.bs b o e).2⟩,I.G0.J0,I.G0.Ge,fun b hb=>bM (I.G0.Jo b hb),qd I.E7,I.G0.bare⟩
theorem mq {k:Nat}{f:Nat}{fa:Addr}{fd:FuncData}{ps:List Str}{E:XK}{pins:List (Addr×Obj)}{σ:St}{H:Hp}{s:Shared}{Q:VK}{us:List Value}{vs:List V}{ds:List D}{Fc:Addr->Prop}
  (F:GL X.prog X.w X.K X.mg X.base CX k fa fd ps (LL X.K cl xp f ps)) (hr:F7 k X.A) (hb:Binds X.K fd ps []) (hx:Passes CX X E)
  (hh:∀ (outer:List Env) (H:Hp) (s:Shared) (E:XK) (e:Value) (s':Shared),FD X.prog X.w H s.heap->(∀ b∈FX outer,H b=none)->CX outer (aM s.heap H) s E e s'->CX outer H s E e s')
  (I:Inv X pins σ H s) (r:Vals vs us) (hl:vs.length=ps.length) (Fi:Hl Fc H) (m:ER X.K Fc H vs ds)
  (q:ES (xp E (aM s.heap H)) (cl f (E0 ds)) fun d=>∀ v H' F' fv,Out X.K Fc H F' H' v d fv->Q v H'):wpAny (model X.prog X.w) X.A (call (.ref fa) us) (EP X pins σ Q) X.xe s:=by
 have Jk:LL X.K cl xp f ps vs (aM s.heap H) (fun v H'=>Ih s.heap (aM s.heap H) H'->Q v (dP H H')) E:=
  ⟨hl,qc _ _,_,ds,fun a h=>h.2,mj I.E7 m,q.mono fun d hd v H' F' fv o p=>hd v _ _ fv (ml I.E7 Fi p o)⟩
 have Mw:(us++([]:List Value)).length=ps.length:=by rw[List.append_nil,<- r.length];exact hl
 have bd:=hb s us I.Hz Mw
 rw[List.append_nil] at bd
 refine wpAny_call (codeAny_mono (F.run X.A X.stack s (aM s.heap H) ⟨us,[]⟩ us vs _ E hr I.NH bd r Jk) fun r' s' hq=>?_)
 cases r' with
 | error e=>exact hx pins σ H s e s' I (hh X.stack H s E e s' I.E7 I.G0.Jo hq)
 | ok fl=>
  cases fl with
  | ret u=>
   obtain⟨v,H',a1,a2,a3,a4,a5,a6⟩:=hq
   exact I.after (Q:=Q) ⟨v,dP H H',a1,a2,kT I.E7 a3,kS I.E7 a4 (dQ a3) (fs:=FX X.stack) (fun b o e n f=>a3.keep b o e n f (by simp)) I.G0.Jo,a5,a6 (dQ a3)⟩
  | next=>exact False.elim hq
  | brk=>exact False.elim hq
  | cont=>exact False.elim hq
end
def Slots (K:PySem.W.Frag)(S:Addr->Prop)(H:Hp)(σ:St)(τ:Ev)(is:List Nat):Prop:=∀ i∈is,∀ d,ai τ i=some d->∃ v,σ[i]? = some (some v)/\ET K S H v d
theorem Slots.sub {K:PySem.W.Frag}{S:Addr->Prop}{H:Hp}{σ:St}{τ:Ev}{is js:List Nat}(h:Slots K S H σ τ is)(s:∀ i∈js,i∈is):Slots K S H σ τ js:=fun i hi d e=>h i (s i hi) d e
theorem Slots.left {K:PySem.W.Frag}{S:Addr->Prop}{H:Hp}{σ:St}{τ:Ev}{is js:List Nat}(h:Slots K S H σ τ (is++js)):Slots K S H σ τ is:=h.sub fun _ hi=>List.mem_append_left _ hi
theorem Slots.right {K:PySem.W.Frag}{S:Addr->Prop}{H:Hp}{σ:St}{τ:Ev}{is js:List Nat}(h:Slots K S H σ τ (is++js)):Slots K S H σ τ js:=h.sub fun _ hi=>List.mem_append_right _ hi
theorem Slots.go {K:PySem.W.Frag}{S:Addr->Prop}{H H':Hp}{σ:St}{τ:Ev}{is:List Nat}(h:Slots K S H σ τ is)(e:ak H H'):Slots K (nw S H) H' σ τ is:=fun i hi d z=>by
 obtain⟨v,h1,h2⟩:=h i hi d z
 exact⟨v,h1,h2.mono (fun _=>.inl) e⟩
def RD (K:PySem.W.Frag)(ex:Str->Prop)(is:List Nat)(f:Ev->Res D):TE:=fun σ H Q=>∃ S τ,Slots K S H σ τ is/\ES ex (f τ) (Kk K S H Q)
def RT (K:PySem.W.Frag)(ex:Str->Prop)(is:List Nat)(f:Ev->Res Bool):TT:=fun σ H Q=>∃ S τ,Slots K S H σ τ is/\ES ex (f τ) fun b=>∀ H',ak H H'->Q b H'
def RA (K:PySem.W.Frag)(ex:Str->Prop)(is:List Nat)(f:Ev->Res (List D)):TA:=fun σ H Q=>∃ S τ,Slots K S H σ τ is/\ES ex (f τ) fun ds=>∀ vs H',ak H H'->ER K (nw S H) H' vs ds->Q vs H'
noncomputable def MA (K:PySem.W.Frag)(ex:Str->Prop)(is:List Nat)(f:Ev->Res (Option Int)):TO:=fun σ H Q=>∃ S τ,Slots K S H σ τ is/\ES ex (f τ) fun o=>∀ H',ak H H'->Q o H'
def WS (K:PySem.W.Frag)(S:Addr->Prop)(H:Hp)(k:Zp.Kq)(a:Addr)(xs:List V):Prop:=match k with
 | .l=>(S a/\Rd H a (.lst xs))∨KL K a xs
 | .t=>Gn K H a xs
theorem WS.sq {K:PySem.W.Frag}{S:Addr->Prop}{H:Hp}{k:Zp.Kq}{a:Addr}{xs:List V}(h:WS K S H k a xs):Jl K H k a xs:=by
 cases k with
 | l=>exact h.elim (fun z=>.inl z.2) fun z=>z.sq
 | t=>exact h
inductive GP (K:PySem.W.Frag)(S:Addr->Prop)(H:Hp):It->List D->Prop where
 | lst {a:Addr}{xs:List V}{ds:List D}:S a->Rd H a (.lst xs)->ER K S H xs ds->GP K S H (Ox K a) ds
 | lstK {a:Addr}{xs:List V}{ds:List D}:KL K a xs->ER K S H xs ds->GP K S H (Ox K a) ds
 | tup {a:Addr}{xs:List V}{ds:List D}:Gn K H a xs->ER K S H xs ds->GP K S H (Pe K a) ds
 | Jg (lo hi:Int):GP K S H (M3 lo (hi - lo).toNat) (bA lo hi)
 | str (x:Str):GP K S H (Qc x) (bD x)
 | zip {p q:Zp.Kq}{l m:Addr}{xs ys:List V}{ds es:List D}:WS K S H p l xs->WS K S H q m ys->ER K S H xs ds->ER K S H ys es->GP K S H (PN K p q l m) (dj ds es)
def RI (K:PySem.W.Frag)(ex:Str->Prop)(is:List Nat)(f:Ev->Res (List D)):TI:=fun σ H R=>∃ S τ,Slots K S H σ τ is/\ES ex (f τ) fun ds=>∀ J H',ak H H'->GP K (nw S H) H' J ds->R J H'
theorem hJ {S:Addr->Prop}{H H1:Hp}(e:ak H H1):∀ a,nw (nw S H) H1 a->nw S H a:=fun a h=>by
 rcases h with h|h
 ·exact h
 ·exact .inr (e.free h)
section
variable {Z:Sg}{CX:F5}{cl:Nat->List D->Res D}{xp:XK->Hp->Str->Prop}{X:Cx}{ex:Str->Prop}{G:Gm}
theorem Kk.fit {K:PySem.W.Frag}{S:Addr->Prop}{H H1:Hp}{Q:VK}{d:D}(e:ak H H1)(h:Kk K S H Q d):Kk K (nw S H) H1 Q d:=fun w H' e' m=>h w H' (e.trans e') (m.mono (hJ e) (.refl _))
theorem qj (g:Fz Z CX cl xp X ex G){n:Nat}{x:Str}(h:fZ Z G n x=true):Gl X x/\Z.name n=some x/\x≠"__name__"/\(x == ("__debug__" : Str))=false:=by
 unfold fZ at h
 rw[Bool.and_eq_true] at h
 have e:Z.name n=some x:=eq_of_beq h.1
 exact⟨g.gl n (by simpa using h.2) x e,e,g.LM n x e⟩
theorem v3 (Z:Sg){n:Nat}{x:Str}(h:aZ[n]? = some x):Z.name n=some x:=by
 unfold Sg.name
 rw[List.getElem?_append_left (List.getElem?_eq_some_iff.mp h).1]
 exact h
theorem dv (g:Fz Z CX cl xp X ex G){n:Nat}{x:Str}(h:aZ[n]? = some x)(hc:G.gl.contains n=true):Gl X x/\X.mg x=none/\x≠"__name__"/\(x == ("__debug__" : Str))=false:=
 ⟨g.gl n (by simpa using hc) x (v3 Z h),g.blt n x h,g.LM n x (v3 Z h)⟩
theorem ah {e:Expr}(h:notStar e=true)(es:List Expr)(env:Env):starEach (e::es) env=(false,eval e env)::starEach es env:=by
 cases e<;>first|rfl|cases h
theorem bU (Z:Sg)(G:Gm):∀ {es:List IR}{l:List Expr} (p:Pos) (env:Env),bj Z G es l=true->(backTo p (starEach l env)).any (·.1)=false
 | [],[],_,_,_=>rfl
 | a::es,e::l,p,env,h=>by
  have h':(notStar e&&E3 Z G a e&&bj Z G es l)=true:=h
  simp only[Bool.and_eq_true] at h'
  rw[ah h'.1.1]
  have ih:=bU Z G (es:=es) (l:=l) p env h'.2
  show (false||(backTo p (starEach l env)).any (·.1))=false
  rw[ih]
  rfl
 | [],_::_,_,_,h=>by cases h
 | _::_,[],_,_,h=>by cases h
theorem ql {d:D}{v:V}(h:∀ S H,ET X.K S H v d){σ:St}{H:Hp}{Q:VK}{is:List Nat}(q:RD X.K ex is (fun _=>.ok d) σ H Q):Q v H:=by
 obtain⟨S,τ,_,q⟩:=q
 exact q.ok _ _ (.refl _) (h _ _)
theorem Bz {e:Expr}{is:List Nat}{f:Ev->Res D}(h:PE X e (RD X.K ex is f))(he:∀ whole,isTrue e X.env whole=(do let v <- whole;standAt e.pos;holding [v] (truthy v))):PT X e (RT X.K ex is fun τ=>U (f τ) aD):=by
 intro pins s σ H Q I hw
 obtain⟨S,τ,hs,hw⟩:=hw
 refine isTrue_plain (Fe (h pins s σ H (fun v H'=>∃ d,ak H H'/\ET X.K (nw S H) H' v d/\ES ex (aD d) fun b=>∀ H',ak H H'->Q b H') I ⟨S,τ,hs,(ES.U hw).mono fun d hd v H' e m=>⟨d,e,m,hd⟩⟩) fun v s1 ⟨x,H1,I1,r1,d,e,m,hd⟩=>?_) (he _)
 exact ff I1 r1 m (hd.mono fun b z=>z H1 e)
end
section
variable {Z:Sg}{CX:F5}{cl:Nat->List D->Res D}{xp:XK->Hp->Str->Prop}{X:Cx}{ex:Str->Prop}{G:Gm}{K:PySem.W.Frag}{S:Addr->Prop}{H H1:Hp}{σ:St}{τ:Ev}
theorem ba {is:List Nat}{f:Ev->Res D}{Kt:D->Prop}{Q:VK}(e:ak H H1)(hs:Slots K S H σ τ is)(h:ES ex (f τ) Kt)(k:∀ x v H2,ak H H2->ak H1 H2->ET K (nw S H) H2 v x->Kt x->Q v H2):RD K ex is f σ H1 Q:=
 ⟨nw S H,τ,hs.go e,h.mono fun x hx v H2 e2 m=>k x v H2 (e.trans e2) e2 (m.mono (hJ e) (.refl _)) hx⟩
theorem dR {is:List Nat}{f:Ev->Res Bool}{Kt:Bool->Prop}{Q:Bool->Hp->Prop}(e:ak H H1)(hs:Slots K S H σ τ is)(h:ES ex (f τ) Kt)(k:∀ x H2,ak H H2->ak H1 H2->Kt x->Q x H2):RT K ex is f σ H1 Q:=
 ⟨nw S H,τ,hs.go e,h.mono fun x hx H2 e2=>k x H2 (e.trans e2) e2 hx⟩
theorem kX {is:List Nat}{f:Ev->Res (List D)}{Kt:List D->Prop}{Q:List V->Hp->Prop}(e:ak H H1)(hs:Slots K S H σ τ is)(h:ES ex (f τ) Kt)(k:∀ x v H2,ak H H2->ak H1 H2->ER K (nw S H) H2 v x->Kt x->Q v H2):RA K ex is f σ H1 Q:=
 ⟨nw S H,τ,hs.go e,h.mono fun x hx v H2 e2 m=>k x v H2 (e.trans e2) e2 (m.mono (hJ e) (.refl _)) hx⟩
theorem u3 {is:List Nat}{f:Ev->Res (Option Int)}{Kt:Option Int->Prop}{Q:Option Int->Hp->Prop}(e:ak H H1)(hs:Slots K S H σ τ is)(h:ES ex (f τ) Kt)(k:∀ x H2,ak H H2->ak H1 H2->Kt x->Q x H2):MA K ex is f σ H1 Q:=
 ⟨nw S H,τ,hs.go e,h.mono fun x hx H2 e2=>k x H2 (e.trans e2) e2 hx⟩
theorem ET.later {v:V}{d:D}{H2:Hp}(h:ET K (L2.nw S H) H1 v d)(e:ak H1 H2):ET K (L2.nw S H) H2 v d:=h.mono (fun _ z=>z) e
theorem ER.later {v:List V}{d:List D}{H2:Hp}(h:ER K (L2.nw S H) H1 v d)(e:ak H1 H2):ER K (L2.nw S H) H2 v d:=h.mono (fun _ z=>z) e
theorem UM (g:Fz Z CX cl xp X ex G){i:Nat}{x:Str}{pos:Pos}(h:cD G i x=true):PE X (.Name x pos) (RD X.K ex [i] (EV cl (.v i))):=by
 unfold cD at h
 rw[Bool.and_eq_true] at h
 have hx:G.N[i]? = some x:=eq_of_beq h.1
 have hk:=g.kd i x hx
 have hv:MW X.env.scope x:=by
  have h2:=h.2
  rw[Bool.or_eq_true,Bool.or_eq_true] at h2
  rcases h2 with (h2|h2)|h2
  ·exact .inl (hk.trans (eq_of_beq h2))
  ·exact .inr (.inl (hk.trans (eq_of_beq h2)))
  ·exact .inr (.inr (hk.trans (eq_of_beq h2)))
 refine aw (oK (i:=i) (by rw[g.N];exact hx) hv (g.Ko i x hx).1 (g.Ko i x hx).2) fun σ H Q q=>?_
 obtain⟨S,τ,hs,q⟩:=q
 rw[Bu] at q
 cases z:ai τ i with
 | none=>rw[z] at q;exact q.no.elim
 | some d=>
  rw[z] at q
  obtain⟨v,h1,h2⟩:=hs i (by simp) d z
  exact⟨v,h1,q.ok _ _ (.refl _) h2.nw⟩
theorem UN {d:D}{k:Const}{j:Nat}{pos:Pos}(h:By d k=true):PE X (.Constant k j pos) (RD X.K ex [] (EV cl (.c d))):=by
 cases d with
 | EZ=>
  cases k with
  | none=>exact aw yE fun σ H Q q=>ql (fun _ _=>.EZ) q
  | _=>cases h
 | bl b=>
  cases k with
  | bool b'=>
   have e:b=b':=eq_of_beq h
   subst e
   exact aw AX fun σ H Q q=>ql (fun _ _=>.bl _) q
  | _=>cases h
 | int b=>
  cases k with
  | int b'=>
   have e:b=b':=eq_of_beq h
   subst e
   exact aw yD fun σ H Q q=>ql (fun _ _=>.int _) q
  | _=>cases h
 | str b=>
  cases k with
  | str b'=>
   have e:b=b':=eq_of_beq h
   subst e
   exact aw yF fun σ H Q q=>ql (fun _ _=>.str _) q
  | _=>cases h
 | tup _=>cases k<;>cases h
 | lst _ _=>cases k<;>cases h
 | exc _=>cases k<;>cases h
 | Ff o ks ds=>cases k<;>cases h
theorem UO (g:Fz Z CX cl xp X ex G){n:Nat}{d:D}{x:Str}{pos:Pos}(h:fZ Z G n x=true)(hk:Z.My.any (fun p=>p.1 == n&&oy p.2 d)=true):PE X (.Name x pos) (RD X.K ex [] (EV cl (.g n d))):=by
 obtain⟨h1,h2,h3,h4⟩:=qj g h
 rw[List.any_eq_true] at hk
 obtain⟨⟨m,d'⟩,hm,hk⟩:=hk
 rw[Bool.and_eq_true] at hk
 have e1:m=n:=eq_of_beq hk.1
 have e2:d'=d:=mi hk.2
 subst e1 e2
 obtain⟨u,v,hu,r,hr⟩:=g.cst m d' x hm h2
 exact aw (uc h1 hu r h4) fun σ H Q q=>ql hr q
theorem BA {op:JA}{a b:Expr}{pos:Pos}{va vb:List Nat}{fa fb:Ev->Res D}(ha:PE X a (RD X.K ex va fa))(hb:PE X b (RD X.K ex vb fb)) :
  PE X (.BinOp a (LH op) b pos) (RD X.K ex (va++vb) fun τ=>U (fa τ) fun x=>U (fb τ) fun y=>GW op x y):=by
 refine aw (vY (zE (ex:=ex) op) ha hb) fun σ H Q ⟨S,τ,hs,q⟩=>?_
 refine ba (.refl _) hs.left (ES.U q) fun x v H1 e1 _ m1 q1=>?_
 refine ba e1 hs.right (ES.U q1) fun y w H2 e2 Gk m2 q2=>?_
 exact⟨nw S H,x,y,m1.later Gk,m2,q2.mono fun d hd=>hd.fit e2⟩
theorem BB {a:Expr}{pos:Pos}{va:List Nat}{fa:Ev->Res D}(ha:PE X a (RD X.K ex va fa)) :
  PE X (.UnaryOp .USub a pos) (RD X.K ex va fun τ=>U (fa τ) fun|.int i=>.ok (.int (-i))|_=>EY):=by
 refine aw (A7 y0 ha) fun σ H Q ⟨S,τ,hs,q⟩=>?_
 refine ba (.refl _) hs (ES.U q) fun x v H1 e1 _ m1 q1=>?_
 cases x with
 | int i=>cases m1.E9;exact⟨i,rfl,q1.ok _ _ e1 (.int _)⟩
 | _=>exact q1.no.elim
theorem BC (g:Fz Z CX cl xp X ex G){op:IY}{a b:Expr}{pos:Pos}{va vb:List Nat}{fa fb:Ev->Res D}(ha:PE X a (RD X.K ex va fa))(hb:PE X b (RD X.K ex vb fb))(hm:behindInMarks (LI op) b=false) :
  PE X (.Compare a [LI op] [b] pos) (RD X.K ex (va++vb) fun τ=>U (fa τ) fun x=>U (fb τ) fun y=>U (G5 op x y) fun r=>.ok (.bl r))/\
  PT X (.Compare a [LI op] [b] pos) (RT X.K ex (va++vb) fun τ=>U (U (fa τ) fun x=>U (fb τ) fun y=>U (G5 op x y) fun r=>.ok (.bl r)) aD):=by
 refine⟨aw (uk (p6 (ex:=ex) g.un op) ha hb hm) fun σ H Q ⟨S,τ,hs,q⟩=>?_,eh (um (p6 (ex:=ex) g.un op) ha hb hm) fun σ H Q ⟨S,τ,hs,q⟩=>?_⟩
 ·refine ba (.refl _) hs.left (ES.U q) fun x v H1 e1 _ m1 q1=>?_
  refine ba e1 hs.right (ES.U q1) fun y w H2 e2 Gk m2 q2=>?_
  exact⟨nw S H,x,y,m1.later Gk,m2,(ES.U q2).mono fun d hd=>hd.ok _ _ e2 (.bl _)⟩
 ·refine ba (.refl _) hs.left (ES.U (ES.U q)) fun x v H1 e1 _ m1 q1=>?_
  refine ba e1 hs.right (ES.U q1) fun y w H2 e2 Gk m2 q2=>?_
  exact⟨nw S H,x,y,m1.later Gk,m2,(ES.U q2).mono fun d hd=>⟨d,rfl,hd.ok.ok H2 e2⟩⟩
theorem v5 {a b:Expr}{rest:List Expr}{pos:Pos}{va vb:List Nat}{fa fb:Ev->Res D}(ha:PE X a (RD X.K ex va fa))(hb:PE X (.BoolOp .And (b::rest) pos) (RD X.K ex vb fb)) :
  PE X (.BoolOp .And (a::b::rest) pos) (RD X.K ex (va++vb) fun τ=>U (fa τ) fun x=>U (aD x) fun r=>if r=true then fb τ else .ok x):=by
 intro pins s σ H Q I h
 obtain⟨S,τ,hs,q⟩:=h
 refine BoolOp_and (Fe (ha pins s σ H (fun v H'=>∃ d,ak H H'/\ET X.K (nw S H) H' v d/\_) I (ba (.refl _) hs.left (ES.U q) fun x v H1 e1 _ m1 q1=>⟨x,e1,m1,q1⟩)) fun v s1 ⟨x,H1,I1,r1,d,e1,m1,q1⟩=>?_)
 refine Fe (ff (Q:=fun b H'=>H'=H1/\ES ex (if b=true then fb τ else .ok d) (Kk X.K S H Q)) I1 r1 m1 ((ES.U q1).mono fun b z=>⟨rfl,z⟩)) fun c s2 ⟨H2,I2,e2,q2⟩=>?_
 subst e2
 cases c with
 | true=>
  rw[if_pos rfl] at q2 ⊢
  exact hb pins s2 σ _ Q I2 (ba e1 hs.right q2 fun y w H3 e3 _ m3 q3=>q3 _ _ e3 m3)
 | false=>
  rw[if_neg Bool.false_ne_true] at q2 ⊢
  exact⟨x,_,I2,r1,q2.ok _ _ e1 m1⟩
theorem BD {a b:Expr}{rest:List Expr}{pos:Pos}{va vb:List Nat}{fa fb:Ev->Res D}(ha:PE X a (RD X.K ex va fa))(hb:PE X (.BoolOp .Or (b::rest) pos) (RD X.K ex vb fb)) :
  PE X (.BoolOp .Or (a::b::rest) pos) (RD X.K ex (va++vb) fun τ=>U (fa τ) fun x=>U (aD x) fun r=>if r=true then .ok x else fb τ):=by
 intro pins s σ H Q I h
 obtain⟨S,τ,hs,q⟩:=h
 refine BoolOp_or (Fe (ha pins s σ H (fun v H'=>∃ d,ak H H'/\ET X.K (nw S H) H' v d/\_) I (ba (.refl _) hs.left (ES.U q) fun x v H1 e1 _ m1 q1=>⟨x,e1,m1,q1⟩)) fun v s1 ⟨x,H1,I1,r1,d,e1,m1,q1⟩=>?_)
 refine Fe (ff (Q:=fun b H'=>H'=H1/\ES ex (if b=true then .ok d else fb τ) (Kk X.K S H Q)) I1 r1 m1 ((ES.U q1).mono fun b z=>⟨rfl,z⟩)) fun c s2 ⟨H2,I2,e2,q2⟩=>?_
 subst e2
 cases c with
 | false=>
  rw[if_neg Bool.false_ne_true] at q2 ⊢
  exact hb pins s2 σ _ Q I2 (ba e1 hs.right q2 fun y w H3 e3 _ m3 q3=>q3 _ _ e3 m3)
 | true=>
  rw[if_pos rfl] at q2 ⊢
  exact⟨x,_,I2,r1,q2.ok _ _ e1 m1⟩
theorem BE {a:Expr}{pos:Pos}{va:List Nat}{fa:Ev->Res D}(ha:PE X a (RD X.K ex va fa))(ht:PT X a (RT X.K ex va fun τ=>U (fa τ) aD)) :
  PE X (.UnaryOp .Not a pos) (RD X.K ex va fun τ=>U (fa τ) fun x=>U (aD x) fun r=>.ok (.bl !r))/\PT X (.UnaryOp .Not a pos) (RT X.K ex va fun τ=>U (U (fa τ) fun x=>U (aD x) fun r=>.ok (.bl !r)) aD):=by
 constructor
 ·intro pins s σ H Q I h
  obtain⟨S,τ,hs,q⟩:=h
  refine UnaryOp_ (Fe (ha pins s σ H (fun v H'=>∃ d,ak H H'/\ET X.K (nw S H) H' v d/\_) I (ba (.refl _) hs (ES.U q) fun x v H1 e1 _ m1 q1=>⟨x,e1,m1,q1⟩)) fun v s1 ⟨x,H1,I1,r1,d,e1,m1,q1⟩=>?_)
  refine not_of (Fe (ff (Q:=fun b H'=>Q (.bl !b) H') I1 r1 m1 ((ES.U q1).mono fun b z=>z.ok _ _ e1 (.bl _))) fun c s2 ⟨H2,I2,q2⟩=>⟨.bl !c,H2,I2,rfl,q2⟩)
 ·refine eh (yJ ht) fun σ H Q ⟨S,τ,hs,q⟩=>?_
  exact dR (.refl _) hs (ES.mk ((ES.U (ES.U q)).mono fun x hx=>(ES.U hx).mono fun r hr=>hr.ok.ok)) fun x H2 e2 _ k=>k H2 e2
theorem qm {e:Expr}{pos:Pos}{op:BoolOp}{es:List Expr}{t:TT}(h:PT X (.BoolOp op es pos) t):PW X (.BoolOp op es pos) t:=fun _ pins s σ H Q I q=>h pins s σ H Q I q
theorem v7 {a b:Expr}{rest:List Expr}{pos:Pos}{va vb:List Nat}{fa fb:Ev->Res D}(ha:PT X a (RT X.K ex va fun τ=>U (fa τ) aD))(hb:PW X (.BoolOp .And (b::rest) pos) (RT X.K ex vb fun τ=>U (fb τ) aD)) :
  PT X (.BoolOp .And (a::b::rest) pos) (RT X.K ex (va++vb) fun τ=>U (U (fa τ) fun x=>U (aD x) fun r=>if r=true then fb τ else .ok x) aD):=by
 refine eh (yI ha hb).pt fun σ H Q ⟨S,τ,hs,q⟩=>?_
 refine dR (.refl _) hs.left (Kt:=fun r=>ES ex (if r=true then U (fb τ) aD else .ok false) fun b=>∀ H',ak H H'->Q b H') (ES.mk ((ES.U (ES.U q)).mono fun x hx=>(ES.U hx).eq.mono fun r hr=>?_)) fun r H2 e2 _ k=>?_
 ·obtain⟨er,hr⟩:=hr
  cases r with
  | true=>rw[if_pos rfl] at hr ⊢;exact ES.mk hr
  | false=>
   rw[if_neg Bool.false_ne_true] at hr ⊢
   have LF:ES ex (aD x) _:=hr
   rw[er] at LF
   exact LF
 ·cases r with
  | true=>rw[if_pos rfl] at k ⊢;exact dR e2 hs.right k fun b H3 e3 _ z=>z H3 e3
  | false=>rw[if_neg Bool.false_ne_true] at k ⊢;exact k.ok H2 e2
theorem BF {a b:Expr}{rest:List Expr}{pos:Pos}{va vb:List Nat}{fa fb:Ev->Res D}(ha:PT X a (RT X.K ex va fun τ=>U (fa τ) aD))(hb:PW X (.BoolOp .Or (b::rest) pos) (RT X.K ex vb fun τ=>U (fb τ) aD)) :
  PT X (.BoolOp .Or (a::b::rest) pos) (RT X.K ex (va++vb) fun τ=>U (U (fa τ) fun x=>U (aD x) fun r=>if r=true then .ok x else fb τ) aD):=by
 refine eh (AZ ha hb).pt fun σ H Q ⟨S,τ,hs,q⟩=>?_
 refine dR (.refl _) hs.left (Kt:=fun r=>ES ex (if r=true then .ok true else U (fb τ) aD) fun b=>∀ H',ak H H'->Q b H') (ES.mk ((ES.U (ES.U q)).mono fun x hx=>(ES.U hx).eq.mono fun r hr=>?_)) fun r H2 e2 _ k=>?_
 ·obtain⟨er,hr⟩:=hr
  cases r with
  | false=>rw[if_neg Bool.false_ne_true] at hr ⊢;exact ES.mk hr
  | true=>
   rw[if_pos rfl] at hr ⊢
   have LF:ES ex (aD x) _:=hr
   rw[er] at LF
   exact LF
 ·cases r with
  | false=>rw[if_neg Bool.false_ne_true] at k ⊢;exact dR e2 hs.right k fun b H3 e3 _ z=>z H3 e3
  | true=>rw[if_pos rfl] at k ⊢;exact k.ok H2 e2
theorem BG {c a b:Expr}{pos:Pos}{vc va vb:List Nat}{fc fa fb:Ev->Res D}(hc:PT X c (RT X.K ex vc fun τ=>U (fc τ) aD))(ha:PE X a (RD X.K ex va fa))(hb:PE X b (RD X.K ex vb fb))
  (ta:PT X a (RT X.K ex va fun τ=>U (fa τ) aD)) (tb:PT X b (RT X.K ex vb fun τ=>U (fb τ) aD)) :
  PE X (.IfExp c a b pos) (RD X.K ex (vc++va++vb) fun τ=>U (fc τ) fun x=>U (aD x) fun r=>if r=true then fa τ else fb τ)/\
  PT X (.IfExp c a b pos) (RT X.K ex (vc++va++vb) fun τ=>U (U (fc τ) fun x=>U (aD x) fun r=>if r=true then fa τ else fb τ) aD):=by
 constructor
 ·refine aw (jv hc ha hb) fun σ H Q ⟨S,τ,hs,q⟩=>?_
  refine dR (.refl _) hs.left.left (ES.mk ((ES.U q).mono fun x hx=>ES.U hx)) fun r H2 e2 _ k=>?_
  cases r with
  | true=>rw[if_pos rfl] at k ⊢;exact ba e2 hs.left.right k fun y w H3 e3 _ m3 q3=>q3 _ _ e3 m3
  | false=>rw[if_neg Bool.false_ne_true] at k ⊢;exact ba e2 hs.right k fun y w H3 e3 _ m3 q3=>q3 _ _ e3 m3
 ·intro pins s σ H Q I h
  obtain⟨S,τ,hs,q⟩:=h
  refine isTrue_IfExp (Fe (hc pins s σ H (fun r H2=>ak H H2/\ES ex (if r=true then fa τ else fb τ) fun d=>ES ex (aD d) fun b=>∀ H',ak H H'->Q b H') I
   (dR (.refl _) hs.left.left (ES.mk ((ES.U (ES.U q)).mono fun x hx=>ES.U hx)) fun r H2 e2 _ k=>⟨e2,k⟩)) fun d s1 ⟨H1,I1,e1,q1⟩=>?_)
  cases d with
  | true=>rw[if_pos rfl] at q1;exact ta pins s1 σ H1 Q I1 (dR e1 hs.left.right (ES.mk q1) fun b H3 e3 _ z=>z H3 e3)
  | false=>rw[if_neg Bool.false_ne_true] at q1;exact tb pins s1 σ H1 Q I1 (dR e1 hs.right (ES.mk q1) fun b H3 e3 _ z=>z H3 e3)
theorem BH {es:List Expr}{n:Nat}{pos:Pos}{va:List Nat}{fa:Ev->Res (List D)}(h:PA X es (RA X.K ex va fa)):PE X (.Tuple es n pos) (RD X.K ex va fun τ=>U (fa τ) fun ds=>EX (aV ds.length) (.ok (.tup ds))):=by
 refine aw (oZ h) fun σ H Q ⟨S,τ,hs,q⟩=>?_
 refine kX (.refl _) hs (ES.U q) fun ds vs H1 e1 _ m1 q1=>?_
 obtain⟨g,q1⟩:=ES.EX q1
 exact⟨by rw[m1.length];exact bq g,fun p hp=>q1.ok _ _ (e1.trans (.upd hp)) ((zD hp m1).mono (hJ e1) (.refl _))⟩
theorem BI {es:List Expr}{pos:Pos}{va:List Nat}{fa:Ev->Res (List D)}(h:PA X es (RA X.K ex va fa)):PE X (.List es pos) (RD X.K ex va fun τ=>U (fa τ) fun ds=>EX (aV ds.length) (.ok (.lst true ds))):=by
 refine aw (o4 h) fun σ H Q ⟨S,τ,hs,q⟩=>?_
 refine kX (.refl _) hs (ES.U q) fun ds vs H1 e1 _ m1 q1=>?_
 obtain⟨g,q1⟩:=ES.EX q1
 exact⟨by rw[m1.length];exact bq g,fun p hp=>q1.ok _ _ (e1.trans (.upd hp)) ((uT hp m1).mono (hJ e1) (.refl _))⟩
theorem BJ {a b:Expr}{pos:Pos}{va vb:List Nat}{fa fb:Ev->Res D}(ha:PE X a (RD X.K ex va fa))(hb:PE X b (RD X.K ex vb fb))(hp:cC b=true) :
  PE X (.Subscript a b pos) (RD X.K ex (va++vb) fun τ=>U (fa τ) fun x=>U (fb τ) fun y=>bt x y):=by
 refine aw (Bc (uU (ex:=ex)) ha hb fun o i=>by cases b<;>first|rfl|cases hp) fun σ H Q ⟨S,τ,hs,q⟩=>?_
 refine ba (.refl _) hs.left (ES.U q) fun x v H1 e1 _ m1 q1=>?_
 refine ba e1 hs.right (ES.U q1) fun y w H2 e2 Gk m2 q2=>?_
 exact⟨nw S H,x,y,m1.later Gk,m2,q2.mono fun d hd=>hd.fit e2⟩
theorem EF {a:Expr}{lo hi:Option Expr}{pos p2:Pos}{va vl vh:List Nat}{fa:Ev->Res D}{fl fh:Ev->Res (Option Int)}(ha:PE X a (RD X.K ex va fa))(hl:PO X lo (MA X.K ex vl fl))(hh:PO X hi (MA X.K ex vh fh)) :
  PE X (.Subscript a (.Slice lo hi none p2) pos) (RD X.K ex (va++vl++vh) fun τ=>U (fa τ) fun x=>U (fl τ) fun l=>U (fh τ) fun h=>jL x l h):=by
 refine aw (jz (uV (ex:=ex)) ha hl hh) fun σ H Q ⟨S,τ,hs,q⟩=>?_
 refine ba (.refl _) hs.left.left (ES.U q) fun x v H1 e1 _ m1 q1=>?_
 refine u3 e1 hs.left.right (ES.U q1) fun l H2 e2 Gk q2=>?_
 refine u3 e2 hs.right (ES.U q2) fun h H3 e3 OU q3=>?_
 exact⟨nw S H,x,m1.later (Gk.trans OU),q3.mono fun d hd=>hd.fit e3⟩
theorem s_call (g:Fz Z CX cl xp X ex G){f:Nat}{x:Str}{p pos:Pos}{es:List IR}{args:List Expr}(h1:fZ Z G f x=true)(h2:Z.KW G f=true)(F8:bj Z G es args=true)(h:PA X args (RA X.K ex (ay es) (bh cl es))) :
  PE X (.Call (.Name x p) args [] pos) (RD X.K ex (ay es) fun τ=>U (bh cl es τ) fun ds=>cl f (E0 ds)):=by
 obtain⟨k1,k2,k3,k4⟩:=qj g h1
 obtain⟨k,Qg,fd,ps,hm,Kp,hb,F,hr,hlen⟩:=(g.fns f (iW h2).1 (iW h2).2 x k2).ex
 obtain⟨E,hP,hE⟩:=g.HK
 intro pins s σ H Q I q
 obtain⟨S,τ,hs,q⟩:=q
 have fin:∀ (us:List Value) (s1:Shared) (vs:List V) (H1:Hp) (ds:List D),Inv X pins σ H1 s1->Vals vs us->ak H H1->ER X.K (nw S H) H1 vs ds->ES ex (cl f (E0 ds)) (Kk X.K S H Q)->wpAny (model X.prog X.w) X.A (call (.ref Qg) us) (EP X pins σ Q) X.xe s1:=by
  intro us s1 vs H1 ds I1 r e m q1
  have hl:=hlen ex _ _ q1
  rw[bW] at hl
  refine mq F hr hb hP g.JM I1 r (by rw[m.length];exact hl) (Fc:=fun a=>nw S H a/\H1 a≠none) (fun a z=>z.2) m.HF ?_
  cases z:cl f (E0 ds) with
  | error er=>
   rw[z] at q1
   cases er with
   | stuck=>exact q1.no.elim
   | exc c=>exact hE c _ q1
  | ok d=>
   rw[z] at q1
   intro v H' F' fv o
   refine q1.ok _ _ (e.trans o.same) (o.rep.read (fun a ha=>?_) fun a ha=>?_)
   ·rcases o.out a ha with z|z
    ·exact z.1
    ·exact .inr (e.free z)
   ·exact .inr (e.free (o.new a ha))
 refine wpAny_Call_Name_kw (iH I k1 hm ?_ k4)
 cases args with
 | nil=>
  cases es with
  | cons _ _=>cases F8
  | nil=>
   exact PySem.W.callWith_K0 I.Hz Kp (fin [] s [] H [] I .nil (.refl _) .nil q)
 | cons e l=>
  cases es with
  | nil=>cases F8
  | cons a es=>
   have FE:(notStar e&&E3 Z G a e&&bj Z G es l)=true:=F8
   simp only[Bool.and_eq_true] at FE
   refine PySem.W.callWith_K (h₀:=X.base) I.ok.mod.Oo Kp (Fe (h pos pins s σ H (fun vs H1=>∃ ds,ak H H1/\ER X.K (nw S H) H1 vs ds/\ES ex (cl f (E0 ds)) (Kk X.K S H Q)) I ⟨S,τ,hs,(ES.U q).mono fun ds hd vs H1 e m=>⟨ds,e,m,hd⟩⟩) fun us s1 ⟨vs,H1,I1,r,ds,e,m,q1⟩=>⟨I1.Hz,?_⟩) (ah FE.1.1 l X.env) (bU Z G (es:=es) pos X.env FE.2)
   exact fin us s1 vs H1 ds I1 r e m q1
theorem EG (g:Fz Z CX cl xp X ex G){f:Bi}{p pos:Pos}{es:List IR}{a:Expr}{args:List Expr}(hg:G.JG (mf f)=true)(F8:bj Z G es (a::args)=true)(h:PA X (a::args) (RA X.K ex (ay es) (bh cl es))) :
  PE X (.Call (.Name (eJ f) p) (a::args) [] pos) (RD X.K ex (ay es) fun τ=>U (bh cl es τ) fun ds=>cR f ds):=by
 obtain⟨k1,k2,k3,k4⟩:=dv g (zH f) (qe hg)
 cases es with
 | nil=>cases F8
 | cons b es=>
  have FE:(notStar a&&E3 Z G b a&&bj Z G es args)=true:=F8
  simp only[Bool.and_eq_true] at FE
  have mono:∀ σ H Q,RD X.K ex (ay (b::es)) (fun τ=>U (bh cl (b::es) τ) fun ds=>cR f ds) σ H Q->Pn (R0 X.K ex f) (RA X.K ex (ay (b::es)) (bh cl (b::es))) σ H Q:=by
   rintro σ H Q ⟨S,τ,hs,q⟩
   refine kX (.refl _) hs (ES.U q) fun ds vs H1 e1 _ m1 q1=>?_
   exact⟨nw S H,ds,m1,q1.mono fun d hd=>hd.fit e1⟩
  refine aw ?_ mono
  have hv:=uW f
  have hc:=uX (X:=X) (ex:=ex) (g.calm (qf hg)) f
  unfold p8 at hv hc
  cases z:Bw f with
  | true=>
   rw[z,if_pos rfl] at hv hc
   exact gO hc k1 k2 hv h k3 k4 (ah FE.1.1 args X.env) (bU Z G (es:=es) pos X.env FE.2)
  | false=>
   rw[z,if_neg Bool.false_ne_true] at hv hc
   exact fD hc k1 k2 hv h k3 k4 (ah FE.1.1 args X.env) (bU Z G (es:=es) pos X.env FE.2)
noncomputable def Qh:Kd->V
 | .str=>.ty "str" | .int=>.ty "int" | .bool=>.ty "bool" | .list=>.ty "list" | .tuple=>.ty "tuple"
theorem mr (k:Kd):RelV (Qh k) (p9 k):=by cases k<;>rfl
theorem qo (k:Kd):bL X (.builtin "isinstance") (fun xs H Q=>∃ S x d,xs=[x,Qh k]/\ET X.K S H x d/\eF d=true/\Q (.bl (br k d)) H):=by
 intro pins s σ H xs us Q I r h
 obtain⟨S,x,d,rfl,m,hn,q⟩:=h
 obtain⟨u,w',rfl,r1,r2⟩:=vals2 r
 have e:w'=p9 k:=by
  have:=r2.abs
  have h2:=(mr k).abs
  cases k<;>(revert r2;intro r2;exact r2)
 subst e
 exact u0 I r1 m k hn q
theorem BK (g:Fz Z CX cl xp X ex G){k:Kd}{e:Expr}{p p' pos:Pos}{va:List Nat}{fa:Ev->Res D}(hg:G.gl.contains 14=true)(hk:G.gl.contains (mh k)=true)(hn:notStar e=true)(ha:PE X e (RD X.K ex va fa)) :
  PE X (.Call (.Name "isinstance" p) [e,.Name (dD k) p'] [] pos) (RD X.K ex va fun τ=>U (fa τ) fun x=>EX (eF x) (.ok (.bl (br k x)))):=by
 obtain⟨k1,k2,k3,k4⟩:=dv g (show aZ[14]? = some ("isinstance" : Str) from rfl) hg
 obtain⟨j1,j2,j3,j4⟩:=dv g (zI k) hk
 have pa:PA X [e,.Name (dD k) p'] (eR (RD X.K ex va fa) (eR (tC (Qh k)) nQ)):=aU ha (aU (ud j1 j2 (uY k) (mr k) j3 j4) bN rfl) (ah hn _ _)
 refine aw (fD (qo k) k1 k2 PyProof.Rows.boot_isinstance pa k3 k4 (ah hn _ _) rfl) fun σ H Q ⟨S,τ,hs,q⟩=>?_
 refine ba (.refl _) hs (ES.U q) fun x v H1 e1 _ m1 q1=>?_
 obtain⟨gd,q1⟩:=ES.EX q1
 exact⟨nw S H,v,x,rfl,m1,gd,q1.ok _ _ e1 (.bl _)⟩
theorem ER.rev {K:PySem.W.Frag}{S:Addr->Prop}{H:Hp}:∀ {vs:List V}{ds:List D},ER K S H vs ds->ER K S H vs.reverse ds.reverse
 | [],[],_=>.nil
 | v::vs,d::ds,.cons h t=>by
  rw[List.reverse_cons,List.reverse_cons]
  exact(ER.rev t).append (.cons h .nil)
theorem ER.ofStrs {K:PySem.W.Frag}{S:Addr->Prop}{H:Hp}:∀ (ns:List Str),ER K S H (ns.map .str) (ns.map .str)
 | []=>.nil
 | n::r=>.cons (.str n) (ER.ofStrs r)
theorem zL (g:Fz Z CX cl xp X ex G){e:Expr}{p p' pos pos':Pos}{va:List Nat}{fa:Ev->Res D}(h1:G.gl.contains 4=true)(h2:G.gl.contains 12=true)(hn:notStar e=true)(JP:G.cm=true)(ha:PE X e (RD X.K ex va fa)) :
  PE X (.Call (.Name "sorted" p) [.Call (.Name "set" p') [e] [] pos'] [] pos) (RD X.K ex va fun τ=>U (fa τ) jO):=by
 obtain⟨k1,k2,k3,k4⟩:=dv g (show aZ[4]? = some ("sorted" : Str) from rfl) h1
 obtain⟨j1,j2,j3,j4⟩:=dv g (show aZ[12]? = some ("set" : Str) from rfl) h2
 have cc:bL X (.type "set") (fun xs H Q=>(∃ (p:Addr) (ns:List Int),xs=[.ref p]/\FR X.K H p (ns.map V.int)/\ns.length < 64/\∀ a o,H a=none->uL X (dd ns) o->Q (.ref a) (upd H a (.Fb o XS)))∨
   (∃ (p:Addr) (ns:List Str),xs=[.ref p]/\FR X.K H p (ns.map V.str)/\ns.length < 64/\∀ a o,H a=none->uM X (HU ns) o->Q (.ref a) (upd H a (.Fb o XS)))):=fun pins s σ H xs us Q I r h=>
  h.elim (oo (g.calm JP) pins s σ H xs us Q I r) (oq (g.calm JP) pins s σ H xs us Q I r)
 have cs:bL X (.builtin "sorted") (fun xs H Q=>(∃ (p:Addr) (o:Obj) (ns:List Int),xs=[.ref p]/\H p=some (.Fb o XS)/\uL X ns o/\ns.length < 64/\∀ l,H l=none->Q (.ref l) (upd H l (.lst ((PySem.W.sortI ns).map V.int))))∨
   (∃ (p:Addr) (o:Obj) (ns:List Str),xs=[.ref p]/\H p=some (.Fb o XS)/\uM X ns o/\ns.length < 64/\∀ l,H l=none->Q (.ref l) (upd H l (.lst ((bH ns).map V.str))))):=fun pins s σ H xs us Q I r h=>
  h.elim (iP (g.calm JP) pins s σ H xs us Q I r) (iQ (g.calm JP) pins s σ H xs us Q I r)
 have i1:=gO (p:=p') (pos:=pos') cc j1 j2 (by decide +kernel) (aU ha bN (ah hn _ _)) (by decide) (by decide) (ah hn _ _) rfl
 have i2:=fD (p:=p) (pos:=pos) cs k1 k2 (by decide +kernel) (aU i1 bN rfl) (by decide) (by decide) rfl rfl
 refine aw i2 fun σ H Q ⟨S,τ,hs,q⟩=>?_
 refine ba (.refl _) hs (ES.U q) fun d v H1 e1 _ m1 q1=>?_
 cases d with
 | lst o ds=>
  obtain⟨a,ys,rfl,qq,m⟩:=m1.FF
  have q2:ES ex (match bg ds with|some ns=>EX (decide (ns.length < 64)) (.ok (.lst true ((PySem.W.sortI (dd ns)).map .int)))|none=>match aY ds with|some ns=>EX (decide (ns.length < 64)) (.ok (.lst true ((bH (HU ns)).map .str)))|none=>EY) (Kk X.K S H Q):=q1
  cases z:bg ds with
  | none=>
   rw[z] at q2
   cases z':aY ds with
   | none=>rw[z'] at q2;exact q2.no.elim
   | some ns=>
    rw[z'] at q2
    obtain⟨gd,q3⟩:=ES.EX q2
    have HE:ns.length < 64:=of_decide_eq_true gd
    rw[dC z'] at m
    rw[m.strs] at qq
    refine .inr ⟨a,ns,rfl,qq,HE,fun a' o' NI GZ=>.inr ⟨a',o',HU ns,rfl,av,GZ,Nat.lt_of_le_of_lt (l7 ns) HE,fun l hl=>?_⟩⟩
    have Mu:H1 l=none:=(ak.upd NI).free hl
    exact q3.ok _ _ ((e1.trans (.upd NI)).trans (.upd hl)) (.lst (.inr (e1.free Mu)) (.inl av) (ER.ofStrs _))
  | some ns=>
   rw[z] at q2
   obtain⟨gd,q3⟩:=ES.EX q2
   have HE:ns.length < 64:=of_decide_eq_true gd
   rw[dB z] at m
   rw[m.ints] at qq
   refine .inl ⟨a,ns,rfl,qq,HE,fun a' o' NI GZ=>.inl ⟨a',o',dd ns,rfl,av,GZ,Nat.lt_of_le_of_lt (pW ns) HE,fun l hl=>?_⟩⟩
   have Mu:H1 l=none:=(ak.upd NI).free hl
   exact q3.ok _ _ ((e1.trans (.upd NI)).trans (.upd hl)) (.lst (.inr (e1.free Mu)) (.inl av) (ER.ofInts _))
 | _=>exact q1.no.elim
theorem zM (g:Fz Z CX cl xp X ex G){e:Expr}{p p' pos pos':Pos}{va:List Nat}{fa:Ev->Res D}(h1:G.JG 5=true)(h2:G.gl.contains 18=true)(hn:notStar e=true)(ha:PE X e (RD X.K ex va fa)) :
  PE X (.Call (.Name "list" p) [.Call (.Name "reversed" p') [e] [] pos'] [] pos) (RD X.K ex va fun τ=>U (fa τ) uS):=by
 obtain⟨k1,k2,k3,k4⟩:=dv g (show aZ[5]? = some ("list" : Str) from rfl) (qe h1)
 obtain⟨j1,j2,j3,j4⟩:=dv g (show aZ[18]? = some ("reversed" : Str) from rfl) h2
 refine aw (uB (g.calm (qf h1)) k1 k2 j1 j2 ha fun es=>ah hn es X.env) fun σ H Q ⟨S,τ,hs,q⟩=>?_
 refine ba (.refl _) hs (ES.U q) fun x v H1 e1 _ m1 q1=>?_
 cases x with
 | lst o ds=>
  obtain⟨a,ys,rfl,qq,m⟩:=m1.FF
  exact⟨a,ys,rfl,qq,fun l hl=>Kk.fit e1 q1 _ _ (.upd hl) (uT hl m.rev)⟩
 | _=>exact q1.no.elim
theorem kY {d:D}(h:dz d=true):∃ x,d=.str x:=by
 cases d<;>first|exact⟨_,rfl⟩|cases h
theorem BL (g:Fz Z CX cl xp X ex G){m:Mt}{o:Expr}{apos E2:Pos}{vo:List Nat}{fo:Ev->Res D}{es:List IR}{a:Expr}{args:List Expr}(hn:fY o=true)(hl:(apos.endLine == E2.line)=true)(hlen:(a::args).length < 29)(JP:(G.cm||kU m)=true)
  (F8:bj Z G es (a::args)=true) (ho:PE X o (RD X.K ex vo fo)) (h:PA X (a::args) (RA X.K ex (ay es) (bh cl es))) :
  PE X (.Call (.Attribute o (fU m) apos) (a::args) [] E2) (RD X.K ex (vo++ay es) fun τ=>U (fo τ) fun x=>EX (dz x) (U (bh cl es τ) fun ds=>fS m x ds)):=by
 cases es with
 | nil=>cases F8
 | cons b es=>
  have FE:(notStar a&&E3 Z G b a&&bj Z G es args)=true:=F8
  simp only[Bool.and_eq_true] at FE
  have star:=bU Z G (es:=es) E2 X.env FE.2
  have mono:∀ σ H Q,RD X.K ex (vo++ay (b::es)) (fun τ=>U (fo τ) fun x=>EX (dz x) (U (bh cl (b::es) τ) fun ds=>fS m x ds)) σ H Q->Rf X.K "str" (R1 X.K ex m) (RD X.K ex vo fo) (RA X.K ex (ay (b::es)) (bh cl (b::es))) σ H Q:=by
   rintro σ H Q ⟨S,τ,hs,q⟩
   refine ba (.refl _) hs.left (ES.U q) fun x v H1 e1 _ m1 q1=>?_
   obtain⟨gd,q1⟩:=ES.EX q1
   obtain⟨z,rfl⟩:=kY gd
   cases m1.Ft
   refine⟨rfl,kX e1 hs.right (ES.U q1) fun ds vs H2 e2 Gk m2 q2=>?_⟩
   exact⟨nw S H,.str z,ds,.str z,m2,q2.mono fun d hd=>hd.fit e2⟩
  have HB:attributeBase o (fU m) X.env (eval o X.env)=eval o X.env:=by
   cases o with
   | Call f args Gy pos=>
    cases args with
    | nil=>
     cases Gy with
     | nil=>cases hn
     | cons _ _=>cases f<;>rfl
    | cons _ _=>cases f<;>rfl
   | _=>rfl
  have Qi:(backTo E2 (starEach (a::args) X.env)).all (fun x=>!x.1)=true:=by
   rw[ah FE.1.1]
   show (true&&(backTo E2 (starEach args X.env)).all (fun x=>!x.1))=true
   rw[Bool.true_and,List.all_eq_true]
   intro y hy
   have:=List.any_eq_false.mp star y hy
   simpa using this
  have Gr:((backTo E2 (starEach (a::args) X.env)).all (fun x=>!x.1)&&(backToKw E2 (keywordEach [] X.env)).all (fun x=>x.1.isSome)&&decide ((a::args).length+([]:List Keyword).length+(if ([]:List Keyword).isEmpty then 0 else 1) < 30))=true:=by
   rw[Qi]
   have:decide ((a::args).length+([]:List Keyword).length+(if ([]:List Keyword).isEmpty then 0 else 1) < 30)=true:=decide_eq_true (by simp at hlen ⊢;omega)
   rw[this]
   rfl
  refine aw ?_ mono
  cases m with
  | join=>exact fE PySem.F.plainAttrs_str PySem.F.slot_str_join PySem.F.type_str_join (iV (ex:=ex) .join fun z=>by cases z) ho h HB Gr hl (ah FE.1.1 args X.env) star
  | index=>exact fE PySem.F.plainAttrs_str PySem.F.slot_str_index PySem.F.type_str_index (iV (ex:=ex) .index fun _=>g.calm (by rw[Bool.or_eq_true] at JP;exact JP.elim id fun z=>by cases z)) ho h HB Gr hl (ah FE.1.1 args X.env) star
  | starts=>exact fE PySem.F.plainAttrs_str PySem.F.slot_str_startswith PySem.F.type_str_startswith (iV (ex:=ex) .starts fun z=>by cases z) ho h HB Gr hl (ah FE.1.1 args X.env) star
end
section
variable {Z:Sg}{CX:F5}{cl:Nat->List D->Res D}{xp:XK->Hp->Str->Prop}{X:Cx}{ex:Str->Prop}{G:Gm}
theorem iY {K:PySem.W.Frag}{S:Addr->Prop}{H:Hp}{w:V}{y:D}{q:Key}(m:ET K S H w y)(h:eG y=some q):w=kV q:=by
 cases y with
 | int i=>cases h;cases m.E9;rfl
 | str x=>cases h;cases m.Ft;rfl
 | _=>cases h
theorem jW {K:PySem.W.Frag}{S:Addr->Prop}{H:Hp}(q:Key):∀ (kvs:List (Key×V)) (ds:List D),ER K S H (kvs.map (·.2)) ds->
  (∀ d,look (kvs.map (·.1)) ds q=some d->∃ v,eC kvs q=some v/\ET K S H v d)/\(look (kvs.map (·.1)) ds q).isSome=(eC kvs q).isSome:=by
 intro kvs
 induction kvs with
 | nil=>intro ds _;exact⟨fun d h=>(by cases h),rfl⟩
 | cons p kvs ih=>
  intro ds m
  rw[List.map_cons] at m
  cases ds with
  | nil=>exact absurd m.length (by simp)
  | cons d ds=>
   cases m with
   | cons m1 m2=>
    obtain⟨i1,i2⟩:=ih ds m2
    have e1:look ((p::kvs).map (·.1)) (d::ds) q=if p.1=q then some d else look (kvs.map (·.1)) ds q:=rfl
    rw[e1]
    unfold eC at i1 i2 ⊢
    rw[List.find?_cons]
    by_cases h:p.1=q
    ·rw[if_pos h,decide_eq_true h]
     exact⟨fun d' z=>⟨p.2,rfl,by cases z;exact m1⟩,rfl⟩
    ·rw[if_neg h,decide_eq_false h]
     exact⟨i1,i2⟩
theorem ET.NJ {K:PySem.W.Frag}{S:Addr->Prop}{H:Hp}{v:V}{o:Bool}{ks:List Key}{ds:List D}(h:ET K S H v (.Ff o ks ds)):∃ a kvs,v=.ref a/\Rd H a (.dK kvs)/\kvs.map (·.1)=ks/\ER K S H (kvs.map (·.2)) ds:=by
 cases h with
 | Ff h0 h1 h2 h3=>exact⟨_,_,rfl,h1,h2,h3⟩
theorem zN {pos:Pos}:PE X (.Dict [] [] pos) (RD X.K ex [] (EV cl .G3)):=by
 refine aw jD fun σ H Q ⟨S,τ,hs,q⟩=>fun p hp=>?_
 exact q.ok _ _ (.upd hp) (.Ff (kvs:=[]) (.inr hp) (.inl av) rfl .nil)
theorem cy {is:List Nat}{f:Ev->Res D}{σ:St}{H:Hp}{Q Q':VK}(h:RD X.K ex is f σ H Q)(m:∀ v H',Q v H'->Q' v H'):RD X.K ex is f σ H Q':=by
 obtain⟨S,τ,hs,q⟩:=h
 exact⟨S,τ,hs,q.mono fun d hd w H' e r=>m w H' (hd w H' e r)⟩
theorem jX {n:Bool}{va vb:List Nat}{fa fb:Ev->Res D}{σ:St}{H:Hp}{Q:VK}(h:RD X.K ex (vb++va) (fun τ=>U (fb τ) fun y=>U (fa τ) fun x=>jN n x y) σ H Q) :
  RD X.K ex vb fb σ H fun y H1=>RD X.K ex va fa σ H1 fun x H2=>∃ a o,x=.ref a/\nW H2 a y o/\Q (.bl (n != o.isSome)) H2:=by
 obtain⟨S,τ,hs,q⟩:=h
 refine ba (.refl _) hs.left (ES.U q) fun y w H1 e1 _ m1 q1=>?_
 refine ba e1 hs.right (ES.U q1) fun x v H2 e2 Gk m2 q2=>?_
 cases x with
 | Ff o ks ds=>
  have q3:ES ex (match eG y with|some q=>.ok (.bl (n != (look ks ds q).isSome))|none=>EY) (Kk X.K S H Q):=q2
  cases hk:eG y with
  | none=>rw[hk] at q3;exact q3.no.elim
  | some k=>
   simp only[hk] at q3
   obtain⟨p,kvs,rfl,h1,rfl,h3⟩:=m2.NJ
   rw[(jW k kvs ds h3).2] at q3
   exact⟨p,_,rfl,.inl ⟨kvs,k,h1,iY (m1.later Gk) hk,rfl⟩,q3.ok _ _ e2 (.bl _)⟩
 | _=>exact q2.no.elim
theorem hU {n:Bool}{va vb:List Nat}{fa fb:Ev->Res D}{σ:St}{H:Hp}{Q:Bool->Hp->Prop}(h:RT X.K ex (vb++va) (fun τ=>U (U (fb τ) fun y=>U (fa τ) fun x=>jN n x y) aD) σ H Q) :
  RD X.K ex vb fb σ H fun y H1=>RD X.K ex va fa σ H1 fun x H2=>∃ a o,x=.ref a/\nW H2 a y o/\∃ c,V.bl (n != o.isSome)=.bl c/\Q c H2:=by
 obtain⟨S,τ,hs,q⟩:=h
 refine ba (.refl _) hs.left (ES.U (ES.U q)) fun y w H1 e1 _ m1 q1=>?_
 refine ba e1 hs.right (ES.U q1) fun x v H2 e2 Gk m2 q2=>?_
 cases x with
 | Ff o ks ds=>
  cases hk:eG y with
  | none=>
   have q3:jN n (.Ff o ks ds) y=EY:=by show ((match eG y with|some q=>.ok (.bl (n != (look ks ds q).isSome))|none=>EY:Res D))=_;rw[hk]
   rw[q3] at q2;exact q2.no.elim
  | some k=>
   have q3:jN n (.Ff o ks ds) y=.ok (.bl (n != (look ks ds k).isSome)):=by show ((match eG y with|some q=>.ok (.bl (n != (look ks ds q).isSome))|none=>EY:Res D))=_;rw[hk]
   rw[q3] at q2
   obtain⟨p,kvs,rfl,h1,rfl,h3⟩:=m2.NJ
   rw[(jW k kvs ds h3).2] at q2
   exact⟨p,_,rfl,.inl ⟨kvs,k,h1,iY (m1.later Gk) hk,rfl⟩,_,rfl,(q2.ok).ok _ e2⟩
 | _=>exact q2.no.elim
theorem BM (g:Fz Z CX cl xp X ex G){n:Bool}{a b:Expr}{pos:Pos}{va vb:List Nat}{fa fb:Ev->Res D}(hb:PE X b (RD X.K ex vb fb))(ha:PE X a (RD X.K ex va fa))(hm:behindInMarks (oA n) a=false) :
  PE X (.Compare b [oA n] [a] pos) (RD X.K ex (vb++va) fun τ=>U (fb τ) fun y=>U (fa τ) fun x=>jN n x y)/\
  PT X (.Compare b [oA n] [a] pos) (RT X.K ex (vb++va) fun τ=>U (U (fb τ) fun y=>U (fa τ) fun x=>jN n x y) aD):=by
 have hu:=g.un
 cases n with
 | false=>
  refine⟨aw (oM (pq (by omega) hb ha) hm) fun σ H Q h=>?_,eh (oN (pq (by omega) hb ha) hm) fun σ H Q h=>?_⟩
  ·refine cy (jX h) fun y H1 z=>cy z fun x H2 ⟨p,o,e,d,q⟩=>⟨p,o,e,d,?_⟩
   rw[show (false != o.isSome)=o.isSome by cases o.isSome<;>rfl] at q
   exact q
  ·refine cy (hU h) fun y H1 z=>cy z fun x H2 ⟨p,o,e,d,q⟩=>⟨p,o,e,d,?_⟩
   rw[show (false != o.isSome)=o.isSome by cases o.isSome<;>rfl] at q
   exact q
 | true=>
  refine⟨aw (oM (gW (by omega) hb ha) hm) fun σ H Q h=>?_,eh (oN (gW (by omega) hb ha) hm) fun σ H Q h=>?_⟩
  ·refine cy (jX h) fun y H1 z=>cy z fun x H2 ⟨p,o,e,d,q⟩=>⟨p,o,e,d,?_⟩
   rw[show (true != o.isSome) = !o.isSome by cases o.isSome<;>rfl] at q
   exact q
  ·refine cy (hU h) fun y H1 z=>cy z fun x H2 ⟨p,o,e,d,q⟩=>⟨p,o,e,d,?_⟩
   rw[show (true != o.isSome) = !o.isSome by cases o.isSome<;>rfl] at q
   exact q
end
section
variable {prog:Program}{w:World}{A:Around}{E:Value->Shared->Prop}{s:Shared}
theorem f7 {it t:Addr}{items:Array Value}(Hw:t≠it):∀ (n i:Nat) (s:Shared) (Q:List Value->Shared->Prop),s.heap.IsListIter it t i->s.heap.IsList t items->i+n<=items.size->
  (∀ h',h'.IsListIter it t (i+n)->Heap.SameBut it s.heap h'->Q ((items.toList.drop i).take n) {s with heap:=h'})->wpAny (model prog w) A (draw (.ref it) n) Q E s
 | 0,i,s,Q,hit,_,_,hQ=>by
  show wpAny _ _ (pure []) Q E s
  exact wpAny_pure (by simpa using hQ s.heap hit (Heap.SameBut.refl ..))
 | n+1,i,s,Q,hit,ht,hle,hQ=>by
  have FH:i < items.size:=by omega
  show wpAny _ _ (pyNext (.ref it) >>= _) Q E s
  refine wpAny_bind (wpAny_pyNext_list_item hit ht (x:=items[i]) (by simp[FH]) fun Kb Ii HL=>?_)
  refine wpAny_bind (wpAny_holding (f7 Hw n (i+1) _ _ Ii (ht.extBut HL.extBut Hw) (by omega) fun LN LO NK=>wpAny_pure ?_))
  have hd:items.toList.drop i=items[i]::items.toList.drop (i+1):=by simp[List.drop_eq_getElem_cons,FH]
  have:=hQ LN (by rw[show i+(n+1)=i+1+n by omega];exact LO) (HL.trans NK)
  rw[hd,List.take_succ_cons] at this
  exact this
theorem eL {t:Addr}{items:Array Value}{Q:List Value->Shared->Prop}(hh:A.handled=none)(ht:s.heap.IsList t items)
  (hQ:∀ h',Heap.ExtBut s.heap.objs.size s.heap h'->Q items.toList {s with heap:=h'}):wpAny (model prog w) A (unpackItems (.ref t) items.size none) Q E s:=by
 have FH:t≠s.heap.objs.size:=by obtain⟨o,ho,_⟩:=ht;exact Nat.ne_of_lt (Heap.lt_size ho)
 have push:∀ o,(s.heap.push o).IsList t items:=fun o=>by
  obtain⟨ob,e,c,n,d⟩:=ht
  exact⟨ob,Heap.get?_push_of_some _ e,c,n,d⟩
 unfold unpackItems
 refine wpAny_bind ?_
 ·unfold notIterableAtAll
  refine wpAny_bind (wpAny_specialOf ht.typeIs slot_list_iter.lookup ?_)
  refine wpAny_pure ?_
  simp only[Bool.false_eq_true,if_false]
  refine wpAny_bind (wpAny_holding (wpAny_pyIter_list ht ?_))
  refine wpAny_bind (wpAny_holding (f7 FH items.size 0 _ _ ⟨_,Heap.get?_push_size _ rfl,rfl,rfl⟩ (push _) (by omega) fun Kb Ii HL=>?_))
  have Ju:List.take items.size (List.drop 0 items.toList)=items.toList:=by
   rw[List.drop_zero];exact List.take_of_length_le (by simp)
  rw[Ju]
  rw[if_neg (by simp)]
  have NL:Kb.IsList t items:=(push _).extBut HL.extBut FH
  refine wpAny_bind (wpAny_holding (wpAny_pyNext_list_end hh Ii NL (by simp) fun LN NM=>?_))
  simp only[Option.isSome_none,Bool.false_eq_true,if_false]
  refine wpAny_pure (hQ LN fun b o hb e=>NM b o hb (HL.extBut b o hb (Heap.get?_push_of_some _ e)))
end
def BN (K:PySem.W.Frag)(n:Nat)(t:KG):TG:=fun v σ H Q=>∃ a xs,v=.ref a/\(Gn K H a xs∨FR K H a xs)/\xs.length=n/\t xs σ H Q
theorem zO {X:Cx}{pos:Pos}{es:List Expr}{k:Nat}{t:KG}{n:Nat}(hc:X.calm=true)(h:M0 X es t)(hn:(assignEach es X.env).length=n)(F8:(assignEach es X.env).findIdx? (·.1)=none):PG X (.Tuple es k pos) (BN X.K n t):=by
 intro pins s σ H v u Q I r hw
 obtain⟨a,xs,e1,hq,hl,hw⟩:=hw
 subst e1
 cases r
 rcases hq with hq|hq
 ·obtain⟨its,rv,ht,hz⟩:=I.tuple hq
  refine assign_Tuple_tuple (I.ok.hd hc) ht (by simp[hn,<- hl,rv.length]) F8 fun h' hx=>?_
  have I1:Inv X pins σ H {s with heap:=h'}:=I.kept (t':=s.toks) fun b o e=>hx b o (Nat.ne_of_lt (Heap.lt_size e)) e
  exact h pins _ σ H xs _ Q I1 (by simpa using rv) hw
 ·obtain⟨its,rv,pl,hz⟩:=I.list hq
  rw[assign_Tuple]
  refine wpAny_bind (wpAny_standAt ?_)
  unfold unpack
  have hlen:(assignEach es X.env).length=its.toArray.size:=by simp[hn,<- hl,rv.length]
  rw[hlen,F8]
  refine wpAny_bind (wpAny_holding (eL (I.ok.hd hc) pl.isList fun h' hx=>?_))
  have I1:Inv X pins σ H {s with heap:=h'}:=I.kept (t':=s.toks) fun b o e=>hx b o (Nat.ne_of_lt (Heap.lt_size e)) e
  exact h pins _ σ H xs _ Q I1 (by simpa using rv) hw
mutual
noncomputable def gT (K:PySem.W.Frag):Tg->TG
 | .nm i=>oT i
 | .tp ts=>BN K ts.length (NN K ts)
noncomputable def NN (K:PySem.W.Frag):List Tg->KG
 | []=>A5
 | t::ts=>vX (gT K t) (NN K ts)
end
theorem dS {e:Expr}(h:notStar e=true)(es:List Expr)(env:Env):assignEach (e::es) env=(false,assign e env)::assignEach es env:=by
 cases e<;>first|rfl|cases h
section
variable {Z:Sg}{CX:F5}{cl:Nat->List D->Res D}{xp:XK->Hp->Str->Prop}{X:Cx}{ex:Str->Prop}{G:Gm}
theorem f9 (G:Gm):∀ {ts:List Tg}{es:List Expr} (env:Env),f6 G ts es=true->(assignEach es env).length=ts.length/\(assignEach es env).findIdx? (·.1)=none
 | [],[],_,_=>⟨rfl,rfl⟩
 | t::ts,e::es,env,h=>by
  have h':(notStar e&&cf G t e&&f6 G ts es)=true:=h
  simp only[Bool.and_eq_true] at h'
  obtain⟨h1,h2⟩:=f9 G (ts:=ts) (es:=es) env h'.2
  rw[dS h'.1.1]
  refine⟨by rw[List.length_cons,h1,List.length_cons],?_⟩
  rw[List.findIdx?_cons,if_neg (by simp),h2]
  rfl
 | [],_::_,_,h=>by cases h
 | _::_,[],_,h=>by cases h
mutual
theorem LP (g:Fz Z CX cl xp X ex G):∀ (t:Tg) (e:Expr),cf G t e=true->PG X e (gT X.K t)
 | .nm i,e,h=>by
  cases e with
  | Name x pos=>
   have h':(G.N[i]? == some x&&(G.kd[i]? == some .local||(G.df&&G.kd[i]? == some .cell)))=true:=h
   rw[Bool.and_eq_true,Bool.or_eq_true,Bool.and_eq_true] at h'
   obtain⟨h1,h2⟩:=h'
   have hx:G.N[i]? = some x:=eq_of_beq h1
   have hk:=g.kd i x hx
   refine uh (by rw[g.N];exact g.FI) (by rw[g.N];exact hx) ?_ ?_
   ·rcases h2 with h2|h2
    ·exact .inl (hk.trans (eq_of_beq h2))
    ·exact .inr (hk.trans (eq_of_beq h2.2))
   ·rcases h2 with h2|h2
    ·exact .inr (hk.trans (eq_of_beq h2))
    ·exact .inl (g.df h2.1 x)
  | _=>cases h
 | .tp ts,e,h=>by
  cases e with
  | Tuple es k pos=>
   have h0:(G.cm&&f6 G ts es)=true:=h
   rw[Bool.and_eq_true] at h0
   have h':=h0.2
   obtain⟨h1,h2⟩:=f9 G X.env h'
   exact zO (g.calm h0.1) (BO g ts es h') h1 h2
  | _=>cases h
theorem BO (g:Fz Z CX cl xp X ex G):∀ (ts:List Tg) (es:List Expr),f6 G ts es=true->M0 X es (NN X.K ts)
 | [],[],_=>ui
 | t::ts,e::es,h=>by
  have h':(notStar e&&cf G t e&&f6 G ts es)=true:=h
  simp only[Bool.and_eq_true] at h'
  exact oU (LP g t e h'.1.2) (BO g ts es h'.2) (by rw[dS h'.1.1];rfl)
 | [],_::_,h=>by cases h
 | _::_,[],h=>by cases h
end
end
def MB (K:PySem.W.Frag)(S:Addr->Prop)(H:Hp)(σ:St)(τ:Ev):Prop:=τ.length=σ.length/\∀ i d,ai τ i=some d->∃ v,σ[i]? = some (some v)/\ET K S H v d
theorem oB {τ:Ev}{i j:Nat}{o:Option D}:ai (τ.set i o) j=if i=j/\i < τ.length then o else ai τ j:=by
 unfold ai
 rw[List.getElem?_set]
 by_cases h:i=j
 ·subst h
  by_cases h2:i < τ.length
  ·simp[h2]
  ·rw[if_pos rfl,if_neg h2,if_neg (by omega)]
   rw[List.getElem?_eq_none (by omega)]
 ·rw[if_neg h,if_neg (by omega)]
section
variable {K:PySem.W.Frag}{S:Addr->Prop}{H:Hp}{ex:Str->Prop}
mutual
theorem mz:∀ (t:Tg) {σ:St}{τ:Ev}{v:V}{d:D}{Kt:Ev->Prop}{Q:St->Hp->Prop},MB K S H σ τ->ET K S H v d->ES ex (bP t d τ) Kt->
  (∀ EW E4,MB K S H E4 EW->E4.length=σ.length->(∀ j,j∉HJ t->E4[j]? = σ[j]?)->Kt EW->Q E4 H)->gT K t v σ H Q
 | .nm i,σ,τ,v,d,Kt,Q,hs,m,h,k=>by
  refine k (τ.set i (some d)) (σ.set i (some v)) ⟨by rw[List.length_set,List.length_set,hs.1],fun j e z=>?_⟩ (by rw[List.length_set]) (fun j hj=>?_) h.ok
  ·rw[oB] at z
   by_cases q:i=j/\i < τ.length
   ·rw[if_pos q] at z
    obtain⟨rfl,q⟩:=q
    cases z
    exact⟨v,by rw[List.getElem?_set_self (by rw[<- hs.1];exact q)],m⟩
   ·rw[if_neg q] at z
    obtain⟨w,h1,h2⟩:=hs.2 j e z
    refine⟨w,?_,h2⟩
    by_cases q2:i=j
    ·subst q2
     exfalso
     have:i < σ.length:=by
      have:=(List.getElem?_eq_some_iff.mp h1).1
      exact this
     exact q ⟨rfl,by rw[hs.1];exact this⟩
    ·rw[List.getElem?_set_ne q2];exact h1
  ·have:i≠j:=fun z=>hj (by subst z;simp[HJ])
   rw[List.getElem?_set_ne this]
 | .tp ts,σ,τ,v,d,Kt,Q,hs,m,h,k=>by
  cases d with
  | tup ds=>
   obtain⟨a,xs,rfl,q,ms⟩:=m.F0
   obtain⟨g,h⟩:=ES.EX h
   have g':ds.length=ts.length:=of_decide_eq_true g
   exact⟨a,xs,rfl,.inl q,by rw[ms.length,g'],gb ts hs ms h k⟩
  | lst o ds=>
   obtain⟨a,xs,rfl,q,ms⟩:=m.FF
   obtain⟨g,h⟩:=ES.EX h
   have g':ds.length=ts.length:=of_decide_eq_true g
   exact⟨a,xs,rfl,.inr q,by rw[ms.length,g'],gb ts hs ms h k⟩
  | _=>exact h.no.elim
theorem gb:∀ (ts:List Tg) {σ:St}{τ:Ev}{vs:List V}{ds:List D}{Kt:Ev->Prop}{Q:St->Hp->Prop},MB K S H σ τ->ER K S H vs ds->ES ex (dM ts ds τ) Kt->
  (∀ EW E4,MB K S H E4 EW->E4.length=σ.length->(∀ j,j∉qg ts->E4[j]? = σ[j]?)->Kt EW->Q E4 H)->NN K ts vs σ H Q
 | [],σ,τ,vs,ds,Kt,Q,hs,m,h,k=>by
  cases m with
  | nil=>exact⟨rfl,k τ σ hs rfl (fun _ _=>rfl) h.ok⟩
  | cons _ _=>exact h.no.elim
 | t::ts,σ,τ,vs,ds,Kt,Q,hs,m,h,k=>by
  cases m with
  | nil=>exact h.no.elim
  | cons m1 m2=>
   refine⟨_,_,rfl,mz t hs m1 (ES.U h) fun EW E4 LQ hn hk h'=>?_⟩
   refine gb ts LQ m2 h' fun LR LS Qj IT Mv Qk=>k LR LS Qj (IT.trans hn) (fun j hj=>?_) Qk
   have R4:j∉HJ t/\j∉qg ts:=by
    constructor<;>(intro z;apply hj;simp[qg,z])
   rw[Mv j R4.2,hk j R4.1]
end
end
section
variable {K:PySem.W.Frag}{S S':Addr->Prop}{H H':Hp}{J:It}{ds:List D}
theorem WS.step (hl:∀ a (u:LD),S a->Rd H a u.o->S' a/\Rd H' a u.o)(ht:∀ a xs,FQ K H a xs->FQ K H' a xs){k:Zp.Kq}{a:Addr}{xs:List V}(h:WS K S H k a xs):WS K S' H' k a xs:=by
 cases k with
 | l=>exact h.elim (fun z=>.inl (hl _ (.l _) z.1 z.2)) fun z=>.inr z
 | t=>exact ht _ (.inl _) h
theorem jY (ds es:List D):(dj ds es).length=min ds.length es.length:=by unfold dj;rw[List.length_zipWith]
theorem GP.step (hl:∀ a (u:LD),S a->Rd H a u.o->S' a/\Rd H' a u.o)(ht:∀ a xs,FQ K H a xs->FQ K H' a xs)(h:GP K S H J ds):GP K S' H' J ds:=by
 cases h with
 | lst h0 h1 h2=>exact .lst (hl _ (.l _) h0 h1).1 (hl _ (.l _) h0 h1).2 (h2.step hl ht)
 | lstK h1 h2=>exact .lstK h1 (h2.step hl ht)
 | tup h1 h2=>exact .tup (ht _ (.inl _) h1) (h2.step hl ht)
 | Jg lo hi=>exact .Jg lo hi
 | str x=>exact .str x
 | zip h1 h2 h3 h4=>exact .zip (h1.step hl ht) (h2.step hl ht) (h3.step hl ht) (h4.step hl ht)
theorem GP.mono (h:GP K S H J ds)(hS:∀ a,S a->S' a)(e:ak H H'):GP K S' H' J ds:=h.step (fun a xs s r=>⟨hS a s,e.rd r⟩) fun a xs s=>e.G2 s
theorem gf (x:Str):(bD x).length=x.cps.size:=by unfold bD;simp
theorem bo (a b:Int):(bA a b).length=(b - a).toNat:=by unfold bA;simp
theorem GP.stop (h:GP K S H J ds){i:Nat}(hi:ds.length<=i):J.stop i H:=by
 cases h with
 | lst h0 h1 h2=>exact⟨_,.inl h1,by rw[h2.length];exact hi⟩
 | lstK h1 h2=>exact⟨_,h1.sq,by rw[h2.length];exact hi⟩
 | tup h1 h2=>exact⟨_,h1,by rw[h2.length];exact hi⟩
 | Jg lo IA=>rw[bo] at hi;exact hi
 | str x=>rw[gf] at hi;exact hi
 | zip h1 h2 h3 h4=>exact⟨_,_,h1.sq,h2.sq,by rw[jY] at hi;rw[h3.length,h4.length];omega⟩
theorem GP.go (h:GP K S H J ds){i:Nat}(hi:i < ds.length):J.go i H:=by
 cases h with
 | lst h0 h1 h2=>obtain⟨v,hv,_⟩:=h2.get (i:=i) (d:=ds[i]) (by simp[hi]);exact⟨_,v,.inl h1,hv⟩
 | lstK h1 h2=>obtain⟨v,hv,_⟩:=h2.get (i:=i) (d:=ds[i]) (by simp[hi]);exact⟨_,v,h1.sq,hv⟩
 | tup h1 h2=>obtain⟨v,hv,_⟩:=h2.get (i:=i) (d:=ds[i]) (by simp[hi]);exact⟨_,v,h1,hv⟩
 | Jg lo IA=>rw[bo] at hi;exact hi
 | str x=>rw[gf] at hi;exact hi
 | zip h1 h2 h3 h4=>
  rename_i ds' HQ
  rw[jY] at hi
  obtain⟨v,hv,_⟩:=h3.get (i:=i) (d:=ds'[i]) (by rw[List.getElem?_eq_getElem])
  obtain⟨u,hu,_⟩:=h4.get (i:=i) (d:=HQ[i]) (by rw[List.getElem?_eq_getElem])
  exact⟨_,_,v,u,h1.sq,h2.sq,hv,hu⟩
theorem GP.J4 (h:GP K S H J ds){i:Nat}{x:V}{H2:Hp}(y:J.J4 i H x H2){d:D}(hd:ds[i]? = some d):ak H H2/\ET K S H2 x d:=by
 have fin:∀ {xs:List V},ER K S H xs ds->xs[i]? = some x->ET K S H x d:=fun m e=>by
  obtain⟨d',e',m'⟩:=m.LB e
  rw[hd] at e';cases e';exact m'
 cases h with
 | lst h0 h1 h2=>obtain⟨e,y⟩:=y;subst e;exact⟨.refl _,fin h2 (y _ (.inl h1))⟩
 | lstK h1 h2=>obtain⟨e,y⟩:=y;subst e;exact⟨.refl _,fin h2 (y _ h1.sq)⟩
 | tup h1 h2=>obtain⟨e,y⟩:=y;subst e;exact⟨.refl _,fin h2 (y _ h1)⟩
 | zip h1 h2 h3 h4=>
  obtain⟨T,a,b,e1,hT,e2,hy⟩:=y
  subst e1 e2
  obtain⟨y1,y2⟩:=hy _ _ h1.sq h2.sq
  obtain⟨d1,g1,m1⟩:=h3.LB y1
  obtain⟨d2,g2,m2⟩:=h4.LB y2
  unfold dj at hd
  rw[List.getElem?_zipWith,g1,g2] at hd
  cases hd
  have e:ak H (upd H T (.tup [a,b])):=.upd hT
  exact⟨e,.tup (Gn.of av) (.cons (m1.mono (fun _ z=>z) e) (.cons (m2.mono (fun _ z=>z) e) .nil))⟩
 | Jg lo IA=>
  obtain⟨e1,e2⟩:=y
  subst e1
  refine⟨.refl _,?_⟩
  subst e2
  unfold bA at hd
  rw[List.getElem?_map] at hd
  have hi:i < (IA - lo).toNat:=by
   have:=(Option.map_eq_some_iff.mp hd)
   obtain⟨z,h1,_⟩:=this
   have:=(List.getElem?_eq_some_iff.mp h1).1
   simpa using this
  rw[List.getElem?_range hi] at hd
  cases hd
  exact .int _
 | str x=>
  obtain⟨e1,c,h1,e2⟩:=y
  subst e1
  refine⟨.refl _,?_⟩
  subst e2
  unfold bD at hd
  rw[List.getElem?_map] at hd
  have h2:x.cps.toList[i]? = some c:=by simpa using h1
  rw[h2] at hd
  cases hd
  exact .str _
end
section
variable {Z:Sg}{CX:F5}{cl:Nat->List D->Res D}{xp:XK->Hp->Str->Prop}{X:Cx}{ex:Str->Prop}{G:Gm}{K:PySem.W.Frag}{S:Addr->Prop}{H H1:Hp}{σ:St}{τ:Ev}
theorem BP {is:List Nat}{f:Ev->Res (List D)}{Kt:List D->Prop}{R:It->Hp->Prop}(e:ak H H1)(hs:Slots K S H σ τ is)(h:ES ex (f τ) Kt)(k:∀ ds J H2,ak H H2->ak H1 H2->GP K (nw S H) H2 J ds->Kt ds->R J H2):RI K ex is f σ H1 R:=
 ⟨nw S H,τ,hs.go e,h.mono fun x hx J H2 e2 m=>k x J H2 (e.trans e2) e2 (m.mono (hJ e) (.refl _)) hx⟩
theorem mB {tg:Expr}{pins:List (Addr×Obj)}{s:Shared}{a:Addr}{xs:List V}{R:It->Hp->Prop}(I:Inv X pins σ H s)(hq:FR X.K H a xs)(q:R (Ox X.K a) H):wpAny (model X.prog X.w) X.A (pyIter (.ref a)) (Ml X pins σ tg R) X.xe s:=by
 obtain⟨its,rv,p,hz⟩:=I.list hq
 refine wpAny_pyIter_list p.isList ?_
 refine⟨s.heap.objs.size,[s.heap.objs.size],_,_,H,rfl,I.kept (t':=s.toks) fun b o e=>Heap.get?_push_of_some _ e,nM a _,⟨_,Heap.get?_push_size _ rfl,rfl,rfl⟩,fun b hb=>?_,q⟩
 have e:b=s.heap.objs.size:=by simpa using hb
 subst e
 exact I.IU (Nat.le_refl _) (I.E7.fresh (Nat.le_refl _))
theorem qp {tg:Expr}{pins:List (Addr×Obj)}{s:Shared}{a:Addr}{xs:List V}{R:It->Hp->Prop}(I:Inv X pins σ H s)(hq:Gn X.K H a xs)(q:R (Pe X.K a) H):wpAny (model X.prog X.w) X.A (pyIter (.ref a)) (Ml X pins σ tg R) X.xe s:=by
 obtain⟨its,rv,p,hz⟩:=I.tuple hq
 refine wpAny_pyIter_tuple (show s.heap.IsTuple a its.toArray from p) ?_
 refine⟨s.heap.objs.size,[s.heap.objs.size],_,_,H,rfl,I.kept (t':=s.toks) fun b o e=>Heap.get?_push_of_some _ e,kC a _,⟨_,Heap.get?_push_size _ rfl,rfl,rfl⟩,fun b hb=>?_,q⟩
 have e:b=s.heap.objs.size:=by simpa using hb
 subst e
 exact I.IU (Nat.le_refl _) (I.E7.fresh (Nat.le_refl _))
theorem BQ {tg e:Expr}{va:List Nat}{fa:Ev->Res D}(ha:PE X e (RD X.K ex va fa)):PI X tg e (RI X.K ex va fun τ=>U (fa τ) eI):=by
 intro pins s σ H R I h
 obtain⟨S,τ,hs,q⟩:=h
 refine Fe (ha pins s σ H (fun v H'=>∃ d,ak H H'/\ET X.K (nw S H) H' v d/\_) I (ba (.refl _) hs (ES.U q) fun x v H1 e1 _ m1 q1=>⟨x,e1,m1,q1⟩)) fun v s1 ⟨x,H1,I1,r1,d,e1,m1,q1⟩=>?_
 cases d with
 | lst o ds=>
  cases m1 with
  | lst h0 h1 h2=>cases r1;exact mB I1 (.inl h1) (q1.ok _ _ e1 (.lst h0 h1 h2))
  | lstK h1 h2=>cases r1;exact mB I1 h1.sq (q1.ok _ _ e1 (.lstK h1 h2))
 | tup ds=>
  obtain⟨a,xs,rfl,h1,h2⟩:=m1.F0
  cases r1
  exact qp I1 h1 (q1.ok _ _ e1 (.tup h1 h2))
 | str z=>
  cases m1.Ft
  obtain⟨t,rfl⟩:=r1
  obtain⟨_,q1⟩:=ES.EX q1
  exact zG I1 (q1.ok _ _ e1 (.str z))
 | _=>exact q1.no.elim
theorem zP (g:Fz Z CX cl xp X ex G){tg e:Expr}{p pos:Pos}{va:List Nat}{fa:Ev->Res D}(hg:G.gl.contains 15=true)(hn:notStar e=true)(ha:PE X e (RD X.K ex va fa)) :
  PI X tg (.Call (.Name "range" p) [e] [] pos) (RI X.K ex va fun τ=>U (fa τ) fun|.int i=>EX (bQ i) (.ok (bA 0 i))|_=>EY):=by
 obtain⟨k1,k2,_,_⟩:=dv g (show aZ[15]? = some ("range" : Str) from rfl) hg
 refine kH (gI k1 k2 (aU ha bN (ah hn _ _)) (ah hn _ _)) fun σ H Q ⟨S,τ,hs,q⟩=>?_
 refine ba (.refl _) hs (ES.U q) fun x v H1 e1 _ m1 q1=>?_
 cases x with
 | int i=>
  cases m1.E9
  obtain⟨gd,q1⟩:=ES.EX q1
  have LU : -(2 ^ 62)<=i/\i < 2 ^ 62:=of_decide_eq_true gd
  refine⟨i,rfl,LU.1,LU.2,?_⟩
  have:=q1.ok _ _ e1 (.Jg 0 i)
  rw[Int.sub_zero] at this
  exact this
 | _=>exact q1.no.elim
theorem BR {a:Addr}{v:V}{d:D}{ds:List D}(m:ET K S H v d)(h:kP d=.ok ds):∃ k a xs,v=.ref a/\WS K S H k a xs/\ER K S H xs ds:=by
 cases d with
 | lst o es=>
  cases h
  cases m with
  | lst h0 h1 h2=>exact⟨.l,_,_,rfl,.inl ⟨h0,h1⟩,h2⟩
  | lstK h1 h2=>exact⟨.l,_,_,rfl,.inr h1,h2⟩
 | tup es=>
  cases h
  obtain⟨a,xs,rfl,h1,h2⟩:=m.F0
  exact⟨.t,a,xs,rfl,h1,h2⟩
 | _=>cases h
theorem BS (g:Fz Z CX cl xp X ex G){es:List Expr}{c:Nat}{tp:Pos}{e e':Expr}{p pos:Pos}{va vb:List Nat}{fa fb:Ev->Res D}(hg:G.gl.contains 17=true)(hn:notStar e=true)(IT:notStar e'=true)(ha:PE X e (RD X.K ex va fa))(hb:PE X e' (RD X.K ex vb fb)) :
  PI X (.Tuple es c tp) (.Call (.Name "zip" p) [e,e'] [] pos) (RI X.K ex (va++vb) fun τ=>U (fa τ) fun x=>U (fb τ) fun y=>uR x y):=by
 obtain⟨k1,k2,_,_⟩:=dv g (show aZ[17]? = some ("zip" : Str) from rfl) hg
 refine kH (zq k1 k2 (aU ha (aU hb bN (ah IT _ _)) (ah hn _ _)) (by rw[ah hn,ah IT];rfl) (ah IT _ _)) fun σ H Q ⟨S,τ,hs,q⟩=>?_
 refine ba (.refl _) hs.left (ES.U q) fun x v H1 e1 _ m1 q1=>?_
 refine ba e1 hs.right (ES.U q1) fun y w H2 e2 Gk m2 q2=>?_
 have q3:=ES.U (show ES ex (U (kP x) fun ds=>U (kP y) fun es=>.ok (dj ds es)) _ from q2)
 have UP:=m1.mono (fun _ z=>z) Gk
 cases hx:kP x with
 | error z=>
  rw[hx] at q3
  cases x<;>first|(cases hx;exact q3.no.elim)|cases hx
 | ok ds=>
  rw[hx] at q3
  have q4:=ES.U q3.ok
  cases hy:kP y with
  | error z=>
   rw[hy] at q4
   cases y<;>first|(cases hy;exact q4.no.elim)|cases hy
  | ok HQ=>
   rw[hy] at q4
   obtain⟨k1,a1,xs,rfl,w1,r1⟩:=BR (a:=0) UP hx
   obtain⟨k2,a2,ys,rfl,w2,r2⟩:=BR (a:=0) m2 hy
   exact⟨k1,k2,a1,a2,xs,ys,rfl,w1.sq,w2.sq,q4.ok.ok _ _ e2 (.zip w1 w2 r1 r2)⟩
theorem cE {env:Env}{x:Str}:∀ (names:List (Str×NameKind)),
  (names.map fun (n,k)=>if (k == NameKind.free&&env.scope.kind == .function&&env.kindOf n == some .cell) then (n,NameKind.cell) else (n,k)).lookup x =
   (names.lookup x).map fun k=>if (k == NameKind.free&&env.scope.kind == .function&&env.kindOf x == some .cell) then NameKind.cell else k
 | []=>rfl
 | (n,k)::r=>by
  have ih:=cE (env:=env) (x:=x) r
  rw[List.map_cons]
  show List.lookup x ((if (k == NameKind.free&&env.scope.kind == .function&&env.kindOf n == some .cell)=true then (n,NameKind.cell) else (n,k))::_)=_
  by_cases hc:(k == NameKind.free&&env.scope.kind == .function&&env.kindOf n == some .cell)=true
  ·rw[if_pos hc,List.lookup_cons,List.lookup_cons]
   cases hx:x == n with
   | true=>
    have e:x=n:=eq_of_beq hx
    subst e
    show some NameKind.cell=some (if _ then _ else _)
    rw[if_pos hc]
   | false=>exact ih
  ·rw[if_neg hc,List.lookup_cons,List.lookup_cons]
   cases hx:x == n with
   | true=>
    have e:x=n:=eq_of_beq hx
    subst e
    show some k=some (if _ then _ else _)
    rw[if_neg hc]
   | false=>exact ih
theorem kZ {scope:Scope}{env:Env}(h:∀ y∈scope.names,y.2=.free->∃ c,env.cells.lookup y.1=some c) :
  ∃ F6,closureFor scope env=pure F6/\(∀ x c,F6.lookup x=some c->env.cells.lookup x=some c)/\∀ y∈scope.names,y.2=.free->∃ c,F6.lookup y.1=some c:=by
 have key:∀ (names:List (Str×NameKind)) (acc:List (Str×Addr)),(∀ y∈names,y.2=.free->∃ c,env.cells.lookup y.1=some c)->(∀ x c,acc.lookup x=some c->env.cells.lookup x=some c)->
   ∃ F6,(forIn names acc fun (p:Str×NameKind) (r:List (Str×Addr))=>(if (p.2 == NameKind.free)=true then do let a <- cellOf env p.1;pure (ForInStep.yield ((p.1,a)::r)) else pure (ForInStep.yield r):Sem (ForInStep (List (Str×Addr)))))=pure F6/\(∀ x c,F6.lookup x=some c->env.cells.lookup x=some c)/\
    (∀ y∈names,y.2=.free->∃ c,F6.lookup y.1=some c)/\∀ x c,acc.lookup x=some c->∃ c',F6.lookup x=some c':=by
  intro names
  induction names with
  | nil=>intro acc _ h2;exact⟨acc,rfl,h2,fun y hy=>absurd hy (by simp),fun x c e=>⟨c,e⟩⟩
  | cons p names ih=>
   intro acc h1 h2
   rw[List.forIn_cons]
   by_cases hp:p.2=.free
   ·obtain⟨c,hc⟩:=h1 p (by simp) hp
    have hb:(p.2 == NameKind.free)=true:=by rw[hp];rfl
    have KY:∀ x c',((p.1,c)::acc).lookup x=some c'->env.cells.lookup x=some c':=by
     intro x c' e
     rw[List.lookup_cons] at e
     cases hx:x == p.1 with
     | true=>
      rw[hx] at e
      cases e
      rw[eq_of_beq hx]
      exact hc
     | false=>rw[hx] at e;exact h2 x c' e
    obtain⟨F6,e1,e2,e3,e4⟩:=ih ((p.1,c)::acc) (fun y hy=>h1 y (List.mem_cons_of_mem _ hy)) KY
    refine⟨F6,?_,e2,fun y hy hf=>?_,fun x c' e=>?_⟩
    ·rw[if_pos hb]
     have:cellOf env p.1=pure c:=by unfold cellOf;rw[hc]
     rw[this]
     exact e1
    ·rcases List.mem_cons.mp hy with rfl|hy
     ·exact e4 y.1 c (by rw[List.lookup_cons];simp)
     ·exact e3 y hy hf
    ·rcases hx:x == p.1 with _|_
     ·exact e4 x c' (by rw[List.lookup_cons,hx];exact e)
     ·exact e4 x c (by rw[List.lookup_cons,hx])
   ·have hb:¬ (p.2 == NameKind.free)=true:=fun z=>hp (eq_of_beq z)
    obtain⟨F6,e1,e2,e3,e4⟩:=ih acc (fun y hy=>h1 y (List.mem_cons_of_mem _ hy)) h2
    refine⟨F6,?_,e2,fun y hy hf=>?_,e4⟩
    ·rw[if_neg hb]
     exact e1
    ·rcases List.mem_cons.mp hy with rfl|hy
     ·exact absurd hf hp
     ·exact e3 y hy hf
 obtain⟨F6,e1,e2,e3,_⟩:=key scope.names [] h (fun x c e=>by cases e)
 refine⟨F6,?_,e2,e3⟩
 unfold closureFor
 exact congrArg (fun (m:Sem (List (Str×Addr)))=>m >>= fun r=>pure r) e1
structure Ja (Z:Sg)(G:Gm)(scope:Scope)(G':Gm)(fr:List Nat):Prop where
 cm:G.cm=true
 kind:scope.kind=.function
 tr:G'.tr=false
 df:G'.df=false
 Wj:G'.kd.length=G'.N.length
 He:∀ y∈scope.names,y.2≠.cell
 loc:∀ y∈scope.names,y.2=.local->scope.names.lookup y.1=some .local
 UQ:∀ y∈scope.names,y.2=.free->∃ i:Nat,G.N[i]? = some y.1/\(G.kd[i]? = some .cell∨G.kd[i]? = some .free)
 FX:∀ (j:Nat) (i:Nat),fr[j]? = some i->∃ x,G.N[i]? = some x/\G'.N[j]? = some x/\scope.names.lookup x=some .free/\(G.kd[i]? = some .cell∨G.kd[i]? = some .free)/\G'.kd[j]? = some (if (G.kd[i]? == some .cell)=true then .cell else .free)
 NO:fr.length<=G'.N.length
 HJ:∀ (j:Nat) (x:Str),fr.length<=j->G'.N[j]? = some x->scope.names.lookup x=some .local/\G'.kd[j]? = some .local
 Ko:∀ x∈G'.N,(x == ("__debug__" : Str))=false/\(x == ("__classdict__" : Str))=false
 FI:G'.N.Nodup
 gl:∀ n∈G'.gl,∃ x,Z.name n=some x/\scope.names.lookup x=some .globalImplicit
theorem iZ {Z:Sg}{G:Gm}{scope:Scope}{G':Gm}{fr:List Nat}(h:bF Z G scope G' fr=true):Ja Z G scope G' fr:=by
 unfold bF at h
 simp only[Bool.and_eq_true] at h
 obtain⟨⟨⟨⟨⟨⟨⟨⟨⟨⟨⟨⟨⟨h0,h1⟩,MC⟩,h2⟩,h3⟩,h4⟩,h5⟩,h6⟩,h7⟩,h8⟩,h9⟩,KP⟩,Mp⟩,Hg⟩:=h
 rw[List.all_eq_true] at h4 h5 h6 h7 h9 KP Hg
 refine⟨h0,eq_of_beq h1,by simpa using MC,by simpa using h2,eq_of_beq h3,fun y hy=>by simpa using h4 y hy,fun y hy e=>?_,fun y hy e=>?_,fun j i e=>?_,of_decide_eq_true h8,fun j x hj e=>?_,fun x hx=>by simpa using KP x hx,of_decide_eq_true Mp,fun n hn=>?_⟩
 ·have:=h5 y hy
  rw[e] at this
  simpa using this
 ·have:=h6 y hy
  rw[e] at this
  simp only[bne_self_eq_false,Bool.false_or,List.any_eq_true,Bool.and_eq_true,Bool.or_eq_true] at this
  obtain⟨i,_,hi,hk⟩:=this
  exact⟨i,eq_of_beq hi,hk.elim (fun z=>.inl (eq_of_beq z)) fun z=>.inr (eq_of_beq z)⟩
 ·have hj:j < fr.length:=(List.getElem?_eq_some_iff.mp e).1
  have:=h7 j (List.mem_range.mpr hj)
  simp only[e,Option.bind_some,Bool.and_eq_true,Bool.or_eq_true] at this
  obtain⟨⟨⟨a1,a2⟩,a3⟩,a4⟩:=this
  have R5:=eq_of_beq a1
  have OV:=eq_of_beq a2
  cases q:G'.N[j]? with
  | none=>rw[q] at OV;cases OV
  | some x=>
   rw[q] at OV R5
   exact⟨x,R5.symm,rfl,OV,a3.elim (fun z=>.inl (eq_of_beq z)) fun z=>.inr (eq_of_beq z),eq_of_beq a4⟩
 ·have FH:j < G'.N.length:=(List.getElem?_eq_some_iff.mp e).1
  have hm:j∈(List.range G'.N.length).drop fr.length:=by
   rw[List.mem_drop_iff_getElem]
   exact⟨j - fr.length,by simp;omega,by simp;omega⟩
  have:=h9 j hm
  rw[e] at this
  simp only[Option.bind_some,Bool.and_eq_true] at this
  exact⟨eq_of_beq this.1,eq_of_beq this.2⟩
 ·have:=Hg n hn
  cases q:Z.name n with
  | none=>rw[q] at this;cases this
  | some x=>
   rw[q] at this
   exact⟨x,rfl,eq_of_beq this⟩
noncomputable def Jb (G:Gm)(fr:List Nat):List (Str×Nat):=fr.map fun i=>(G.N.getD i "",i)
theorem BU {scope:Scope}{G':Gm}{fr:List Nat}(s:Ja Z G scope G' fr):(Jb G fr).map (·.1)++G'.N.drop fr.length=G'.N:=by
 have e:(Jb G fr).map (·.1)=G'.N.take fr.length:=by
  apply List.ext_getElem?
  intro j
  unfold Jb
  rw[List.map_map,List.getElem?_map,List.getElem?_take]
  cases q:fr[j]? with
  | none=>
   have:¬ j < fr.length:=by
    intro z
    rw[List.getElem?_eq_getElem z] at q
    cases q
   rw[if_neg this]
   rfl
  | some i=>
   have:j < fr.length:=(List.getElem?_eq_some_iff.mp q).1
   rw[if_pos this]
   obtain⟨x,h1,h2,_⟩:=s.FX j i q
   rw[h2]
   show some (G.N.getD i "")=some x
   rw[List.getD_eq_getElem?_getD,h1]
   rfl
 rw[e,List.take_append_drop]
theorem eM (g:Fz Z CX cl xp X ex G)(ok:X.Ok){scope:Scope}{G':Gm}{fr:List Nat}(s:Ja Z G scope G' fr):∃ F6,Gs X scope F6 (Jb G fr) (G'.N.drop fr.length):=by
 have Iq:∀ y∈scope.names,y.2=.free->∃ c,X.env.cells.lookup y.1=some c:=fun y hy hf=>by
  obtain⟨i,h1,h2⟩:=s.UQ y hy hf
  have hk:=g.kd i y.1 h1
  exact ok.has y.1 (h2.elim (fun z=>.inl (hk.trans z)) fun z=>.inr (hk.trans z))
 obtain⟨F6,e1,e2,e3⟩:=kZ Iq
 refine⟨F6,e1,s.kind,s.He,s.loc,e2,fun x hx=>?_,fun p hp=>?_⟩
 ·have hl:=cE (env:=X.env) (x:=x) scope.names
  have FT:((scope.names.lookup x).map fun k=>if (k == NameKind.free&&X.env.scope.kind == .function&&X.env.kindOf x == some .cell)=true then NameKind.cell else k)=some .cell∨
    ((scope.names.lookup x).map fun k=>if (k == NameKind.free&&X.env.scope.kind == .function&&X.env.kindOf x == some .cell)=true then NameKind.cell else k)=some .free:=by
   rcases hx with hx|hx
   ·exact .inl (hl.symm.trans hx)
   ·exact .inr (hl.symm.trans hx)
  cases q:scope.names.lookup x with
  | none=>rw[q] at FT;rcases FT with z|z<;>cases z
  | some k=>
   have hm:(x,k)∈scope.names:=PySem.mem_of_lookup q
   have hk:k=.free:=by
    rw[q] at FT
    rcases FT with z|z
    ·have z':(if (k == NameKind.free&&X.env.scope.kind == .function&&X.env.kindOf x == some .cell)=true then NameKind.cell else k)=.cell:=Option.some.inj z
     split at z'
     ·rename_i hc
      simp only[Bool.and_eq_true] at hc
      exact eq_of_beq hc.1.1
     ·exact absurd z' (s.He _ hm)
    ·have z':(if (k == NameKind.free&&X.env.scope.kind == .function&&X.env.kindOf x == some .cell)=true then NameKind.cell else k)=.free:=Option.some.inj z
     split at z'
     ·cases z'
     ·exact z'
   exact e3 (x,k) hm hk
 ·unfold Jb at hp
  rw[List.mem_map] at hp
  obtain⟨i,hi,rfl⟩:=hp
  obtain⟨j,hj⟩:=List.getElem?_of_mem hi
  obtain⟨x,h1,h2,h3,h4,h5⟩:=s.FX j i hj
  have hn:G.N.getD i "" = x:=by rw[List.getD_eq_getElem?_getD,h1];rfl
  show X.N[i]? = some (G.N.getD i "")/\_
  rw[hn]
  have hk:=g.kd i x h1
  refine⟨by rw[g.N];exact h1,h4.elim (fun z=>.inl (hk.trans z)) fun z=>.inr (hk.trans z),?_⟩
  have hl:=cE (env:=X.env) (x:=x) scope.names
  rw[h3] at hl
  have Lr:(relabel scope X.env).names.lookup x=some (if (NameKind.free == NameKind.free&&X.env.scope.kind == .function&&X.env.kindOf x == some .cell)=true then NameKind.cell else NameKind.free):=hl
  rw[Lr]
  split
  ·exact .inl rfl
  ·exact .inr rfl
theorem bG (g:Fz Z CX cl xp X ex G){scope:Scope}{G':Gm}{fr:List Nat}(s:Ja Z G scope G' fr)(F6:List (Str×Addr))(C:Addr)(s3:Shared)(H3:Hp)(fp:List Addr) :
  Fz Z CX cl xp (Iw X scope F6 ((Jb G fr).map (·.1)++G'.N.drop fr.length) C s3 H3 fp) (fun _=>False) G' where
 N:=BU s
 FI:=s.FI
 calm:=fun _=>g.calm s.cm
 fk:=s.kind
 un:=g.un
 own:=fun _=>PassesOwn.never
 kd:=fun j x hx=>by
  show (relabel scope X.env).names.lookup x=_
  have hl:=cE (env:=X.env) (x:=x) scope.names
  by_cases hj:j < fr.length
  ·obtain⟨y,h1,h2,h3,h4,h5⟩:=s.FX j fr[j] (by simp[hj])
   rw[hx] at h2
   cases h2
   rw[h3] at hl
   rw[h5]
   refine hl.trans ?_
   have hk:=g.kd fr[j] x h1
   show some (if (NameKind.free == NameKind.free&&X.env.scope.kind == .function&&X.env.kindOf x == some .cell)=true then NameKind.cell else NameKind.free)=_
   rw[hk,g.fk]
   rfl
  ·obtain⟨h1,h2⟩:=s.HJ j x (by omega) hx
   rw[h1] at hl
   rw[h2]
   exact hl
 Ko:=fun j x hx=>s.Ko x (List.mem_of_getElem? hx)
 gl:=fun n hn x e=>by
  obtain⟨y,h1,h2⟩:=s.gl n hn
  rw[e] at h1
  cases h1
  show (relabel scope X.env).names.lookup x=_
  have hl:=cE (env:=X.env) (x:=x) scope.names
  rw[h2] at hl
  exact hl
 LM:=g.LM
 df:=fun z=>by rw[s.df] at z;cases z
 blt:=g.blt
 cst:=g.cst
 fns:=fun f hf _ x hx=>g.fns f hf (.inl s.cm) x hx
 NC:=g.NC
 ND:=g.ND
 NF:=g.NF
 NG:=g.NG
 UL:=fun _ pins σ H s c C h' e vs _ z=>z.elim
 tr:=fun z=>by rw[s.tr] at z;cases z
 HK:=⟨fun _ _ _=>False,fun pins σ H s e s' _ h=>(g.Qf _ _ _ _ _ h).elim,fun c _ z=>z.elim⟩
 JM:=g.JM
 Qf:=g.Qf
end
abbrev GI:Str->Prop:=fun _=>False
theorem ES.I0 {α:Type}{ex:Str->Prop}{x:Res α}{k:α->Prop}(h:ES ex (L2.I0 x) k):ES GI x k:=by
 cases x with
 | ok a=>exact h
 | error e=>exact False.elim h
section
variable {K:PySem.W.Frag}{S:Addr->Prop}{H:Hp}{σ:St}{τ:Ev}{ex:Str->Prop}{cl:Nat->List D->Res D}{G G':Gm}{fr:List Nat}
noncomputable def Ij (G':Gm)(fr:List Nat)(τ:Ev):Ev:=fr.map (ai τ)++List.replicate (G'.N.length - fr.length) none
theorem u4 (hl:fr.length<=G'.N.length):(Ij G' fr τ).length=G'.N.length:=by
 unfold Ij
 rw[List.length_append,List.length_map,List.length_replicate]
 omega
theorem u5 (Tg:List Str)(σ:St):(stC (Jb G fr) Tg σ).length=fr.length+Tg.length:=by
 unfold stC Jb
 rw[List.length_append,List.length_map,List.length_map,List.length_replicate]
theorem qr {j:Nat}{d:D}(h:ai (Ij G' fr τ) j=some d):∃ i,fr[j]? = some i/\ai τ i=some d:=by
 unfold ai Ij at h
 by_cases hj:j < fr.length
 ·rw[List.getElem?_append_left (by simpa using hj),List.getElem?_map,List.getElem?_eq_getElem hj] at h
  exact⟨fr[j],by simp[hj],h⟩
 ·rw[List.getElem?_append_right (by simpa using hj),List.getElem?_replicate] at h
  split at h<;>cases h
theorem u6 {vs:List Nat}{E4:St}(hl:fr.length<=G'.N.length)(hs:Slots K S H σ τ (fr++vs))(hn:E4.length=G'.N.length)(Ga:∀ j,j < fr.length->E4[j]? = (stC (Jb G fr) (G'.N.drop fr.length) σ)[j]?):MB K S H E4 (Ij G' fr τ):=by
 refine⟨by rw[u4 hl,hn],fun j d h=>?_⟩
 obtain⟨i,hi,hd⟩:=qr h
 have hj:j < fr.length:=(List.getElem?_eq_some_iff.mp hi).1
 obtain⟨v,h1,h2⟩:=hs i (List.mem_append_left _ (List.mem_of_getElem? hi)) d hd
 refine⟨v,?_,h2⟩
 rw[Ga j hj]
 unfold stC Jb
 rw[List.getElem?_append_left (by simpa using hj),List.getElem?_map,List.getElem?_map,hi]
 show some ((σ[i]?).join)=some (some v)
 rw[h1]
 rfl
noncomputable def aC (cl:Nat->List D->Res D)(T:Tg)(I:List IR)(E:IR)(UR:Ev)(x:D):Res (Option D):=U (bP T x UR) fun KS=>U (dA cl I KS) fun r=>if r=true then U (EV cl E KS) fun d=>.ok (some d) else .ok none
theorem cF {vs:List Nat}{fs:Ev->Res (List D)}{T:Tg}{I:List IR}{E:IR}{Kt:D->Prop}{Q:VK}(hl:fr.length<=G'.N.length)(ha:∀ i∈HJ T,fr.length<=i)(hs:Slots K S H σ τ (fr++vs))
  (q:ES ex (U (fs τ) fun its=>EX (cb its.length) (U (I0 (ax (aC cl T I E (Ij G' fr τ)) its)) fun ds=>.ok (.lst true ds))) Kt)
  (fin:∀ A ys ds H',ak H H'->H A=none->H' A=some (.lst ys)->ER K (fun a=>nw S H a/\a≠A) H' ys ds->Kt (.lst true ds)->Q (.ref A) H') :
  o9 (RI K ex vs fs) (stC (Jb G fr) (G'.N.drop fr.length)) (gT K T) (RT K GI (ay I) (dA cl I)) (RD K GI (vars E) (EV cl E)) σ H Q:=by
 refine BP (.refl _) hs.right (ES.U q) fun its J H1 e1 _ w1 q1 A hA=>?_
 obtain⟨gd,q1⟩:=ES.EX q1
 have q2:=ES.I0 (ES.U q1)
 have hsz:=e9 gd
 have US:H A=none:=e1.free hA
 -- Pf is read Ql apart from Li new list
 have HF:∀ a,nw S H a->H1 a≠none->nw S H a/\a≠A:=fun a h1 h2=>⟨h1,fun z=>h2 (by rw[z];exact hA)⟩
 have w2:GP K (fun a=>nw S H a/\a≠A) H1 J its:=w1.step (fun a xs h r=>⟨HF a h r.some,r⟩) fun a xs h=>h
 have Ia:Slots K (fun a=>nw S H a/\a≠A) H1 σ τ (fr++vs):=fun i hi d z=>by
  obtain⟨v,h1,h2⟩:=(hs.go e1) i hi d z
  exact⟨v,h1,h2.step (fun a xs h r=>⟨HF a h r.some,r⟩) fun a xs h=>h⟩
 refine⟨fun i m E4 H'=>m=its.length - i/\i<=its.length/\∃ ys acc,H' A=some (.lst ys)/\ER K (fun a=>nw S H a/\a≠A) H' ys acc/\ys.length<=i/\ak H1 H'/\E4.length=G'.N.length/\
   (∀ j,j < fr.length->E4[j]? = (stC (Jb G fr) (G'.N.drop fr.length) σ)[j]?)/\ES GI (ax (aC cl T I E (Ij G' fr τ)) (its.drop i)) fun ds=>Kt (.lst true (acc++ds)),⟨its.length,by simp,Nat.zero_le _,[],[],av,.nil,Nat.le_refl _,.upd hA,?_,fun _ _=>rfl,?_⟩,?_⟩
 ·rw[u5,List.length_drop];omega
 ·rw[List.drop_zero]
  exact q2.mono fun ds z=>z.ok
 ·rintro i m E4 H' ⟨rfl,hi,ys,acc,hy,my,ly,e2,hn,Ga,q3⟩
  by_cases FH:i < its.length
  ·refine .inr ⟨(w2.mono (fun _ z=>z) e2).go FH,fun x H2 UT=>?_⟩
   obtain⟨eH,mx⟩:=(w2.mono (fun _ z=>z) e2).J4 UT (d:=its[i]) (by simp[FH])
   have hy:=eH _ _ hy
   have my:=my.mono (fun _ z=>z) eH
   have e2:=e2.trans eH
   have hd:its.drop i=its[i]::its.drop (i+1):=List.drop_eq_getElem_cons FH
   rw[hd] at q3
   have q4:=ES.U q3
   have q5:ES GI (bP T its[i] (Ij G' fr τ)) _:=ES.U q4
   have sl:MB K (fun a=>nw S H a/\a≠A) H2 E4 (Ij G' fr τ):=u6 (G:=G) (vs:=vs) (σ:=σ) hl (fun i hi d z=>by
    obtain⟨v,h1,h2⟩:=Ia i hi d z
    exact⟨v,h1,h2.mono (fun _ z=>z) e2⟩) hn Ga
   refine mz T sl mx q5 fun EW HA Nu IT hk q6=>?_
   have OE:HA.length=G'.N.length:=IT.trans hn
   have NP:∀ j,j < fr.length->HA[j]? = (stC (Jb G fr) (G'.N.drop fr.length) σ)[j]?:=fun j hj=>by
    rw[hk j (fun z=>by have:=ha j z;omega)]
    exact Ga j hj
   have R6:∀ is,Slots K (fun a=>nw S H a/\a≠A) H2 HA EW is:=fun is i _ d z=>Nu.2 i d z
   refine dR (.refl _) (R6 _) (ES.U q6) fun r H4 e4 _ q7=>?_
   cases r with
   | false=>
    rw[if_neg Bool.false_ne_true] at q7 ⊢
    have q8:ES GI (ax (aC cl T I E (Ij G' fr τ)) (its.drop (i+1))) fun ds=>Kt (.lst true (acc++ds)):=q7
    refine⟨its.length - (i+1),by omega,rfl,FH,ys,acc,e4 _ _ hy,my.mono (fun _ z=>z) e4,by omega,e2.trans e4,OE,NP,q8⟩
   | true=>
    rw[if_pos rfl] at q7 ⊢
    refine ba e4 (R6 _) (ES.U q7) fun d v H5 e5 Wl m5 q8=>?_
    have q9:ES GI (U (ax (aC cl T I E (Ij G' fr τ)) (its.drop (i+1))) fun r=>.ok (d::r)) fun ds=>Kt (.lst true (acc++ds)):=q8
    have Mo:=ES.U q9
    have R7:H5 A=some (.lst ys):=e5 _ _ hy
    refine⟨ys,R7,by omega,its.length - (i+1),by omega,rfl,FH,ys++[v],acc++[d],av,?_,by rw[List.length_append,List.length_singleton];omega,?_,OE,NP,?_⟩
    ·have R8:∀ a (xs:LD),(nw S H a/\a≠A)->Rd H5 a xs.o->(nw S H a/\a≠A)/\Rd (upd H5 A (.lst (ys++[v]))) a xs.o:=fun a xs h r=>by
      refine⟨h,?_⟩
      unfold Rd
      rw[aj h.2]
      exact r
     have R9:∀ a xs,FQ K H5 a xs->FQ K (upd H5 A (.lst (ys++[v]))) a xs:=fun a xs h=>h.upd R7
     have m6:ET K (fun a=>nw S H a/\a≠A) H5 v d:=m5.step (fun a xs h r=>⟨by
      rcases h with h|h
      ·exact h
      ·have:H a=none:=e1.free (e2.free h)
       exact⟨.inr this,fun z=>by rw[z,hy] at h;cases h⟩,r⟩) fun a xs h=>h
     exact(((my.mono (fun _ z=>z) e5).step R8 R9)).append (.cons (m6.step R8 R9) .nil)
    ·exact fun b o hb=>by
      have:b≠A:=by rintro rfl;rw[hA] at hb;cases hb
      rw[aj this]
      exact e5 _ _ (e2 _ _ hb)
    ·refine Mo.mono fun ds z=>?_
     have z':=z.ok
     rw[List.append_assoc]
     exact z'
  ·have e:i=its.length:=by omega
   subst e
   refine .inl ⟨(w2.mono (fun _ z=>z) e2).stop (Nat.le_refl _),?_⟩
   rw[List.drop_length] at q3
   have q4:=q3.ok
   rw[List.append_nil] at q4
   exact fin A ys acc H' (e1.trans e2) US hy my q4
end
section
variable {Z:Sg}{CX:F5}{cl:Nat->List D->Res D}{xp:XK->Hp->Str->Prop}{X:Cx}{ex:Str->Prop}{G G':Gm}{fr:List Nat}
theorem gh {T:Tg}{s:Sr}{I:List IR}{E:IR}:EV cl (.comp G' fr T s I E)=fun τ=>U (dn cl s τ) fun its=>EX (cb its.length) (U (I0 (ax (aC cl T I E (Ij G' fr τ)) its)) fun ds=>.ok (.lst true ds)):=rfl
theorem zQ (g:Fz Z CX cl xp X ex G){scope:Scope}{tg iter elt:Expr}{ifs:List Expr}{pos:Pos}{T:Tg}{s:Sr}{I:List IR}{E:IR}(hs:Ja Z G scope G' fr)(hT:cf G' T tg=true)(ha:∀ i∈HJ T,fr.length<=i)
  (hi:PI X tg iter (RI X.K ex (dN s) (dn cl s))) (ht:∀ X',Fz Z CX cl xp X' GI G'->J' X' ifs (RT X'.K GI (ay I) (dA cl I))) (he:∀ X',Fz Z CX cl xp X' GI G'->PE X' elt (RD X'.K GI (vars E) (EV cl E)))
  (hf:∀ x,foldedSetIterable iter X.env x=pure x):PE X (.ListComp elt [⟨tg,iter,ifs,0⟩] scope pos) (RD X.K ex (fr++dN s) (EV cl (.comp G' fr T s I E))):=by
 intro pins s' σ H Q Iv h
 obtain⟨F6,S⟩:=eM g Iv.ok hs
 have p:=lX (pos:=pos) (elt:=elt) (ifs:=ifs) (tg:=tg) (g:=gT X.K T) (tt:=RT X.K GI (ay I) (dA cl I)) (te:=RD X.K GI (vars E) (EV cl E)) (g.calm hs.cm) S hi (fun C s H fp=>LP (bG g hs F6 C s H fp) T tg hT) (fun C s H fp=>ht _ (bG g hs F6 C s H fp)) (fun C s H fp=>he _ (bG g hs F6 C s H fp)) hf
 refine p pins s' σ H Q Iv ?_
 obtain⟨S0,τ,Qm,q⟩:=h
 rw[gh] at q
 exact cF hs.NO ha Qm q fun A ys ds H' e hA KZ m k=>k _ _ e (.lst (.inr hA) (.inl KZ) (m.mono (fun _ z=>z.1) (.refl _)))
end
section
variable {Z:Sg}{CX:F5}{cl:Nat->List D->Res D}{xp:XK->Hp->Str->Prop}
theorem oC {e:Expr}{a:IR}{G:Gm}(h:E3 Z G a e=true)(env:Env)(x:Value):foldedSetIterable e env x=pure x:=by
 cases e<;>first|rfl|(cases a<;>cases h)
theorem bX {e:Expr}{a:Sr}{G:Gm}(h:cw Z G a e=true)(env:Env)(x:Value):foldedSetIterable e env x=pure x:=by
 cases a with
 | val a=>exact oC (show E3 Z G a e=true from h) env x
 | _=>cases e<;>first|rfl|cases h
theorem both {X:Cx}{ex:Str->Prop}{e:Expr}{is:List Nat}{f:Ev->Res D}(h:PE X e (RD X.K ex is f))(he:∀ whole,isTrue e X.env whole=(do let v <- whole;standAt e.pos;holding [v] (truthy v)):=by intro _;rfl) :
  PE X e (RD X.K ex is f)/\PT X e (RT X.K ex is fun τ=>U (f τ) aD):=⟨h,Bz h he⟩
mutual
theorem snd:∀ (a:IR) (X:Cx) (ex:Str->Prop) (G:Gm) (e:Expr),Fz Z CX cl xp X ex G->E3 Z G a e=true->PE X e (RD X.K ex (vars a) (EV cl a))/\PT X e (RT X.K ex (vars a) fun τ=>U (EV cl a τ) aD)
 | .c d,X,ex,G,e,g,h=>by
  cases e with
  | Constant k j pos=>exact both (UN h)
  | _=>first|exact aa h|cases h
 | .g n d,X,ex,G,e,g,h=>by
  cases e with
  | Name x pos=>
   have h':(fZ Z G n x&&Z.My.any fun p=>p.1 == n&&oy p.2 d)=true:=h
   rw[Bool.and_eq_true] at h'
   exact both (UO g h'.1 h'.2)
  | _=>first|exact aa h|cases h
 | .v i,X,ex,G,e,g,h=>by
  cases e with
  | Name x pos=>exact both (UM g h)
  | _=>first|exact aa h|cases h
 | .bin op a b,X,ex,G,e,g,h=>by
  cases e with
  | BinOp l o r pos=>
   have h':(o == LH op&&E3 Z G a l&&E3 Z G b r)=true:=h
   simp only[Bool.and_eq_true] at h'
   have e1:o=LH op:=eq_of_beq h'.1.1
   subst e1
   exact both (BA (snd a X ex G l g h'.1.2).1 (snd b X ex G r g h'.2).1)
  | _=>first|exact aa h|cases h
 | .neg a,X,ex,G,e,g,h=>by
  cases e with
  | UnaryOp o l pos=>
   cases o with
   | USub=>exact both (BB (snd a X ex G l g h).1)
   | _=>first|exact aa h|cases h
  | _=>first|exact aa h|cases h
 | .cmp op a b,X,ex,G,e,g,h=>by
  cases e with
  | Compare l os rs pos=>
   match os,rs,h with
   | [o],[r],h=>
    have h':(o == LI op&&E3 Z G a l&&E3 Z G b r&&!behindInMarks o r)=true:=h
    simp only[Bool.and_eq_true] at h'
    have e1:o=LI op:=eq_of_beq h'.1.1.1
    subst e1
    exact BC g (snd a X ex G l g h'.1.1.2).1 (snd b X ex G r g h'.1.2).1 (by simpa using h'.2)
   | [],_,h=>first|exact aa h|cases h
   | [_],[],h=>first|exact aa h|cases h
   | [_],_::_::_,h=>first|exact aa h|cases h
   | _::_::_,_,h=>first|exact aa h|cases h
  | _=>first|exact aa h|cases h
 | .chain op ON a b c,X,ex,G,e,g,h=>by cases e<;>exact aa h
 | .E8 a b,X,ex,G,e,g,h=>by
  cases e with
  | BoolOp o es pos=>
   match o,es,h with
   | .And,[l,r],h=>
    have h':(E3 Z G a l&&E3 Z G b r)=true:=h
    rw[Bool.and_eq_true] at h'
    obtain⟨pa,ta⟩:=snd a X ex G l g h'.1
    obtain⟨pb,tb⟩:=snd b X ex G r g h'.2
    exact⟨v5 pa (oO pb),v7 ta (ue tb)⟩
   | .And,l::r::r'::rest,h=>
    have h':(E3 Z G a l&&E3 Z G b (.BoolOp .And (r::r'::rest) pos))=true:=h
    rw[Bool.and_eq_true] at h'
    obtain⟨pa,ta⟩:=snd a X ex G l g h'.1
    obtain⟨pb,tb⟩:=snd b X ex G _ g h'.2
    exact⟨v5 pa pb,v7 ta (qm (e:=l) tb)⟩
   | .And,[],h=>first|exact aa h|cases h
   | .And,[_],h=>first|exact aa h|cases h
   | .Or,_,h=>first|exact aa h|cases h
  | _=>first|exact aa h|cases h
 | .HH a b,X,ex,G,e,g,h=>by
  cases e with
  | BoolOp o es pos=>
   match o,es,h with
   | .Or,[l,r],h=>
    have h':(E3 Z G a l&&E3 Z G b r)=true:=h
    rw[Bool.and_eq_true] at h'
    obtain⟨pa,ta⟩:=snd a X ex G l g h'.1
    obtain⟨pb,tb⟩:=snd b X ex G r g h'.2
    exact⟨BD pa (oO pb),BF ta (yG tb)⟩
   | .Or,l::r::r'::rest,h=>
    have h':(E3 Z G a l&&E3 Z G b (.BoolOp .Or (r::r'::rest) pos))=true:=h
    rw[Bool.and_eq_true] at h'
    obtain⟨pa,ta⟩:=snd a X ex G l g h'.1
    obtain⟨pb,tb⟩:=snd b X ex G _ g h'.2
    exact⟨BD pa pb,BF ta (qm (e:=l) tb)⟩
   | .Or,[],h=>first|exact aa h|cases h
   | .Or,[_],h=>first|exact aa h|cases h
   | .And,_,h=>first|exact aa h|cases h
  | _=>first|exact aa h|cases h
 | .F3 a,X,ex,G,e,g,h=>by
  cases e with
  | UnaryOp o l pos=>
   cases o with
   | Not=>
    obtain⟨pa,ta⟩:=snd a X ex G l g h
    exact BE pa ta
   | _=>first|exact aa h|cases h
  | _=>first|exact aa h|cases h
 | .ite t a b,X,ex,G,e,g,h=>by
  cases e with
  | IfExp c x y pos=>
   have h':(E3 Z G t c&&E3 Z G a x&&E3 Z G b y)=true:=h
   simp only[Bool.and_eq_true] at h'
   obtain⟨pa,ta⟩:=snd a X ex G x g h'.1.2
   obtain⟨pb,tb⟩:=snd b X ex G y g h'.2
   exact BG (snd t X ex G c g h'.1.1).2 pa pb ta tb
  | _=>first|exact aa h|cases h
 | .tup es,X,ex,G,e,g,h=>by
  cases e with
  | Tuple l n pos=>exact both (BH (lh es X ex G l g h))
  | _=>first|exact aa h|cases h
 | .lst es,X,ex,G,e,g,h=>by
  cases e with
  | List l pos=>exact both (BI (lh es X ex G l g h))
  | _=>first|exact aa h|cases h
 | .idx a i,X,ex,G,e,g,h=>by
  cases e with
  | Subscript o s pos=>
   have h':(cC s&&E3 Z G a o&&E3 Z G i s)=true:=by
    cases s<;>first|exact h|(rename_i l u st p;cases st<;>exact h)
   simp only[Bool.and_eq_true] at h'
   exact both (BJ (snd a X ex G o g h'.1.2).1 (snd i X ex G s g h'.2).1 h'.1.1)
  | _=>first|exact aa h|cases h
 | .sl a lo hi,X,ex,G,e,g,h=>by
  cases e with
  | Subscript o s pos=>
   match s,h with
   | .Slice l u none p,h=>
    have h':(E3 Z G a o&&kW Z G lo l&&kW Z G hi u)=true:=h
    simp only[Bool.and_eq_true] at h'
    exact both (EF (snd a X ex G o g h'.1.1).1 (u7 lo X ex G l g h'.1.2) (u7 hi X ex G u g h'.2))
   | .Slice _ _ (some _) _,h=>first|exact aa h|cases h
   | .BoolOp ..,h=>first|exact aa h|cases h
   | .NamedExpr ..,h=>first|exact aa h|cases h
   | .BinOp ..,h=>first|exact aa h|cases h
   | .UnaryOp ..,h=>first|exact aa h|cases h
   | .Lambda ..,h=>first|exact aa h|cases h
   | .IfExp ..,h=>first|exact aa h|cases h
   | .Dict ..,h=>first|exact aa h|cases h
   | .Set ..,h=>first|exact aa h|cases h
   | .ListComp ..,h=>first|exact aa h|cases h
   | .SetComp ..,h=>first|exact aa h|cases h
   | .DictComp ..,h=>first|exact aa h|cases h
   | .GeneratorExp ..,h=>first|exact aa h|cases h
   | .Await ..,h=>first|exact aa h|cases h
   | .Yield ..,h=>first|exact aa h|cases h
   | .YieldFrom ..,h=>first|exact aa h|cases h
   | .Compare ..,h=>first|exact aa h|cases h
   | .Call ..,h=>first|exact aa h|cases h
   | .FormattedValue ..,h=>first|exact aa h|cases h
   | .JoinedStr ..,h=>first|exact aa h|cases h
   | .Constant ..,h=>first|exact aa h|cases h
   | .Attribute ..,h=>first|exact aa h|cases h
   | .Subscript ..,h=>first|exact aa h|cases h
   | .Starred ..,h=>first|exact aa h|cases h
   | .Name ..,h=>first|exact aa h|cases h
   | .List ..,h=>first|exact aa h|cases h
   | .Tuple ..,h=>first|exact aa h|cases h
  | _=>first|exact aa h|cases h
 | .call f es,X,ex,G,e,g,h=>by
  cases e with
  | Call fn args Gy pos=>
   cases fn with
   | Name x p=>
    cases Gy with
    | nil=>
     have h':(fZ Z G f x&&Z.KW G f&&bj Z G es args)=true:=h
     simp only[Bool.and_eq_true] at h'
     exact both (s_call g h'.1.1 h'.1.2 h'.2 (lh es X ex G args g h'.2))
    | cons _ _=>first|exact aa h|cases h
   | _=>first|exact aa h|cases h
  | _=>first|exact aa h|cases h
 | .bi f es,X,ex,G,e,g,h=>by
  cases e with
  | Call fn args Gy pos=>
   cases fn with
   | Name x p=>
    cases Gy with
    | nil=>
     cases args with
     | nil=>first|exact aa h|cases h
     | cons a args=>
      have h':(x == eJ f&&G.JG (mf f)&&bj Z G es (a::args))=true:=h
      simp only[Bool.and_eq_true] at h'
      have e1:x=eJ f:=eq_of_beq h'.1.1
      subst e1
      exact both (EG g h'.1.2 h'.2 (lh es X ex G _ g h'.2))
    | cons _ _=>cases args<;>first|exact aa h|cases h
   | _=>first|exact aa h|cases h
  | _=>first|exact aa h|cases h
 | .Gu a,X,ex,G,e,g,h=>by
  have h:Mz e (fun x y e=>x == "list"&&G.JG 5&&y == "reversed"&&G.gl.contains 18&&notStar e&&E3 Z G a e)=true:=by cases e<;>exact h
  obtain⟨x,p,y,p',e',pos',pos,rfl,h⟩:=qi h
  have h:(x == "list"&&G.JG 5&&y == "reversed"&&G.gl.contains 18&&notStar e'&&E3 Z G a e')=true:=h
  simp only[Bool.and_eq_true] at h
  have e1:x = "list":=eq_of_beq h.1.1.1.1.1
  have e2:y = "reversed":=eq_of_beq h.1.1.1.2
  subst e1 e2
  exact both (zM g h.1.1.1.1.2 h.1.1.2 h.1.2 (snd a X ex G e' g h.2).1)
 | .G3,X,ex,G,e,g,h=>by
  have h:OS e=true:=by cases e<;>exact h
  obtain⟨pos,rfl⟩:=qh h
  exact both zN
 | .Kj a k,X,ex,G,e,g,h=>by cases e<;>exact aa h
 | .KQ n k a,X,ex,G,e,g,h=>by
  have h:OT e (fun l o r=>o == oA n&&E3 Z G k l&&E3 Z G a r&&!behindInMarks o r)=true:=by cases e<;>exact h
  obtain⟨l,o,r,pos,rfl,q3⟩:=zK h
  simp only[Bool.and_eq_true] at q3
  have e1:o=oA n:=eq_of_beq q3.1.1.1
  subst e1
  exact BM g (snd k X ex G l g q3.1.1.2).1 (snd a X ex G r g q3.1.2).1 (by simpa using q3.2)
 | .sset a,X,ex,G,e,g,h=>by
  have h:Mz e (fun x y e=>x == "sorted"&&G.gl.contains 4&&y == "set"&&G.gl.contains 12&&(notStar e&&G.cm)&&E3 Z G a e)=true:=by cases e<;>exact h
  obtain⟨x,p,y,p',e',q',q,rfl,h⟩:=qi h
  have h:(x == "sorted"&&G.gl.contains 4&&y == "set"&&G.gl.contains 12&&(notStar e'&&G.cm)&&E3 Z G a e')=true:=h
  simp only[Bool.and_eq_true] at h
  have e1:x = "sorted":=eq_of_beq h.1.1.1.1.1
  have e2:y = "set":=eq_of_beq h.1.1.1.2
  subst e1 e2
  exact both (zL g h.1.1.1.1.2 h.1.1.2 h.1.2.1 h.1.2.2 (snd a X ex G e' g h.2).1)
 | .OP x a y,X,ex,G,e,g,h=>by cases e<;>exact aa h
 | .OO a ns tb,X,ex,G,e,g,h=>by cases e<;>exact aa h
 | .FG a k,X,ex,G,e,g,h=>by
  cases e with
  | Call fn args Gy pos=>
   cases fn with
   | Name x p=>
    match args,Gy,h with
    | [o,.Name y p'],[],h=>
     have h':(x == "isinstance"&&G.gl.contains 14&&y == dD k&&G.gl.contains (mh k)&&notStar o&&E3 Z G a o)=true:=h
     simp only[Bool.and_eq_true] at h'
     have e1:x = "isinstance":=eq_of_beq h'.1.1.1.1.1
     have e2:y=dD k:=eq_of_beq h'.1.1.1.2
     subst e1 e2
     exact both (BK g h'.1.1.1.1.2 h'.1.1.2 h'.1.2 (snd a X ex G o g h'.2).1)
    | [],_,h=>first|exact aa h|cases h
    | [_],_,h=>first|exact aa h|cases h
    | _::b::_::_,k,h=>cases b<;>cases k<;>first|exact aa h|cases h
    | [_,.Name _ _],_::_,h=>first|exact aa h|cases h
    | [_,.BoolOp ..],_,h=>first|exact aa h|cases h
    | [_,.NamedExpr ..],_,h=>first|exact aa h|cases h
    | [_,.BinOp ..],_,h=>first|exact aa h|cases h
    | [_,.UnaryOp ..],_,h=>first|exact aa h|cases h
    | [_,.Lambda ..],_,h=>first|exact aa h|cases h
    | [_,.IfExp ..],_,h=>first|exact aa h|cases h
    | [_,.Dict ..],_,h=>first|exact aa h|cases h
    | [_,.Set ..],_,h=>first|exact aa h|cases h
    | [_,.ListComp ..],_,h=>first|exact aa h|cases h
    | [_,.SetComp ..],_,h=>first|exact aa h|cases h
    | [_,.DictComp ..],_,h=>first|exact aa h|cases h
    | [_,.GeneratorExp ..],_,h=>first|exact aa h|cases h
    | [_,.Await ..],_,h=>first|exact aa h|cases h
    | [_,.Yield ..],_,h=>first|exact aa h|cases h
    | [_,.YieldFrom ..],_,h=>first|exact aa h|cases h
    | [_,.Compare ..],_,h=>first|exact aa h|cases h
    | [_,.Call ..],_,h=>first|exact aa h|cases h
    | [_,.FormattedValue ..],_,h=>first|exact aa h|cases h
    | [_,.JoinedStr ..],_,h=>first|exact aa h|cases h
    | [_,.Constant ..],_,h=>first|exact aa h|cases h
    | [_,.Attribute ..],_,h=>first|exact aa h|cases h
    | [_,.Subscript ..],_,h=>first|exact aa h|cases h
    | [_,.Starred ..],_,h=>first|exact aa h|cases h
    | [_,.Slice ..],_,h=>first|exact aa h|cases h
    | [_,.List ..],_,h=>first|exact aa h|cases h
    | [_,.Tuple ..],_,h=>first|exact aa h|cases h
   | _=>first|exact aa h|cases h
  | _=>first|exact aa h|cases h
 | .HV m o es,X,ex,G,e,g,h=>by
  cases e with
  | Call fn args Gy pos=>
   cases fn with
   | Attribute oe name apos=>
    match args,Gy,h with
    | a::args,[],h=>
     have h':(name == fU m&&fY oe&&apos.endLine == pos.line&&(decide ((a::args).length < 29)&&(G.cm||kU m))&&E3 Z G o oe&&bj Z G es (a::args))=true:=h
     simp only[Bool.and_eq_true] at h'
     have e1:name=fU m:=eq_of_beq h'.1.1.1.1.1
     subst e1
     exact both (BL g h'.1.1.1.1.2 h'.1.1.1.2 (of_decide_eq_true h'.1.1.2.1) h'.1.1.2.2 h'.2 (snd o X ex G oe g h'.1.2).1 (lh es X ex G _ g h'.2))
    | [],_,h=>first|exact aa h|cases h
    | _::_,_::_,h=>first|exact aa h|cases h
   | _=>first|exact aa h|cases h
  | _=>first|exact aa h|cases h
 | .comp G' fr tg src ifs elt,X,ex,G,e,g,h=>by
  cases e with
  | ListComp el gens scope pos=>
   have h:oz gens (fun t it fs=>bF Z G scope G' fr&&cf G' tg t&&(HJ tg).all (fun i=>decide (fr.length<=i))&&(cw Z G src it&&eW src t)&&bj Z G' ifs fs&&E3 Z G' elt el)=true:=h
   obtain⟨t,it,fs,rfl,h⟩:=iX h
   have h':(bF Z G scope G' fr&&cf G' tg t&&(HJ tg).all (fun i=>decide (fr.length<=i))&&(cw Z G src it&&eW src t)&&bj Z G' ifs fs&&E3 Z G' elt el)=true:=h
   simp only[Bool.and_eq_true] at h'
   exact both (zQ g (iZ h'.1.1.1.1.1) h'.1.1.1.1.2 (fun i hi=>of_decide_eq_true (List.all_eq_true.mp h'.1.1.1.2 i hi)) (vd src X ex G it t g h'.1.1.2.1 h'.1.1.2.2)
    (fun X' g'=>u9 ifs X' GI G' fs g' h'.1.2) (fun X' g'=>(snd elt X' GI G' el g' h'.2).1) (fun x=>bX h'.1.1.2.1 X.env x))
  | _=>first|exact aa h|cases h
theorem lh:∀ (as:List IR) (X:Cx) (ex:Str->Prop) (G:Gm) (l:List Expr),Fz Z CX cl xp X ex G->bj Z G as l=true->PA X l (RA X.K ex (ay as) (bh cl as))
 | [],X,ex,G,l,g,h=>by
  cases l with
  | nil=>exact iK bN fun σ H Q ⟨S,τ,hs,q⟩=>q.ok _ _ (.refl _) .nil
  | cons _ _=>first|exact aa h|cases h
 | a::as,X,ex,G,l,g,h=>by
  cases l with
  | nil=>first|exact aa h|cases h
  | cons e l=>
   have h':(notStar e&&E3 Z G a e&&bj Z G as l)=true:=h
   simp only[Bool.and_eq_true] at h'
   refine iK (aU (snd a X ex G e g h'.1.2).1 (lh as X ex G l g h'.2) (ah h'.1.1 _ _)) fun σ H Q ⟨S,τ,hs,q⟩=>?_
   refine ba (.refl _) hs.left (ES.U q) fun x v H1 e1 _ m1 q1=>?_
   refine kX e1 hs.right (ES.U q1) fun ds vs H2 e2 Gk m2 q2=>?_
   exact q2.ok _ _ e2 (.cons (m1.later Gk) m2)
theorem u7:∀ (o:Option IR) (X:Cx) (ex:Str->Prop) (G:Gm) (e:Option Expr),Fz Z CX cl xp X ex G->kW Z G o e=true->PO X e (MA X.K ex (p0 o) (iR cl o))
 | none,X,ex,G,e,g,h=>by
  cases e with
  | none=>
   intro pins s σ H Q I ⟨S,τ,hs,q⟩
   exact uq pins s σ H Q I (q.ok H (.refl _))
  | some _=>first|exact aa h|cases h
 | some a,X,ex,G,e,g,h=>by
  cases e with
  | none=>first|exact aa h|cases h
  | some e=>
   intro pins s σ H Q I ⟨S,τ,hs,q⟩
   refine ur (snd a X ex G e g h).1 pins s σ H Q I ?_
   refine ba (.refl _) hs (ES.U q) fun x v H1 e1 _ m1 q1=>?_
   cases x with
   | int i=>cases m1.E9;exact⟨i,rfl,q1.ok _ e1⟩
   | _=>exact q1.no.elim
theorem u9:∀ (as:List IR) (X:Cx) (ex:Str->Prop) (G:Gm) (l:List Expr),Fz Z CX cl xp X ex G->bj Z G as l=true->J' X l (RT X.K ex (ay as) (dA cl as))
 | [],X,ex,G,l,g,h=>by
  cases l with
  | nil=>intro pins s σ H Q I ⟨S,τ,hs,q⟩;exact uz pins s σ H Q I (q.ok H (.refl _))
  | cons _ _=>first|exact aa h|cases h
 | a::as,X,ex,G,l,g,h=>by
  cases l with
  | nil=>first|exact aa h|cases h
  | cons e l=>
   have h':(notStar e&&E3 Z G a e&&bj Z G as l)=true:=h
   simp only[Bool.and_eq_true] at h'
   intro pins s σ H Q I ⟨S,τ,hs,q⟩
   refine o8 (snd a X ex G e g h'.1.2).2 (u9 as X ex G l g h'.2) pins s σ H Q I ?_
   refine dR (.refl _) hs.left (ES.U q) fun r H2 e2 _ k=>?_
   cases r with
   | true=>rw[if_pos rfl] at k ⊢;exact dR e2 hs.right k fun b H3 e3 _ z=>z H3 e3
   | false=>rw[if_neg Bool.false_ne_true] at k ⊢;exact k.ok H2 e2
theorem vd:∀ (s:Sr) (X:Cx) (ex:Str->Prop) (G:Gm) (e tg:Expr),Fz Z CX cl xp X ex G->cw Z G s e=true->eW s tg=true->PI X tg e (RI X.K ex (dN s) (dn cl s))
 | .FO n,X,ex,G,e,tg,g,h,ht=>by
  cases e with
  | Call fn args Gy pos=>
   cases fn with
   | Name x p=>
    match args,Gy,h with
    | [a],[],h=>
     have h':(x == "range"&&G.gl.contains 15&&notStar a&&E3 Z G n a)=true:=h
     simp only[Bool.and_eq_true] at h'
     have e1:x = "range":=eq_of_beq h'.1.1.1
     subst e1
     exact zP g h'.1.1.2 h'.1.2 (snd n X ex G a g h'.2).1
    | [],_,h=>first|exact aa h|cases h
    | [_],_::_,h=>first|exact aa h|cases h
    | _::_::_,_,h=>first|exact aa h|cases h
   | _=>first|exact aa h|cases h
  | _=>first|exact aa h|cases h
 | .G4 a b,X,ex,G,e,tg,g,h,ht=>by cases e<;>exact aa h
 | .val a,X,ex,G,e,tg,g,h,ht=>BQ (snd a X ex G e g h).1
 | .zip a b,X,ex,G,e,tg,g,h,ht=>by
  cases tg with
  | Tuple Wm tc tp=>
   cases e with
   | Call fn args Gy pos=>
    cases fn with
    | Name x p=>
     match args,Gy,h with
     | [l,r],[],h=>
      have h':(x == "zip"&&G.gl.contains 17&&notStar l&&notStar r&&E3 Z G a l&&E3 Z G b r)=true:=h
      simp only[Bool.and_eq_true] at h'
      have e1:x = "zip":=eq_of_beq h'.1.1.1.1.1
      subst e1
      exact BS g h'.1.1.1.1.2 h'.1.1.1.2 h'.1.1.2 (snd a X ex G l g h'.1.2).1 (snd b X ex G r g h'.2).1
     | [],_,h=>first|exact aa h|cases h
     | [_],_,h=>first|exact aa h|cases h
     | [_,_],_::_,h=>first|exact aa h|cases h
     | _::_::_::_,_,h=>first|exact aa h|cases h
    | _=>first|exact aa h|cases h
   | _=>first|exact aa h|cases h
  | _=>exact aa ht
end
end
inductive Fq (K:PySem.W.Frag)(F:Addr->Prop)(H:Hp):St->Ev->List Addr->Prop where
 | nil:Fq K F H [] [] []
 | none {o:Option V}{σ:St}{τ:Ev}{f:List Addr}:Fq K F H σ τ f->Fq K F H (o::σ) (.none::τ) f
 | some {v:V}{d:D}{f:List Addr}{σ:St}{τ:Ev}{g:List Addr}:E6 K F H v d f->Fq K F H σ τ g->Fq K F H (.some v::σ) (.some d::τ) (f++g)
section
variable {K:PySem.W.Frag}{F F':Addr->Prop}{H H':Hp}{σ:St}{τ:Ev}{f:List Addr}
theorem Fq.step (hl:∀ a (u:LD),F a->Rd H a u.o->F' a/\Rd H' a u.o)(ht:∀ a xs,FQ K H a xs->FQ K H' a xs):∀ {σ:St}{τ:Ev}{f:List Addr},(∀ a∈f,¬ F a->H a≠Option.none->¬ F' a/\H' a=H a)->Fq K F H σ τ f->Fq K F' H' σ τ f
 | _,_,_,_,.nil=>.nil
 | _,_,_,k,.none h=>.none (Fq.step hl ht k h)
 | _,_,_,k,.some m h=>.some (m.step hl ht fun a ha=>k a (List.mem_append_left _ ha)) (Fq.step hl ht (fun a ha=>k a (List.mem_append_right _ ha)) h)
theorem Fq.own:∀ {σ:St}{τ:Ev}{f:List Addr},Fq K F H σ τ f->∀ a∈f,¬ F a/\∃ u,H a=.some u
 | _,_,_,.nil=>fun _ h=>absurd h (by simp)
 | _,_,_,.none h=>Fq.own h
 | _,_,_,.some m h=>fun a ha=>by
  rcases List.mem_append.mp ha with ha|ha
  ·exact m.own a ha
  ·exact Fq.own h a ha
theorem bJ {o:Option D}{τ:Ev}{i:Nat}:ai (o::τ) (i+1)=ai τ i:=by unfold ai;simp
theorem cK {o:Option D}{τ:Ev}:ai (o::τ) 0=o:=by unfold ai;simp
theorem Fq.at:∀ {σ:St}{τ:Ev}{f:List Addr}{i:Nat}{d:D},Fq K F H σ τ f->ai τ i=.some d->∃ v fv g,σ[i]? = .some (.some v)/\E6 K F H v d fv/\Fq K F H σ (τ.set i .none) g/\f.Perm (fv++g)
 | _,_,_,i,d,.nil,h=>by simp[ai] at h
 | _,_,_,0,d,.none _,h=>by rw[cK] at h;cases h
 | _,_,_,0,d,.some m h',h=>by
  rw[cK] at h
  cases h
  exact⟨_,_,_,rfl,m,.none h',.refl _⟩
 | _,_,_,i+1,d,.none h',h=>by
  rw[bJ] at h
  obtain⟨v,fv,g,h1,h2,h3,h4⟩:=Fq.at h' h
  exact⟨v,fv,g,by simpa using h1,h2,.none h3,h4⟩
 | _,_,_,i+1,d,.some (f:=f0) m h',h=>by
  rw[bJ] at h
  obtain⟨v,fv,g,h1,h2,h3,h4⟩:=Fq.at h' h
  refine⟨v,fv,f0++g,by simpa using h1,h2,.some m h3,?_⟩
  refine(List.Perm.append_left f0 h4).trans ?_
  rw[<- List.append_assoc,<- List.append_assoc]
  exact List.Perm.append_right g List.perm_append_comm
theorem Fq.put:∀ {σ:St}{τ:Ev}{f:List Addr} (i:Nat) {v:V}{d:D}{fv:List Addr},Fq K F H σ τ f->E6 K F H v d fv->∃ g h,Fq K F H (σ.set i (.some v)) (τ.set i (.some d)) g/\(g++h).Perm (fv++f)
 | _,_,_,i,v,d,fv,.nil,m=>⟨[],_,.nil,.refl _⟩
 | _,_,_,0,v,d,fv,.none h,m=>⟨_,[],.some m h,by rw[List.append_nil]⟩
 | _,_,_,0,v,d,fv,.some (f:=f0) (g:=g0) m' h,m=>⟨_,f0,.some m h,by rw[List.append_assoc];exact List.Perm.append_left _ List.perm_append_comm⟩
 | _,_,_,i+1,v,d,fv,.none h,m=>by
  obtain⟨g,h',h1,h2⟩:=Fq.put i h m
  exact⟨g,h',.none h1,h2⟩
 | _,_,_,i+1,v,d,fv,.some (f:=f0) (g:=g0) m' h,m=>by
  obtain⟨g,h',h1,h2⟩:=Fq.put i h m
  refine⟨f0++g,h',.some m' h1,?_⟩
  rw[List.append_assoc]
  refine(List.Perm.append_left f0 h2).trans ?_
  rw[<- List.append_assoc,<- List.append_assoc]
  exact List.Perm.append_right g0 List.perm_append_comm
theorem Fq.slots {S:Addr->Prop}{is:List Nat}(h:Fq K F H σ τ f)(hF:∀ a,F a->S a)(hf:∀ a∈f,S a):Slots K S H σ τ is:=fun i hi d z=>by
 obtain⟨v,fv,g,h1,h2,h3,h4⟩:=h.at z
 exact⟨v,h1,h2.read hF fun a ha=>hf a (h4.mem_iff.mpr (List.mem_append_left _ ha))⟩
theorem Fq.freeze (is:List Nat):∀ {σ:St}{τ:Ev}{f:List Addr} (k:Nat),Fq K F H σ τ f->∃ fi g,f.Perm (fi++g)/\(∀ F':Addr->Prop,(∀ a,F a->F' a)->(∀ a∈fi,F' a)->(∀ a∈g,¬ F a->¬ F' a)->Fq K F' H σ (gF is k τ) g)/\
  ∀ F':Addr->Prop,(∀ a,F a->F' a)->(∀ a∈fi,F' a)->∀ i,is.contains (k+i)=true->∀ d,ai τ i=.some d->∃ v,σ[i]? = .some (.some v)/\ET K F' H v d
 | _,_,_,k,.nil=>⟨[],[],.refl _,fun _ _ _ _=>.nil,fun _ _ _ i _ d z=>by simp[ai] at z⟩
 | _,_,_,k,.none h=>by
  obtain⟨fi,g,h1,h2,h3⟩:=Fq.freeze is (k+1) h
  refine⟨fi,g,h1,fun F' a b c=>?_,fun F' a b i hi d z=>?_⟩
  ·unfold gF
   have e:(if is.contains k=true then Option.map er (Option.none:Option D) else Option.none)=Option.none:=by split<;>rfl
   rw[e]
   exact .none (h2 F' a b c)
  ·cases i with
   | zero=>rw[cK] at z;cases z
   | succ i=>
    rw[bJ] at z
    obtain⟨v,q1,q2⟩:=h3 F' a b i (by rw[show k+1+i=k+(i+1) by omega];exact hi) d z
    exact⟨v,by simpa using q1,q2⟩
 | _,_,_,k,.some (v:=v) (d:=d0) (f:=f0) (g:=g0) m h=>by
  obtain⟨fi,g,h1,h2,h3⟩:=Fq.freeze is (k+1) h
  by_cases hc:is.contains k=true
  ·refine⟨f0++fi,g,by rw[List.append_assoc];exact List.Perm.append_left _ h1,fun F' a b c=>?_,fun F' a b i hi d z=>?_⟩
   ·unfold gF
    rw[if_pos hc]
    exact .some (f:=[]) ((m.read a fun x hx=>b x (List.mem_append_left _ hx)).frozen) (h2 F' a (fun x hx=>b x (List.mem_append_right _ hx)) c)
   ·cases i with
    | zero=>
     rw[cK] at z
     cases z
     exact⟨v,rfl,m.read a fun x hx=>b x (List.mem_append_left _ hx)⟩
    | succ i=>
     rw[bJ] at z
     obtain⟨v,q1,q2⟩:=h3 F' a (fun x hx=>b x (List.mem_append_right _ hx)) i (by rw[show k+1+i=k+(i+1) by omega];exact hi) d z
     exact⟨v,by simpa using q1,q2⟩
  ·refine⟨fi,f0++g,?_,fun F' a b c=>?_,fun F' a b i hi d z=>?_⟩
   ·refine(List.Perm.append_left f0 h1).trans ?_
    rw[<- List.append_assoc,<- List.append_assoc]
    exact List.Perm.append_right g List.perm_append_comm
   ·unfold gF
    rw[if_neg hc]
    exact .some (m.step (fun x xs q r=>⟨a x q,r⟩) (fun x xs q=>q) fun x hx n _=>⟨c x (List.mem_append_left _ hx) n,rfl⟩) (h2 F' a b fun x hx=>c x (List.mem_append_right _ hx))
   ·cases i with
    | zero=>exact absurd hi hc
    | succ i=>
     rw[bJ] at z
     obtain⟨v,q1,q2⟩:=h3 F' a b i (by rw[show k+1+i=k+(i+1) by omega];exact hi) d z
     exact⟨v,by simpa using q1,q2⟩
end
structure Ik (F:Addr->Prop)(H:Hp)(f:List Addr)(F':Addr->Prop)(H':Hp):Prop where
 same:ak H H'
 G7:∀ a,F a->F' a
 out:∀ a,F' a->F a∨a∈f∨H a=none
structure Ow (K:PySem.W.Frag)(F:Addr->Prop)(H:Hp)(f:List Addr)(F':Addr->Prop)(H':Hp)(σ:St)(v:V)(d:D)(fv:List Addr)(EW:Ev)(f':List Addr):Prop where
 GQ:Ik F H f F' H'
 Fi:Hl F' H'
 rep:E6 K F' H' v d fv
 FU:Fq K F' H' σ EW f'
 FI:(fv++f').Nodup
 mem:∀ a∈fv++f',a∈f∨H a=none
structure UU (K:PySem.W.Frag)(F:Addr->Prop)(H:Hp)(f:List Addr)(F':Addr->Prop)(H':Hp)(σ:St)(v:List V)(d:List D)(fv:List Addr)(EW:Ev)(f':List Addr):Prop where
 GQ:Ik F H f F' H'
 Fi:Hl F' H'
 rep:EU K F' H' v d fv
 FU:Fq K F' H' σ EW f'
 FI:(fv++f').Nodup
 mem:∀ a∈fv++f',a∈f∨H a=none
section
variable {K:PySem.W.Frag}{F F' Sa:Addr->Prop}{H H' Sb:Hp}{f f':List Addr}
theorem Ik.refl:Ik F H f F H:=⟨.refl _,fun _ h=>h,fun _ h=>.inl h⟩
theorem Ik.trans (a:Ik F H f F' H')(b:Ik F' H' f' Sa Sb)(hf:∀ x∈f',x∈f∨H x=none):Ik F H f Sa Sb:=⟨a.same.trans b.same,fun x h=>b.G7 x (a.G7 x h),fun x h=>by
 rcases b.out x h with h|h|h
 ·exact a.out x h
 ·rcases hf x h with h|h
  ·exact .inr (.inl h)
  ·exact .inr (.inr h)
 ·exact .inr (.inr (a.same.free h))⟩
theorem E6.GQ {v:V}{d:D}{fv:List Addr}(m:E6 K F H v d fv)(s:Ik F H f F' H')(h:∀ a∈fv,a∉f):E6 K F' H' v d fv:=
 m.step (fun a xs q r=>⟨s.G7 a q,s.same.rd r⟩) (fun a xs q=>s.same.G2 q) fun a ha n hn=>by
  obtain⟨_,xs,e⟩:=m.own a ha
  refine⟨fun z=>?_,(s.same _ _ e).trans e.symm⟩
  rcases s.out a z with z|z|z
  ·exact n z
  ·exact h a ha z
  ·exact hn z
theorem EU.GQ {v:List V}{d:List D}{fv:List Addr}(m:EU K F H v d fv)(s:Ik F H f F' H')(h:∀ a∈fv,a∉f):EU K F' H' v d fv:=
 m.step (fun a xs q r=>⟨s.G7 a q,s.same.rd r⟩) (fun a xs q=>s.same.G2 q) fun a ha n hn=>by
  obtain⟨_,xs,e⟩:=m.own a ha
  refine⟨fun z=>?_,(s.same _ _ e).trans e.symm⟩
  rcases s.out a z with z|z|z
  ·exact n z
  ·exact h a ha z
  ·exact hn z
end
def RO (K:PySem.W.Frag)(ex:Str->Prop)(g:Ev->Res (D×Ev)):TE:=fun σ H Q=>∃ F τ f,Hl F H/\Fq K F H σ τ f/\f.Nodup/\ES ex (g τ) fun p=>∀ v H' F' fv f',Ow K F H f F' H' σ v p.1 fv p.2 f'->Q v H'
def MD (K:PySem.W.Frag)(ex:Str->Prop)(g:Ev->Res (List D×Ev)):TA:=fun σ H Q=>∃ F τ f,Hl F H/\Fq K F H σ τ f/\f.Nodup/\ES ex (g τ) fun p=>∀ v H' F' fv f',UU K F H f F' H' σ v p.1 fv p.2 f'->Q v H'
abbrev Kn (K:PySem.W.Frag)(S:Addr->Prop)(H:Hp)(Q:VK):List D->Prop:=fun ds=>∀ p ys H',ak H H'->H p=none->H' p=some (.lst ys)->ER K (fun a=>nw S H a/\a≠p) H' ys ds->Q (.ref p) H'
def RN (K:PySem.W.Frag)(ex:Str->Prop)(is:List Nat)(f:Ev->Res (List D)):TE:=fun σ H Q=>∃ S τ,Slots K S H σ τ is/\ES ex (f τ) (Kn K S H Q)
noncomputable def eU:D->Res (List D)
 | .lst _ ds=>.ok ds
 | _=>EY
section
variable {K:PySem.W.Frag}{F F':Addr->Prop}{H H':Hp}{σ:St}{τ:Ev}{f:List Addr}{ex:Str->Prop}{S:Addr->Prop}
theorem BV {vs ws:List V}{ds:List D}{p:Addr}{H2:Hp}(m:ER K (nw S H) H2 vs ds)(hp:H2 p=none):ER K (fun a=>nw S H a/\a≠p) (upd H2 p (.lst ws)) vs ds:=
 m.step (fun a xs h r=>by
  have Hw:a≠p:=fun z=>r.some (by rw[z];exact hp)
  refine⟨⟨h,Hw⟩,?_⟩
  unfold Rd
  rw[aj Hw]
  exact r) fun a xs h=>(ak.upd hp).G2 h
theorem grow (P:Addr->Prop)(Fi:Hl F H)(r:Fq K F H σ τ f)(e:ak H H') :
  Hl (fun a=>F a∨(P a/\H a=none/\H' a≠none)) H'/\Fq K (fun a=>F a∨(P a/\H a=none/\H' a≠none)) H' σ τ f/\Ik F H f (fun a=>F a∨(P a/\H a=none/\H' a≠none)) H':=by
 refine⟨fun a h=>?_,r.step (fun a xs q rd=>⟨.inl q,e.rd rd⟩) (fun a xs q=>e.G2 q) fun a ha n hn=>⟨fun z=>?_,?_⟩,⟨e,fun a h=>.inl h,fun a h=>?_⟩⟩
 ·rcases h with h|h
  ·intro z
   exact Fi a h (e.free z)
  ·exact h.2.2
 ·rcases z with z|z
  ·exact n z
  ·exact hn z.2.1
 ·obtain⟨_,xs,q⟩:=r.own a ha
  exact(e _ _ q).trans q.symm
 ·rcases h with h|h
  ·exact .inl h
  ·exact .inr (.inr h.2.1)
theorem dU (Fi:Hl F H)(r:Fq K F H σ τ f)(e:ak H H'):Hl F H'/\Fq K F H' σ τ f/\Ik F H f F H':=by
 refine⟨fun a h z=>Fi a h (e.free z),r.step (fun a xs q rd=>⟨q,e.rd rd⟩) (fun a xs q=>e.G2 q) fun a ha n hn=>⟨n,?_⟩,⟨e,fun a h=>h,fun a h=>.inl h⟩⟩
 obtain⟨_,xs,q⟩:=r.own a ha
 exact(e _ _ q).trans q.symm
theorem dW (is:List Nat)(Fi:Hl F H)(r:Fq K F H σ τ f)(nd:f.Nodup):∃ F1 g,Hl F1 H/\Fq K F1 H σ (Fb is τ) g/\g.Nodup/\Ik F H f F1 H/\(∀ a∈g,a∈f)/\Slots K F1 H σ τ is:=by
 obtain⟨fi,g,h1,h2,h3⟩:=r.freeze is 0
 have JQ:(fi++g).Nodup:=h1.nodup_iff.mp nd
 have ME:∀ a∈g,a∉fi:=fun a ha hb=>(List.nodup_append.mp JQ).2.2 a hb a ha rfl
 have Sd:∀ a∈fi,a∈f:=fun a ha=>h1.mem_iff.mpr (List.mem_append_left _ ha)
 have UW:∀ a∈g,a∈f:=fun a ha=>h1.mem_iff.mpr (List.mem_append_right _ ha)
 refine⟨fun a=>F a∨a∈fi,g,fun a h=>?_,h2 _ (fun a h=>.inl h) (fun a h=>.inr h) (fun a ha n z=>?_),(List.nodup_append.mp JQ).2.1,⟨.refl _,fun a h=>.inl h,fun a h=>?_⟩,UW,fun i hi d z=>?_⟩
 ·rcases h with h|h
  ·exact Fi a h
  ·obtain⟨_,xs,q⟩:=r.own a (Sd a h)
   rw[q];simp
 ·rcases z with z|z
  ·exact n z
  ·exact ME a ha z
 ·rcases h with h|h
  ·exact .inl h
  ·exact .inr (.inl (Sd a h))
 ·exact h3 _ (fun a h=>.inl h) (fun a h=>.inr h) i (by simpa using hi) d z
theorem aX {is:List Nat}(r:Fq K F H σ τ f):Slots K (fun _=>True) H σ τ is:=r.slots (fun _ _=>trivial) fun _ _=>trivial
theorem ET.fix {v:V}{d:D}(m:ET K (L2.nw F H) H' v d):ET K (fun a=>F a∨(True/\H a=none/\H' a≠none)) H' v d:=m.step (fun a xs h r=>⟨h.elim (fun z=>.inl z) fun z=>.inr ⟨trivial,z,r.some⟩,r⟩) fun a xs h=>h
end
section
variable {X:Cx}{ex:Str->Prop}{cl:Nat->List D->Res D}
theorem OW {i:Nat}{e:Expr}(he:PE X e (yC i))(mv:Bool):PE X e (RO X.K ex (Fs cl mv (.v i))):=by
 refine aw he fun σ H Q ⟨F,τ,f,Fi,r,nd,q⟩=>?_
 rw[Bv] at q
 cases z:ai τ i with
 | none=>rw[z] at q;exact q.no.elim
 | some d=>
  rw[z] at q
  obtain⟨v,fv,g,h1,h2,h3,h4⟩:=r.at z
  have JQ:(fv++g).Nodup:=h4.nodup_iff.mp nd
  cases mv with
  | true=>
   have q':=(show ES ex (.ok (d,τ.set i none):Res (D×Ev)) _ from q).ok
   exact⟨v,h1,q' v H F fv g ⟨.refl,Fi,h2,h3,JQ,fun a ha=>.inl (h4.mem_iff.mpr ha)⟩⟩
  | false=>
   have q':=(show ES ex (.ok (er d,τ.set i (some (er d))):Res (D×Ev)) _ from q).ok
   have ME:∀ a∈g,a∉fv:=fun a ha hb=>(List.nodup_append.mp JQ).2.2 a hb a ha rfl
   have m1:E6 X.K (fun a=>F a∨a∈fv) H v (er d) []:=(h2.read (fun a h=>.inl h) (fun a h=>.inr h)).frozen
   have r1:Fq X.K (fun a=>F a∨a∈fv) H σ (τ.set i none) g:=h3.step (fun a xs h r=>⟨.inl h,r⟩) (fun a xs h=>h) fun a ha n _=>⟨fun z=>z.elim n (ME a ha),rfl⟩
   obtain⟨g',h',r2,p2⟩:=r1.put i m1
   have Ga:σ.set i (some v)=σ:=by
    apply List.ext_getElem?
    intro j
    rw[List.getElem?_set]
    by_cases hj:i=j
    ·subst hj
     have FH:i < σ.length:=(List.getElem?_eq_some_iff.mp h1).1
     rw[if_pos rfl,if_pos FH,h1]
    ·rw[if_neg hj]
   rw[Ga,List.set_set] at r2
   rw[List.nil_append] at p2
   have LV:(g'++h').Nodup:=p2.nodup_iff.mpr (List.nodup_append.mp JQ).2.1
   refine⟨v,h1,q' v H _ [] g' ⟨⟨.refl _,fun a h=>.inl h,fun a h=>?_⟩,fun a h=>?_,m1,r2,(List.nodup_append.mp LV).1,fun a ha=>?_⟩⟩
   ·exact h.elim (fun z=>.inl z) fun z=>.inr (.inl (h4.mem_iff.mpr (List.mem_append_left _ z)))
   ·rcases h with h|h
    ·exact Fi a h
    ·obtain⟨_,xs,e⟩:=h2.own a h
     rw[e];simp
   ·have:a∈g:=p2.mem_iff.mp (List.mem_append_left _ (by simpa using ha))
    exact .inl (h4.mem_iff.mpr (List.mem_append_right _ this))
theorem IF {l:List Expr}{n:Nat}{pos:Pos}{g:Ev->Res (List D×Ev)}(h:PA X l (MD X.K ex g)):PE X (.Tuple l n pos) (RO X.K ex fun τ=>U (g τ) fun p=>EX (aV p.1.length) (.ok (.tup p.1,p.2))):=by
 refine aw (oZ h) fun σ H Q ⟨F,τ,f,Fi,r,nd,q⟩=>⟨F,τ,f,Fi,r,nd,(ES.U q).mono fun p hp vs H1 F1 fv f1 o=>?_⟩
 obtain⟨gd,hp⟩:=ES.EX hp
 refine⟨by rw[o.rep.length];exact bq gd,fun p' Kr=>hp.ok _ _ F1 fv f1 ?_⟩
 have e:ak H1 (upd H1 p' (.tup vs)):=.upd Kr
 obtain⟨k1,k2,k3⟩:=dU o.Fi o.FU e
 refine⟨o.GQ.trans k3 (fun x hx=>o.mem x (List.mem_append_right _ hx)),k1,.tup (.inl (.inl av)) (o.rep.GQ k3 fun a ha hb=>(List.nodup_append.mp o.FI).2.2 a ha a hb rfl),k2,o.FI,o.mem⟩
theorem IG {l:List Expr}{pos:Pos}{g:Ev->Res (List D×Ev)}(h:PA X l (MD X.K ex g)):PE X (.List l pos) (RO X.K ex fun τ=>U (g τ) fun p=>EX (aV p.1.length) (.ok (.lst true p.1,p.2))):=by
 refine aw (o4 h) fun σ H Q ⟨F,τ,f,Fi,r,nd,q⟩=>⟨F,τ,f,Fi,r,nd,(ES.U q).mono fun p hp vs H1 F1 fv f1 o=>?_⟩
 obtain⟨gd,hp⟩:=ES.EX hp
 refine⟨by rw[o.rep.length];exact bq gd,fun p' Kr=>hp.ok _ _ F1 (p'::fv) f1 ?_⟩
 have e:ak H1 (upd H1 p' (.lst vs)):=.upd Kr
 obtain⟨k1,k2,k3⟩:=dU o.Fi o.FU e
 refine⟨o.GQ.trans k3 (fun x hx=>o.mem x (List.mem_append_right _ hx)),k1,.Gh (fun z=>o.Fi _ z Kr) av (o.rep.GQ k3 fun a ha hb=>(List.nodup_append.mp o.FI).2.2 a ha a hb rfl),k2,?_,fun a ha=>?_⟩
 ·rw[List.cons_append,List.nodup_cons]
  refine⟨fun z=>?_,o.FI⟩
  rcases List.mem_append.mp z with z|z
  ·obtain⟨_,xs,e⟩:=o.rep.own _ z
   rw[Kr] at e;cases e
  ·obtain⟨_,xs,e⟩:=o.FU.own _ z
   rw[Kr] at e;cases e
 ·rw[List.cons_append] at ha
  rcases List.mem_cons.mp ha with rfl|ha
  ·exact .inr (o.GQ.same.free Kr)
  ·exact o.mem a ha
theorem IH {c a b:Expr}{pos:Pos}{vc:List Nat}{fc:Ev->Res Bool}{fa fb:Ev->Res (D×Ev)}(hc:PT X c (RT X.K ex vc fc))(ha:PE X a (RO X.K ex fa))(hb:PE X b (RO X.K ex fb)) :
  PE X (.IfExp c a b pos) (RO X.K ex fun τ=>U (fc τ) fun r=>if r=true then fa τ else fb τ):=by
 refine aw (jv hc ha hb) fun σ H Q ⟨F,τ,f,Fi,r,nd,q⟩=>?_
 refine dR (.refl _) (aX r) (ES.U q) fun x H2 e2 _ k=>?_
 obtain⟨k1,k2,k3⟩:=dU Fi r e2
 have go:∀ {g:Ev->Res (D×Ev)},ES ex (g τ) (fun p=>∀ v H' F' fv f',Ow X.K F H f F' H' σ v p.1 fv p.2 f'->Q v H')->RO X.K ex g σ H2 Q:=fun hg=>
  ⟨F,τ,f,k1,k2,nd,hg.mono fun p hp v H' F' fv f' o=>hp v H' F' fv f' ⟨k3.trans o.GQ (fun x hx=>.inl hx),o.Fi,o.rep,o.FU,o.FI,fun a ha=>(o.mem a ha).elim (fun z=>.inl z) fun z=>.inr (e2.free z)⟩⟩
 cases x with
 | true=>rw[if_pos rfl] at k ⊢;exact go k
 | false=>rw[if_neg Bool.false_ne_true] at k ⊢;exact go k
theorem zR:PA X [] (MD X.K ex fun τ=>.ok ([],τ)):=iK bN fun σ H Q ⟨F,τ,f,Fi,r,nd,q⟩=>q.ok [] H F [] f ⟨.refl,Fi,.nil,r,nd,fun a ha=>.inl ha⟩
theorem ve {e:Expr}{l:List Expr}{ga:Ev->Res (D×Ev)}{gs:Ev->Res (List D×Ev)}(hn:notStar e=true)(ha:PE X e (RO X.K ex ga))(hr:PA X l (MD X.K ex gs)) :
  PA X (e::l) (MD X.K ex fun τ=>U (ga τ) fun p=>U (gs p.2) fun q=>.ok (p.1::q.1,q.2)):=by
 refine iK (aU ha hr (ah hn _ _)) fun σ H Q ⟨F,τ,f,Fi,r,nd,q⟩=>⟨F,τ,f,Fi,r,nd,(ES.U q).mono fun p hp v H1 F1 fv f1 o=>?_⟩
 refine⟨F1,p.2,f1,o.Fi,o.FU,(List.nodup_append.mp o.FI).2.1,(ES.U hp).mono fun p' Kr vs H2 F2 UX f2 o2=>?_⟩
 have ME:∀ a∈fv,a∉f1:=fun a h1 h2=>(List.nodup_append.mp o.FI).2.2 a h1 a h2 rfl
 have m2:=o.rep.GQ o2.GQ ME
 refine Kr.ok (v::vs) H2 F2 (fv++UX) f2 ⟨o.GQ.trans o2.GQ (fun x hx=>o.mem x (List.mem_append_right _ hx)),o2.Fi,.cons m2 o2.rep,o2.FU,?_,fun a ha=>?_⟩
 ·rw[List.append_assoc]
  refine List.nodup_append.mpr ⟨(List.nodup_append.mp o.FI).1,o2.FI,fun a h1 b h2 e=>?_⟩
  subst e
  rcases o2.mem a h2 with z|z
  ·exact ME a h1 z
  ·obtain⟨_,xs,e⟩:=o.rep.own a h1
   rw[z] at e;cases e
 ·rw[List.append_assoc] at ha
  rcases List.mem_append.mp ha with ha|ha
  ·exact o.mem a (List.mem_append_left _ ha)
  ·rcases o2.mem a ha with z|z
   ·exact o.mem a (List.mem_append_right _ z)
   ·exact .inr (o.GQ.same.free z)
end
section
variable {Z:Sg}{CX:F5}{cl:Nat->List D->Res D}{xp:XK->Hp->Str->Prop}{X:Cx}{ex:Str->Prop}{G:Gm}
def Qn (K:PySem.W.Frag)(ex:Str->Prop)(cl:Nat->List D->Res D)(f:Nat)(vs:List V)(H:Hp)(Q:VK):Prop:=∃ F ds,Hl F H/\ER K F H vs ds/\ES ex (cl f (E0 ds)) fun d=>∀ v H' F' fv,Out K F H F' H' v d fv->Q v H'
theorem qt (g:Fz Z CX cl xp X ex G){f:Nat}{x:Str}{p pos:Pos}{es:List IR}{args:List Expr}{t:TA}(h1:fZ Z G f x=true)(h2:Z.KW G f=true)(F8:bj Z G es args=true)(h:PA X args t)
  (h0:args=[]->∀ σ H (Q:List V->Hp->Prop),t σ H Q->Q [] H):PE X (.Call (.Name x p) args [] pos) (fun σ H Q=>t σ H fun vs H1=>Qn X.K ex cl f vs H1 Q):=by
 obtain⟨k1,k2,k3,k4⟩:=qj g h1
 obtain⟨k,Qg,fd,ps,hm,Kp,hb,F,hr,hlen⟩:=(g.fns f (iW h2).1 (iW h2).2 x k2).ex
 obtain⟨E,hP,hE⟩:=g.HK
 intro pins s σ H Q I q
 have fin:∀ (us:List Value) (s1:Shared) (vs:List V) (H1:Hp),Inv X pins σ H1 s1->Vals vs us->Qn X.K ex cl f vs H1 Q->wpAny (model X.prog X.w) X.A (call (.ref Qg) us) (EP X pins σ Q) X.xe s1:=by
  intro us s1 vs H1 I1 r ⟨Fc,ds,Fi,m,q1⟩
  have hl:=hlen ex _ _ q1
  rw[bW] at hl
  refine mq F hr hb hP g.JM I1 r (by rw[m.length];exact hl) Fi m ?_
  cases z:cl f (E0 ds) with
  | error er=>
   rw[z] at q1
   cases er with
   | stuck=>exact q1.no.elim
   | exc c=>exact hE c _ q1
  | ok d=>
   rw[z] at q1
   exact q1.ok
 refine wpAny_Call_Name_kw (iH I k1 hm ?_ k4)
 cases args with
 | nil=>
  cases es with
  | cons _ _=>cases F8
  | nil=>exact PySem.W.callWith_K0 I.Hz Kp (fin [] s [] H I .nil (h0 rfl σ H _ q))
 | cons e l=>
  cases es with
  | nil=>cases F8
  | cons a es=>
   have FE:(notStar e&&E3 Z G a e&&bj Z G es l)=true:=F8
   simp only[Bool.and_eq_true] at FE
   refine PySem.W.callWith_K (h₀:=X.base) I.ok.mod.Oo Kp (Fe (h pos pins s σ H _ I q) fun us s1 ⟨vs,H1,I1,r,q1⟩=>⟨I1.Hz,?_⟩) (ah FE.1.1 l X.env) (bU Z G (es:=es) pos X.env FE.2)
   exact fin us s1 vs H1 I1 r q1
theorem E6.Jc {K:PySem.W.Frag}{F F':Addr->Prop}{H:Hp}{v:V}{d:D}{fv:List Addr}(m:E6 K F H v d fv)(n:ao d=true):E6 K F' H v d []:=(m.read (S:=fun _=>True) (fun _ _=>trivial) fun _ _=>trivial).free n
theorem Hm (g:Fz Z CX cl xp X ex G){f:Nat}{x:Str}{p pos:Pos}{es:List IR}{args:List Expr}(h1:fZ Z G f x=true)(h2:Z.KW G f=true)(F8:bj Z G es args=true)(mv:Bool) :
  PE X (.Call (.Name x p) args [] pos) (RO X.K ex (Fs cl mv (.call f es))):=by
 have pa:=lh es X ex G args g F8
 have pe:=qt (p:=p) (pos:=pos) g h1 h2 F8 pa (fun e σ H Q ⟨S,τ,hs,q⟩=>by
  subst e
  cases es with
  | nil=>exact q.ok [] H (.refl _) .nil
  | cons _ _=>cases F8)
 refine aw pe fun σ H Q ⟨F,τ,fo,Fi,r,nd,q⟩=>?_
 have q':ES ex (U (bh cl es τ) fun ds=>U (cl f (E0 ds)) fun d=>if ao d=true then .ok (d,τ) else .ok (d,Fb (ay es) τ)) (fun p=>∀ v H' F' fv f',Ow X.K F H fo F' H' σ v p.1 fv p.2 f'->Q v H'):=q
 -- read without Qo up
 have borrow:(∀ ds,bh cl es τ=.ok ds->ES ex (cl f (E0 ds)) fun d=>ao d=true/\∀ v H' F' fv f',Ow X.K F H fo F' H' σ v d fv τ f'->Q v H')->ES ex (bh cl es τ) (fun _=>True)->RA X.K ex (ay es) (bh cl es) σ H (fun vs H1=>Qn X.K ex cl f vs H1 Q):=by
  intro hk E7
  refine kX (.refl _) (aX r) E7.eq fun ds vs H1 e1 _ m1 q1=>?_
  refine⟨fun a=>H1 a≠none,ds,fun a h=>h,m1.step (fun a xs h rd=>⟨rd.some,rd⟩) fun a xs h=>h,(hk ds q1.1).mono fun d hd v H' F' fv o=>?_⟩
  obtain⟨k1,k2,k3⟩:=dU Fi r (e1.trans o.same)
  exact hd.2 v H' F [] fo ⟨k3,k1,o.rep.Jc hd.1,k2,by simpa using nd,fun a ha=>.inl (by simpa using ha)⟩
 cases z:bh cl es τ with
 | error er=>
  rw[z] at q'
  cases er with
  | stuck=>exact q'.no.elim
  | exc c=>exact borrow (fun ds h=>by rw[z] at h;cases h) (by rw[z];exact q')
 | ok ds=>
  rw[z] at q'
  have q1:ES ex (U (cl f (E0 ds)) fun d=>if ao d=true then .ok (d,τ) else .ok (d,Fb (ay es) τ)) (fun p=>∀ v H' F' fv f',Ow X.K F H fo F' H' σ v p.1 fv p.2 f'->Q v H'):=q'
  cases zc:cl f (E0 ds) with
  | error er=>
   rw[zc] at q1
   cases er with
   | stuck=>exact q1.no.elim
   | exc c=>exact borrow (fun ds' h=>by rw[z] at h;cases h;rw[zc];exact q1) (by rw[z];trivial)
  | ok d=>
   rw[zc] at q1
   have q2:ES ex (if ao d=true then .ok (d,τ) else .ok (d,Fb (ay es) τ)) (fun p=>∀ v H' F' fv f',Ow X.K F H fo F' H' σ v p.1 fv p.2 f'->Q v H'):=q1
   by_cases hl:ao d=true
   ·rw[if_pos hl] at q2
    exact borrow (fun ds' h=>by rw[z] at h;cases h;rw[zc];exact⟨hl,q2.ok⟩) (by rw[z];trivial)
   ·rw[if_neg hl] at q2
    obtain⟨F1,gg,b1,b2,b3,b4,b5,b6⟩:=dW (ay es) Fi r nd
    refine kX (Kt:=fun ds'=>ds'=ds) (.refl _) b6 (by rw[z];rfl) fun ds' vs H1 e1 _ m1 e=>?_
    subst e
    have hm:ER X.K (fun a=>F1 a∨(True/\H a=none/\H1 a≠none)) H1 vs ds':=m1.step (fun a xs h r=>⟨h.elim (fun z=>.inl z) fun z=>.inr ⟨trivial,z,r.some⟩,r⟩) fun a xs h=>h
    obtain⟨c1,c2,c3⟩:=grow (fun _=>True) b1 b2 e1
    refine⟨_,ds',c1,hm,?_⟩
    rw[zc]
    intro v H' F' fv o
    have s1:Ik (fun a=>F1 a∨(True/\H a=none/\H1 a≠none)) H1 gg F' H':=⟨o.same,o.G7,fun a h=>(o.out a h).elim (fun z=>.inl z) fun z=>.inr (.inr z)⟩
    have r2:Fq X.K F' H' σ (Fb (ay es) τ) gg:=c2.step (fun a xs q rd=>⟨o.G7 a q,o.same.rd rd⟩) (fun a xs q=>o.same.G2 q) fun a ha n hn=>by
     obtain⟨_,xs,e⟩:=c2.own a ha
     refine⟨fun z=>?_,(o.same _ _ e).trans e.symm⟩
     rcases o.out a z with z|z
     ·exact n z
     ·exact hn z
    refine q2.ok v H' F' fv gg ⟨(b4.trans c3 (fun x hx=>.inl (b5 x hx))).trans s1 (fun x hx=>.inl (b5 x hx)),o.Fi,o.rep,r2,?_,fun a ha=>?_⟩
    ·refine List.nodup_append.mpr ⟨o.FI,b3,fun a h1 b h2 e=>?_⟩
     subst e
     obtain⟨_,xs,e⟩:=c2.own a h2
     rw[o.new a h1] at e
     cases e
    ·rcases List.mem_append.mp ha with ha|ha
     ·exact .inr (e1.free (o.new a ha))
     ·exact .inl (b5 a ha)
theorem aO {a:IR}{e:Expr}(he:PE X e (RD X.K ex (vars a) (EV cl a)))(hN:aE a=true->PE X e (RN X.K ex (vars a) fun τ=>U (EV cl a τ) eU)):PE X e (RO X.K ex fun τ=>U (EV cl a τ) fun d=>.ok (aL a d τ)):=by
 intro pins s σ H Q I h
 obtain⟨F,τ,fo,Fi,r,nd,q⟩:=h
 replace q:ES ex (U (EV cl a τ) fun d=>.ok (aL a d τ)) (fun p=>∀ v H' F' fv f',Ow X.K F H fo F' H' σ v p.1 fv p.2 f'->Q v H'):=q
 have rd:RD X.K ex (vars a) (EV cl a) σ H Q->wpAny (model X.prog X.w) X.A (eval e X.env) (EP X pins σ Q) X.xe s:=fun h=>he pins s σ H Q I h
 cases z:EV cl a τ with
 | error er=>
  rw[z] at q
  cases er with
  | stuck=>exact q.no.elim
  | exc c=>exact rd ⟨fun _=>True,τ,aX r,by rw[z];exact q⟩
 | ok d=>
  rw[z] at q
  have q1:∀ v H' F' fv f',Ow X.K F H fo F' H' σ v (aL a d τ).1 fv (aL a d τ).2 f'->Q v H':=q
  by_cases hl:ao d=true
  ·unfold aL at q1
   rw[if_pos hl] at q1
   refine rd ⟨fun _=>True,τ,aX r,?_⟩
   rw[z]
   intro v H' e m
   obtain⟨k1,k2,k3⟩:=dU Fi r e
   exact q1 v H' F [] fo ⟨k3,k1,m.free hl,k2,by simpa using nd,fun a ha=>.inl (by simpa using ha)⟩
  ·have other:aL a d τ=(er d,Fb (vars a) τ)->wpAny (model X.prog X.w) X.A (eval e X.env) (EP X pins σ Q) X.xe s:=fun hk=>by
    rw[hk] at q1
    obtain⟨F1,gg,b1,b2,b3,b4,b5,b6⟩:=dW (vars a) Fi r nd
    refine rd ⟨F1,τ,b6,?_⟩
    rw[z]
    intro v H' e m
    obtain⟨c1,c2,c3⟩:=grow (fun _=>True) b1 b2 e
    exact q1 v H' _ [] gg ⟨b4.trans c3 (fun x hx=>.inl (b5 x hx)),c1,m.fix.frozen,c2,by simpa using b3,fun a ha=>.inl (b5 a (by simpa using ha))⟩
   by_cases hn:aE a=true
   ·cases d with
    | lst o ds=>
     by_cases hi:af ds=true
     ·have hk:aL a (.lst o ds) τ=(.lst true ds,τ):=by
       unfold aL
       rw[if_neg hl,hn]
       show (if af ds=true then _ else _)=_
       rw[if_pos hi]
      rw[hk] at q1
      refine hN hn pins s σ H Q I ⟨fun _=>True,τ,aX r,?_⟩
      show ES ex (U (EV cl a τ) eU) _
      rw[z]
      intro p ys H' e hp hy m
      obtain⟨k1,k2,k3⟩:=dU Fi r e
      refine q1 (.ref p) H' F [p] fo ⟨k3,k1,.Gh (fun zz=>Fi p zz hp) hy (m.free hi),k2,?_,fun a ha=>?_⟩
      ·rw[List.singleton_append,List.nodup_cons]
       refine⟨fun zz=>?_,nd⟩
       obtain⟨_,xs,e⟩:=r.own p zz
       rw[hp] at e;cases e
      ·rw[List.singleton_append] at ha
       rcases List.mem_cons.mp ha with rfl|ha
       ·exact .inr hp
       ·exact .inl ha
     ·have hk:aL a (.lst o ds) τ=(.lst true (E0 ds),Fb (vars a) τ):=by
       unfold aL
       rw[if_neg hl,hn]
       show (if af ds=true then _ else _)=_
       rw[if_neg hi]
      rw[hk] at q1
      obtain⟨F1,gg,b1,b2,b3,b4,b5,b6⟩:=dW (vars a) Fi r nd
      refine hN hn pins s σ H Q I ⟨F1,τ,b6,?_⟩
      show ES ex (U (EV cl a τ) eU) _
      rw[z]
      intro p ys H' e hp hy m
      obtain⟨c1,c2,c3⟩:=grow (fun a=>a≠p) b1 b2 e
      have m2:ER X.K (fun a=>F1 a∨(a≠p/\H a=none/\H' a≠none)) H' ys ds:=m.step (fun a xs h r=>⟨h.1.elim (fun z=>.inl z) fun z=>.inr ⟨h.2,z,r.some⟩,r⟩) fun a xs h=>h
      refine q1 (.ref p) H' _ [p] gg ⟨b4.trans c3 (fun x hx=>.inl (b5 x hx)),c1,.Gh (fun zz=>?_) hy m2.frozen,c2,?_,fun a ha=>?_⟩
      ·rcases zz with zz|zz
       ·exact b1 p zz hp
       ·exact zz.1 rfl
      ·rw[List.singleton_append,List.nodup_cons]
       refine⟨fun zz=>?_,b3⟩
       obtain⟨_,xs,e⟩:=b2.own p zz
       rw[hp] at e;cases e
      ·rw[List.singleton_append] at ha
       rcases List.mem_cons.mp ha with rfl|ha
       ·exact .inr hp
       ·exact .inl (b5 a ha)
    | _=>
     refine other ?_
     unfold aL
     rw[if_neg hl,hn]
   ·have IT:aE a=false:=by simpa using hn
    refine other ?_
    unfold aL
    rw[if_neg hl,IT]
theorem BW {a b:Expr}{pos:Pos}{va vb:List Nat}{fa fb:Ev->Res D}(ha:PE X a (RD X.K ex va fa))(hb:PE X b (RD X.K ex vb fb)) :
  PE X (.BinOp a .Add b pos) (RN X.K ex (va++vb) fun τ=>U (U (fa τ) fun x=>U (fb τ) fun y=>GW .add x y) eU):=by
 refine aw (vY ma ha hb) fun σ H Q ⟨S,τ,hs,q⟩=>?_
 refine ba (.refl _) hs.left (ES.U (ES.U q)) fun x v H1 e1 _ m1 q1=>?_
 refine ba e1 hs.right (ES.U q1) fun y w H2 e2 Gk m2 q2=>?_
 have stuck:∀ {P:Prop},GW .add x y=EY->P:=fun z=>by rw[z] at q2;exact q2.no.elim
 cases x with
 | int a=>cases y with
  | int b=>exact q2.ok.no.elim
  | _=>exact stuck rfl
 | str a=>cases y with
  | str b=>exact(ES.EX q2).2.ok.no.elim
  | _=>exact stuck rfl
 | lst o a=>cases y with
  | lst o' b=>
   obtain⟨p,xs,rfl,h1,n1⟩:=m1.Ki
   obtain⟨p',ys,rfl,h2,n2⟩:=m2.Ki
   obtain⟨gd,q3⟩:=ES.EX q2
   have g':=bq gd
   have l1:=n1.length
   have l2:=n2.length
   have MC:Ls X.K H2 p xs:=h1.elim (fun z=>.inl (Gk.rd z)) .inr
   exact⟨p,p',xs,ys,rfl,rfl,MC,h2,by omega,fun z hz=>q3.ok.ok z _ _ (e2.trans (.upd hz)) (e2.free hz) av (BV ((n1.later Gk).append n2) hz)⟩
  | _=>exact stuck rfl
 | _=>exact stuck rfl
theorem EH {a:Expr}{lo hi:Option Expr}{pos p2:Pos}{va vl vh:List Nat}{fa:Ev->Res D}{fl fh:Ev->Res (Option Int)}(ha:PE X a (RD X.K ex va fa))(hl:PO X lo (MA X.K ex vl fl))(hh:PO X hi (MA X.K ex vh fh)) :
  PE X (.Subscript a (.Slice lo hi none p2) pos) (RN X.K ex (va++vl++vh) fun τ=>U (U (fa τ) fun x=>U (fl τ) fun l=>U (fh τ) fun h=>jL x l h) eU):=by
 refine aw (jz lW ha hl hh) fun σ H Q ⟨S,τ,hs,q⟩=>?_
 refine ba (.refl _) hs.left.left (ES.U (ES.U q)) fun x v H1 e1 _ m1 q1=>?_
 refine u3 e1 hs.left.right (ES.U q1) fun l H2 e2 Gk q2=>?_
 refine u3 e2 hs.right (ES.U q2) fun h H3 e3 OU q3=>?_
 cases x with
 | lst o ds=>
  obtain⟨p,xs,rfl,h1,n1⟩:=m1.FF
  exact⟨p,xs,rfl,(Gk.trans OU).seq h1,fun z hz=>q3.ok.ok z _ _ (e3.trans (.upd hz)) (e3.free hz) av (BV (me l h (n1.later (Gk.trans OU))) hz)⟩
 | str _=>exact(ES.EX q3).2.ok.no.elim
 | _=>exact q3.no.elim
end
section
variable {Z:Sg}{CX:F5}{cl:Nat->List D->Res D}{xp:XK->Hp->Str->Prop}
theorem hW {X:Cx}{ex:Str->Prop}{G:Gm}(g:Fz Z CX cl xp X ex G){i:Nat}{x:Str}{pos:Pos}(h:cD G i x=true):PE X (.Name x pos) (yC i):=by
 unfold cD at h
 rw[Bool.and_eq_true] at h
 have hx:G.N[i]? = some x:=eq_of_beq h.1
 have hk:=g.kd i x hx
 have hv:MW X.env.scope x:=by
  have h2:=h.2
  rw[Bool.or_eq_true,Bool.or_eq_true] at h2
  rcases h2 with (h2|h2)|h2
  ·exact .inl (hk.trans (eq_of_beq h2))
  ·exact .inr (.inl (hk.trans (eq_of_beq h2)))
  ·exact .inr (.inr (hk.trans (eq_of_beq h2)))
 exact oK (i:=i) (by rw[g.N];exact hx) hv (g.Ko i x hx).1 (g.Ko i x hx).2
theorem zS {X:Cx}{ex:Str->Prop}{G G':Gm}{fr:List Nat}(g:Fz Z CX cl xp X ex G){scope:Scope}{tg iter elt:Expr}{ifs:List Expr}{pos:Pos}{T:Tg}{s:Sr}{I:List IR}{E:IR}(hs:Ja Z G scope G' fr)(hT:cf G' T tg=true)(ha:∀ i∈HJ T,fr.length<=i)
  (hi:cw Z G s iter=true/\eW s tg=true) (ht:bj Z G' I ifs=true) (he:E3 Z G' E elt=true) :
  PE X (.ListComp elt [⟨tg,iter,ifs,0⟩] scope pos) (RN X.K ex (vars (.comp G' fr T s I E)) fun τ=>U (EV cl (.comp G' fr T s I E) τ) eU):=by
 intro pins s' σ H Q Iv h
 obtain⟨F6,S⟩:=eM g Iv.ok hs
 have p:=lX (pos:=pos) (elt:=elt) (ifs:=ifs) (tg:=tg) (g:=gT X.K T) (tt:=RT X.K GI (ay I) (dA cl I)) (te:=RD X.K GI (vars E) (EV cl E)) (g.calm hs.cm) S (vd s X ex G iter tg g hi.1 hi.2) (fun C s H fp=>LP (bG g hs F6 C s H fp) T tg hT)
  (fun C s H fp=>u9 I _ GI G' ifs (bG g hs F6 C s H fp) ht) (fun C s H fp=>(snd E _ GI G' elt (bG g hs F6 C s H fp) he).1) (fun x=>bX hi.1 X.env x)
 refine p pins s' σ H Q Iv ?_
 obtain⟨S0,τ,Qm,q⟩:=h
 have q':=ES.U (show ES ex (U (EV cl (.comp G' fr T s I E) τ) eU) _ from q)
 rw[gh] at q'
 exact cF hs.NO ha Qm q' fun A ys ds H' e hA KZ m k=>k.ok A ys H' e hA KZ m
theorem G6:∀ (a:IR) (X:Cx) (ex:Str->Prop) (G:Gm) (e:Expr),Fz Z CX cl xp X ex G->E3 Z G a e=true->aE a=true->PE X e (RN X.K ex (vars a) fun τ=>U (EV cl a τ) eU):=by
 intro a X ex G e g h n
 cases a with
 | bin op a b=>
  cases op with
  | add=>
   cases e with
   | BinOp l o r pos=>
    have h':(o == LH .add&&E3 Z G a l&&E3 Z G b r)=true:=h
    simp only[Bool.and_eq_true] at h'
    have e1:o=LH .add:=eq_of_beq h'.1.1
    subst e1
    exact BW (snd a X ex G l g h'.1.2).1 (snd b X ex G r g h'.2).1
   | _=>first|exact aa h|cases h
  | _=>cases n
 | sl a lo hi=>
  cases e with
  | Subscript o s pos=>
   cases s with
   | Slice l u st p=>
    cases st with
    | none=>
     have h':(E3 Z G a o&&kW Z G lo l&&kW Z G hi u)=true:=h
     simp only[Bool.and_eq_true] at h'
     exact EH (snd a X ex G o g h'.1.1).1 (u7 lo X ex G l g h'.1.2) (u7 hi X ex G u g h'.2)
    | some _=>first|exact aa h|cases h
   | _=>first|exact aa h|cases h
  | _=>first|exact aa h|cases h
 | bi f es=>cases n
 | comp G' fr tg src ifs elt=>
  cases e with
  | ListComp el gens scope pos=>
   have h:oz gens (fun t it fs=>bF Z G scope G' fr&&cf G' tg t&&(HJ tg).all (fun i=>decide (fr.length<=i))&&(cw Z G src it&&eW src t)&&bj Z G' ifs fs&&E3 Z G' elt el)=true:=h
   obtain⟨t,it,fs,rfl,h⟩:=iX h
   have h':(bF Z G scope G' fr&&cf G' tg t&&(HJ tg).all (fun i=>decide (fr.length<=i))&&(cw Z G src it&&eW src t)&&bj Z G' ifs fs&&E3 Z G' elt el)=true:=h
   simp only[Bool.and_eq_true] at h'
   exact zS g (iZ h'.1.1.1.1.1) h'.1.1.1.1.2 (fun i hi=>of_decide_eq_true (List.all_eq_true.mp h'.1.1.1.2 i hi)) h'.1.1.2 h'.1.2 h'.2
  | _=>first|exact aa h|cases h
 | _=>cases n
theorem Hn {X:Cx}{ex:Str->Prop}{pos:Pos}(mv:Bool):PE X (.Dict [] [] pos) (RO X.K ex (Fs cl mv .G3)):=by
 refine aw jD fun σ H Q ⟨F,τ,fo,Fi,r,nd,q⟩=>fun p hp=>?_
 have q':∀ v H' F' fv f',Ow X.K F H fo F' H' σ v (.Ff true [] []) fv τ f'->Q v H':=q
 have e:ak H (upd H p (.dK [])):=.upd hp
 obtain⟨k1,k2,k3⟩:=dU Fi r e
 have nF:¬ F p:=fun z=>Fi p z hp
 have UY:p∉fo:=fun z=>by
  obtain⟨_,u,eu⟩:=r.own p z
  rw[hp] at eu;cases eu
 exact q' _ _ F [p] fo ⟨k3,k1,.Jz (kvs:=[]) nF av rfl .nil,k2,by rw[List.singleton_append,List.nodup_cons];exact⟨UY,nd⟩,fun a ha=>by
  rcases List.mem_append.mp ha with ha|ha
  ·rw[List.mem_singleton.mp ha];exact .inr hp
  ·exact .inl ha⟩
mutual
theorem K0:∀ (a:IR) (mv:Bool) (X:Cx) (ex:Str->Prop) (G:Gm) (e:Expr),Fz Z CX cl xp X ex G->E3 Z G a e=true->PE X e (RO X.K ex (Fs cl mv a))
 | .v i,mv,X,ex,G,e,g,h=>by
  cases e with
  | Name x pos=>exact OW (hW g h) mv
  | _=>first|exact aa h|cases h
 | .tup es,mv,X,ex,G,e,g,h=>by
  cases e with
  | Tuple l n pos=>exact IF (zT es mv X ex G l g h)
  | _=>first|exact aa h|cases h
 | .lst es,mv,X,ex,G,e,g,h=>by
  cases e with
  | List l pos=>exact IG (zT es mv X ex G l g h)
  | _=>first|exact aa h|cases h
 | .ite t a b,mv,X,ex,G,e,g,h=>by
  cases e with
  | IfExp c x y pos=>
   have h':(E3 Z G t c&&E3 Z G a x&&E3 Z G b y)=true:=h
   simp only[Bool.and_eq_true] at h'
   exact IH (snd t X ex G c g h'.1.1).2 (K0 a mv X ex G x g h'.1.2) (K0 b mv X ex G y g h'.2)
  | _=>first|exact aa h|cases h
 | .call f es,mv,X,ex,G,e,g,h=>by
  cases e with
  | Call fn args Gy pos=>
   cases fn with
   | Name x p=>
    cases Gy with
    | nil=>
     have h':(fZ Z G f x&&Z.KW G f&&bj Z G es args)=true:=h
     simp only[Bool.and_eq_true] at h'
     exact Hm g h'.1.1 h'.1.2 h'.2 mv
    | cons _ _=>first|exact aa h|cases h
   | _=>first|exact aa h|cases h
  | _=>first|exact aa h|cases h
 | .c d,mv,X,ex,G,e,g,h=>aO (snd _ X ex G e g h).1 (G6 _ X ex G e g h)
 | .g n d,mv,X,ex,G,e,g,h=>aO (snd _ X ex G e g h).1 (G6 _ X ex G e g h)
 | .bin op a b,mv,X,ex,G,e,g,h=>aO (snd _ X ex G e g h).1 (G6 _ X ex G e g h)
 | .neg a,mv,X,ex,G,e,g,h=>aO (snd _ X ex G e g h).1 (G6 _ X ex G e g h)
 | .cmp op a b,mv,X,ex,G,e,g,h=>aO (snd _ X ex G e g h).1 (G6 _ X ex G e g h)
 | .chain op ON a b c,mv,X,ex,G,e,g,h=>aO (snd _ X ex G e g h).1 (G6 _ X ex G e g h)
 | .E8 a b,mv,X,ex,G,e,g,h=>aO (snd _ X ex G e g h).1 (G6 _ X ex G e g h)
 | .HH a b,mv,X,ex,G,e,g,h=>aO (snd _ X ex G e g h).1 (G6 _ X ex G e g h)
 | .F3 a,mv,X,ex,G,e,g,h=>aO (snd _ X ex G e g h).1 (G6 _ X ex G e g h)
 | .idx a i,mv,X,ex,G,e,g,h=>aO (snd _ X ex G e g h).1 (G6 _ X ex G e g h)
 | .sl a lo hi,mv,X,ex,G,e,g,h=>aO (snd _ X ex G e g h).1 (G6 _ X ex G e g h)
 | .bi f es,mv,X,ex,G,e,g,h=>aO (snd _ X ex G e g h).1 (G6 _ X ex G e g h)
 | .OO a ns tb,mv,X,ex,G,e,g,h=>aO (snd _ X ex G e g h).1 (G6 _ X ex G e g h)
 | .FG a k,mv,X,ex,G,e,g,h=>aO (snd _ X ex G e g h).1 (G6 _ X ex G e g h)
 | .OP x a y,mv,X,ex,G,e,g,h=>aO (snd _ X ex G e g h).1 (G6 _ X ex G e g h)
 | .Kj a k,mv,X,ex,G,e,g,h=>aO (snd _ X ex G e g h).1 (G6 _ X ex G e g h)
 | .KQ n k a,mv,X,ex,G,e,g,h=>aO (snd _ X ex G e g h).1 (G6 _ X ex G e g h)
 | .sset a,mv,X,ex,G,e,g,h=>aO (snd _ X ex G e g h).1 (G6 _ X ex G e g h)
 | .G3,mv,X,ex,G,e,g,h=>by
  have h:OS e=true:=by cases e<;>exact h
  obtain⟨pos,rfl⟩:=qh h
  exact Hn mv
 | .Gu a,mv,X,ex,G,e,g,h=>aO (snd _ X ex G e g h).1 (G6 _ X ex G e g h)
 | .HV m o es,mv,X,ex,G,e,g,h=>aO (snd _ X ex G e g h).1 (G6 _ X ex G e g h)
 | .comp G' fr tg src ifs elt,mv,X,ex,G,e,g,h=>aO (snd _ X ex G e g h).1 (G6 _ X ex G e g h)
theorem zT:∀ (as:List IR) (mv:Bool) (X:Cx) (ex:Str->Prop) (G:Gm) (l:List Expr),Fz Z CX cl xp X ex G->bj Z G as l=true->PA X l (MD X.K ex (fT cl mv as))
 | [],mv,X,ex,G,l,g,h=>by
  cases l with
  | nil=>exact zR
  | cons _ _=>first|exact aa h|cases h
 | a::as,mv,X,ex,G,l,g,h=>by
  cases l with
  | nil=>first|exact aa h|cases h
  | cons e l=>
   have h':(notStar e&&E3 Z G a e&&bj Z G as l)=true:=h
   simp only[Bool.and_eq_true] at h'
   exact ve h'.1.1 (K0 a mv X ex G e g h'.1.2) (zT as mv X ex G l g h'.2)
end
end
structure Bs where
 F:Addr->Prop
 H:Hp
 L:Addr->LD->Prop
 T:Addr->List V ⊕ Str->Prop
structure FJ (K:PySem.W.Frag)(B:Bs)(F:Addr->Prop)(H:Hp)(σ:St)(τ:Ev)(f:List Addr):Prop where
 Fi:Hl F H
 FU:Fq K F H σ τ f
 FI:f.Nodup
 same:ak B.H H
 own:∀ a∈f,B.H a=none
 G7:∀ a,B.F a->F a
 out:∀ a,F a->B.F a∨B.H a=none
 pin:∀ a xs,B.L a xs->F a/\Rd H a xs.o
 K1:∀ a xs,B.T a xs->FQ K H a xs
noncomputable def Fk (K:PySem.W.Frag)(B:Bs)(Dn:Ends):Fl->Prop
 | .nx τ=>∀ σ H F f,FJ K B F H σ τ f->Dn.nx σ H
 | .bk τ=>∀ σ H F f,FJ K B F H σ τ f->Dn.bk σ H
 | .ct τ=>∀ σ H F f,FJ K B F H σ τ f->Dn.ct σ H
 | .rt d=>∀ v H F fv,Out K B.F B.H F H v d fv->Dn.rt v H
def RS (K:PySem.W.Frag)(ex:Str->Prop)(g:Ev->Res Fl):TS:=fun Dn σ H=>∃ B F τ f,FJ K B F H σ τ f/\ES ex (g τ) (Fk K B Dn)
section
variable {K:PySem.W.Frag}{B:Bs}{F F':Addr->Prop}{H H':Hp}{σ:St}{τ EW:Ev}{f f':List Addr}{ex:Str->Prop}
theorem FJ.GQ (m:FJ K B F H σ τ f)(s:Ik F H f F' H')(Fi:Hl F' H')(r:Fq K F' H' σ EW f')(nd:f'.Nodup)(hm:∀ a∈f',a∈f∨H a=none):FJ K B F' H' σ EW f' where
 Fi:=Fi
 FU:=r
 FI:=nd
 same:=m.same.trans s.same
 own:=fun a ha=>(hm a ha).elim (m.own a) fun z=>m.same.free z
 G7:=fun a h=>s.G7 a (m.G7 a h)
 out:=fun a h=>by
  rcases s.out a h with h|h|h
  ·exact m.out a h
  ·exact .inr (m.own a h)
  ·exact .inr (m.same.free h)
 pin:=fun a xs h=>⟨s.G7 a (m.pin a xs h).1,s.same.rd (m.pin a xs h).2⟩
 K1:=fun a xs h=>s.same.G2 (m.K1 a xs h)
theorem FJ.ow {v:V}{d:D}{fv:List Addr}(m:FJ K B F H σ τ f)(o:Ow K F H f F' H' σ v d fv EW f'):FJ K B F' H' σ EW f'/\∀ a∈fv,B.H a=none:=
 ⟨m.GQ o.GQ o.Fi o.FU (List.nodup_append.mp o.FI).2.1 fun a ha=>o.mem a (List.mem_append_right _ ha),fun a ha=>(o.mem a (List.mem_append_left _ ha)).elim (m.own a) fun z=>m.same.free z⟩
theorem FJ.grow (m:FJ K B F H σ τ f)(e:ak H H'):FJ K B F H' σ τ f:=by
 obtain⟨k1,k2,k3⟩:=dU m.Fi m.FU e
 exact m.GQ k3 k1 k2 m.FI fun a ha=>.inl ha
theorem FJ.ro {g:Ev->Res (D×Ev)}{Kt:D×Ev->Prop}{Q:VK}(m:FJ K B F H σ τ f)(h:ES ex (g τ) Kt)(k:∀ p v H' F' fv f',Ow K F H f F' H' σ v p.1 fv p.2 f'->Kt p->Q v H'):RO K ex g σ H Q:=
 ⟨F,τ,f,m.Fi,m.FU,m.FI,h.mono fun p hp v H' F' fv f' o=>k p v H' F' fv f' o hp⟩
theorem FJ.rt {is:List Nat}{g:Ev->Res Bool}{Kt:Bool->Prop}{Q:Bool->Hp->Prop}(m:FJ K B F H σ τ f)(h:ES ex (g τ) Kt)(k:∀ b H',FJ K B F H' σ τ f->ak H H'->Kt b->Q b H'):RT K ex is g σ H Q:=
 dR (.refl _) (aX m.FU) h fun b H2 e2 _ hb=>k b H2 (m.grow e2) e2 hb
theorem FJ.rd {is:List Nat}{g:Ev->Res D}{Kt:D->Prop}{Q:VK}(m:FJ K B F H σ τ f)(h:ES ex (g τ) Kt)(k:∀ d v H',FJ K B F H' σ τ f->ak H H'->ET K (nw (fun _=>True) H) H' v d->Kt d->Q v H'):RD K ex is g σ H Q:=
 ba (.refl _) (aX m.FU) h fun b v H2 e2 _ mv hb=>k b v H2 (m.grow e2) e2 mv hb
mutual
theorem qu:∀ (t:Tg) {σ:St}{τ:Ev}{f:List Addr}{v:V}{d:D}{fv:List Addr}{Kt:Ev->Prop}{Q:St->Hp->Prop},Fq K F H σ τ f->E6 K F H v d fv->(fv++f).Nodup->ES ex (bP t d τ) Kt->
  (∀ EW E4 f',Fq K F H E4 EW f'->f'.Nodup->(∀ a∈f',a∈fv++f)->Kt EW->Q E4 H)->gT K t v σ H Q
 | .nm i,σ,τ,f,v,d,fv,Kt,Q,r,m,nd,h,k=>by
  obtain⟨g,h',r2,p2⟩:=r.put i m
  have LV:(g++h').Nodup:=p2.nodup_iff.mpr nd
  exact k (τ.set i (some d)) (σ.set i (some v)) g r2 (List.nodup_append.mp LV).1 (fun a ha=>p2.mem_iff.mp (List.mem_append_left _ ha)) h.ok
 | .tp ts,σ,τ,f,v,d,fv,Kt,Q,r,m,nd,h,k=>by
  cases m with
  | tup h1 h2=>
   obtain⟨gd,h⟩:=ES.EX h
   have g':=of_decide_eq_true gd
   exact⟨_,_,rfl,.inl h1,by rw[h2.length];exact g',dX ts r h2 nd h k⟩
  | Ic h0 h1 h2=>
   obtain⟨gd,h⟩:=ES.EX h
   have g':=of_decide_eq_true gd
   exact⟨_,_,rfl,.inr (.inl h1),by rw[h2.length];exact g',dX ts r h2 nd h k⟩
  | lstK h1 h2=>
   obtain⟨gd,h⟩:=ES.EX h
   have g':=of_decide_eq_true gd
   exact⟨_,_,rfl,.inr h1.sq,by rw[h2.length];exact g',dX ts r h2 nd h k⟩
  | Gh h0 h1 h2=>
   obtain⟨gd,h⟩:=ES.EX h
   have g':=of_decide_eq_true gd
   rw[List.cons_append,List.nodup_cons] at nd
   exact⟨_,_,rfl,.inr (.inl (.inl h1)),by rw[h2.length];exact g',dX ts r h2 nd.2 h fun EW E4 f' a1 a2 a3 a4=>k EW E4 f' a1 a2 (fun x hx=>by rw[List.cons_append];exact List.mem_cons_of_mem _ (a3 x hx)) a4⟩
  | _=>exact h.no.elim
theorem dX:∀ (ts:List Tg) {σ:St}{τ:Ev}{f:List Addr}{vs:List V}{ds:List D}{fv:List Addr}{Kt:Ev->Prop}{Q:St->Hp->Prop},Fq K F H σ τ f->EU K F H vs ds fv->(fv++f).Nodup->ES ex (dM ts ds τ) Kt->
  (∀ EW E4 f',Fq K F H E4 EW f'->f'.Nodup->(∀ a∈f',a∈fv++f)->Kt EW->Q E4 H)->NN K ts vs σ H Q
 | [],σ,τ,f,vs,ds,fv,Kt,Q,r,m,nd,h,k=>by
  cases m with
  | nil=>exact⟨rfl,k τ σ f r (by simpa using nd) (fun a ha=>by simpa using ha) h.ok⟩
  | cons _ _=>exact h.no.elim
 | t::ts,σ,τ,f,vs,ds,fv,Kt,Q,r,m,nd,h,k=>by
  cases m with
  | nil=>exact h.no.elim
  | cons m1 m2=>
   rename_i v d f1 vs ds f2
   have JQ:(f2++(f1++f)).Nodup:=by
    refine(List.Perm.nodup_iff ?_).mp nd
    rw[<- List.append_assoc]
    exact List.Perm.append_right f List.perm_append_comm
   refine⟨_,_,rfl,qu t r m1 (List.nodup_append.mp JQ).2.1 (ES.U h) fun EW E4 f' r' Qp LW h'=>?_⟩
   refine dX ts r' m2 (List.nodup_append.mpr ⟨(List.nodup_append.mp JQ).1,Qp,fun a h1 b h2 e=>(List.nodup_append.mp JQ).2.2 a h1 b (LW b h2) e⟩) h' fun LR LS LX UZ Qq Ly Qk=>k LR LS LX UZ Qq (fun a ha=>?_) Qk
   rcases List.mem_append.mp (Ly a ha) with z|z
   ·exact List.mem_append_left _ (List.mem_append_right _ z)
   ·rcases List.mem_append.mp (LW a z) with z|z
    ·exact List.mem_append_left _ (List.mem_append_left _ z)
    ·exact List.mem_append_right _ z
end
theorem FJ.gT {t:Tg}{v:V}{d:D}{fv:List Addr}{Kt:Ev->Prop}{Q:St->Hp->Prop}(m:FJ K B F H σ τ f)(mv:E6 K F H v d fv)(nd:(fv++f).Nodup)(hb:∀ a∈fv,B.H a=none)(h:ES ex (bP t d τ) Kt)
  (k:∀ EW E4 f',FJ K B F H E4 EW f'->Kt EW->Q E4 H):L2.gT K t v σ H Q:=
 qu t m.FU mv nd h fun EW E4 f' r' Qp hm h'=>k EW E4 f' ⟨m.Fi,r',Qp,m.same,fun a ha=>(List.mem_append.mp (hm a ha)).elim (hb a) (m.own a),m.G7,m.out,m.pin,m.K1⟩ h'
theorem FJ.write {i:Nat}{ds ds':List D}{w:V}{d:D}{fv:List Addr}{l:Addr}{xs ys:List V}(m:FJ K B F H σ τ f)(hs:ai τ i=some (.lst true ds))(Ga:σ[i]? = some (some (.ref l)))(hl:H l=some (.lst xs))(mw:E6 K F H w d fv)(nd:(fv++f).Nodup)(hb:∀ a∈fv,B.H a=none)
  (hy:∀ fi,EU K F H xs ds fi->∃ fl h,EU K F H ys ds' fl/\(fl++h).Perm (fv++fi)):∃ f',FJ K B F (upd H l (.lst ys)) σ (τ.set i (some (.lst true ds'))) f':=by
 obtain⟨v,fs,g,h1,h2,h3,h4⟩:=m.FU.at hs
 rw[Ga] at h1
 cases h1
 cases h2 with
 | @Gh a PU Qr fi hF hH hm=>
  rw[hl] at hH
  cases hH
  obtain⟨fl,h,LW,hp⟩:=hy fi hm
  have LY:((l::fi)++g).Nodup:=h4.nodup_iff.mp m.FI
  have OX:(fv++((l::fi)++g)).Nodup:=(List.Perm.append_left fv h4).nodup_iff.mp nd
  have lg:l∉g:=by
   rw[List.cons_append,List.nodup_cons] at LY
   exact fun z=>LY.1 (List.mem_append_right _ z)
  have U0:l∉fi:=by
   rw[List.cons_append,List.nodup_cons] at LY
   exact fun z=>LY.1 (List.mem_append_left _ z)
  have U1:l∉fv:=fun z=>(List.nodup_append.mp OX).2.2 l z l (by simp) rfl
  have LZ:∀ a∈fl,a∈fv++fi:=fun a ha=>hp.mem_iff.mp (List.mem_append_left _ ha)
  have Sf:l∉fl:=fun z=>(List.mem_append.mp (LZ l z)).elim U1 U0
  have sl:∀ a (u:LD),F a->Rd H a u.o->F a/\Rd (upd H l (.lst ys)) a u.o:=fun a xs h r=>by
   refine⟨h,?_⟩
   have:a≠l:=fun z=>hF (by rw[<- z];exact h)
   unfold Rd
   rw[aj this]
   exact r
  have st:∀ a xs,FQ K H a xs->FQ K (upd H l (.lst ys)) a xs:=fun a xs h=>h.upd hl
  have r1:Fq K F (upd H l (.lst ys)) σ (τ.set i none) g:=h3.step sl st fun a ha n _=>⟨n,aj fun z=>lg (by rw[<- z];exact ha)⟩
  have m1:E6 K F (upd H l (.lst ys)) (.ref l) (.lst true ds') (l::fl):=.Gh hF av (LW.step sl st fun a ha n _=>⟨n,aj fun z=>Sf (by rw[<- z];exact ha)⟩)
  obtain⟨g',h',r2,p2⟩:=r1.put i m1
  have Jd:σ.set i (some (.ref l))=σ:=by
   apply List.ext_getElem?
   intro j
   rw[List.getElem?_set]
   by_cases hj:i=j
   ·subst hj
    have FH:i < σ.length:=(List.getElem?_eq_some_iff.mp Ga).1
    rw[if_pos rfl,if_pos FH,Ga]
   ·rw[if_neg hj]
  rw[Jd,List.set_set] at r2
  have U2:((l::fl)++g).Nodup:=by
   rw[List.cons_append,List.nodup_cons]
   refine⟨fun z=>(List.mem_append.mp z).elim Sf lg,List.nodup_append.mpr ⟨?_,(List.nodup_append.mp LY).2.1,fun a h1 b h2 e=>?_⟩⟩
   ·have:(fl++h).Nodup:=hp.nodup_iff.mpr (List.nodup_append.mpr ⟨(List.nodup_append.mp OX).1,(List.nodup_cons.mp (List.nodup_append.mp LY).1).2,fun a h1 b h2 e=>(List.nodup_append.mp OX).2.2 a h1 b (List.mem_append_left _ (List.mem_cons_of_mem _ h2)) e⟩)
    exact(List.nodup_append.mp this).1
   ·subst e
    rcases List.mem_append.mp (LZ a h1) with z|z
    ·exact(List.nodup_append.mp OX).2.2 a z a (List.mem_append_right _ h2) rfl
    ·exact(List.nodup_append.mp LY).2.2 a (List.mem_cons_of_mem _ z) a h2 rfl
  have LV:(g'++h').Nodup:=p2.nodup_iff.mpr U2
  have lB:B.H l=none:=m.own l (h4.mem_iff.mpr (by simp))
  refine⟨g',fun a h=>?_,r2,(List.nodup_append.mp LV).1,fun b o L0=>?_,fun a ha=>?_,m.G7,m.out,fun a xs h=>⟨(m.pin a xs h).1,(sl a xs (m.pin a xs h).1 (m.pin a xs h).2).2⟩,fun a xs h=>st a xs (m.K1 a xs h)⟩
  ·have:a≠l:=fun z=>hF (by rw[<- z];exact h)
   rw[aj this]
   exact m.Fi a h
  ·have:b≠l:=fun z=>by rw[z,lB] at L0;cases L0
   rw[aj this]
   exact m.same _ _ L0
  ·have:a∈(l::fl)++g:=p2.mem_iff.mp (List.mem_append_left _ ha)
   rcases List.mem_append.mp this with z|z
   ·rcases List.mem_cons.mp z with rfl|z
    ·exact lB
    ·rcases List.mem_append.mp (LZ a z) with z|z
     ·exact hb a z
     ·exact m.own a (h4.mem_iff.mpr (List.mem_append_left _ (List.mem_cons_of_mem _ z)))
   ·exact m.own a (h4.mem_iff.mpr (List.mem_append_right _ z))
theorem EU.snoc {w:V}{d:D}{fv:List Addr}(mw:E6 K F H w d fv){xs:List V}{ds:List D}{fi:List Addr}(m:EU K F H xs ds fi):∃ fl h,EU K F H (xs++[w]) (ds++[d]) fl/\(fl++h).Perm (fv++fi):=
 ⟨fi++(fv++[]),[],m.append (.cons mw .nil),by rw[List.append_nil,List.append_nil];exact List.perm_append_comm⟩
end
noncomputable def notTuple:Expr->Bool
 | .Tuple ..=>false
 | _=>true
noncomputable def i0:Expr->Bool
 | .ListComp ..=>false
 | .SetComp ..=>false
 | .DictComp ..=>false
 | _=>true
noncomputable def isName:Expr->Bool
 | .Name ..=>true
 | _=>false
noncomputable def isTup:Expr->Bool
 | .Tuple ..=>true
 | _=>false
mutual
noncomputable def qv (Z:Sg)(G:Gm):IS->Stmt->Bool
 | .asg tg e,.Assign [t] v _=>cf G tg t&&E3 Z G e v&&(isName t||(isTup t&&notTuple v))
 | .Ie i k e,.Assign [.Subscript (.Name x _) s _] v _=>cD G i x&&cC s&&E3 Z G k s&&E3 Z G e v
 | .ext i e,.Expr (.Call (.Attribute (.Name x _) name apos) [v] [] E2) _=>cD G i x&&name == "extend"&&apos.endLine == E2.line&&notStar v&&E3 Z G e v
 | .ins i k e,.Expr (.Call (.Attribute (.Name x _) name apos) [s,v] [] E2) _=>cD G i x&&name == "insert"&&apos.endLine == E2.line&&(notStar s&&notStar v)&&E3 Z G k s&&E3 Z G e v
 | .app i e,.Expr (.Call (.Attribute (.Name x _) name apos) [v] [] E2) _=>cD G i x&&name == "append"&&apos.endLine == E2.line&&notStar v&&E3 Z G e v
 | .pop j i,.Assign [t] (.Call (.Attribute (.Name x _) name apos) [v] [] E2) _=>isName t&&cf G (.nm j) t&&cD G i x&&name == "pop"&&apos.endLine == E2.line&&notStar v&&E3 Z G (.c (.int 0)) v
 | .pass,.Expr (.Constant (.str _) _ _) _=>true
 | .exp e,.Expr v _=>i0 v&&E3 Z G e v
 | .ret e,.Return (some v) _=>E3 Z G e v
 | .Kl,.Return none _=>true
 | .Fg t a b,.If c x y _=>E3 Z G t c&&cW Z G a x&&cW Z G b y
 | .Fp tg s body,.For t it b [] _=>((G.cm&&G.rs)&&cf G tg t)&&(cw Z G s it&&eW s t)&&cW Z G body b
 | .Gv t body,.While c b [] _=>(G.rs&&E3 Z G t c)&&cW Z G body b
 | .brk,.Break _=>true
 | .cnt,.Continue _=>true
 | .pass,.Pass _=>true
 | .never,_=>true
 | _,_=>false
noncomputable def cW (Z:Sg)(G:Gm):List IS->List Stmt->Bool
 | [],[]=>true
 | a::as,s::ss=>qv Z G a s&&cW Z G as ss
 | _,_=>false
end
section
variable {Z:Sg}{CX:F5}{cl:Nat->List D->Res D}{xp:XK->Hp->Str->Prop}{X:Cx}{ex:Str->Prop}{G:Gm}
theorem v8 {tg:Tg}{ga:Ev->Res (D×Ev)}{Dn:Ends}{σ:St}{H:Hp}(h:RS X.K ex (fun τ=>U (ga τ) fun p=>U (bP tg p.1 p.2) fun EW=>.ok (.nx EW)) Dn σ H):yQ (RO X.K ex ga) (gT X.K tg) Dn σ H:=by
 obtain⟨B,F,τ,f,m,q⟩:=h
 refine m.ro (ES.U q) fun p v H' F' fv f' o hp=>?_
 obtain⟨m',hb⟩:=m.ow o
 exact m'.gT o.rep o.FI hb (ES.U hp) fun EW E4 LX Il h'=>h'.ok _ _ _ _ Il
theorem Ho (g:Fz Z CX cl xp X ex G){tg:Tg}{e:IR}{t v:Expr}{pos:Pos}(ht:cf G tg t=true)(hv:E3 Z G e v=true)(hc:(isName t||(isTup t&&notTuple v))=true):PS X (.Assign [t] v pos) (RS X.K ex (Gw cl (.asg tg e))):=by
 have pe:=K0 e false X ex G v g hv
 have pg:=LP g tg t ht
 cases t with
 | Name x px=>
  cases tg with
  | tp _=>cases ht
  | nm i=>
   have Jv:(G.N[i]? == some x&&(G.kd[i]? == some .local||(G.df&&G.kd[i]? == some .cell)))=true:=ht
   rw[Bool.and_eq_true,Bool.or_eq_true,Bool.and_eq_true] at Jv
   have hx:G.N[i]? = some x:=eq_of_beq Jv.1
   have hk:=g.kd i x hx
   have L1:Loc X.env.scope x:=Jv.2.elim (fun z=>.inl (hk.trans (eq_of_beq z))) fun z=>.inr (hk.trans (eq_of_beq z.2))
   have Lf:X.fn x=true∨X.env.scope.names.lookup x=some .local:=Jv.2.elim (fun z=>.inr (hk.trans (eq_of_beq z))) fun z=>.inl (g.df z.1 x)
   have plain:swapsWith v (some (.Name x px)) pos.line X.env=pure false->PS X (.Assign [.Name x px] v pos) (RS X.K ex (Gw cl (.asg (.nm i) e))):=fun hs=>
    aQ (oV (i:=i) (by rw[g.N];exact g.FI) (by rw[g.N];exact hx) L1 pe hs Lf) fun Dn σ H h=>v8 h
   cases v with
   | ListComp el gens scope Ks=>
    have Nk:swapsWith (.ListComp el gens scope Ks) (some (.Name x px)) pos.line X.env=pure (X.env.blockKind == .function&&X.env.kindOf x == some .local&&px.line == Ks.line&&!(scope.names.any fun (n,k)=>n == x&&(k == .local||k == .cell))):=rfl
    cases hb:(X.env.blockKind == .function&&X.env.kindOf x == some .local&&px.line == Ks.line&&!(scope.names.any fun (n,k)=>n == x&&(k == .local||k == .cell))) with
    | false=>exact plain (by rw[Nk,hb])
    | true=>
     rw[hb] at Nk
     have U3:X.env.kindOf x=some .local:=by
      simp only[Bool.and_eq_true] at hb
      exact eq_of_beq hb.1.1.2
     cases e with
     | comp G' fr T src ifs elt=>
      have hv:oz gens (fun t it fs=>bF Z G scope G' fr&&cf G' T t&&(HJ T).all (fun i=>decide (fr.length<=i))&&(cw Z G src it&&eW src t)&&bj Z G' ifs fs&&E3 Z G' elt el)=true:=hv
      obtain⟨t,it,fs,rfl,hv⟩:=iX hv
      have h':(bF Z G scope G' fr&&cf G' T t&&(HJ T).all (fun i=>decide (fr.length<=i))&&(cw Z G src it&&eW src t)&&bj Z G' ifs fs&&E3 Z G' elt el)=true:=hv
      simp only[Bool.and_eq_true] at h'
      have hs:=iZ h'.1.1.1.1.1
      have hT:=h'.1.1.1.1.2
      have ha:∀ i∈HJ T,fr.length<=i:=fun i hi=>of_decide_eq_true (List.all_eq_true.mp h'.1.1.1.2 i hi)
      intro pins s' σ H Dn Iv h
      obtain⟨F6,S⟩:=eM g Iv.ok hs
      have p:=uA (py:=px) (spos:=pos) (i:=i) (pos:=Ks) (elt:=el) (ifs:=fs) (tg:=t) (g:=gT X.K T) (tt:=RT X.K GI (ay ifs) (dA cl ifs)) (te:=RD X.K GI (vars elt) (EV cl elt)) (g.calm hs.cm) (by rw[g.N];exact g.FI) (by rw[g.N];exact hx) U3 S (vd src X ex G it t g h'.1.1.2.1 h'.1.1.2.2) (fun C s H fp=>LP (bG g hs F6 C s H fp) T t hT)
       (fun C s H fp=>u9 ifs _ GI G' fs (bG g hs F6 C s H fp) h'.1.2) (fun C s H fp=>(snd elt _ GI G' el (bG g hs F6 C s H fp) h'.2).1) Nk (fun x=>bX h'.1.1.2.1 X.env x)
      refine p pins s' σ H Dn Iv ?_
      obtain⟨B,F,τ,f,m,q⟩:=h
      -- as one U4 is kept
      have q0:ES ex (U (U (EV cl (.comp G' fr T src ifs elt) τ) fun d=>.ok (aL (.comp G' fr T src ifs elt) d τ)) fun p=>U (bP (.nm i) p.1 p.2) fun EW=>.ok (.nx EW)) (Fk X.K B Dn):=q
      have q1:=ES.U (ES.U q0)
      have fin:∀ (d:D) (v:V) (H':Hp) (F':Addr->Prop) (fv f':List Addr),Ow X.K F H f F' H' σ v (aL (.comp G' fr T src ifs elt) d τ).1 fv (aL (.comp G' fr T src ifs elt) d τ).2 f'->(∀ (p:D×Ev),p=aL (.comp G' fr T src ifs elt) d τ->ES ex (U (bP (.nm i) p.1 p.2) fun EW=>.ok (.nx EW)) (Fk X.K B Dn))->Dn.nx (σ.set i (some v)) H':=by
       intro d v H' F' fv f' o hp
       obtain⟨m',Iy⟩:=m.ow o
       have:=m'.gT (t:=.nm i) (Q:=Dn.nx) o.rep o.FI Iy (ES.U (hp _ rfl)) fun EW E4 LX Il h'=>h'.ok _ _ _ _ Il
       exact this
      cases z:EV cl (.comp G' fr T src ifs elt) τ with
      | error er=>
       rw[z] at q1
       cases er with
       | stuck=>exact q1.no.elim
       | exc c=>
        refine cF (S:=fun _=>True) (τ:=τ) (ex:=ex) (Kt:=fun _=>False) hs.NO ha (aX m.FU) ?_ fun A ys ds H' e hA KZ mm k=>k.elim
        show ES ex (EV cl (.comp G' fr T src ifs elt) τ) _
        rw[z]
        exact q1
      | ok d=>
       rw[z] at q1
       have q2:=q1.ok.ok
       obtain⟨o',ds,rfl⟩:∃ o ds,d=.lst o ds:=by
        have zz:=z
        rw[gh] at zz
        obtain⟨its,_,zz⟩:=bE zz
        obtain⟨_,zz⟩:=zC zz
        obtain⟨ds,_,zz⟩:=bE zz
        cases zz
        exact⟨true,ds,rfl⟩
       by_cases hi:af ds=true
       ·have Kp:aL (.comp G' fr T src ifs elt) (.lst o' ds) τ=(.lst true ds,τ):=by
         unfold aL
         rw[if_neg (show ¬ ao (.lst o' ds)=true by intro z;cases z)]
         show (if af ds=true then _ else _)=_
         rw[if_pos hi]
        refine cF (S:=fun _=>True) (τ:=τ) (ex:=ex) (Kt:=fun d'=>∃ NQ,d'=.lst NQ ds) hs.NO ha (aX m.FU) ?_ fun A ys ds' H' e hA KZ mm k=>?_
        ·show ES ex (EV cl (.comp G' fr T src ifs elt) τ) _
         rw[z]
         exact⟨o',rfl⟩
        ·obtain⟨NQ,k⟩:=k
         cases k
         obtain⟨k1,k2,k3⟩:=dU m.Fi m.FU e
         refine fin (.lst o' ds) (.ref A) H' F [A] f ?_ (fun p hp=>by subst hp;exact q2)
         rw[Kp]
         refine⟨k3,k1,.Gh (fun zz=>m.Fi A zz hA) KZ (mm.free hi),k2,?_,fun a ha=>?_⟩
         ·rw[List.singleton_append,List.nodup_cons]
          refine⟨fun zz=>?_,m.FI⟩
          obtain⟨_,xs,e⟩:=m.FU.own A zz
          rw[hA] at e;cases e
         ·rw[List.singleton_append] at ha
          rcases List.mem_cons.mp ha with rfl|ha
          ·exact .inr hA
          ·exact .inl ha
       ·have Kp:aL (.comp G' fr T src ifs elt) (.lst o' ds) τ=(.lst true (E0 ds),Fb (vars (.comp G' fr T src ifs elt)) τ):=by
         unfold aL
         rw[if_neg (show ¬ ao (.lst o' ds)=true by intro z;cases z)]
         show (if af ds=true then _ else _)=_
         rw[if_neg hi]
        obtain⟨F1,gg,b1,b2,b3,b4,b5,b6⟩:=dW (vars (.comp G' fr T src ifs elt)) m.Fi m.FU m.FI
        refine cF (S:=F1) (τ:=τ) (ex:=ex) (Kt:=fun d'=>∃ NQ,d'=.lst NQ ds) hs.NO ha b6 ?_ fun A ys ds' H' e hA KZ mm k=>?_
        ·show ES ex (EV cl (.comp G' fr T src ifs elt) τ) _
         rw[z]
         exact⟨o',rfl⟩
        ·obtain⟨NQ,k⟩:=k
         cases k
         obtain⟨c1,c2,c3⟩:=grow (fun a=>a≠A) b1 b2 e
         have m2:ER X.K (fun a=>F1 a∨(a≠A/\H a=none/\H' a≠none)) H' ys ds:=mm.step (fun a xs h r=>⟨h.1.elim (fun z=>.inl z) fun z=>.inr ⟨h.2,z,r.some⟩,r⟩) fun a xs h=>h
         refine fin (.lst o' ds) (.ref A) H' (fun a=>F1 a∨(a≠A/\H a=none/\H' a≠none)) [A] gg ?_ (fun p hp=>by subst hp;exact q2)
         rw[Kp]
         refine⟨b4.trans c3 (fun x hx=>.inl (b5 x hx)),c1,.Gh (fun zz=>?_) KZ m2.frozen,c2,?_,fun a ha=>?_⟩
         ·rcases zz with zz|zz
          ·exact b1 A zz hA
          ·exact zz.1 rfl
         ·rw[List.singleton_append,List.nodup_cons]
          refine⟨fun zz=>?_,b3⟩
          obtain⟨_,xs,e⟩:=b2.own A zz
          rw[hA] at e;cases e
         ·rw[List.singleton_append] at ha
          rcases List.mem_cons.mp ha with rfl|ha
          ·exact .inr hA
          ·exact .inl (b5 a ha)
     | _=>first|exact aa hv|cases hv
   | SetComp _ _ _ _=>cases e<;>first|exact aa hv|cases hv
   | DictComp _ _ _ _ _=>cases e<;>first|exact aa hv|cases hv
   | _=>exact plain rfl
 | Tuple ts k px=>
  have Ji:notTuple v=true:=hc
  refine aQ (yR pe pg ?_ ?_ rfl) fun Dn σ H h=>v8 h
  ·cases v<;>rfl
  ·cases v<;>first|rfl|cases Ji
 | _=>cases hc
end
theorem FQ.Qs {K:PySem.W.Frag}{H:Hp}{a l:Addr}{xs:List V ⊕ Str}{ys zs:List (Key×V)}(hl:H l=some (.dK ys))(h:FQ K H a xs):FQ K (L2.upd H l (.dK zs)) a xs:=by
 cases xs with
 | inl xs=>
  rcases h with h|h
  ·have:a≠l:=by
    rintro rfl
    rcases h with h|⟨o,h⟩<;>(rw[hl] at h;cases h)
   refine .inl ?_
   unfold Rd
   rw[aj this]
   exact h
  ·exact .inr h
 | inr c=>
  obtain⟨C,o,vs,h0,h1,h2,h3⟩:=h
  have:a≠l:=by
   rintro rfl
   rw[hl] at h2;cases h2
  exact⟨C,o,vs,h0,h1,by rw[aj this];exact h2,h3⟩
theorem EU.U5 {K:PySem.W.Frag}{F:Addr->Prop}{H:Hp}{vs:List V}{ds:List D}{f:List Addr}(h:EU K F H vs ds f)(n:af ds=true):f=[]:=by
 refine EU.rec (motive_1:=fun _ d f _=>ao d=true->f=[]) (motive_2:=fun _ d f _=>af d=true->f=[]) (fun _=>rfl) (fun _ _=>rfl) (fun _ _=>rfl) (fun _ _=>rfl) (fun _ _=>rfl) (fun _ _ i z=>i z) (fun _ _ _ _ _=>rfl) (fun _ _ _ _=>rfl) (fun _ _ _ _ z=>aa z) (fun _ _ _ _ _ _=>rfl) (fun _ _ _ _ _ z=>aa z) (fun _=>rfl) (fun {v d f vs ds g} _ _ i j z=>?_) h n
 have z':=Bool.and_eq_true_iff.mp (show (ao d&&af ds)=true from z)
 rw[i z'.1,j z'.2]
 rfl
theorem vf {K:PySem.W.Frag}{F:Addr->Prop}{H:Hp}{σ:St}{τ:Ev}{f:List Addr}{i:Nat}{ks:List Key}{ds:List D}(r:Fq K F H σ τ f)(hs:ai τ i=some (.Ff true ks ds))(n:af ds=true) :
  ∃ l kvs g,σ[i]? = some (some (.ref l))/\¬ F l/\H l=some (.dK kvs)/\kvs.map (·.1)=ks/\EU K F H (kvs.map (·.2)) ds []/\Fq K F H σ (τ.set i none) g/\f.Perm (l::g):=by
 obtain⟨v,fs,g,h1,h2,h3,h4⟩:=r.at hs
 cases h2 with
 | @Jz a kvs _ _ fi hF hH hk hm=>
  have e:=hm.U5 n
  subst e
  exact⟨a,kvs,g,h1,hF,hH,hk,hm,h3,h4⟩
theorem FJ.L3 {K:PySem.W.Frag}{B:Bs}{F:Addr->Prop}{H:Hp}{σ:St}{τ:Ev}{f g:List Addr}{i:Nat}{l:Addr}{kvs Im:List (Key×V)}{Hh:List Key}{ds':List D}(m:FJ K B F H σ τ f)(Ga:σ[i]? = some (some (.ref l)))(hF:¬ F l)(hl:H l=some (.dK kvs))(hr:Fq K F H σ (τ.set i none) g)(h4:f.Perm (l::g))
  (hk:Im.map (·.1)=Hh) (hm:EU K F H (Im.map (·.2)) ds' []):∃ f',FJ K B F (upd H l (.dK Im)) σ (τ.set i (some (.Ff true Hh ds'))) f':=by
 have Sh:(l::g).Nodup:=h4.nodup_iff.mp m.FI
 have lg:l∉g:=(List.nodup_cons.mp Sh).1
 have sl:∀ a (u:LD),F a->Rd H a u.o->F a/\Rd (upd H l (.dK Im)) a u.o:=fun a xs h r=>by
  refine⟨h,?_⟩
  have:a≠l:=fun z=>hF (by rw[<- z];exact h)
  unfold Rd
  rw[aj this]
  exact r
 have st:∀ a xs,FQ K H a xs->FQ K (upd H l (.dK Im)) a xs:=fun a xs h=>h.Qs hl
 have r1:Fq K F (upd H l (.dK Im)) σ (τ.set i none) g:=hr.step sl st fun a ha n _=>⟨n,aj fun z=>lg (by rw[<- z];exact ha)⟩
 have m1:E6 K F (upd H l (.dK Im)) (.ref l) (.Ff true Hh ds') [l]:=.Jz hF av hk (hm.step sl st bw)
 obtain⟨g',h',r2,p2⟩:=r1.put i m1
 have Jd:σ.set i (some (.ref l))=σ:=by
  apply List.ext_getElem?
  intro j
  rw[List.getElem?_set]
  by_cases hj:i=j
  ·subst hj
   rw[if_pos rfl,if_pos (List.getElem?_eq_some_iff.mp Ga).1,Ga]
  ·rw[if_neg hj]
 rw[Jd,List.set_set] at r2
 have LV:(g'++h').Nodup:=p2.nodup_iff.mpr Sh
 have lB:B.H l=none:=m.own l (h4.mem_iff.mpr (by simp))
 refine⟨g',fun a h=>?_,r2,(List.nodup_append.mp LV).1,fun b o L0=>?_,fun a ha=>m.own a (h4.mem_iff.mpr (p2.mem_iff.mp (List.mem_append_left _ ha))),m.G7,m.out,fun a xs h=>⟨(m.pin a xs h).1,(sl a xs (m.pin a xs h).1 (m.pin a xs h).2).2⟩,fun a xs h=>st a xs (m.K1 a xs h)⟩
 ·have:a≠l:=fun z=>hF (by rw[<- z];exact h)
  rw[aj this]
  exact m.Fi a h
 ·have:b≠l:=fun z=>by rw[z,lB] at L0;cases L0
  rw[aj this]
  exact m.same _ _ L0
section
variable {K:PySem.W.Frag}{S:Addr->Prop}{H:Hp}
theorem has_any (kvs:List (Key×V))(q:Key):(kvs.any fun kv=>decide (kv.1=q))=jM (kvs.map (·.1)) q:=by
 unfold jM
 rw[List.any_map]
 rfl
theorem JH (kvs:List (Key×V))(q:Key)(v:V):(putK kvs q v).map (·.1)=dJ (kvs.map (·.1)) q:=by
 unfold putK dJ
 rw[has_any]
 by_cases h:jM (kvs.map (·.1)) q=true
 ·rw[if_pos h,if_pos h,List.map_map]
  refine List.map_congr_left fun kv _=>?_
  show (if kv.1=q then (kv.1,v) else kv).1=kv.1
  split<;>rfl
 ·rw[if_neg h,if_neg h,List.map_append]
  rfl
theorem BX (q:Key){v:V}{d:D}(mv:ET K S H v d){kvs:List (Key×V)}{ds:List D}(m:ER K S H (kvs.map (·.2)) ds):ER K S H ((putK kvs q v).map (·.2)) (cP (kvs.map (·.1)) ds q d):=by
 unfold putK cP
 rw[has_any]
 by_cases h:jM (kvs.map (·.1)) q=true
 ·rw[if_pos h,if_pos h,List.map_map]
  clear h
  induction kvs generalizing ds with
  | nil=>
   cases m
   exact .nil
  | cons p kvs ih=>
   rw[List.map_cons] at m
   cases ds with
   | nil=>exact absurd m.length (by simp)
   | cons e ds=>
    cases m with
    | cons m1 m2=>
     rw[List.map_cons,List.map_cons,List.zipWith_cons_cons]
     refine .cons ?_ (ih m2)
     show ET K S H (if p.1=q then (p.1,v) else p).2 (if p.1=q then d else e)
     split
     ·exact mv
     ·exact m1
 ·rw[if_neg h,if_neg h,List.map_append]
  exact m.append (.cons mv .nil)
theorem zU {ks:List Key}{ds:List D}{q:Key}{d:D}(h1:af ds=true)(h2:ao d=true):af (cP ks ds q d)=true:=by
 unfold cP
 rw[bV] at h1
 rw[bV,List.all_eq_true]
 rw[List.all_eq_true] at h1
 intro x hx
 split at hx
 ·rw[List.mem_iff_getElem?] at hx
  obtain⟨i,hi⟩:=hx
  rw[List.getElem?_zipWith] at hi
  split at hi
  ·rename_i a b e1 e2
   cases hi
   split
   ·exact h2
   ·exact h1 _ (List.mem_of_getElem? e2)
  ·cases hi
 ·rcases List.mem_append.mp hx with hx|hx
  ·exact h1 x hx
  ·rw[List.mem_singleton.mp hx];exact h2
end
section
variable {Z:Sg}{CX:F5}{cl:Nat->List D->Res D}{xp:XK->Hp->Str->Prop}{X:Cx}{ex:Str->Prop}{G:Gm}
theorem GJ (g:Fz Z CX cl xp X ex G){i:Nat}{k e:IR}{x:Str}{p sp pos:Pos}{s v:Expr}(h1:cD G i x=true)(h2:cC s=true)(h3:E3 Z G k s=true)(h4:E3 Z G e v=true) :
  PS X (.Assign [.Subscript (.Name x p) s sp] v pos) (RS X.K ex (Gw cl (.Ie i k e))):=by
 have hu:=g.un
 refine aQ (uE (by omega) (hW g h1) (snd k X ex G s g h3).1 (snd e X ex G v g h4).1 (by cases v<;>rfl)) fun Dn σ H h=>?_
 obtain⟨B,F,τ,f,m,q⟩:=h
 have q0:ES ex (U (EV cl e τ) fun d=>match ai τ i with|some (.Ff true ks ds)=>U (EV cl k τ) fun y=>(match eG y with|some q=>EX (ao d&&af ds&&cb ks.length) (.ok (.nx (τ.set i (some (.Ff true (dJ ks q) (cP ks ds q d))))))|none=>EY)|_=>EY) (Fk X.K B Dn):=q
 refine m.rd (ES.U q0) fun d w H1 m1 e1 mw q1=>?_
 cases z0:ai τ i with
 | none=>rw[z0] at q1;exact q1.no.elim
 | some d0=>
  rw[z0] at q1
  cases d0 with
  | Ff ow ks ds=>
   cases ow with
   | false=>exact q1.no.elim
   | true=>
    obtain⟨v0,Qt,_⟩:∃ v0,σ[i]? = some (some v0)/\True:=by
     obtain⟨v0,_,_,h,_⟩:=m1.FU.at z0
     exact⟨v0,h,trivial⟩
    refine⟨v0,Qt,m1.rd (ES.U q1) fun y w2 H2 m2 e2 U6 q2=>?_⟩
    cases hk:eG y with
    | none=>simp only[hk] at q2;exact q2.no.elim
    | some qk=>
     simp only[hk] at q2
     obtain⟨gd,q2⟩:=ES.EX q2
     rw[Bool.and_eq_true,Bool.and_eq_true] at gd
     obtain⟨l,kvs,g0,Ga,hF,hl,U7,hm,hr,hp⟩:=vf m2.FU z0 gd.1.2
     rw[Qt] at Ga
     cases Ga
     subst U7
     have U8:ER X.K (fun _=>True) H2 (kvs.map (·.2)) ds:=hm.read (fun _ _=>trivial) fun _ _=>trivial
     have U9:ET X.K (fun _=>True) H2 w d:=mw.mono (fun _ _=>trivial) e2
     have U':EU X.K F H2 ((putK kvs qk w).map (·.2)) (cP (kvs.map (·.1)) ds qk d) []:=(BX qk U9 U8).free (zU gd.1.2 gd.1.1)
     obtain⟨f',m3⟩:=m2.L3 Qt hF hl hr hp (JH kvs qk w) U'
     have hlen:kvs.length < sizeLine:=by
      have:=e9 gd.2
      rwa [List.length_map] at this
     exact⟨l,_,rfl,.inl ⟨kvs,qk,hl,iY U6 hk,hlen,rfl⟩,q2.ok _ _ _ _ m3⟩
  | _=>exact q1.no.elim
end
section
variable {K:PySem.W.Frag}{F:Addr->Prop}{H:Hp}
theorem E6.parts {v:V}{o:Bool}{es:List D}{fv:List Addr}(h:E6 K F H v (.lst o es) fv):∃ b zs fe h',v=.ref b/\FR K H b zs/\EU K F H zs es fe/\(fe++h').Perm fv:=by
 cases h with
 | Ic h0 h1 h2=>exact⟨_,_,[],[],rfl,.inl h1,h2,.refl _⟩
 | lstK h1 h2=>exact⟨_,_,[],[],rfl,h1.sq,h2,.refl _⟩
 | @Gh a xs ds f h0 h1 h2=>exact⟨a,_,f,[a],rfl,.inl (.inl h1),h2,List.perm_append_comm (l₁:=f) (l₂:=[a])⟩
theorem EU.split (n:Nat){vs:List V}{ds:List D}{f:List Addr}(h:EU K F H vs ds f):∃ f1 f2,EU K F H (vs.take n) (ds.take n) f1/\EU K F H (vs.drop n) (ds.drop n) f2/\f1++f2=f:=by
 revert n
 refine EU.ind (P:=fun vs ds f=>∀ n,∃ f1 f2,EU K F H (vs.take n) (ds.take n) f1/\EU K F H (vs.drop n) (ds.drop n) f2/\f1++f2=f) (fun n=>⟨[],[],by rw[List.take_nil,List.take_nil];exact .nil,by rw[List.drop_nil,List.drop_nil];exact .nil,rfl⟩) (fun v d f vs ds g a b j n=>?_) h
 cases n with
 | zero=>exact⟨[],f++g,.nil,.cons a b,rfl⟩
 | succ n=>
  obtain⟨f1,f2,h1,h2,h3⟩:=j n
  exact⟨f++f1,f2,.cons a h1,h2,by rw[List.append_assoc,h3]⟩
end
section
variable {Z:Sg}{CX:F5}{cl:Nat->List D->Res D}{xp:XK->Hp->Str->Prop}{X:Cx}{ex:Str->Prop}{G:Gm}
theorem gj {K:PySem.W.Frag}{F:Addr->Prop}{H:Hp}{σ:St}{τ:Ev}{f:List Addr}{i:Nat}{ds:List D}(r:Fq K F H σ τ f)(hs:ai τ i=some (.lst true ds)):∃ l xs,σ[i]? = some (some (.ref l))/\H l=some (.lst xs)/\xs.length=ds.length:=by
 obtain⟨v,fs,g,h1,h2,h3,h4⟩:=r.at hs
 cases h2 with
 | Gh hF hH hm=>exact⟨_,_,h1,hH,hm.length⟩
theorem Hq (g:Fz Z CX cl xp X ex G){i:Nat}{e:IR}{x:Str}{p apos E2 pos:Pos}{v:Expr}(h1:cD G i x=true)(h2:(apos.endLine == E2.line)=true)(h3:notStar v=true)(h4:E3 Z G e v=true) :
  PS X (.Expr (.Call (.Attribute (.Name x p) "extend" apos) [v] [] E2) pos) (RS X.K ex (Gw cl (.ext i e))):=by
 have pa:PA X [v] (eR (RO X.K ex (Fs cl false e)) nQ):=aU (K0 e false X ex G v g h4) bN (ah h3 _ _)
 have Gr:((backTo E2 (starEach [v] X.env)).all (fun x=>!x.1)&&(backToKw E2 (keywordEach [] X.env)).all (fun x=>x.1.isSome)&&decide ([v].length+([]:List Keyword).length+(if ([]:List Keyword).isEmpty then 0 else 1) < 30))=true:=by
  rw[ah h3]
  rfl
 refine aQ (eX (fE PySem.F.plainAttrs_list PySem.F.slot_list_extend PySem.F.type_list_extend uO (hW g h1) pa rfl Gr h2 (ah h3 _ _) rfl)) fun Dn σ H h=>?_
 obtain⟨B,F,τ,f,m,q⟩:=h
 have q0:ES ex (match ai τ i with|some (.lst _ _)=>(U (Fs cl false e τ) fun p=>(match p.1,ai p.2 i with|.lst _ es,some (.lst true ds)=>EX (aV (ds.length+es.length)) (.ok (.nx (p.2.set i (some (.lst true (ds++es))))))|_,_=>EY))|_=>EY) (Fk X.K B Dn):=q
 cases z0:ai τ i with
 | none=>rw[z0] at q0;exact q0.no.elim
 | some d0=>
  rw[z0] at q0
  cases d0 with
  | lst o0 Qr=>
   obtain⟨v0,Qu,g0,a1,a2,a3,a4⟩:=m.FU.at z0
   obtain⟨l,NR,_,_,rfl,hq,_⟩:=a2.parts
   refine⟨.ref l,a1,.inl ⟨rfl,NR,hq⟩,m.ro (ES.U q0) fun p v H' F' fv f' o hp=>?_⟩
   obtain⟨m',hb⟩:=m.ow o
   obtain⟨pd,Va⟩:=p
   cases pd with
   | lst oe es=>
    cases zs:ai Va i with
    | none=>simp only[zs] at hp;exact hp.no.elim
    | some d=>
     simp only[zs] at hp
     cases d with
     | lst ow ds=>
      cases ow with
      | false=>exact hp.no.elim
      | true=>
       obtain⟨gd,hp⟩:=ES.EX hp
       obtain⟨l',xs,Ga,hl,hlen⟩:=gj m'.FU zs
       rw[a1] at Ga
       cases Ga
       obtain⟨b,zz,fe,h',rfl,Vb,Si,Vc⟩:=(show E6 X.K F' H' v (.lst oe es) fv from o.rep).parts
       have hz:zz.length=es.length:=EU.ind (P:=fun v d _=>v.length=d.length) rfl (fun _ _ _ _ _ _ _ _ j=>congrArg (· + 1) j) Si
       obtain⟨LX,m3⟩:=m'.write (ys:=xs++zz) (ds':=ds++es) zs a1 hl o.rep o.FI hb fun fi hm=>⟨fi++fe,h',hm.append Si,by
        rw[List.append_assoc]
        exact List.perm_append_comm.trans (List.Perm.append_right _ Vc)⟩
       exact⟨l,b,xs,zz,rfl,rfl,hl,Vb,by rw[hlen,hz];exact bq gd,hp.ok _ _ _ _ m3⟩
     | _=>exact hp.no.elim
   | _=>exact hp.no.elim
  | _=>exact q0.no.elim
theorem Hr (g:Fz Z CX cl xp X ex G){i:Nat}{k e:IR}{x:Str}{p apos E2 pos:Pos}{s v:Expr}(h1:cD G i x=true)(h2:(apos.endLine == E2.line)=true)(h3:notStar s=true)(Qv:notStar v=true)(h4:E3 Z G k s=true)(h5:E3 Z G e v=true) :
  PS X (.Expr (.Call (.Attribute (.Name x p) "insert" apos) [s,v] [] E2) pos) (RS X.K ex (Gw cl (.ins i k e))):=by
 have pa:PA X [s,v] (eR (RD X.K ex (vars k) (EV cl k)) (eR (RO X.K ex (Fs cl false e)) nQ)):=aU (snd k X ex G s g h4).1 (aU (K0 e false X ex G v g h5) bN (ah Qv _ _)) (ah h3 _ _)
 have Gr:((backTo E2 (starEach [s,v] X.env)).all (fun x=>!x.1)&&(backToKw E2 (keywordEach [] X.env)).all (fun x=>x.1.isSome)&&decide ([s,v].length+([]:List Keyword).length+(if ([]:List Keyword).isEmpty then 0 else 1) < 30))=true:=by
  rw[ah h3,ah Qv]
  rfl
 refine aQ (eX (fE PySem.F.plainAttrs_list PySem.F.slot_list_insert PySem.F.type_list_insert zB (hW g h1) pa rfl Gr h2 (ah h3 _ _) (by rw[ah Qv];rfl))) fun Dn σ H h=>?_
 obtain⟨B,F,τ,f,m,q⟩:=h
 have q0:ES ex (match ai τ i with|some (.lst _ _)=>(U (EV cl k τ) fun y=>U (Fs cl false e τ) fun p=>(match y,ai p.2 i with|.int z,some (.lst true ds)=>EX (decide (0<=z/\z.toNat<=ds.length)&&cb ds.length) (.ok (.nx (p.2.set i (some (.lst true (ds.take z.toNat++p.1::ds.drop z.toNat))))))|_,_=>EY))|_=>EY) (Fk X.K B Dn):=q
 cases z0:ai τ i with
 | none=>rw[z0] at q0;exact q0.no.elim
 | some d0=>
  rw[z0] at q0
  cases d0 with
  | lst o0 Qr=>
   obtain⟨v0,Qu,g0,a1,a2,a3,a4⟩:=m.FU.at z0
   obtain⟨l,NR,_,_,rfl,hq,_⟩:=a2.parts
   refine⟨.ref l,a1,.inl ⟨rfl,NR,hq⟩,m.rd (ES.U q0) fun y w H1 m1 e1 mw q1=>?_⟩
   refine m1.ro (ES.U q1) fun p v H' F' fv f' o hp=>?_
   obtain⟨m',hb⟩:=m1.ow o
   cases y with
   | int z=>
    cases mw.E9
    cases zs:ai p.2 i with
    | none=>simp only[zs] at hp;exact hp.no.elim
    | some d=>
     simp only[zs] at hp
     cases d with
     | lst ow ds=>
      cases ow with
      | false=>exact hp.no.elim
      | true=>
       obtain⟨gd,hp⟩:=ES.EX hp
       rw[Bool.and_eq_true] at gd
       have gz:0<=z/\z.toNat<=ds.length:=of_decide_eq_true gd.1
       obtain⟨l',xs,Ga,hl,hlen⟩:=gj m'.FU zs
       rw[a1] at Ga
       cases Ga
       obtain⟨LX,m3⟩:=m'.write (ys:=xs.take z.toNat++v::xs.drop z.toNat) (ds':=ds.take z.toNat++p.1::ds.drop z.toNat) zs a1 hl o.rep o.FI hb fun fi hm=>by
        obtain⟨f1,f2,s1,s2,s3⟩:=hm.split z.toNat
        refine⟨f1++(fv++f2),[],s1.append (.cons o.rep s2),?_⟩
        rw[List.append_nil,<- s3,<- List.append_assoc,<- List.append_assoc]
        exact List.Perm.append_right _ List.perm_append_comm
       exact⟨l,xs,z,v,rfl,rfl,hl,gz.1,by rw[hlen];exact gz.2,by rw[hlen];exact e9 gd.2,hp.ok _ _ _ _ m3⟩
     | _=>exact hp.no.elim
   | _=>exact hp.no.elim
  | _=>exact q0.no.elim
theorem Hs (g:Fz Z CX cl xp X ex G){j i:Nat}{x:Str}{t:Expr}{p apos E2 pos:Pos}{v:Expr}(ht:isName t=true)(hT:cf G (.nm j) t=true)(h1:cD G i x=true)(h2:(apos.endLine == E2.line)=true)(h3:notStar v=true)(h4:E3 Z G (.c (.int 0)) v=true) :
  PS X (.Assign [t] (.Call (.Attribute (.Name x p) "pop" apos) [v] [] E2) pos) (RS X.K ex (Gw cl (.pop j i))):=by
 cases t with
 | Name y py=>
  have Jv:(G.N[j]? == some y&&(G.kd[j]? == some .local||(G.df&&G.kd[j]? == some .cell)))=true:=hT
  rw[Bool.and_eq_true,Bool.or_eq_true,Bool.and_eq_true] at Jv
  have hx:G.N[j]? = some y:=eq_of_beq Jv.1
  have hk:=g.kd j y hx
  have L1:Loc X.env.scope y:=Jv.2.elim (fun z=>.inl (hk.trans (eq_of_beq z))) fun z=>.inr (hk.trans (eq_of_beq z.2))
  have Lf:X.fn y=true∨X.env.scope.names.lookup y=some .local:=Jv.2.elim (fun z=>.inr (hk.trans (eq_of_beq z))) fun z=>.inl (g.df z.1 y)
  have pa:PA X [v] (eR (RD X.K ex (vars (.c (.int 0))) (EV cl (.c (.int 0)))) nQ):=aU (snd _ X ex G v g h4).1 bN (ah h3 _ _)
  have Gr:((backTo E2 (starEach [v] X.env)).all (fun x=>!x.1)&&(backToKw E2 (keywordEach [] X.env)).all (fun x=>x.1.isSome)&&decide ([v].length+([]:List Keyword).length+(if ([]:List Keyword).isEmpty then 0 else 1) < 30))=true:=by
   rw[ah h3]
   rfl
  refine aQ (oV (i:=j) (by rw[g.N];exact g.FI) (by rw[g.N];exact hx) L1 (fE PySem.F.plainAttrs_list PySem.F.slot_list_pop PySem.F.type_list_pop o6 (hW g h1) pa rfl Gr h2 (ah h3 _ _) rfl) rfl Lf) fun Dn σ H h=>?_
  obtain⟨B,F,τ,f,m,q⟩:=h
  have q0:ES ex (match ai τ i with|some (.lst true (.str x::ds))=>.ok (.nx ((τ.set i (some (.lst true ds))).set j (some (.str x))))|_=>EY) (Fk X.K B Dn):=q
  cases zs:ai τ i with
  | none=>rw[zs] at q0;exact q0.no.elim
  | some d=>
   rw[zs] at q0
   cases d with
   | lst ow ds=>
    cases ow with
    | false=>exact q0.no.elim
    | true=>
     cases ds with
     | nil=>exact q0.no.elim
     | cons d0 ds=>
      cases d0 with
      | str z=>
       obtain⟨l,xs,Ga,hl,hlen⟩:=gj m.FU zs
       refine⟨.ref l,Ga,.inl ⟨rfl,xs,.inl (.inl hl)⟩,m.rd (g:=EV cl (.c (.int 0))) (Kt:=fun d=>d=.int 0) rfl fun y w H1 m1 e1 mw q1=>?_⟩
       subst q1
       cases mw.E9
       obtain⟨l',PU,Jd,Lr,K2⟩:=gj m1.FU zs
       rw[Ga] at Jd
       cases Jd
       match PU,K2 with
       | x0::OR,K2=>
       have hz:x0=.str z:=by
        obtain⟨v0,Qu,g0,c1,c2,c3,c4⟩:=m1.FU.at zs
        rw[Ga] at c1
        cases c1
        cases c2 with
        | Gh hF hH hm=>
         rw[Lr] at hH
         cases hH
         cases hm with
         | cons b1 b2=>cases b1;rfl
       subst hz
       obtain⟨LX,m3⟩:=m1.write (w:=.EZ) (d:=.EZ) (fv:=[]) (ys:=OR) (ds':=ds) zs Ga Lr .EZ (by simpa using m1.FI) (fun a ha=>by cases ha) fun fi hm=>by
        cases hm with
        | cons b1 b2=>cases b1;exact⟨_,[],b2,by simp⟩
       refine⟨l,_,0,0,.str z,rfl,rfl,Lr,by decide,by decide,?_,rfl,?_⟩
       ·show seqIndex? 0 (OR.length+1)=some 0
        simp[seqIndex?]
       ·exact m3.gT (t:=.nm j) (ex:=ex) (Kt:=fun EW=>EW=(τ.set i (some (.lst true ds))).set j (some (.str z))) (E6.str z) (by simpa using m3.FI) (fun a ha=>by cases ha) rfl fun EW E4 f' m4 e4=>by
         subst e4
         exact ES.ok q0 _ _ _ _ m4
      | _=>exact q0.no.elim
   | _=>exact q0.no.elim
 | _=>cases ht
end
section
variable {Z:Sg}{CX:F5}{cl:Nat->List D->Res D}{xp:XK->Hp->Str->Prop}{X:Cx}{ex:Str->Prop}{G:Gm}
end
section
variable {X:Cx}{pins:List (Addr×Obj)}{σ:St}{H:Hp}{s:Shared}
end
section
variable {X:Cx}{pins Ip:List (Addr×Obj)}{σ:St}{H:Hp}{s:Shared}{E:Value->Shared->Prop}{a:Addr}
end
section
variable {Z:Sg}{CX:F5}{cl:Nat->List D->Res D}{xp:XK->Hp->Str->Prop}{X:Cx}{ex:Str->Prop}{G:Gm}{pins:List (Addr×Obj)}{a:Addr}
end
section
variable {Z:Sg}{CX:F5}{cl:Nat->List D->Res D}{xp:XK->Hp->Str->Prop}{X:Cx}{ex:Str->Prop}{G:Gm}{pins:List (Addr×Obj)}
end
section
variable {Z:Sg}{CX:F5}{cl:Nat->List D->Res D}{xp:XK->Hp->Str->Prop}{X:Cx}{ex:Str->Prop}{G:Gm}
theorem Ht (g:Fz Z CX cl xp X ex G){i:Nat}{e:IR}{x:Str}{p apos E2 pos:Pos}{v:Expr}(h1:cD G i x=true)(h2:(apos.endLine == E2.line)=true)(h3:notStar v=true)(h4:E3 Z G e v=true) :
  PS X (.Expr (.Call (.Attribute (.Name x p) "append" apos) [v] [] E2) pos) (RS X.K ex (Gw cl (.app i e))):=by
 have pa:PA X [v] (eR (RO X.K ex (Fs cl false e)) nQ):=aU (K0 e false X ex G v g h4) bN (ah h3 _ _)
 have Gr:((backTo E2 (starEach [v] X.env)).all (fun x=>!x.1)&&(backToKw E2 (keywordEach [] X.env)).all (fun x=>x.1.isSome)&&decide ([v].length+([]:List Keyword).length+(if ([]:List Keyword).isEmpty then 0 else 1) < 30))=true:=by
  rw[ah h3]
  rfl
 refine aQ (eX (fE PySem.F.plainAttrs_list PySem.F.slot_list_append PySem.F.type_list_append gQ (hW g h1) pa rfl Gr h2 (ah h3 _ _) rfl)) fun Dn σ H h=>?_
 obtain⟨B,F,τ,f,m,q⟩:=h
 have q0:ES ex (match ai τ i with|some (.lst _ _)=>(U (Fs cl false e τ) fun p=>(match ai p.2 i with|some (.lst true ds)=>EX (cb ds.length) (.ok (.nx (p.2.set i (some (.lst true (ds++[p.1]))))))|_=>EY))|_=>EY) (Fk X.K B Dn):=q
 cases z0:ai τ i with
 | none=>rw[z0] at q0;exact q0.no.elim
 | some d0=>
  rw[z0] at q0
  cases d0 with
  | lst o0 Qr=>
   obtain⟨v0,Qu,g0,a1,a2,a3,a4⟩:=m.FU.at z0
   have hq:∃ l xs,v0=.ref l/\FR X.K H l xs:=by
    cases a2 with
    | Ic _ b1 _=>exact⟨_,_,rfl,.inl b1⟩
    | lstK b1 _=>exact⟨_,_,rfl,b1.sq⟩
    | Gh _ b1 _=>exact⟨_,_,rfl,.inl (.inl b1)⟩
   obtain⟨l,NR,rfl,hq⟩:=hq
   refine⟨.ref l,a1,.inl ⟨rfl,NR,hq⟩,m.ro (ES.U q0) fun p v H' F' fv f' o hp=>?_⟩
   obtain⟨m',hb⟩:=m.ow o
   cases zs:ai p.2 i with
   | none=>rw[zs] at hp;exact hp.no.elim
   | some d=>
    rw[zs] at hp
    cases d with
    | lst ow ds=>
     cases ow with
     | false=>exact hp.no.elim
     | true=>
      obtain⟨gd,hp⟩:=ES.EX hp
      obtain⟨l',xs,Ga,hl,hlen⟩:=gj m'.FU zs
      rw[a1] at Ga
      cases Ga
      obtain⟨LX,m3⟩:=m'.write (ys:=xs++[v]) (ds':=ds++[p.1]) zs a1 hl o.rep o.FI hb fun fi hm=>hm.snoc o.rep
      exact⟨l,xs,v,rfl,rfl,hl,by rw[hlen];exact e9 gd,hp.ok _ _ _ _ m3⟩
    | _=>exact hp.no.elim
  | _=>exact q0.no.elim
theorem Fk.NT {K:PySem.W.Frag}{B:Bs}{F F':Addr->Prop}{H H':Hp}{σ:St}{τ EW:Ev}{f f':List Addr}{v:V}{d:D}{fv:List Addr}(m:FJ K B F H σ τ f)(o:Ow K F H f F' H' σ v d fv EW f'):Out K B.F B.H F' H' v d fv:=by
 obtain⟨m',hb⟩:=m.ow o
 exact⟨m'.Fi,m'.same,o.rep,(List.nodup_append.mp o.FI).1,hb,m'.G7,m'.out⟩
theorem Hu (g:Fz Z CX cl xp X ex G){e:IR}{v:Expr}{pos:Pos}(h:E3 Z G e v=true):PS X (.Return (some v) pos) (RS X.K ex (Gw cl (.ret e))):=by
 refine aQ (yN (K0 e true X ex G v g h)) fun Dn σ H ⟨B,F,τ,f,m,q⟩=>?_
 exact m.ro (ES.U q) fun p v H' F' fv f' o hp=>hp.ok _ _ _ _ (Fk.NT m o)
theorem vg {pos:Pos}:PS X (.Return none pos) (RS X.K ex (Gw cl .Kl)):=
 aQ ug fun Dn σ H ⟨B,F,τ,f,m,q⟩=>q.ok .EZ H F [] ⟨m.Fi,m.same,.EZ,List.nodup_nil,fun a ha=>absurd ha (by simp),m.G7,m.out⟩
theorem zV (g:Fz Z CX cl xp X ex G){e:IR}{v:Expr}{pos:Pos}(hc:i0 v=true)(h:E3 Z G e v=true):PS X (.Expr v pos) (RS X.K ex (Gw cl (.exp e))):=by
 refine aQ (eX (snd e X ex G v g h).1 (by cases v<;>first|rfl|cases hc)) fun Dn σ H ⟨B,F,τ,f,m,q⟩=>?_
 exact m.rd (ES.U q) fun d v H' m' _ _ hd=>hd.ok _ _ _ _ m'
theorem II {c:Expr}{x y:List Stmt}{pos:Pos}{t:IR}{a b:List IS}(hc:PT X c (RT X.K ex (vars t) fun τ=>U (EV cl t τ) aD))(ha:HR X x (RS X.K ex (aG cl a)))(hb:HR X y (RS X.K ex (aG cl b))):PS X (.If c x y pos) (RS X.K ex (Gw cl (.Fg t a b))):=by
 refine aQ (A4 hc ha hb) fun Dn σ H ⟨B,F,τ,f,m,q⟩=>?_
 refine m.rt (ES.U q) fun r H' m' _ hr=>?_
 cases r with
 | true=>rw[if_pos rfl] at hr ⊢;exact⟨B,F,τ,f,m',hr⟩
 | false=>rw[if_neg Bool.false_ne_true] at hr ⊢;exact⟨B,F,τ,f,m',hr⟩
theorem Gj (g:Fz Z CX cl xp X ex G)(Vd:G.rs=true){c:Expr}{x:List Stmt}{pos:Pos}{t:IR}{a:List IS}(hc:PT X c (RT X.K ex (vars t) fun τ=>U (EV cl t τ) aD))(ha:HR X x (RS X.K ex (aG cl a))):PS X (.While c x [] pos) (RS X.K ex (Gw cl (.Gv t a))):=by
 refine aQ (oW (g.own Vd) hc ha) fun Dn σ H ⟨B,F,τ,f,m,q⟩=>?_
 refine⟨fun n σ H=>∃ F τ f,FJ X.K B F H σ τ f/\ES ex (bI (Hk cl t) (aG cl a) n τ) (Fk X.K B Dn),⟨jP,F,τ,f,m,q⟩,?_⟩
 rintro n σ H ⟨F,τ,f,m,q⟩
 cases n with
 | zero=>exact q.no.elim
 | succ n=>
  refine m.rt (ES.U q) fun r H' m' _ hr=>?_
  cases r with
  | false=>rw[if_neg Bool.false_ne_true] at hr ⊢;exact hr.ok _ _ _ _ m'
  | true=>
   rw[if_pos rfl] at hr ⊢
   refine⟨fun σ H=>∃ F τ f,FJ X.K B F H σ τ f/\ES ex (bI (Hk cl t) (aG cl a) n τ) (Fk X.K B Dn),fun E4 H' h=>⟨n,Nat.lt_succ_self n,h⟩,B,F,τ,f,m',(ES.U hr).mono fun r hr=>?_⟩
   cases r with
   | nx EW=>exact fun E4 H' F' f' Il=>⟨F',EW,f',Il,hr⟩
   | ct EW=>exact fun E4 H' F' f' Il=>⟨F',EW,f',Il,hr⟩
   | bk EW=>exact fun E4 H' F' f' Il=>hr.ok _ _ _ _ Il
   | rt d=>exact fun v H' F' fv o=>hr.ok _ _ _ _ o
theorem FJ.less {K:PySem.W.Frag}{B:Bs}{L:Addr->LD->Prop}{T:Addr->List V ⊕ Str->Prop}{F:Addr->Prop}{H:Hp}{σ:St}{τ:Ev}{f:List Addr}(m:FJ K ⟨B.F,B.H,fun a xs=>B.L a xs∨L a xs,fun a xs=>B.T a xs∨T a xs⟩ F H σ τ f):FJ K B F H σ τ f:=
 ⟨m.Fi,m.FU,m.FI,m.same,m.own,m.G7,m.out,fun a xs h=>m.pin a xs (.inl h),fun a xs h=>m.K1 a xs (.inl h)⟩
theorem jZ:∀ (ds:List D) (i:Nat),(E0 ds).drop i=E0 (ds.drop i):=by
 intro ds i
 rw[aF,aF,List.map_drop]
theorem j5 {J:It}{K:PySem.W.Frag}{B:Bs}{F:Addr->Prop}{H:Hp}{σ:St}{τ:Ev}{f:List Addr}{T:Tg}{body:List IS}{its:List D}{Dn:Ends}(m:FJ K B F H σ τ f)(w:GP K F H J its)
  (q:ES ex (forM (fun x τ=>U (bP T x τ) fun EW=>aG cl body EW) (E0 its) τ) (Fk K B Dn)) :
  ∃ W:Nat->Nat->St->Hp->Prop,(∃ m,W 0 m σ H)/\∀ i m σ H,W i m σ H->(J.stop i H/\Dn.nx σ H)∨(J.go i H/\∃ N:St->Hp->Prop,(∀ E4 H',N E4 H'->∃ m',m' < m/\W (i+1) m' E4 H')/\
   ∀ x H',J.J4 i H x H'->gT K T x σ H' fun HA H2=>RS K ex (aG cl body) {Dn with nx:=N,ct:=N,bk:=Dn.nx} HA H2):=by
 let B':Bs:=⟨B.F,B.H,fun a xs=>B.L a xs∨(F a/\Rd H a xs.o),fun a xs=>B.T a xs∨FQ K H a xs⟩
 have m0:FJ K B' F H σ τ f:=⟨m.Fi,m.FU,m.FI,m.same,m.own,m.G7,m.out,fun a xs h=>h.elim (m.pin a xs) id,fun a xs h=>h.elim (m.K1 a xs) id⟩
 let bd:D->Ev->Res Fl:=fun x τ=>U (bP T x τ) fun EW=>aG cl body EW
 refine⟨fun i n σ H=>n=its.length - i/\i<=its.length/\∃ F τ f,FJ K B' F H σ τ f/\ES ex (forM bd ((E0 its).drop i) τ) (Fk K B Dn),⟨its.length,by simp,Nat.zero_le _,F,τ,f,m0,by rw[List.drop_zero];exact q⟩,?_⟩
 rintro i n Lh H1 ⟨rfl,hi,F1,KS,f1,m1,q1⟩
 have w1:GP K F1 H1 J its:=w.step (fun a xs h r=>m1.pin a xs (.inr ⟨h,r⟩)) fun a xs h=>m1.K1 a xs (.inr h)
 by_cases FH:i < its.length
 ·refine .inr ⟨w1.go FH,fun σ H=>∃ F τ f,FJ K B' F H σ τ f/\ES ex (forM bd ((E0 its).drop (i+1)) τ) (Fk K B Dn),fun E4 H' h=>⟨its.length - (i+1),by omega,rfl,FH,h⟩,fun x H' y=>?_⟩
  obtain⟨eH,mx⟩:=w1.J4 y (d:=its[i]) (by simp[FH])
  have m1:=m1.grow eH
  have hd:(E0 its).drop i=er its[i]::(E0 its).drop (i+1):=by
   rw[jZ,List.drop_eq_getElem_cons FH,E0,jZ]
  rw[hd] at q1
  have q2:=ES.U q1
  refine m1.gT mx.frozen (by simpa using m1.FI) (fun a ha=>absurd ha (by simp)) (ES.U q2) fun EW E4 f' m' h'=>?_
  refine⟨B',F1,EW,f',m',h'.mono fun r hr=>?_⟩
  cases r with
  | nx EW=>exact fun E4 H' F' f' Il=>⟨F',EW,f',Il,hr⟩
  | ct EW=>exact fun E4 H' F' f' Il=>⟨F',EW,f',Il,hr⟩
  | bk EW=>exact fun E4 H' F' f' Il=>hr.ok _ _ _ _ Il.less
  | rt d=>exact fun v H' F' fv o=>hr.ok _ _ _ _ o
 ·have e:i=its.length:=by omega
  subst e
  refine .inl ⟨w1.stop (Nat.le_refl _),?_⟩
  have:(E0 its).drop its.length=[]:=by rw[<- bW its,List.drop_length]
  rw[this] at q1
  exact q1.ok _ _ _ _ m1.less
theorem vi (a b:Int):E0 (bA a b)=bA a b:=by
 unfold bA
 rw[aF,List.map_map]
 rfl
noncomputable def v9 (cl:Nat->List D->Res D):Sr->Ev->Res (Int×Int)
 | .FO n,τ=>U (EV cl n τ) fun|.int i=>EX (bQ i) (.ok (0,i))|_=>EY
 | .G4 a b,τ=>U (EV cl a τ) fun x=>U (EV cl b τ) fun y=>match x,y with|.int i,.int j=>EX (bQ i&&bQ j) (.ok (i,j))|_,_=>EY
 | _,_=>EY
def Ve (K:PySem.W.Frag)(ex:Str->Prop)(is:List Nat)(f:Ev->Res (Int×Int)):TI:=fun σ H R=>∃ S τ,Slots K S H σ τ is/\ES ex (f τ) fun p=>∀ H',ak H H'->R (M3 p.1 (p.2 - p.1).toNat) H'
noncomputable def qw:Sr->Bool
 | .FO _=>true
 | .G4 _ _=>true
 | _=>false
theorem qx {s:Sr}(h:qw s=true){τ:Ev}{k:List D->Prop}(q:ES ex (dn cl s τ) k):ES ex (v9 cl s τ) fun p=>k (bA p.1 p.2):=by
 cases s with
 | FO n=>
  refine ES.mk ((ES.U (show ES ex (U (EV cl n τ) fun|.int i=>EX (bQ i) (.ok (bA 0 i))|_=>EY) k from q)).mono fun d hd=>?_)
  cases d with
  | int i=>
   obtain⟨gd,hd⟩:=ES.EX hd
   show ES ex (EX (bQ i) (.ok (0,i))) _
   unfold EX
   rw[if_pos gd]
   exact hd.ok
  | _=>exact hd.no.elim
 | G4 a b=>
  refine ES.mk ((ES.U (show ES ex (U (EV cl a τ) fun x=>U (EV cl b τ) fun y=>match x,y with|.int i,.int j=>EX (bQ i&&bQ j) (.ok (bA i j))|_,_=>EY) k from q)).mono fun d hd=>ES.mk ((ES.U hd).mono fun e he=>?_))
  cases d with
  | int i=>
   cases e with
   | int j=>
    obtain⟨gd,he⟩:=ES.EX he
    show ES ex (EX (bQ i&&bQ j) (.ok (i,j))) _
    unfold EX
    rw[if_pos gd]
    exact he.ok
   | _=>exact he.no.elim
  | _=>cases e<;>exact he.no.elim
 | _=>first|exact aa h|cases h
theorem EI:∀ (s:Sr) (X:Cx) (ex:Str->Prop) (G:Gm) (e tg:Expr),Fz Z CX cl xp X ex G->cw Z G s e=true->qw s=true->PI X tg e (Ve X.K ex (dN s) (v9 cl s)):=by
 intro s X ex G e tg g h hr
 cases s with
 | FO n=>
  cases e with
  | Call fn args Gy pos=>
   cases fn with
   | Name x p=>
    match args,Gy,h with
    | [a],[],h=>
     have h':(x == "range"&&G.gl.contains 15&&notStar a&&E3 Z G n a)=true:=h
     simp only[Bool.and_eq_true] at h'
     have e1:x = "range":=eq_of_beq h'.1.1.1
     subst e1
     obtain⟨k1,k2,_,_⟩:=dv g (show aZ[15]? = some ("range" : Str) from rfl) h'.1.1.2
     refine kH (gI k1 k2 (aU (snd n X ex G a g h'.2).1 bN (ah h'.1.2 _ _)) (ah h'.1.2 _ _)) fun σ H Q ⟨S,τ,hs,q⟩=>?_
     refine ba (.refl _) hs (ES.U q) fun x v H1 e1 _ m1 q1=>?_
     cases x with
     | int i=>
      cases m1.E9
      obtain⟨gd,q1⟩:=ES.EX q1
      have LU : -(2 ^ 62)<=i/\i < 2 ^ 62:=of_decide_eq_true gd
      refine⟨i,rfl,LU.1,LU.2,?_⟩
      have:=q1.ok _ e1
      rw[show (0,i).2 - (0,i).1=i from Int.sub_zero i] at this
      exact this
     | _=>exact q1.no.elim
    | [],_,h=>first|exact aa h|cases h
    | [_],_::_,h=>first|exact aa h|cases h
    | _::_::_,_,h=>first|exact aa h|cases h
   | _=>first|exact aa h|cases h
  | _=>first|exact aa h|cases h
 | G4 a b=>cases e<;>exact aa h
 | _=>cases hr
theorem Hv (g:Fz Z CX cl xp X ex G){t it:Expr}{x:List Stmt}{pos:Pos}{T:Tg}{s:Sr}{a:List IS}(NU:(G.cm=true/\G.rs=true)/\cf G T t=true)(LQ:cw Z G s it=true/\eW s t=true)(ha:HR X x (RS X.K ex (aG cl a))):PS X (.For t it x [] pos) (RS X.K ex (Gw cl (.Fp T s a))):=by
 have hT:=NU.2
 have hs:=LQ.1
 by_cases hr:qw s=true
 ·refine aQ (oY (g.own NU.1.2) (g.calm NU.1.1) (EI s X ex G it t g hs hr) (LP g T t hT) ha (fun x=>bX hs X.env x)) fun Dn σ H ⟨B,F,τ,f,m,q⟩=>?_
  have q0:ES ex (U (kQ cl s τ) fun p=>forM (fun x τ=>U (bP T x τ) fun EW=>aG cl a EW) p.1 p.2) (Fk X.K B Dn):=q
  have base:ES ex (dn cl s τ) fun its=>ES ex (forM (fun x τ=>U (bP T x τ) fun EW=>aG cl a EW) its τ) (Fk X.K B Dn):=by
   cases s with
   | FO u=>exact(ES.U (show ES ex (U (dn cl (.FO u) τ) fun its=>.ok (its,τ)) _ from ES.U q0)).mono fun its h=>h.ok
   | G4 u v=>exact(ES.U (show ES ex (U (dn cl (.G4 u v) τ) fun its=>.ok (its,τ)) _ from ES.U q0)).mono fun its h=>h.ok
   | _=>cases hr
  exact⟨fun _=>True,τ,aX m.FU,(qx hr base).mono fun p hp H1 e1=>j5 (m.grow e1) (.Jg p.1 p.2) (by rw[vi];exact hp)⟩
 ·refine aQ (oY (g.own NU.1.2) (g.calm NU.1.1) (vd s X ex G it t g hs LQ.2) (LP g T t hT) ha (fun x=>bX hs X.env x)) fun Dn σ H ⟨B,F,τ,f,m,q⟩=>?_
  have q0:ES ex (U (kQ cl s τ) fun p=>forM (fun x τ=>U (bP T x τ) fun EW=>aG cl a EW) p.1 p.2) (Fk X.K B Dn):=q
  have q1:=ES.U q0
  have Qw:kQ cl s τ=(U (dn cl s τ) fun its=>.ok (E0 its,Fb (dN s) τ)):=by
   cases s with
   | val u=>rfl
   | zip u v=>rfl
   | _=>exact absurd rfl hr
  rw[Qw] at q1
  obtain⟨F1,gg,b1,b2,b3,b4,b5,b6⟩:=dW (dN s) m.Fi m.FU m.FI
  refine BP (.refl _) b6 (ES.U q1) fun its J H1 e1 _ w1 hk=>?_
  obtain⟨c1,c2,c3⟩:=grow (fun _=>True) b1 b2 e1
  have m2:FJ X.K B (fun a=>F1 a∨(True/\H a=none/\H1 a≠none)) H1 σ (Fb (dN s) τ) gg:=m.GQ (b4.trans c3 (fun x hx=>.inl (b5 x hx))) c1 c2 b3 fun a ha=>.inl (b5 a ha)
  exact j5 m2 (w1.step (fun a xs h r=>⟨h.elim (fun z=>.inl z) fun z=>.inr ⟨trivial,z,r.some⟩,r⟩) fun a xs h=>h) hk.ok
mutual
theorem Sj:∀ (a:IS) (X:Cx) (ex:Str->Prop) (G:Gm) (s:Stmt),Fz Z CX cl xp X ex G->qv Z G a s=true->PS X s (RS X.K ex (Gw cl a))
 | .asg tg e,X,ex,G,s,g,h=>by
  cases s with
  | Assign ts v pos=>
   match ts,h with
   | [t],h=>
    have h':(cf G tg t&&E3 Z G e v&&(isName t||(isTup t&&notTuple v)))=true:=h
    simp only[Bool.and_eq_true] at h'
    exact Ho g h'.1.1 h'.1.2 h'.2
   | [],h=>first|exact aa h|cases h
   | _::_::_,h=>first|exact aa h|cases h
  | _=>first|exact aa h|cases h
 | .par i j a b,X,ex,G,s,g,h=>by cases s<;>first|exact aa h|cases h
 | .KR i k e,X,ex,G,s,g,h=>by cases s<;>first|exact aa h|cases h
 | .Ie i k e,X,ex,G,s,g,h=>by
  cases s with
  | Assign ts v pos=>
   cases ts with
   | nil=>first|exact aa h|cases h
   | cons t ts=>
    cases ts with
    | cons _ _=>cases t<;>first|exact aa h|cases h|(rename_i o _ _;cases o<;>cases h)
    | nil=>
     cases t with
     | Subscript o s sp=>
      cases o with
      | Name x p=>
       have h':(cD G i x&&cC s&&E3 Z G k s&&E3 Z G e v)=true:=h
       simp only[Bool.and_eq_true] at h'
       exact GJ g h'.1.1.1 h'.1.1.2 h'.1.2 h'.2
      | _=>first|exact aa h|cases h
     | _=>first|exact aa h|cases h
  | _=>first|exact aa h|cases h
 | .ext i e,X,ex,G,s,g,h=>by
  cases s with
  | Expr v pos=>
   cases v with
   | Call fn args Gy E2=>
    cases fn with
    | Attribute o name apos=>
     cases o with
     | Name x p=>
      match args,Gy,h with
      | [v],[],h=>
       have h':(cD G i x&&name == "extend"&&apos.endLine == E2.line&&notStar v&&E3 Z G e v)=true:=h
       simp only[Bool.and_eq_true] at h'
       have e1:name = "extend":=eq_of_beq h'.1.1.1.2
       subst e1
       exact Hq g h'.1.1.1.1 h'.1.1.2 h'.1.2 h'.2
      | [],_,h=>first|exact aa h|cases h
      | [_],_::_,h=>first|exact aa h|cases h
      | _::_::_,_,h=>first|exact aa h|cases h
     | _=>first|exact aa h|cases h
    | _=>first|exact aa h|cases h
   | _=>first|exact aa h|cases h
  | _=>first|exact aa h|cases h
 | .ins i k e,X,ex,G,s,g,h=>by
  cases s with
  | Expr v pos=>
   cases v with
   | Call fn args Gy E2=>
    cases fn with
    | Attribute o name apos=>
     cases o with
     | Name x p=>
      match args,Gy,h with
      | [s,v],[],h=>
       have h':(cD G i x&&name == "insert"&&apos.endLine == E2.line&&(notStar s&&notStar v)&&E3 Z G k s&&E3 Z G e v)=true:=h
       simp only[Bool.and_eq_true] at h'
       have e1:name = "insert":=eq_of_beq h'.1.1.1.1.2
       subst e1
       exact Hr g h'.1.1.1.1.1 h'.1.1.1.2 h'.1.1.2.1 h'.1.1.2.2 h'.1.2 h'.2
      | [],_,h=>first|exact aa h|cases h
      | [_],_,h=>first|exact aa h|cases h
      | [_,_],_::_,h=>first|exact aa h|cases h
      | _::_::_::_,_,h=>first|exact aa h|cases h
     | _=>first|exact aa h|cases h
    | _=>first|exact aa h|cases h
   | _=>first|exact aa h|cases h
  | _=>first|exact aa h|cases h
 | .app i e,X,ex,G,s,g,h=>by
  cases s with
  | Expr v pos=>
   cases v with
   | Call fn args Gy E2=>
    cases fn with
    | Attribute o name apos=>
     cases o with
     | Name x p=>
      match args,Gy,h with
      | [v],[],h=>
       have h':(cD G i x&&name == "append"&&apos.endLine == E2.line&&notStar v&&E3 Z G e v)=true:=h
       simp only[Bool.and_eq_true] at h'
       have e1:name = "append":=eq_of_beq h'.1.1.1.2
       subst e1
       exact Ht g h'.1.1.1.1 h'.1.1.2 h'.1.2 h'.2
      | [],_,h=>first|exact aa h|cases h
      | [_],_::_,h=>first|exact aa h|cases h
      | _::_::_,_,h=>first|exact aa h|cases h
     | _=>first|exact aa h|cases h
    | _=>first|exact aa h|cases h
   | _=>first|exact aa h|cases h
  | _=>first|exact aa h|cases h
 | .RX i,X,ex,G,s,g,h=>by cases s<;>first|exact aa h|cases h
 | .pop j i,X,ex,G,s,g,h=>by
  cases s with
  | Assign ts v pos=>
   cases ts with
   | nil=>first|exact aa h|cases h
   | cons t ts=>
    cases ts with
    | cons _ _=>first|exact aa h|cases h
    | nil=>
     cases v with
     | Call fn args Gy E2=>
      cases fn with
      | Attribute o name apos=>
       cases o with
       | Name x p=>
        match args,Gy,h with
        | [v],[],h=>
         have h':(isName t&&cf G (.nm j) t&&cD G i x&&name == "pop"&&apos.endLine == E2.line&&notStar v&&E3 Z G (.c (.int 0)) v)=true:=h
         simp only[Bool.and_eq_true] at h'
         have e1:name = "pop":=eq_of_beq h'.1.1.1.2
         subst e1
         exact Hs g h'.1.1.1.1.1.1 h'.1.1.1.1.1.2 h'.1.1.1.1.2 h'.1.1.2 h'.1.2 h'.2
        | [],_,h=>first|exact aa h|cases h
        | [_],_::_,h=>first|exact aa h|cases h
        | _::_::_,_,h=>first|exact aa h|cases h
       | _=>first|exact aa h|cases h
      | _=>first|exact aa h|cases h
     | _=>first|exact aa h|cases h
  | _=>first|exact aa h|cases h
 | .RY i,X,ex,G,s,g,h=>by cases s<;>first|exact aa h|cases h
 | .Nw _ _ _,X,ex,G,s,g,h=>by cases s<;>first|exact aa h|cases h
 | .exp e,X,ex,G,s,g,h=>by
  cases s with
  | Expr v pos=>
   have h':(i0 v&&E3 Z G e v)=true:=by cases v<;>first|exact h|(rename_i c _ _;cases c<;>exact h)
   simp only[Bool.and_eq_true] at h'
   exact zV g h'.1 h'.2
  | _=>first|exact aa h|cases h
 | .ret e,X,ex,G,s,g,h=>by
  cases s with
  | Return v pos=>
   cases v with
   | none=>first|exact aa h|cases h
   | some v=>exact Hu g h
  | _=>first|exact aa h|cases h
 | .Kl,X,ex,G,s,g,h=>by
  cases s with
  | Return v pos=>
   cases v with
   | none=>exact vg
   | some v=>first|exact aa h|cases h
  | _=>first|exact aa h|cases h
 | .Fg t a b,X,ex,G,s,g,h=>by
  cases s with
  | If c x y pos=>
   have h':(E3 Z G t c&&cW Z G a x&&cW Z G b y)=true:=h
   simp only[Bool.and_eq_true] at h'
   exact II (snd t X ex G c g h'.1.1).2 (qy a X ex G x g h'.1.2) (qy b X ex G y g h'.2)
  | _=>first|exact aa h|cases h
 | .Fp tg s body,X,ex,G,st,g,h=>by
  cases st with
  | For t it b Qx pos=>
   cases Qx with
   | cons _ _=>first|exact aa h|cases h
   | nil=>
    have h':(((G.cm&&G.rs)&&cf G tg t)&&(cw Z G s it&&eW s t)&&cW Z G body b)=true:=h
    simp only[Bool.and_eq_true] at h'
    exact Hv g h'.1.1 h'.1.2 (qy body X ex G b g h'.2)
  | _=>first|exact aa h|cases h
 | .Gv t body,X,ex,G,s,g,h=>by
  cases s with
  | While c b Qx pos=>
   cases Qx with
   | cons _ _=>first|exact aa h|cases h
   | nil=>
    have h':((G.rs&&E3 Z G t c)&&cW Z G body b)=true:=h
    simp only[Bool.and_eq_true] at h'
    exact Gj g h'.1.1 (snd t X ex G c g h'.1.2).2 (qy body X ex G b g h'.2)
  | _=>first|exact aa h|cases h
 | .brk,X,ex,G,s,g,h=>by
  cases s with
  | Break pos=>exact aQ oQ fun Dn σ H ⟨B,F,τ,f,m,q⟩=>q.ok _ _ _ _ m
  | _=>first|exact aa h|cases h
 | .cnt,X,ex,G,s,g,h=>by
  cases s with
  | Continue pos=>exact aQ jx fun Dn σ H ⟨B,F,τ,f,m,q⟩=>q.ok _ _ _ _ m
  | _=>first|exact aa h|cases h
 | .pass,X,ex,G,s,g,h=>by
  cases s with
  | Pass pos=>exact aQ uf fun Dn σ H ⟨B,F,τ,f,m,q⟩=>q.ok _ _ _ _ m
  | Expr v pos=>
   cases v with
   | Constant c j p=>
    cases c with
    | str z=>exact aQ yM fun Dn σ H ⟨B,F,τ,f,m,q⟩=>q.ok _ _ _ _ m
    | _=>first|exact aa h|cases h
   | _=>first|exact aa h|cases h
  | _=>first|exact aa h|cases h
 | .JC n c w,X,ex,G,s,g,h=>by cases s<;>first|exact aa h|cases h
 | .Ny body n cs i hd,X,ex,G,s,g,h=>by cases s<;>exact aa h
 | .JD n c e,X,ex,G,s,g,h=>by cases s<;>first|exact aa h|cases h
 | .Nx i f es n cs k hd,X,ex,G,s,g,h=>by cases s<;>first|exact aa h|cases h
 | .never,X,ex,G,s,g,h=>aQ oR fun Dn σ H ⟨B,F,τ,f,m,q⟩=>q.no.elim
theorem qy:∀ (as:List IS) (X:Cx) (ex:Str->Prop) (G:Gm) (ss:List Stmt),Fz Z CX cl xp X ex G->cW Z G as ss=true->HR X ss (RS X.K ex (aG cl as))
 | [],X,ex,G,ss,g,h=>by
  cases ss with
  | nil=>exact eY lU fun Dn σ H ⟨B,F,τ,f,m,q⟩=>q.ok _ _ _ _ m
  | cons _ _=>first|exact aa h|cases h
 | a::as,X,ex,G,ss,g,h=>by
  cases ss with
  | nil=>first|exact aa h|cases h
  | cons s ss=>
   have h':(qv Z G a s&&cW Z G as ss)=true:=h
   simp only[Bool.and_eq_true] at h'
   refine eY (jw (Sj a X ex G s g h'.1) (qy as X ex G ss g h'.2)) fun Dn σ H ⟨B,F,τ,f,m,q⟩=>?_
   refine⟨B,F,τ,f,m,(ES.U q).mono fun r hr=>?_⟩
   cases r with
   | nx EW=>exact fun E4 H' F' f' m'=>⟨B,F',EW,f',m',hr⟩
   | ct EW=>exact hr.ok
   | bk EW=>exact hr.ok
   | rt d=>exact hr.ok
end
end
section
variable {P:Program}{w:World}
theorem mC {outer:List Env}{H:Hp}{s:Shared}{E:XK}{e:Value}{s':Shared}(x:FD P w H s.heap)(fr:∀ b∈FX outer,H b=none)(h:GH P w outer (aM s.heap H) s E e s'):GH P w outer H s E e s':=by
 obtain⟨a,cls,a0,H',B,h1,h2,h3,h4,h5,_,h6,h7,h8⟩:=h
 exact⟨a,cls,a0,dP H H',B,h1,h2,h3,kT x h4,kS x h5 (dQ h4) h6 fr,jU,fun b o e n f=>h6 b o e (bM n) f,h7,h8⟩
theorem qz {outer:List Env}{H:Hp}{s:Shared}{e:Value}{s':Shared}:¬ GH P w outer H s (fun _ _ _=>False) e s':=fun ⟨_,_,_,_,_,_,_,_,_,_,_,_,_,z⟩=>z
variable {K:PySem.W.Frag}{mg:Str->Option Value}{base:Heap}{N:List Str}{qual:Str}{scope:Scope}{f:Addr}{cd:Value}{A:Around}{outer:List Env}{s:Shared}{H:Hp}{E:XK}
theorem wa {H':Hp}{B:Heap}{s2:Shared}{a:Addr}{cls a0:Value}(lt:LJ H)(os:s2.os=s.os)(bare:AllBare s2.gens)(fl:Heap.FlyingW B outer a cls a0 s2.heap)(hB:FD P w H' B)
  (kB:∀ b o,s.heap.get? b=some o->H b=none->b∉FX outer->B.get? b=some o) (hs:∀ b o,s.heap.get? b=some o->H b=none->b∈FX outer->∃ sl,s2.heap.get? b=some {o with slots:=sl})
  (fr:∀ b o,s.heap.get? b=some o->H b=none->H' b=none) (pz:∀ b o u,H b=some (.Fb o u)->H' b=some (.Fb o u)) (pt:∀ b xs,H b=some (.tup xs)->H' b=some (.tup xs)) (hE:E cls none H0):GH P w outer H s E (.ref a) s2:=by
 refine⟨a,cls,a0,H',B,rfl,os,bare,⟨fun b o e n nf _=>fl.1 _ _ (kB b o e n nf),fun b o e n hf _=>hs b o e n hf,fun b o e n _=>fr b o e n,fun b o e _=>?_,pt,pz,fun b ps e=>?_⟩,hB,fun b o e=>(lt b o e).elim (fun ⟨ob,u,z⟩=>by subst z;exact pz _ _ _ e) fun ⟨xs,z⟩=>by subst z;exact pt _ _ e,kB,fl,hE⟩
 ·cases q:H b with
  | none=>
   by_cases hf:b∈FX outer
   ·obtain⟨sl,h⟩:=hs b o e q hf
    exact⟨_,h⟩
   ·exact⟨_,fl.1 _ _ (kB b o e q hf)⟩
  | some u=>
   have:∃ u',H' b=some u':=by
    rcases lt b u q with ⟨ob,v,rfl⟩|⟨xs,rfl⟩
    ·exact⟨_,pz _ _ _ q⟩
    ·exact⟨_,pt _ _ q⟩
   obtain⟨u',hu⟩:=this
   obtain⟨ob,ho⟩:=(hB b u' hu).at
   exact⟨_,fl.1 _ _ ho⟩
 ·rcases lt b _ e with ⟨ob,v,z⟩|⟨xs,z⟩<;>cases z
theorem wb {b:Addr}{o:Obj}(e:s.heap.get? b=some o)(n:b∉FX outer):b∉FX (envOfC qual scope s.heap.objs.size f cd::outer):=fun z=>by
 unfold FX at z n
 rcases List.mem_filterMap.mp z with ⟨env,hm,hf⟩
 rcases List.mem_cons.mp hm with rfl|hm
 ·have h1:s.heap.objs.size=b:=Option.some.inj hf
  have h2:=Heap.lt_size e
  rw[h1] at h2
  exact Nat.lt_irrefl _ h2
 ·exact n (List.mem_filterMap.mpr ⟨env,hm,hf⟩)
theorem vj (lt:LJ H){ex:Str->Prop}(hE:∀ c C,ex c->PySem.W.nsIn K mainGlobals c=some (some (.ref C))->E (.ref C) none H0) :
  Passes (GH P w) (cI (GH P w) P w K mg base N qual scope f cd A outer s H E) (fun cls _ _=>∃ c C,ex c/\PySem.W.nsIn K mainGlobals c=some (some (.ref C))/\cls=.ref C):=by
 intro pins σ H1 s1 e s' I ⟨a,cls,a0,H',B,he,os,bare,un,hB,_,kB,fl,c,C,hc,hn,Le⟩
 subst he Le
 have I':=I.KC os un (hB.kept fl.1) bare (fun b z=>absurd z (by simp))
 show wpAny _ _ (leaving _ (.ref a)) _ _ s'
 refine wpAny_leaves_onW (show (A.deeper (envOfC qual scope s.heap.objs.size f cd)).frames=some (envOfC qual scope s.heap.objs.size f cd::outer) from I.ok.frames) rfl fl fun h' Vf up=>?_
 refine wa lt I'.os I'.bare Vf hB (fun b o e n nf=>?_) (fun b o e n hf=>?_) (fun b o e n=>I'.base.free b o e n (by simp[cI])) I'.base.FV I'.base.Gd (hE c C hc hn)
 ·exact kB b o (I.base.keep b o e n nf (by simp[cI])) (I.base.free b o e n (by simp[cI])) (wb e nf)
 ·obtain⟨sl,h1⟩:=I'.base.slot b o e n hf (by simp[cI])
  obtain⟨_,o',GZ,nf⟩:=I.ok.Ge.mem hf
  have GZ:s.heap.get? b=some o':=GZ
  rw[e] at GZ
  cases GZ
  obtain⟨MY,h2⟩:=up b _ h1 nf
  exact⟨MY,h2⟩
theorem qA (lt:LJ H){pins:List (Addr×Obj)}{σ:St}{H1:Hp}{s1:Shared}{C e:Addr}{h':Heap}{vs:List Value}(hE:E (.ref C) none H0)
  (I:Inv (cI (GH P w) P w K mg base N qual scope f cd A outer s H E) pins σ H1 s1) (hx:Heap.MadeExcOf s1.heap h' e (.ref C) vs) :
  (cI (GH P w) P w K mg base N qual scope f cd A outer s H E).xe (.ref e) {s1 with heap:=h'}:=by
 have P0:∀ env∈(cI (GH P w) P w K mg base N qual scope f cd A outer s H E).stack,∀ b,env.frame=some b->b∈FX (cI (GH P w) P w K mg base N qual scope f cd A outer s H E).stack:=fun env he b hb=>List.mem_filterMap.mpr ⟨env,he,hb⟩
 show wpAny _ _ (leaving _ (.ref e)) _ _ _
 refine wpAny_leaves_madeW (base:=PySem.W.hideAll s1.heap (FX (cI (GH P w) P w K mg base N qual scope f cd A outer s H E).stack)) (h:=s1.heap) (show (A.deeper (envOfC qual scope s.heap.objs.size f cd)).frames=some (envOfC qual scope s.heap.objs.size f cd::outer) from I.ok.frames) rfl (fun b o q=>PySem.W.of_hideAll _ q) (PySem.W.funFrames_hide I.stack P0) hx fun h2 t fl _ _ up=>?_
 have Lc:∀ b u o,H1 b=some u->s1.heap.get? b=some o->(PySem.W.hideAll s1.heap (FX (cI (GH P w) P w K mg base N qual scope f cd A outer s H E).stack)).get? b=some o:=fun b u o hu ho=>PySem.W.hideAll_get _ ho fun z=>by
  rw[I.Ha b z] at hu;cases hu
 refine wa (H':=H1) lt I.os I.bare fl (fun b o hb=>?_) (fun b o he n nf=>?_) (fun b o he n hf=>?_) (fun b o e n=>I.base.free b o e n (by simp[cI])) I.base.FV I.base.Gd hE
 ·refine(I.E7 b o hb).GY (fun c u hc hu=>?_) (fun _ z=>z) fun _ _ z=>z
  rcases hc with rfl|hc
  ·exact Lc _ _ _ hb hu
  ·exact Lc _ _ _ hc hu
 ·exact PySem.W.hideAll_get _ (I.base.keep b o he n nf (by simp[cI])) (wb he nf)
 ·obtain⟨sl,h1⟩:=I.base.slot b o he n hf (by simp[cI])
  obtain⟨_,o',GZ,nf⟩:=I.ok.Ge.mem hf
  have GZ:s.heap.get? b=some o':=GZ
  rw[he] at GZ
  cases GZ
  obtain⟨MY,h3⟩:=up b _ (hx.keeps b _ h1) nf
  exact⟨MY,h3⟩
end
def Sk (K:PySem.W.Frag)(B:Bs)(ex:Str->Prop)(g:Ev->Res Fl):TS:=fun Dn σ H=>∃ F τ f,FJ K B F H σ τ f/\ES ex (g τ) (Fk K B Dn)
section
variable {X:Cx}{pins Ip:List (Addr×Obj)}{σ:St}{H:Hp}{s:Shared}{E:Value->Shared->Prop}{a:Addr}
end
section
variable {Z:Sg}{CX:F5}{cl:Nat->List D->Res D}{xp:XK->Hp->Str->Prop}{X:Cx}{ex:Str->Prop}{G:Gm}{pins:List (Addr×Obj)}{a:Addr}
end
noncomputable def qB (Z:Sg)(G:Gm):List IS->List Stmt->Bool
 | [],[]=>true
 | a::as,s::ss=>qv Z G a s&&qB Z G as ss
 | _,_=>false
section
variable {Z:Sg}{cl:Nat->List D->Res D}{X:Cx}{ex:Str->Prop}{G:Gm}
theorem Sl (g:Fz Z (GH X.prog X.w) cl (JF X.K) X ex G)(F8:X.stack=X.env::X.outer)(Vg:X.env.frame=some X.env.locals)(lt:LJ X.G9)(J5:∀ a:Addr,∀ f∈Z.fns,f∈Z.pl->∀ x,Z.name f=some x->NB X.prog X.w X.K X.mg X.base (GH X.prog X.w) (X.A.mark (some (.ref a))) cl (JF X.K) f x)
  {B0:Bs} (Sm:B0.H=X.G9) (Vh:Hl B0.F B0.H) (Vi:∀ a xs,¬ B0.L a xs) (Vj:∀ a xs,¬ B0.T a xs):∀ (as:List IS) (ss:List Stmt),qB Z G as ss=true->HR X ss (Sk X.K B0 ex (aG cl as))
 | [],ss,h=>by
  cases ss with
  | nil=>exact eY lU fun Dn σ H ⟨F,τ,f,m,q⟩=>q.ok _ _ _ _ m
  | cons _ _=>cases h
 | a::as,ss,h=>by
  cases ss with
  | nil=>cases h
  | cons s ss=>
   have h':(qv Z G a s&&qB Z G as ss)=true:=h
   rw[Bool.and_eq_true] at h'
   have p1:PS X s (Sk X.K B0 ex (Gw cl a)):=by
    exact aQ (Sj a X ex G s g h'.1) fun Dn σ H ⟨F,τ,f,m,q⟩=>⟨B0,F,τ,f,m,q⟩
   refine eY (jw p1 (Sl g F8 Vg lt J5 Sm Vh Vi Vj as ss h'.2)) fun Dn σ H ⟨F,τ,f,m,q⟩=>?_
   refine⟨F,τ,f,m,(ES.U q).mono fun r hr=>?_⟩
   cases r with
   | nx EW=>exact fun E4 H' F' f' m'=>⟨F',EW,f',m',hr⟩
   | ct EW=>exact hr.ok
   | bk EW=>exact hr.ok
   | rt d=>exact hr.ok
end
noncomputable def aA (Z:Sg)(fn:Fn)(ps:List Str)(st:Stmt):Bool:=
 (ar st).kind == .function&&!(ar st).isCoroutine&&!(ar st).isGenerator&&decide (fn.G.N.Nodup)&&fn.G.N.take ps.length == ps
&&ps.all (fun x=>(ar st).names.lookup x == some .local||(ar st).names.lookup x == some .cell)&&(ar st).names.all (fun y=>y.2 != .free)
&&(List.range fn.G.N.length).all (fun i=>(fn.G.N[i]?).bind ((ar st).names.lookup ·) == fn.G.kd[i]?)
&&fn.G.N.all (fun x=>!(x == "__debug__")&&!(x == "__classdict__"))
&&fn.G.gl.all (fun n=>match Z.name n with|some x=>(ar st).names.lookup x == some .globalImplicit|none=>false)
&&decide (ps.length=fn.np)&&qB Z fn.G fn.body (bB st)
structure IJ (Z:Sg)(fn:Fn)(ps:List Str)(st:Stmt):Prop where
 sc:Hb fn.G.N ps (ar st)
 kd:∀ (i:Nat) (x:Str),fn.G.N[i]? = some x->(ar st).names.lookup x=fn.G.kd[i]?
 Ko:∀ x∈fn.G.N,(x == ("__debug__" : Str))=false/\(x == ("__classdict__" : Str))=false
 gl:∀ n∈fn.G.gl,∀ x,Z.name n=some x->(ar st).names.lookup x=some .globalImplicit
 np:ps.length=fn.np
 body:qB Z fn.G fn.body (bB st)=true
theorem j6 {Z:Sg}{fn:Fn}{ps:List Str}{st:Stmt}(h:aA Z fn ps st=true):IJ Z fn ps st:=by
 unfold aA at h
 simp only[Bool.and_eq_true] at h
 obtain⟨⟨⟨⟨⟨⟨⟨⟨⟨⟨⟨h1,h2⟩,h3⟩,h4⟩,h5⟩,h6⟩,h7⟩,h8⟩,h9⟩,KP⟩,Mp⟩,Hg⟩:=h
 rw[List.all_eq_true] at h6 h7 h8 h9 KP
 refine⟨⟨eq_of_beq h1,by simpa using h2,by simpa using h3,of_decide_eq_true h4,eq_of_beq h5,fun x hx=>?_,fun y hy=>by simpa using h7 y hy⟩,fun i x hx=>?_,fun x hx=>by simpa using h9 x hx,fun n hn x hx=>?_,of_decide_eq_true Mp,Hg⟩
 ·have:=h6 x hx
  rw[Bool.or_eq_true] at this
  exact this.elim (fun z=>.inl (eq_of_beq z)) fun z=>.inr (eq_of_beq z)
 ·have FH:i < fn.G.N.length:=(List.getElem?_eq_some_iff.mp hx).1
  have:=eq_of_beq (h8 i (List.mem_range.mpr FH))
  rw[hx] at this
  exact this
 ·have:=KP n hn
  rw[hx] at this
  exact eq_of_beq this
structure Fd (K:PySem.W.Frag)(mg:Str->Option Value)(Z:Sg)(T:Tb)(f:Nat)(x:Str):Prop where
 ex:∃ (fn:Fn) (st:Stmt) (fa:Addr) (fd:FuncData) (ps:List Str),T f=some fn/\Mn K x x st fa fd/\mg x=some (.ref fa)/\Binds K fd ps []/\IJ Z fn ps st
section
variable {P:Program}{w:World}{K:PySem.W.Frag}{mg:Str->Option Value}{base:Heap}{Z:Sg}{T:Tb}
def Sn (mg:Str->Option Value)(x:Str)(v:V):Prop:=(∃ C,v=.ref C/\mg x=some (.ref C))∨(∃ T,v=.ty T/\mg x=none/\bootBuiltins x=some (.type T))
structure IK (K:PySem.W.Frag)(mg:Str->Option Value)(Z:Sg)(T:Tb):Prop where
 LM:∀ n x,Z.name n=some x->x≠"__name__"/\(x == ("__debug__" : Str))=false
 blt:∀ (n:Nat) (x:Str),aZ[n]? = some x->mg x=none
 cst:∀ n d x,(n,d)∈Z.My->Z.name n=some x->∃ u v,mg x=some u/\RelV v u/\∀ S H,ET K S H v d
 fns:∀ f∈Z.fns,∀ x,Z.name f=some x->Fd K mg Z T f x
 So:∀ f∈Z.pl,∀ fn,T f=some fn->fn.G.cm=false
 NC:∀ n∈Z.cls,∀ x,Z.name n=some x->∃ v,Sn mg x v
 ND:∀ c n b x,(c,n,b)∈Z.xt->Z.name n=some x->∃ C,PySem.W.nsIn K mainGlobals c=some (some (.ref C))/\ExcAt K C/\∀ v,Sn mg x v->PySem.W.kitOne K (.ref C) (vv v)=some b
 NF:∀ c n x,(c,n)∈Z.xm->Z.name n=some x->∃ C C',PySem.W.nsIn K mainGlobals c=some (some (.ref C))/\PySem.W.nsIn K mainGlobals x=some (some (.ref C'))/\nameIn K C=some c/\mg x=some (.ref C')/\PySem.W.exmOne K (.ref C) (.ref C')=some true
 NG:∀ n c,(n,c)∈Z.rc->Z.name n=some c/\∃ C,mg c=some (.ref C)/\PySem.W.nsIn K mainGlobals c=some (some (.ref C))/\PySem.W.excIn K C R3 "ValueError.__new__" = true
theorem ia {F:Addr->Prop}{H:Hp}:∀ {vs:List V}{ds:List D} (n:Nat),ER K F H vs ds->Fq K F H (vs.map some++List.replicate n none) ((E0 ds).map some++List.replicate n none) []
 | [],[],n,.nil=>by
  induction n with
  | zero=>exact .nil
  | succ n ih=>exact .none ih
 | v::vs,d::ds,n,.cons h1 h2=>.some (f:=[]) h1.frozen (ia n h2)
structure Rm (n:Nat)(A:Around):Prop where
 dp:A.depth+3*n+5 < recursionLimit
 un:A.units+16*n+200 < cLine
theorem Rm.room {n:Nat}{A:Around}(r:Rm n A)(hn:n < 900)(h:A.handled=none):F7 n A:=⟨fun _=>h,by have:=r.dp;rw[Nat.mod_eq_of_lt (by omega)];exact this,by have:=r.un;rw[Nat.mod_eq_of_lt (by omega)];exact this⟩
theorem Rm.K3 {n:Nat}{A:Around}(r:Rm n A)(hn:n < 900):F7 (1000+n) A:=⟨fun z=>by omega,by have:=r.dp;rw[show (1000+n) % 1000=n by omega];exact this,by have:=r.un;rw[show (1000+n) % 1000=n by omega];exact this⟩
theorem Rm.of {n k:Nat}{A:Around}(r:F7 k A)(h:k % 1000=n):Rm n A:=⟨by have:=r.dp;rw[h] at this;exact this,by have:=r.un;rw[h] at this;exact this⟩
theorem i3 (t:IK K mg Z T){n k:Nat}{f:Nat}{fn:Fn}{x:Str}{st:Stmt}{fa:Addr}{fd:FuncData}{ps:List Str}(hk:k % 1000=n)(hn:n < 900)(h1:T f=some fn)(h2:Mn K x x st fa fd)(h5:IJ Z fn ps st)(hp:k < 1000∨fn.G.cm=false)
  (ih:∀ (A:Around),Rm n A->∀ f∈Z.fns,(A.handled=none∨f∈Z.pl)->∀ x,Z.name f=some x->NB P w K mg base (GH P w) A (ae T n) (JF K) f x) :
  GL P w K mg base (GH P w) (k+1) fa fd ps (LL K (ae T (n+1)) (JF K) f ps):=by
 have JI:∀ ds,ae T (n+1) f ds=iS (ae T n) fn ds:=fun ds=>by
  show (match T f with|some fn=>iS (ae T n) fn ds|none=>EY)=_
  rw[h1]
 obtain⟨oc,od,kV,doc,pm,an,GV,ct,KI,rfl,lk,J3⟩:=h2.ex
 refine Ba lk J3 h5.sc (by omega) (fun vs H Q E h=>h.1) fun A outer s H vs Q E hr Jk=>?_
 obtain⟨hl,lt,F,ds,Fi,m,q⟩:=Jk
 have JP:fn.G.cm=true->A.handled=none:=fun z=>hp.elim (fun h=>hr.hd h) fun h=>by rw[h] at z;cases z
 refine⟨_,Sl (Z:=Z) (cl:=ae T n) (ex:=JF K E H) (G:=fn.G) (B0:=⟨F,H,fun _ _=>False,fun _ _=>False⟩) ?_ rfl rfl lt (fun a f' K4 L4 x' FT=>ih ((A.deeper (envOfC x (ar st) s.heap.objs.size fa GV)).mark (some (.ref a))) ⟨(Rm.of hr hk).dp,(Rm.of hr hk).un⟩ f' K4 (.inr L4) x' FT) rfl Fi (fun _ _ z=>z) (fun _ _ z=>z) fn.body (bB st) h5.body,?_⟩
 ·refine⟨rfl,h5.sc.nd,fun z=>by show A.handled.isNone=true;rw[JP z];rfl,h5.sc.kind,?_,fun _=>PassesOwn.leaving,fun i y hy=>h5.kd i y hy,fun i y hy=>h5.Ko y (List.mem_of_getElem? hy),fun m hm y hy=>h5.gl m hm y hy,t.LM,fun _ _=>rfl,t.blt,t.cst,?_,t.NC,t.ND,t.NF,t.NG,?_,?_,?_,?_,?_⟩
  ·have:=hr.un
   show (A.deeper _).units+42 < cLine
   omega
  ·exact fun f' K4 hc x' FT=>ih _ (Rm.of hr hk) f' K4 (hc.elim (fun z=>.inl (JP z)) .inr) x' FT
  ·exact fun _ pins σ H1 s1 c C h' e vs I hex hn hx=>qA lt (hex C hn) I hx
  ·exact fun _=>⟨rfl,rfl,lt,fun a f' K4 L4 x' FT=>ih ((A.deeper (envOfC x (ar st) s.heap.objs.size fa GV)).mark (some (.ref a))) ⟨(Rm.of hr hk).dp,(Rm.of hr hk).un⟩ f' K4 (.inr L4) x' FT,fun _ _ _ _ _ _ z=>z,fun c C H' hC Wn Ss=>by rw[hC] at Ss;cases Ss;rfl⟩
  ·exact⟨_,vj (ex:=JF K E H) lt fun c C hc hn=>hc C hn,fun c H' hc C hn=>⟨c,C,hc,hn,rfl⟩⟩
  ·exact fun outer H s E e s' x fr h=>mC x fr h
  ·exact fun H outer s e s'=>qz
 ·rw[JI] at q
  obtain⟨gd,q⟩:=ES.EX q
  have LU:(E0 ds).length=fn.np:=of_decide_eq_true gd
  have IT:fn.G.N.length - vs.length=fn.G.N.length - fn.np:=by rw[m.length,<- bW ds,LU]
  refine⟨F,(E0 ds).map some++List.replicate (fn.G.N.length - fn.np) none,[],⟨Fi,?_,List.nodup_nil,.refl _,fun a ha=>absurd ha (by simp),fun a h=>h,fun a h=>.inl h,fun a xs h=>h.elim,fun a xs h=>h.elim⟩,(ES.U q).mono fun r hr=>?_⟩
  ·show Fq K F H (start fn.G.N vs) _ []
   unfold start
   rw[IT]
   exact ia _ m
  ·cases r with
   | nx EW=>exact fun E4 H' F' f' m'=>hr.ok .EZ H' F' [] ⟨m'.Fi,m'.same,.EZ,List.nodup_nil,fun a ha=>absurd ha (by simp),m'.G7,m'.out⟩
   | rt d=>exact fun v H' F' fv o=>hr.ok v H' F' fv o
   | bk EW=>exact hr.no.elim
   | ct EW=>exact hr.no.elim
theorem mD (t:IK K mg Z T):∀ (n:Nat),n < 900->∀ (A:Around),Rm n A->∀ f∈Z.fns,(A.handled=none∨f∈Z.pl)->∀ x,Z.name f=some x->NB P w K mg base (GH P w) A (ae T n) (JF K) f x
 | 0,h9,A,hr,f,hf,hc,x,hx=>by
  obtain⟨fn,st,fa,fd,ps,h1,h2,h3,h4,h5⟩:=(t.fns f hf x hx).ex
  have no:∀ vs H Q E,¬ LL K (ae T 0) (JF K) f ps vs H Q E:=fun vs H Q E ⟨_,_,F,ds,_,_,h⟩=>h
  exact⟨1000+0,fa,fd,ps,h3,h2.kp,h4,⟨fun vs H Q E h=>h.1,fun A outer s H args us vs Q E _ _ _ _ h=>(no _ _ _ _ h).elim⟩,hr.K3 h9,fun ex ds k h=>h.elim⟩
 | n+1,h9,A,hr,f,hf,hc,x,hx=>by
  obtain⟨fn,st,fa,fd,ps,h1,h2,h3,h4,h5⟩:=(t.fns f hf x hx).ex
  have ih:=mD t n (by omega)
  have hlen:∀ (ex:Str->Prop) ds (k:D->Prop),ES ex (ae T (n+1) f ds) k->ds.length=ps.length:=fun ex ds k h=>by
   have JI:ae T (n+1) f ds=iS (ae T n) fn ds:=by
    show (match T f with|some fn=>iS (ae T n) fn ds|none=>EY)=_
    rw[h1]
   rw[JI] at h
   obtain⟨gd,_⟩:=ES.EX h
   rw[of_decide_eq_true gd,h5.np]
  by_cases J5:f∈Z.pl
  ·exact⟨1000+n+1,fa,fd,ps,h3,h2.kp,h4,i3 t (k:=1000+n) (n:=n) (by omega) (by omega) h1 h2 h5 (.inr (t.So f J5 fn h1)) ih,hr.K3 h9,hlen⟩
  ·exact⟨n+1,fa,fd,ps,h3,h2.kp,h4,i3 t (k:=n) (n:=n) (by omega) (by omega) h1 h2 h5 (.inl (by omega)) ih,hr.room h9 (hc.elim id fun z=>absurd z J5),hlen⟩
end
section
variable {P:Program}{w:World}{K:PySem.W.Frag}{mg:Str->Option Value}{base:Heap}{Z:Sg}{T:Tb}
noncomputable def MF (K:PySem.W.Frag)(cl:Nat->List D->Res D)(f:Nat)(ps:List Str):Sp:=fun vs H Q E=>vs.length=ps.length/\∃ F ds,Hl F H/\ER K F H vs ds/\
 ES GI (cl f (E0 ds)) fun d=>∀ v H' F' fv,Out K F H F' H' v d fv->Q v H'
theorem qC {cl:Nat->List D->Res D}{k f:Nat}{fa:Addr}{fd:FuncData}{ps:List Str}(F:GL P w K mg base (GH P w) k fa fd ps (LL K cl (JF K) f ps)):GL P w K mg base (GH P w) k fa fd ps (MF K cl f ps):=by
 refine⟨fun vs H Q E h=>h.1,fun A outer s H args us vs Q E hr e0 bd r Jk=>?_⟩
 obtain⟨hl,Fc,ds,Fi,m,q⟩:=Jk
 have e1:IV P w K mg base A outer s (aM s.heap H):=⟨e0.frames,e0.mod,fun b o e=>⟨(e0.bs b o e).1,bM (e0.bs b o e).2⟩,e0.J0,e0.Ge,fun b hb=>bM (e0.Jo b hb),qd e0.E7,e0.bare⟩
 have hq:ES (JF K E (aM s.heap H)) (cl f (E0 ds)) fun d=>∀ v H' F' fv,Out K Fc H F' H' v d fv->Q v H':=by
  cases z:cl f (E0 ds) with
  | ok d=>rw[z] at q;exact q
  | error er=>
   rw[z] at q
   cases er with
   | stuck=>exact q.no.elim
   | exc c=>exact False.elim q
 have hs:LL K cl (JF K) f ps vs (aM s.heap H) (fun v H'=>Ih s.heap (aM s.heap H) H'->Q v (dP H H')) E:=
  ⟨hl,qc _ _,_,ds,fun a h=>h.2,mj e0.E7 m,hq.mono fun d hd v H' F' fv o p=>hd v _ _ fv (ml e0.E7 Fi p o)⟩
 refine codeAny_mono (F.run A outer s (aM s.heap H) args us vs _ E hr e1 bd r hs) fun r' s' hq=>?_
 cases r' with
 | error e=>exact mC e0.E7 e0.Jo hq
 | ok fl=>
  cases fl with
  | ret u=>
   obtain⟨v,H',a1,a2,a3,a4,a5,a6⟩:=hq
   exact⟨v,dP H H',a1,a2,kT e0.E7 a3,kS e0.E7 a4 (dQ a3) (fs:=FX outer) (fun b o e n f=>a3.keep b o e n f (by simp)) e0.Jo,a5,a6 (dQ a3)⟩
  | next=>exact hq
  | brk=>exact hq
  | cont=>exact hq
theorem zW (t:IK K mg Z T)(n:Nat)(hn:n < 900){f:Nat}{fn:Fn}{x:Str}{st:Stmt}{fa:Addr}{fd:FuncData}{ps:List Str}(h1:T f=some fn)(h2:Mn K x x st fa fd)(h5:IJ Z fn ps st):GL P w K mg base (GH P w) (n+1) fa fd ps (MF K (ae T (n+1)) f ps):=
 qC (i3 t (k:=n) (n:=n) (by omega) hn h1 h2 h5 (.inl (by omega)) (mD t n hn))
theorem zX {f n:Nat}{x:Str}{a:Addr}{H:Hp}{ns:List Int}(hS:Ls K H a (ns.map V.int))(hl:ae T n f [.lst false (ns.map .int)]=.ok (.bl true)) :
  MF K (ae T n) f [x] [.ref a] H (fun v _=>v=.bl true) fun _ _ _=>False:=by
 have m:ER K (fun a=>H a≠none) H [.ref a] [.lst false (ns.map .int)]:=by
  refine .cons ?_ .nil
  rcases hS with hS|hS
  ·exact .lst hS.some hS (ER.ofInts ns)
  ·exact .lstK hS (ER.ofInts ns)
 refine⟨rfl,fun a=>H a≠none,[.lst false (ns.map .int)],fun a h=>h,m,?_⟩
 have he:E0 [.lst false (ns.map .int)]=[D.lst false (ns.map .int)]:=by
  rw[E0,E0,er,aF,List.map_map]
  rfl
 rw[he,hl]
 intro v H' F' fv o
 cases o.rep
 rfl
theorem qD {l:PySem.W.OpenLaw}{q:Program}{loose:List Str}{XP:(Str->Option Value)->Heap->Prop}{YP:World->Heap->Prop}{d:DefRec}{K:Params->PySem.W.Frag}{T:Tb}{n f:Nat}{x:Str}(hn:l.most=some 63)(Na:d.params.defaults=[])(hr:F7 (n+1) callerA)
  (hY:∀ (w:World) (h:Heap),YP w h->(K w.params).In h)
  (F:∀ (w:World) (mg:Str->Option Value) (fa:Addr) (h:Heap),(K w.params).In h->h.Ns mainGlobals mg->mg d.name=some (.ref fa)->
   ∃ fd:FuncData,(∀ (s:Shared) (u:Value),BindsTo s fd ⟨[u],[]⟩ [(x,u)])/\∀ base:Heap,(K w.params).In base->base.Ns mainGlobals mg->GL l.prog w (K w.params) mg base (GH l.prog w) (n+1) fa fd [x] (MF (K w.params) (ae T (n+1)) f [x]))
  (hl:∀ ns:List Int,ns.length<=63->ae T (n+1) f [.lst false (ns.map .int)]=.ok (.bl true)) :
  PySem.W.WalkO q loose XP YP l.row.toRowW d [] (fun f vs=>PySem.call f vs):=
 L2.uy (n:=63) (k:=n+1) (x:=x) (CX:=fun w=>GH l.prog w) (sp:=fun w=>MF (K w.params) (ae T (n+1)) f [x]) hn (by decide) Na hr hY F (fun w H a ns h1 _ hS=>zX hS (hl ns h1)) fun _ _ _ _ _ z=>qz z
end
namespace Ev
section
variable {α β:Type}{cl:Nat->List D->Res D}{τ:Ev}{mv:Bool}
theorem bc {a:α}{f:α->Res β}:U (.ok a) f=f a:=rfl
theorem wc {x:Res α}:EX true x=x:=rfl
theorem Su {d:D}:EV cl (.c d) τ=.ok d:=rfl
theorem Sw {n:Nat}{d:D}:EV cl (.g n d) τ=.ok d:=rfl
theorem Sy {i:Nat}:EV cl (.v i) τ=(match ai τ i with|some d=>.ok d|none=>EY):=rfl
noncomputable def BY (cl:Nat->List D->Res D)(op:JA)(b:IR)(τ:Ev)(x:D):Res D:=U (EV cl b τ) (GW op x)
theorem qE {op:JA}{b:IR}{x:D}:BY cl op b τ x=U (EV cl b τ) (GW op x):=rfl
theorem we {op:JA}{a b:IR}:EV cl (.bin op a b) τ=U (EV cl a τ) (BY cl op b τ):=rfl
noncomputable def BZ:D->Res D
 | .int i=>.ok (.int (-i))
 | _=>EY
theorem wg {a:IR}:EV cl (.neg a) τ=U (EV cl a τ) BZ:=rfl
theorem qF {i:Int}:BZ (.int i)=.ok (.int (-i)):=rfl
noncomputable def Qy (r:Bool):Res D:=.ok (.bl r)
theorem wj {r:Bool}:Qy r=.ok (.bl r):=rfl
noncomputable def qG (op:IY)(x y:D):Res D:=U (G5 op x y) Qy
theorem mE {op:IY}{x y:D}:qG op x y=U (G5 op x y) Qy:=rfl
noncomputable def B1 (cl:Nat->List D->Res D)(op:IY)(b:IR)(τ:Ev)(x:D):Res D:=U (EV cl b τ) (qG op x)
theorem qH {op:IY}{b:IR}{x:D}:B1 cl op b τ x=U (EV cl b τ) (qG op x):=rfl
theorem wm {op:IY}{a b:IR}:EV cl (.cmp op a b) τ=U (EV cl a τ) (B1 cl op b τ):=rfl
noncomputable def qI (cl:Nat->List D->Res D)(b:IR)(τ:Ev)(x:D)(r:Bool):Res D:=if r=true then EV cl b τ else .ok x
theorem mF {b:IR}{x:D}{r:Bool}:qI cl b τ x r=if r=true then EV cl b τ else .ok x:=rfl
noncomputable def B2 (cl:Nat->List D->Res D)(b:IR)(τ:Ev)(x:D):Res D:=U (aD x) (qI cl b τ x)
theorem qJ {b:IR}{x:D}:B2 cl b τ x=U (aD x) (qI cl b τ x):=rfl
theorem wo {a b:IR}:EV cl (.E8 a b) τ=U (EV cl a τ) (B2 cl b τ):=rfl
noncomputable def zY (cl:Nat->List D->Res D)(b:IR)(τ:Ev)(x:D)(r:Bool):Res D:=if r=true then .ok x else EV cl b τ
theorem qK {b:IR}{x:D}{r:Bool}:zY cl b τ x r=if r=true then .ok x else EV cl b τ:=rfl
noncomputable def Sz (cl:Nat->List D->Res D)(b:IR)(τ:Ev)(x:D):Res D:=U (aD x) (zY cl b τ x)
theorem wq {b:IR}{x:D}:Sz cl b τ x=U (aD x) (zY cl b τ x):=rfl
theorem B3 {a b:IR}:EV cl (.HH a b) τ=U (EV cl a τ) (Sz cl b τ):=rfl
noncomputable def qL (r:Bool):Res D:=.ok (.bl !r)
theorem mG {r:Bool}:qL r=.ok (.bl !r):=rfl
noncomputable def B4 (x:D):Res D:=U (aD x) qL
theorem qM {x:D}:B4 x=U (aD x) qL:=rfl
theorem wt {a:IR}:EV cl (.F3 a) τ=U (EV cl a τ) B4:=rfl
noncomputable def tupK (ds:List D):Res D:=EX (aV ds.length) (.ok (.tup ds))
theorem qN {ds:List D}:tupK ds=EX (aV ds.length) (.ok (.tup ds)):=rfl
theorem wu {es:List IR}:EV cl (.tup es) τ=U (bh cl es τ) tupK:=rfl
noncomputable def lstK (ds:List D):Res D:=EX (aV ds.length) (.ok (.lst true ds))
theorem qO {ds:List D}:lstK ds=EX (aV ds.length) (.ok (.lst true ds)):=rfl
theorem wx {es:List IR}:EV cl (.lst es) τ=U (bh cl es τ) lstK:=rfl
noncomputable def B5 (cl:Nat->List D->Res D)(i:IR)(τ:Ev)(x:D):Res D:=U (EV cl i τ) (bt x)
theorem qP {i:IR}{x:D}:B5 cl i τ x=U (EV cl i τ) (bt x):=rfl
theorem wy {a i:IR}:EV cl (.idx a i) τ=U (EV cl a τ) (B5 cl i τ):=rfl
noncomputable def zZ (cl:Nat->List D->Res D)(hi:Option IR)(τ:Ev)(x:D)(l:Option Int):Res D:=U (iR cl hi τ) (jL x l)
theorem qQ {hi:Option IR}{x:D}{l:Option Int}:zZ cl hi τ x l=U (iR cl hi τ) (jL x l):=rfl
noncomputable def SA (cl:Nat->List D->Res D)(lo hi:Option IR)(τ:Ev)(x:D):Res D:=U (iR cl lo τ) (zZ cl hi τ x)
theorem wz {lo hi:Option IR}{x:D}:SA cl lo hi τ x=U (iR cl lo τ) (zZ cl hi τ x):=rfl
theorem B6 {a:IR}{lo hi:Option IR}:EV cl (.sl a lo hi) τ=U (EV cl a τ) (SA cl lo hi τ):=rfl
noncomputable def wA (cl:Nat->List D->Res D)(f:Nat)(ds:List D):Res D:=cl f (E0 ds)
theorem mH {f:Nat}{ds:List D}:wA cl f ds=cl f (E0 ds):=rfl
theorem qR {f:Nat}{es:List IR}:EV cl (.call f es) τ=U (bh cl es τ) (wA cl f):=rfl
theorem B7 {f:Bi}{es:List IR}:EV cl (.bi f es) τ=U (bh cl es τ) (cR f):=rfl
noncomputable def B8 (k:Kd)(x:D):Res D:=EX (eF x) (.ok (.bl (br k x)))
theorem qT {k:Kd}{x:D}:B8 k x=EX (eF x) (.ok (.bl (br k x))):=rfl
theorem B9:eF .EZ=true:=rfl
theorem Ca {b:Bool}:eF (.bl b)=true:=rfl
theorem Cc {i:Int}:eF (.int i)=true:=rfl
theorem Cd {x:Str}:eF (.str x)=true:=rfl
theorem Ce {ds:List D}:eF (.tup ds)=true:=rfl
theorem Cf {o:Bool}{ds:List D}:eF (.lst o ds)=true:=rfl
theorem qU {a:IR}:EV cl (.Gu a) τ=U (EV cl a τ) uS:=rfl
theorem Cg {o:Bool}{ds:List D}:uS (.lst o ds)=.ok (.lst true ds.reverse):=rfl
noncomputable def Aa (n:Bool)(y x:D):Res D:=jN n x y
theorem qV {n o:Bool}{x:Str}{ks:List Key}{ds:List D}:Aa n (.str x) (.Ff o ks ds)=.ok (.bl (n != (look ks ds (.inr x)).isSome)):=rfl
noncomputable def Ci (cl:Nat->List D->Res D)(n:Bool)(a:IR)(τ:Ev)(y:D):Res D:=U (EV cl a τ) (Aa n y)
theorem qW {n:Bool}{a:IR}{y:D}:Ci cl n a τ y=U (EV cl a τ) (Aa n y):=rfl
theorem wB {n:Bool}{k a:IR}:EV cl (.KQ n k a) τ=U (EV cl k τ) (Ci cl n a τ):=rfl
theorem qX {a:IR}:EV cl (.sset a) τ=U (EV cl a τ) jO:=rfl
theorem wC {a:IR}{k:Kd}:EV cl (.FG a k) τ=U (EV cl a τ) (B8 k):=rfl
noncomputable def Cj (cl:Nat->List D->Res D)(m:Mt)(es:List IR)(τ:Ev)(x:D):Res D:=EX (dz x) (U (bh cl es τ) (fS m x))
theorem qY {m:Mt}{es:List IR}{x:D}:Cj cl m es τ x=EX (dz x) (U (bh cl es τ) (fS m x)):=rfl
theorem wD {m:Mt}{o:IR}{es:List IR}:EV cl (.HV m o es) τ=U (EV cl o τ) (Cj cl m es τ):=rfl
noncomputable def Ab (ds:List D):Res D:=.ok (.lst true ds)
theorem qZ {ds:List D}:Ab ds=.ok (.lst true ds):=rfl
noncomputable def wF (cl:Nat->List D->Res D)(G:Gm)(fr:List Nat)(T:Tg)(I:List IR)(E:IR)(τ:Ev)(its:List D):Res D:=EX (cb its.length) (U (I0 (ax (aC cl T I E (Ij G fr τ)) its)) Ab)
theorem mI {G:Gm}{fr:List Nat}{T:Tg}{I:List IR}{E:IR}{its:List D}:wF cl G fr T I E τ its=EX (cb its.length) (U (I0 (ax (aC cl T I E (Ij G fr τ)) its)) Ab):=rfl
theorem ra {G:Gm}{fr:List Nat}{T:Tg}{s:Sr}{I:List IR}{E:IR}:EV cl (.comp G fr T s I E) τ=U (dn cl s τ) (wF cl G fr T I E τ):=rfl
theorem Ck:bh cl [] τ=.ok []:=rfl
noncomputable def rb (d:D)(ds:List D):Res (List D):=.ok (d::ds)
theorem mJ {d:D}{ds:List D}:rb d ds=.ok (d::ds):=rfl
noncomputable def SD (cl:Nat->List D->Res D)(es:List IR)(τ:Ev)(d:D):Res (List D):=U (bh cl es τ) (rb d)
theorem wG {es:List IR}{d:D}:SD cl es τ d=U (bh cl es τ) (rb d):=rfl
theorem Cm {e:IR}{es:List IR}:bh cl (e::es) τ=U (EV cl e τ) (SD cl es τ):=rfl
noncomputable def Co:D->Res (Option Int)
 | .int i=>.ok (some i)
 | _=>EY
theorem rf {i:Int}:Co (.int i)=.ok (some i):=rfl
theorem Cp:iR cl none τ=.ok none:=rfl
theorem Cq {e:IR}:iR cl (some e) τ=U (EV cl e τ) Co:=rfl
theorem Cr:dA cl [] τ=.ok true:=rfl
noncomputable def SE (cl:Nat->List D->Res D)(es:List IR)(τ:Ev)(r:Bool):Res Bool:=if r=true then dA cl es τ else .ok false
theorem wH {es:List IR}{r:Bool}:SE cl es τ r=if r=true then dA cl es τ else .ok false:=rfl
theorem Cs {e:IR}{es:List IR}:dA cl (e::es) τ=U (U (EV cl e τ) aD) (SE cl es τ):=rfl
noncomputable def wI:D->Res (List D)
 | .int i=>EX (bQ i) (.ok (bA 0 i))
 | _=>EY
theorem mK {i:Int}:wI (.int i)=EX (bQ i) (.ok (bA 0 i)):=rfl
theorem Ct {n:IR}:dn cl (.FO n) τ=U (EV cl n τ) wI:=rfl
noncomputable def Cu (cl:Nat->List D->Res D)(τ:Ev)(b:IR)(x:D):Res (List D):=U (EV cl b τ) fun y=>uR x y
noncomputable def rg (x y:D):Res (List D):=uR x y
theorem rh {b:IR}{x:D}:Cu cl τ b x=U (EV cl b τ) (rg x):=rfl
theorem j7 {o o':Bool}{ds es:List D}:rg (.lst o ds) (.lst o' es)=.ok (dj ds es):=rfl
theorem j8 {ds es:List D}:rg (.tup ds) (.tup es)=.ok (dj ds es):=rfl
theorem wJ {a b:IR}:dn cl (.zip a b) τ=U (EV cl a τ) (Cu cl τ b):=rfl
theorem wK {e:IR}:dn cl (.val e) τ=U (EV cl e τ) eI:=rfl
theorem Cv {o:Bool}{ds:List D}:eI (.lst o ds)=.ok ds:=rfl
theorem Cw {ds:List D}:eI (.tup ds)=.ok ds:=rfl
theorem Cy {x:Str}:eI (.str x)=EX (aV x.length) (.ok (bD x)):=rfl
theorem SF {t:IR}:Hk cl t τ=U (EV cl t τ) aD:=rfl
theorem OW {i:Nat}:Fs cl mv (.v i) τ=(match ai τ i with|some d=>if mv=true then .ok (d,τ.set i none) else .ok (er d,τ.set i (some (er d)))|none=>EY):=rfl
noncomputable def wL (p:List D×Ev):Res (D×Ev):=EX (aV p.1.length) (.ok (.tup p.1,p.2))
theorem mL {p:List D×Ev}:wL p=EX (aV p.1.length) (.ok (.tup p.1,p.2)):=rfl
theorem IF {es:List IR}:Fs cl mv (.tup es) τ=U (fT cl mv es τ) wL:=rfl
noncomputable def wM (p:List D×Ev):Res (D×Ev):=EX (aV p.1.length) (.ok (.lst true p.1,p.2))
theorem mM {p:List D×Ev}:wM p=EX (aV p.1.length) (.ok (.lst true p.1,p.2)):=rfl
theorem IG {es:List IR}:Fs cl mv (.lst es) τ=U (fT cl mv es τ) wM:=rfl
noncomputable def wN (cl:Nat->List D->Res D)(mv:Bool)(a b:IR)(τ:Ev)(r:Bool):Res (D×Ev):=if r=true then Fs cl mv a τ else Fs cl mv b τ
theorem mN {a b:IR}{r:Bool}:wN cl mv a b τ r=if r=true then Fs cl mv a τ else Fs cl mv b τ:=rfl
theorem IH {t a b:IR}:Fs cl mv (.ite t a b) τ=U (Hk cl t τ) (wN cl mv a b τ):=rfl
noncomputable def i4 (es:List IR)(τ:Ev)(d:D):Res (D×Ev):=if ao d=true then .ok (d,τ) else .ok (d,Fb (ay es) τ)
theorem ib {es:List IR}{d:D}:i4 es τ d=if ao d=true then .ok (d,τ) else .ok (d,Fb (ay es) τ):=rfl
noncomputable def ri (cl:Nat->List D->Res D)(f:Nat)(es:List IR)(τ:Ev)(ds:List D):Res (D×Ev):=U (cl f (E0 ds)) (i4 es τ)
theorem j9 {f:Nat}{es:List IR}{ds:List D}:ri cl f es τ ds=U (cl f (E0 ds)) (i4 es τ):=rfl
theorem Hm {f:Nat}{es:List IR}:Fs cl mv (.call f es) τ=U (bh cl es τ) (ri cl f es τ):=rfl
noncomputable def cQ (e:IR)(τ:Ev)(d:D):Res (D×Ev):=.ok (aL e d τ)
theorem mO {e:IR}{d:D}:cQ e τ d=.ok (aL e d τ):=rfl
theorem SG {d:D}:Fs cl mv (.c d) τ=U (EV cl (.c d) τ) (cQ (.c d) τ):=rfl
theorem wO {op:JA}{a b:IR}:Fs cl mv (.bin op a b) τ=U (EV cl (.bin op a b) τ) (cQ (.bin op a b) τ):=rfl
theorem wQ {op:IY}{a b:IR}:Fs cl mv (.cmp op a b) τ=U (EV cl (.cmp op a b) τ) (cQ (.cmp op a b) τ):=rfl
theorem wR {a b:IR}:Fs cl mv (.E8 a b) τ=U (EV cl (.E8 a b) τ) (cQ (.E8 a b) τ):=rfl
theorem wU {a i:IR}:Fs cl mv (.idx a i) τ=U (EV cl (.idx a i) τ) (cQ (.idx a i) τ):=rfl
theorem Cz {a:IR}{lo hi:Option IR}:Fs cl mv (.sl a lo hi) τ=U (EV cl (.sl a lo hi) τ) (cQ (.sl a lo hi) τ):=rfl
theorem CA {f:Bi}{es:List IR}:Fs cl mv (.bi f es) τ=U (EV cl (.bi f es) τ) (cQ (.bi f es) τ):=rfl
theorem rj {a:IR}:Fs cl mv (.Gu a) τ=U (EV cl (.Gu a) τ) (cQ (.Gu a) τ):=rfl
theorem Hn:Fs cl mv .G3 τ=.ok (.Ff true [] [],τ):=rfl
theorem rk {a:IR}:Fs cl mv (.sset a) τ=U (EV cl (.sset a) τ) (cQ (.sset a) τ):=rfl
theorem wV {m:Mt}{o:IR}{es:List IR}:Fs cl mv (.HV m o es) τ=U (EV cl (.HV m o es) τ) (cQ (.HV m o es) τ):=rfl
theorem rn {G:Gm}{fr:List Nat}{T:Tg}{s:Sr}{I:List IR}{E:IR}:Fs cl mv (.comp G fr T s I E) τ=U (EV cl (.comp G fr T s I E) τ) (cQ (.comp G fr T s I E) τ):=rfl
theorem CB:fT cl mv [] τ=.ok ([],τ):=rfl
noncomputable def Ac (d:D)(q:List D×Ev):Res (List D×Ev):=.ok (d::q.1,q.2)
theorem rp {d:D}{q:List D×Ev}:Ac d q=.ok (d::q.1,q.2):=rfl
noncomputable def SH (cl:Nat->List D->Res D)(mv:Bool)(es:List IR)(p:D×Ev):Res (List D×Ev):=U (fT cl mv es p.2) (Ac p.1)
theorem wW {es:List IR}{p:D×Ev}:SH cl mv es p=U (fT cl mv es p.2) (Ac p.1):=rfl
theorem CC {e:IR}{es:List IR}:fT cl mv (e::es) τ=U (Fs cl mv e τ) (SH cl mv es):=rfl
noncomputable def Qz (d:D):Res (Option D):=.ok (some d)
theorem wX {d:D}:Qz d=.ok (some d):=rfl
noncomputable def Ad (cl:Nat->List D->Res D)(E:IR)(τ:Ev)(r:Bool):Res (Option D):=if r=true then U (EV cl E τ) Qz else .ok none
theorem rq {E:IR}{r:Bool}:Ad cl E τ r=if r=true then U (EV cl E τ) Qz else .ok none:=rfl
noncomputable def SI (cl:Nat->List D->Res D)(I:List IR)(E:IR)(τ:Ev):Res (Option D):=U (dA cl I τ) (Ad cl E τ)
theorem wY {I:List IR}{E:IR}:SI cl I E τ=U (dA cl I τ) (Ad cl E τ):=rfl
theorem mP {T:Tg}{I:List IR}{E:IR}{x:D}:aC cl T I E τ x=U (bP T x τ) (SI cl I E):=rfl
theorem rz {G:Gm}{fr:List Nat}:Ij G fr τ=fr.map (ai τ)++List.replicate (G.N.length - fr.length) none:=rfl
theorem SJ {e:IR}{i:Int}:aL e (.int i) τ=(.int i,τ):=rfl
theorem SK {e:IR}{x:Str}:aL e (.str x) τ=(.str x,τ):=rfl
theorem SM {e:IR}{b:Bool}:aL e (.bl b) τ=(.bl b,τ):=rfl
theorem SN {e:IR}:aL e .EZ τ=(.EZ,τ):=rfl
noncomputable def QA (EW:Ev):Res Fl:=.ok (.nx EW)
theorem wZ:QA τ=.ok (.nx τ):=rfl
noncomputable def CD (tg:Tg)(p:D×Ev):Res Fl:=U (bP tg p.1 p.2) QA
theorem rA {tg:Tg}{p:D×Ev}:CD tg p=U (bP tg p.1 p.2) QA:=rfl
theorem Ho {tg:Tg}{e:IR}:Gw cl (.asg tg e) τ=U (Fs cl false e τ) (CD tg):=rfl
noncomputable def Ae (i:Nat)(p:D×Ev):Option D->Res Fl
 | some (.lst true ds)=>EX (cb ds.length) (.ok (.nx (p.2.set i (some (.lst true (ds++[p.1]))))))
 | _=>EY
noncomputable def Af (i:Nat)(p:D×Ev):Res Fl:=Ae i p (ai p.2 i)
theorem rB {i:Nat}{p:D×Ev}:Af i p=Ae i p (ai p.2 i):=rfl
noncomputable def CF (cl:Nat->List D->Res D)(i:Nat)(e:IR)(τ:Ev):Option D->Res Fl
 | some (.lst _ _)=>U (Fs cl false e τ) (Af i)
 | _=>EY
theorem rC {i:Nat}{e:IR}{o:Bool}{ds:List D}:CF cl i e τ (some (.lst o ds))=U (Fs cl false e τ) (Af i):=rfl
theorem rD {i:Nat}{p:D×Ev}{ds:List D}:Ae i p (some (.lst true ds))=EX (cb ds.length) (.ok (.nx (p.2.set i (some (.lst true (ds++[p.1])))))):=rfl
noncomputable def vk (i:Nat)(EW:Ev)(es:List D):Option D->Res Fl
 | some (.lst true ds)=>EX (aV (ds.length+es.length)) (.ok (.nx (EW.set i (some (.lst true (ds++es))))))
 | _=>EY
theorem rE {i:Nat}{EW:Ev}{es ds:List D}:vk i EW es (some (.lst true ds))=EX (aV (ds.length+es.length)) (.ok (.nx (EW.set i (some (.lst true (ds++es)))))):=rfl
noncomputable def Ag (i:Nat)(EW:Ev):D->Res Fl
 | .lst _ es=>vk i EW es (ai EW i)
 | _=>EY
theorem rF {i:Nat}{EW:Ev}{o:Bool}{es:List D}:Ag i EW (.lst o es)=vk i EW es (ai EW i):=rfl
noncomputable def Ah (i:Nat)(p:D×Ev):Res Fl:=Ag i p.2 p.1
theorem rG {i:Nat}{d:D}:Ah i (d,τ)=Ag i τ d:=rfl
noncomputable def CG (cl:Nat->List D->Res D)(i:Nat)(e:IR)(τ:Ev):Option D->Res Fl
 | some (.lst _ _)=>U (Fs cl false e τ) (Ah i)
 | _=>EY
theorem rH {i:Nat}{e:IR}{o:Bool}{ds:List D}:CG cl i e τ (some (.lst o ds))=U (Fs cl false e τ) (Ah i):=rfl
theorem Hq {i:Nat}{e:IR}:Gw cl (.ext i e) τ=CG cl i e τ (ai τ i):=by
 show (match ai τ i with|some (.lst _ _)=>(U (Fs cl false e τ) fun p=>(match p.1,ai p.2 i with|.lst _ es,some (.lst true ds)=>EX (aV (ds.length+es.length)) (.ok (Fl.nx (p.2.set i (some (.lst true (ds++es))))))|_,_=>EY))|_=>EY)=_
 cases ai τ i with
 | none=>rfl
 | some d=>
  cases d with
  | lst o ds=>
   refine congrArg (U (Fs cl false e τ)) (funext fun p=>?_)
   obtain⟨d,EW⟩:=p
   cases d with
   | lst o es=>
    show (match D.lst o es,ai EW i with|.lst _ es,some (.lst true ds)=>EX (aV (ds.length+es.length)) (.ok (.nx (EW.set i (some (.lst true (ds++es))))))|_,_=>EY)=vk i EW es (ai EW i)
    cases ai EW i with
    | none=>rfl
    | some d2=>cases d2<;>first|rfl|(rename_i b _;cases b<;>rfl)
   | _=>rfl
  | _=>rfl
noncomputable def vm (i:Nat)(p:D×Ev)(z:Int):Option D->Res Fl
 | some (.lst true ds)=>EX (decide (0<=z/\z.toNat<=ds.length)&&cb ds.length) (.ok (.nx (p.2.set i (some (.lst true (ds.take z.toNat++p.1::ds.drop z.toNat))))))
 | _=>EY
theorem rJ {i:Nat}{p:D×Ev}{z:Int}{ds:List D}:vm i p z (some (.lst true ds))=EX (decide (0<=z/\z.toNat<=ds.length)&&cb ds.length) (.ok (.nx (p.2.set i (some (.lst true (ds.take z.toNat++p.1::ds.drop z.toNat)))))):=rfl
noncomputable def Ai (i:Nat):D->D×Ev->Res Fl
 | .int z,p=>vm i p z (ai p.2 i)
 | _,_=>EY
theorem rK {i:Nat}{z:Int}{p:D×Ev}:Ai i (.int z) p=vm i p z (ai p.2 i):=rfl
noncomputable def Aj (cl:Nat->List D->Res D)(i:Nat)(e:IR)(τ:Ev)(y:D):Res Fl:=U (Fs cl false e τ) (Ai i y)
theorem rL {i:Nat}{e:IR}{y:D}:Aj cl i e τ y=U (Fs cl false e τ) (Ai i y):=rfl
noncomputable def CH (cl:Nat->List D->Res D)(i:Nat)(k e:IR)(τ:Ev):Option D->Res Fl
 | some (.lst _ _)=>U (EV cl k τ) (Aj cl i e τ)
 | _=>EY
theorem rM {i:Nat}{k e:IR}{o:Bool}{ds:List D}:CH cl i k e τ (some (.lst o ds))=U (EV cl k τ) (Aj cl i e τ):=rfl
theorem Hr {i:Nat}{k e:IR}:Gw cl (.ins i k e) τ=CH cl i k e τ (ai τ i):=by
 show (match ai τ i with|some (.lst _ _)=>(U (EV cl k τ) fun y=>U (Fs cl false e τ) fun p=>(match y,ai p.2 i with|.int z,some (.lst true ds)=>EX (decide (0<=z/\z.toNat<=ds.length)&&cb ds.length) (.ok (Fl.nx (p.2.set i (some (.lst true (ds.take z.toNat++p.1::ds.drop z.toNat))))))|_,_=>EY))|_=>EY)=_
 cases ai τ i with
 | none=>rfl
 | some d=>
  cases d with
  | lst o ds=>
   refine congrArg (U (EV cl k τ)) (funext fun y=>congrArg (U (Fs cl false e τ)) (funext fun p=>?_))
   cases y with
   | int z=>
    show (match D.int z,ai p.2 i with|.int z,some (.lst true ds)=>EX (decide (0<=z/\z.toNat<=ds.length)&&cb ds.length) (.ok (.nx (p.2.set i (some (.lst true (ds.take z.toNat++p.1::ds.drop z.toNat))))))|_,_=>EY)=vm i p z (ai p.2 i)
    cases ai p.2 i with
    | none=>rfl
    | some d2=>cases d2<;>first|rfl|(rename_i b _;cases b<;>rfl)
   | _=>rfl
  | _=>rfl
noncomputable def mQ (cl:Nat->List D->Res D)(i:Nat)(k:IR)(τ:Ev)(d:D):Option D->Res Fl
 | some (.Ff true ks ds)=>U (EV cl k τ) fun y=>(match eG y with|some q=>EX (ao d&&af ds&&cb ks.length) (.ok (.nx (τ.set i (some (.Ff true (dJ ks q) (cP ks ds q d))))))|none=>EY)
 | _=>EY
theorem i5 {i:Nat}{k:IR}{d:D}{ks:List Key}{ds:List D}{x:Str}(h:EV cl k τ=.ok (.str x))(hl:(ao d&&af ds&&cb ks.length)=true):mQ cl i k τ d (some (.Ff true ks ds))=.ok (.nx (τ.set i (some (.Ff true (dJ ks (.inr x)) (cP ks ds (.inr x) d))))):=by
 show (U (EV cl k τ) fun y=>(match eG y with|some q=>EX (ao d&&af ds&&cb ks.length) (.ok (Fl.nx (τ.set i (some (.Ff true (dJ ks q) (cP ks ds q d))))))|none=>EY))=_
 rw[h]
 show EX _ _=_
 rw[hl]
 rfl
noncomputable def w4 (cl:Nat->List D->Res D)(i:Nat)(k:IR)(τ:Ev)(d:D):Res Fl:=mQ cl i k τ d (ai τ i)
theorem mR {i:Nat}{k:IR}{d:D}:w4 cl i k τ d=mQ cl i k τ d (ai τ i):=rfl
theorem GJ {i:Nat}{k e:IR}:Gw cl (.Ie i k e) τ=U (EV cl e τ) (w4 cl i k τ):=rfl
theorem Ht {i:Nat}{e:IR}:Gw cl (.app i e) τ=CF cl i e τ (ai τ i):=rfl
noncomputable def SO (p:D×Ev):Res Fl:=.ok (.rt p.1)
theorem w8 {p:D×Ev}:SO p=.ok (.rt p.1):=rfl
theorem Hu {e:IR}:Gw cl (.ret e) τ=U (Fs cl true e τ) SO:=rfl
noncomputable def SQ (cl:Nat->List D->Res D)(a b:List IS)(τ:Ev)(r:Bool):Res Fl:=if r=true then aG cl a τ else aG cl b τ
theorem xa {a b:List IS}{r:Bool}:SQ cl a b τ r=if r=true then aG cl a τ else aG cl b τ:=rfl
theorem II {t:IR}{a b:List IS}:Gw cl (.Fg t a b) τ=U (Hk cl t τ) (SQ cl a b τ):=rfl
noncomputable def turn (cl:Nat->List D->Res D)(tg:Tg)(body:List IS)(x:D)(τ:Ev):Res Fl:=U (bP tg x τ) (aG cl body)
theorem ag {tg:Tg}{body:List IS}{x:D}:turn cl tg body x τ=U (bP tg x τ) (aG cl body):=rfl
noncomputable def CI (cl:Nat->List D->Res D)(tg:Tg)(body:List IS)(p:List D×Ev):Res Fl:=forM (turn cl tg body) p.1 p.2
theorem rN {tg:Tg}{body:List IS}{p:List D×Ev}:CI cl tg body p=forM (turn cl tg body) p.1 p.2:=rfl
theorem Hv {tg:Tg}{s:Sr}{body:List IS}:Gw cl (.Fp tg s body) τ=U (kQ cl s τ) (CI cl tg body):=rfl
theorem Gj {t:IR}{body:List IS}:Gw cl (.Gv t body) τ=bI (Hk cl t) (aG cl body) jP τ:=rfl
noncomputable def CJ (j i:Nat)(τ:Ev):Option D->Res Fl
 | some (.lst true (.str x::ds))=>.ok (.nx ((τ.set i (some (.lst true ds))).set j (some (.str x))))
 | _=>EY
theorem rO {j i:Nat}{x:Str}{ds:List D}:CJ j i τ (some (.lst true (.str x::ds)))=.ok (.nx ((τ.set i (some (.lst true ds))).set j (some (.str x)))):=rfl
theorem Hs {j i:Nat}:Gw cl (.pop j i) τ=CJ j i τ (ai τ i):=by
 show (match ai τ i with|some (.lst true (.str x::ds))=>(.ok (.nx ((τ.set i (some (.lst true ds))).set j (some (.str x)))):Res Fl)|_=>EY)=_
 rcases ai τ i with _|d
 ·rfl
 ·cases d<;>first|rfl|(rename_i o ds;cases o<;>first|rfl|(cases ds<;>first|rfl|(rename_i e _;cases e<;>rfl)))
noncomputable def Ak (f:Ev->Res Fl):Fl->Res Fl
 | .nx EW=>f EW
 | .ct EW=>.ok (.ct EW)
 | .bk EW=>.ok (.bk EW)
 | .rt d=>.ok (.rt d)
theorem CK:aG cl [] τ=.ok (.nx τ):=rfl
theorem CL {s:IS}{r:List IS}:aG cl (s::r) τ=U (Gw cl s τ) (Ak (aG cl r)):=rfl
theorem xb {f:Ev->Res Fl}:Ak f (.nx τ)=f τ:=rfl
theorem xc {f:Ev->Res Fl}{d:D}:Ak f (.rt d)=.ok (.rt d):=rfl
noncomputable def CM (τ:Ev)(its:List D):Res (List D×Ev):=.ok (its,τ)
theorem rP {its:List D}:CM τ its=.ok (its,τ):=rfl
noncomputable def xf (e:IR)(τ:Ev)(its:List D):Res (List D×Ev):=.ok (E0 its,Fb (vars e) τ)
theorem mS {e:IR}{its:List D}:xf e τ its=.ok (E0 its,Fb (vars e) τ):=rfl
theorem xg {n:IR}:kQ cl (.FO n) τ=U (dn cl (.FO n) τ) (CM τ):=rfl
theorem xh {e:IR}:kQ cl (.val e) τ=U (dn cl (.val e) τ) (xf e τ):=rfl
noncomputable def CN (body:D->Ev->Res Fl)(xs:List D):Fl->Res Fl
 | .nx EW=>forM body xs EW
 | .ct EW=>forM body xs EW
 | .bk EW=>.ok (.nx EW)
 | .rt d=>.ok (.rt d)
theorem aW {body:D->Ev->Res Fl}{x:D}{xs:List D}:forM body (x::xs) τ=U (body x τ) (CN body xs):=rfl
theorem bf {body:D->Ev->Res Fl}{xs:List D}:CN body xs (.nx τ)=forM body xs τ:=rfl
theorem CO {i:Nat}{d:D}:bP (.nm i) d τ=.ok (τ.set i (some d)):=rfl
theorem CP {ts:List Tg}{ds:List D}:bP (.tp ts) (.tup ds) τ=EX (decide (ds.length=ts.length)) (dM ts ds τ):=rfl
theorem xj:dM [] [] τ=.ok τ:=rfl
theorem xk {t:Tg}{ts:List Tg}{d:D}{ds:List D}:dM (t::ts) (d::ds) τ=U (bP t d τ) (dM ts ds):=rfl
theorem CQ {o:Option D}:ai (o::τ) 0=o:=by unfold ai;simp
theorem CS {o:Option D}{i:Nat}:ai (o::τ) (i+1)=ai τ i:=bJ
theorem xn {o p:Option D}:(o::τ).set 0 p=p::τ:=rfl
theorem xo {o p:Option D}{i:Nat}:(o::τ).set (i+1) p=o::τ.set i p:=rfl
theorem xq {a b:Int}:GW .add (.int a) (.int b)=.ok (.int (a+b)):=rfl
theorem rQ {a b:Str}:GW .add (.str a) (.str b)=EX (aV (a.length+b.length)) (.ok (.str (a++b))):=rfl
theorem rR {o o':Bool}{a b:List D}:GW .add (.lst o a) (.lst o' b)=EX (aV (a.length+b.length)) (.ok (.lst true (a++b))):=rfl
theorem xr {a b:Int}:GW .sub (.int a) (.int b)=.ok (.int (a - b)):=rfl
theorem CT {a b:Int}:GW .mul (.int a) (.int b)=EX (decide (-(2 ^ 64) < a/\a < 2 ^ 64)||decide (-(2 ^ 64) < b/\b < 2 ^ 64)) (.ok (.int (a*b))):=rfl
theorem Al {a b:Int}:GW .fdiv (.int a) (.int b)=EX (decide (0 < b/\b < 1073741824)) (.ok (.int (a / b))):=rfl
theorem CU {a b:Int}:GW .mod (.int a) (.int b)=EX (decide (0 < b)) (.ok (.int (a % b))):=rfl
theorem xu {a b:Int}:GW .pow (.int a) (.int b)=EX (decide (0<=b/\b<=1000000/\a.natAbs < 2 ^ 64)) (.ok (.int (a ^ b.toNat))):=rfl
theorem QB {o:Bool}{ds:List D}{i:Int}:bt (.lst o ds) (.int i)=(match F9 ds i with|some d=>.ok d|none=>EY):=rfl
theorem SR {ds:List D}{i:Int}:bt (.tup ds) (.int i)=(match F9 ds i with|some d=>.ok d|none=>EY):=rfl
theorem Vk {z:Str}{i:Int}:bt (.str z) (.int i)=EX (aV z.length) (match F9 z.cps.toList i with|some c=>.ok (.str ⟨#[c]⟩)|none=>EY):=rfl
theorem CW {o:Bool}{ds:List D}{lo hi:Option Int}:jL (.lst o ds) lo hi=.ok (.lst true (bp ds lo hi)):=rfl
theorem CY {z:Str}{lo hi:Option Int}:jL (.str z) lo hi=EX (aV z.length) (.ok (.str (Txt.slice z lo hi))):=rfl
theorem CZ {b:Bool}:aD (.bl b)=.ok b:=rfl
theorem C1 {a b:D}:G5 .eq a b=FC 40 a b:=by cases a<;>cases b<;>rfl
noncomputable def Am (r:Bool):Res Bool:=.ok !r
theorem rS {r:Bool}:Am r=.ok !r:=rfl
theorem C2 {a b:D}:G5 .ne a b=U (FC 40 a b) Am:=by cases a<;>cases b<;>rfl
theorem C3 {n:Nat}{a b:Int}:FC (n+1) (.int a) (.int b)=.ok (a == b):=rfl
theorem C4 {n:Nat}{a b:Str}:FC (n+1) (.str a) (.str b)=.ok (a == b):=rfl
theorem C5 {n:Nat}{a b:Bool}:FC (n+1) (.bl a) (.bl b)=.ok (a == b):=rfl
theorem C6 {n:Nat}{a b:List D}:FC (n+1) (.tup a) (.tup b)=bO (FC n) a b:=rfl
theorem C7 {n:Nat}{o o':Bool}{a b:List D}:FC (n+1) (.lst o a) (.lst o' b)=bO (FC n) a b:=rfl
theorem C8 {f:D->D->Res Bool}:bO f [] []=.ok true:=rfl
noncomputable def An (x y:Bool):Res Bool:=.ok (x&&y)
theorem rT {x y:Bool}:An x y=.ok (x&&y):=rfl
noncomputable def SS (f:D->D->Res Bool)(r s:List D)(x:Bool):Res Bool:=U (bO f r s) (An x)
theorem xw {f:D->D->Res Bool}{r s:List D}{x:Bool}:SS f r s x=U (bO f r s) (An x):=rfl
theorem C9 {f:D->D->Res Bool}{a b:D}{r s:List D}:bO f (a::r) (b::s)=U (f a b) (SS f r s):=rfl
theorem Dc {f:D->D->Res Bool}{a:D}{r:List D}:bO f (a::r) []=.ok false:=rfl
theorem Dd {a b:Int}:G5 .lt (.int a) (.int b)=.ok (decide (a < b)):=rfl
theorem De {a b:Int}:G5 .le (.int a) (.int b)=.ok (decide (a<=b)):=rfl
theorem Df {a b:Int}:G5 .gt (.int a) (.int b)=.ok (decide (b < a)):=rfl
theorem xx {y x:Str}:G5 .Hy (.str y) (.str x)=.ok (l8 x y):=rfl
theorem xA {a:D}{o:Bool}{ds:List D}:G5 .Hy a (.lst o ds)=Fh a ds:=by cases a<;>rfl
theorem rV {a:D}{o:Bool}{ds:List D}:G5 .JB a (.lst o ds)=U (Fh a ds) Am:=by cases a<;>rfl
theorem Dg {a:D}:G5 .IZ a .EZ=.ok (cv a):=by cases a<;>rfl
theorem xB {a:D}:G5 .LC a .EZ=.ok (!cv a):=by cases a<;>rfl
theorem SU:cv .EZ=true:=rfl
theorem SV {i:Int}:cv (.int i)=false:=rfl
theorem SW {i:Str}:cv (.str i)=false:=rfl
theorem SX {b:Bool}:cv (.bl b)=false:=rfl
theorem SY {ds:List D}:cv (.tup ds)=false:=rfl
theorem S1 {o:Bool}{ds:List D}:cv (.lst o ds)=false:=rfl
theorem xC {a:D}{ds:List D}:G5 .Hy a (.tup ds)=Fh a ds:=by cases a<;>rfl
theorem Dh {d:D}:Fh d []=.ok false:=rfl
noncomputable def Ao (x y:Bool):Res Bool:=.ok (x||y)
theorem rW {x y:Bool}:Ao x y=.ok (x||y):=rfl
noncomputable def S2 (d:D)(r:List D)(x:Bool):Res Bool:=U (Fh d r) (Ao x)
theorem xD {d:D}{r:List D}{x:Bool}:S2 d r x=U (Fh d r) (Ao x):=rfl
theorem Di {d e:D}{r:List D}:Fh d (e::r)=U (FC 40 e d) (S2 d r):=rfl
theorem xE {x:Str}:cR .len [.str x]=EX (aV x.length) (.ok (.int x.length)):=rfl
theorem xF {ds:List D}:cR .len [.tup ds]=.ok (.int ds.length):=rfl
theorem xG {o:Bool}{ds:List D}:cR .len [.lst o ds]=.ok (.int ds.length):=rfl
theorem rX {a b:Int}:cR .min2 [.int a,.int b]=.ok (.int (if b < a then b else a)):=rfl
theorem i6 {o:Bool}{ds:List D}{n:Int}{ns:List Int}(h:bg ds=some (n::ns)):cR .HG [.lst o ds]=.ok (.int (cV n ns)):=by
 show (match bg ds with|some (n::ns)=>(.ok (.int (cV n ns)):Res D)|_=>EY)=_
 rw[h]
theorem rY {a b:Int}:cR .max2 [.int a,.int b]=.ok (.int (if b > a then b else a)):=rfl
theorem mT {o:Bool}{ds:List D}:cR .tuple [.lst o ds]=.ok (.tup ds):=rfl
theorem rZ (ns:List Str):aY (ns.map .str)=some ns:=by
 induction ns with
 | nil=>rfl
 | cons n ns ih=>
  show (aY (ns.map .str)).map (n::·)=_
  rw[ih]
  rfl
theorem vn {x:Str}{o:Bool}{ys:List Str}(h:(ys.map (·.length)).sum+ys.length*x.length<=16777216):fS .join (.str x) [.lst o (ys.map .str)]=.ok (.str (Txt.join x ys)):=by
 show (match aY (ys.map .str) with|some ys=>EX (decide ((ys.map (fun y:Str=>y.length)).sum+ys.length*x.length<=16777216)) (.ok (.str (Txt.join x ys)))|none=>EY)=(_:Res D)
 rw[rZ]
 show EX (decide _) _=_
 rw[decide_eq_true h]
 rfl
theorem ie {x y:Str}:fS .starts (.str x) [.str y]=.ok (.bl (Txt.startswith x y)):=rfl
theorem xH {x:Str}:dz (.str x)=true:=rfl
theorem r6 {x:Str}:br .str (.str x)=true:=rfl
theorem r9 {x:Int}:br .int (.int x)=true:=rfl
theorem sd {x:Int}:br .bool (.int x)=false:=rfl
theorem sf {x:List D}:br .tuple (.tup x)=true:=rfl
theorem ka {i:Int}:br .str (.int i)=false:=rfl
theorem kb {ds:List D}:br .str (.tup ds)=false:=rfl
theorem kc {o:Bool}{ds:List D}:br .str (.lst o ds)=false:=rfl
theorem ke {x:Str}:br .int (.str x)=false:=rfl
theorem kf {ds:List D}:br .int (.tup ds)=false:=rfl
theorem kg {o:Bool}{ds:List D}:br .int (.lst o ds)=false:=rfl
theorem ij {b:Bool}:br .bool (.bl b)=true:=rfl
theorem ik {x:Str}:br .bool (.str x)=false:=rfl
theorem ip {ds:List D}:br .bool (.tup ds)=false:=rfl
theorem iq {o:Bool}{ds:List D}:br .bool (.lst o ds)=false:=rfl
theorem ir:br .list (.EZ)=false:=rfl
theorem iu {b:Bool}:br .list (.bl b)=false:=rfl
theorem iy {i:Int}:br .list (.int i)=false:=rfl
theorem iz {x:Str}:br .list (.str x)=false:=rfl
theorem iA {ds:List D}:br .list (.tup ds)=false:=rfl
theorem iB {o:Bool}{ds:List D}:br .list (.lst o ds)=true:=rfl
theorem gk:br .tuple (.EZ)=false:=rfl
theorem gm {b:Bool}:br .tuple (.bl b)=false:=rfl
theorem gn {i:Int}:br .tuple (.int i)=false:=rfl
theorem gp {x:Str}:br .tuple (.str x)=false:=rfl
theorem gq {o:Bool}{ds:List D}:br .tuple (.lst o ds)=false:=rfl
theorem si (ns:List Int):af (ns.map .int)=true:=by
 rw[bV,List.all_map,List.all_eq_true]
 intro x _
 rfl
theorem Ap (ns:List Str):af (ns.map .str)=true:=by
 rw[bV,List.all_map,List.all_eq_true]
 intro x _
 rfl
theorem Dj {i:Int}:er (.int i)=.int i:=by rw[er]
theorem Dk {i:Str}:er (.str i)=.str i:=by rw[er]
theorem Dl {i:Bool}:er (.bl i)=.bl i:=by rw[er]
theorem Dm:er .EZ=.EZ:=by rw[er]
theorem Dp {ds:List D}:er (.tup ds)=.tup (E0 ds):=by rw[er]
theorem Dq {o:Bool}{ds:List D}:er (.lst o ds)=.lst false (E0 ds):=by rw[er]
theorem xI:E0 []=[]:=by rw[E0]
theorem xJ {d:D}{ds:List D}:E0 (d::ds)=er d::E0 ds:=by rw[E0]
theorem lj (ns:List Int):E0 (ns.map .int)=ns.map .int:=aK (si ns)
theorem i7 (ns:List Str):E0 (ns.map .str)=ns.map .str:=aK (Ap ns)
theorem xK {i:Int}:ao (.int i)=true:=rfl
theorem xM {i:Str}:ao (.str i)=true:=rfl
theorem xN {i:Bool}:ao (.bl i)=true:=rfl
theorem xO {ds:List D}:ao (.tup ds)=af ds:=rfl
theorem xP {o:Bool}{ds:List D}:ao (.lst o ds)=false:=rfl
theorem sj:af []=true:=rfl
theorem sk {d:D}{ds:List D}:af (d::ds)=(ao d&&af ds):=rfl
noncomputable def Aq:Fl->Res D
 | .nx _=>.ok .EZ
 | .rt d=>.ok d
 | _=>EY
theorem run {fn:Fn}{ds:List D}(h:ds.length=fn.np):iS cl fn ds=U (aG cl fn.body (ds.map some++List.replicate (fn.G.N.length - fn.np) none)) Aq:=by
 unfold iS
 rw[decide_eq_true h]
 rfl
theorem so {d:D}:Aq (.rt d)=.ok d:=rfl
theorem call {T:Tb}{n f:Nat}{fn:Fn}{ds:List D}(h:T f=some fn):ae T (n+1) f ds=iS (ae T n) fn ds:=by
 show (match T f with|some fn=>iS (ae T n) fn ds|none=>EY)=_
 rw[h]
theorem go {T:Tb}{n f:Nat}{fn:Fn}{ds:List D}{m k:Nat}{body:List IS}(h:T f=some fn)(h1:fn.np=m)(h2:fn.G.N.length=k)(h3:fn.body=body)(hl:ds.length=m) :
  ae T (n+1) f ds=U (aG (ae T n) body (ds.map some++List.replicate (k - m) none)) Aq:=by
 rw[call h,run (by rw[hl,h1]),h1,h2,h3]
end
end Ev
namespace Ev
section
variable {cl:Nat->List D->Res D}{τ:Ev}
theorem line:sizeLine=16777216:=sizeLine_eq
theorem sr {a b:Int}(h1 : -18446744073709551616 < a)(h2:a < 18446744073709551616):GW .mul (.int a) (.int b)=.ok (.int (a*b)):=by
 rw[CT,decide_eq_true (show -(2 ^ 64) < a/\a < 2 ^ 64 from ⟨by omega,by omega⟩)]
 rfl
theorem su {a b:Int}(h1:0 < b)(h2:b < 1073741824):GW .fdiv (.int a) (.int b)=.ok (.int (a / b)):=by
 rw[Al,decide_eq_true ⟨h1,h2⟩]
 rfl
theorem xQ {a b:Int}(h1:0 < b):GW .mod (.int a) (.int b)=.ok (.int (a % b)):=by
 rw[CU,decide_eq_true h1]
 rfl
theorem lp {n:Nat}(h:n<=16777216):aV n=true:=decide_eq_true (by rw[line];exact h)
theorem lq {n:Nat}(h:n < 16777216):cb n=true:=decide_eq_true (by rw[line];exact h)
theorem mU {i:Int}(h1 : -4611686018427387904<=i)(h2:i < 4611686018427387904):bQ i=true:=decide_eq_true ⟨by omega,by omega⟩
theorem mV {α β:Type}(f:α->β)(xs:List α)(i:Int):F9 (xs.map f) i=(F9 xs i).map f:=by
 unfold F9
 rw[List.length_map]
 cases KJ xs.length i with
 | none=>rfl
 | some j=>exact List.getElem?_map ..
theorem i8 {α:Type}{xs:List α}{i:Int}(d:α)(h0:0<=i)(h1:i < xs.length):F9 xs i=some (xs.getD i.toNat d):=by
 unfold F9 KJ
 rw[if_pos h0,if_pos h1]
 show xs[i.toNat]? = _
 have:i.toNat < xs.length:=by omega
 rw[List.getD_eq_getElem?_getD,List.getElem?_eq_getElem this]
 rfl
theorem OY {o:Bool}{xs:List Int}{i:Int}(h0:0<=i)(h1:i < xs.length):bt (.lst o (xs.map .int)) (.int i)=.ok (.int (xs.getD i.toNat 0)):=by
 rw[QB,mV,i8 0 h0 h1]
 rfl
theorem vp {o:Bool}{xs:List Str}{i:Int}(h0:0<=i)(h1:i < xs.length):bt (.lst o (xs.map .str)) (.int i)=.ok (.str (xs.getD i.toNat ⟨#[]⟩)):=by
 rw[QB,mV,i8 ⟨#[]⟩ h0 h1]
 rfl
theorem NV {z:Str}{i:Int}(h0:0<=i)(h1:i < z.length)(hz:z.length<=16777216):bt (.str z) (.int i)=.ok (.str ⟨#[z.cps.toList.getD i.toNat 0]⟩):=by
 rw[Vk,lp hz]
 have hl:z.cps.toList.length=z.length:=by simp[Str.length]
 rw[i8 0 h0 (by rw[hl];exact h1)]
 rfl
theorem gr {α β:Type}(f:α->β)(xs:List α)(lo hi:Option Int):bp (xs.map f) lo hi=(bp xs lo hi).map f:=by
 unfold bp
 rw[List.length_map,List.map_take,List.map_drop]
theorem gu {α:Type}(xs:List α){m:Int}(h:0<=m):bp xs none (some m)=xs.take m.toNat:=by
 unfold bp HT.FY
 simp only[List.drop_zero,Nat.sub_zero]
 rw[if_neg (by omega)]
 by_cases hm:m.toNat<=xs.length
 ·rw[show min m.toNat xs.length=m.toNat from Nat.min_eq_left hm]
 ·rw[show min m.toNat xs.length=xs.length from Nat.min_eq_right (by omega),List.take_length,List.take_of_length_le (by omega)]
noncomputable def fz:Bool->Option D->Option D
 | true,some d=>some (er d)
 | true,none=>none
 | false,o=>o
theorem Dr {d:D}:fz true (some d)=some (er d):=rfl
theorem Ds {o:Option D}:fz false o=o:=rfl
theorem xR {is:List Nat}{k:Nat}:gF is k []=[]:=rfl
theorem xS {is:List Nat}{k:Nat}{o:Option D}{τ:Ev}:gF is k (o::τ)=fz (is.contains k) o::gF is (k+1) τ:=by
 show (if is.contains k then o.map er else o)::gF is (k+1) τ=_
 cases is.contains k<;>cases o<;>rfl
theorem Dt {d:D}:vars (.c d)=[]:=rfl
theorem Du {i:Nat}:vars (.v i)=[i]:=rfl
theorem sv {o:JA}{a b:IR}:vars (.bin o a b)=vars a++vars b:=rfl
theorem sy {es:List IR}:vars (.tup es)=ay es:=rfl
theorem sA {es:List IR}:vars (.lst es)=ay es:=rfl
theorem mW {f:Nat}{es:List IR}:vars (.call f es)=ay es:=rfl
theorem xT {f:Bi}{es:List IR}:vars (.bi f es)=ay es:=rfl
theorem sC {a i:IR}:vars (.idx a i)=vars a++vars i:=rfl
theorem xU:ay []=[]:=rfl
theorem xV {e:IR}{es:List IR}:ay (e::es)=vars e++ay es:=rfl
theorem mX {G:Gm}{fr:List Nat}{t:Tg}{s:Sr}{i:List IR}{e:IR}:aE (.comp G fr t s i e)=true:=rfl
theorem sD {a b:IR}:aE (.bin .add a b)=true:=rfl
theorem xW {a:IR}{b c:Option IR}:aE (.sl a b c)=true:=rfl
theorem sE {a i:IR}:aE (.idx a i)=false:=rfl
theorem Dv {e:IR}{o:Bool}{ds:List D}{τ:Ev}:aL e (.lst o ds) τ=cond (aE e) (cond (af ds) (.lst true ds,τ) (.lst true (E0 ds),Fb (vars e) τ)) (.lst false (E0 ds),Fb (vars e) τ):=by
 unfold aL
 rw[if_neg (show ¬ ao (.lst o ds)=true by intro z;cases z)]
 cases aE e
 ·exact Prod.ext (by show er (.lst o ds)=_;rw[er];rfl) rfl
 ·show (if af ds=true then _ else _)=_
  cases af ds<;>rfl
theorem Dx {e:IR}{ds:List D}{τ:Ev}:aL e (.tup ds) τ=cond (af ds) (.tup ds,τ) (.tup (E0 ds),Fb (vars e) τ):=by
 unfold aL
 cases h:af ds with
 | true=>rw[if_pos (show ao (.tup ds)=true from h)];rfl
 | false=>
  rw[if_neg (show ¬ ao (.tup ds)=true by intro z;rw[show ao (.tup ds)=af ds from rfl,h] at z;cases z)]
  cases aE e<;>exact Prod.ext (by show er (.tup ds)=_;rw[er];rfl) rfl
theorem mY {body:D->Ev->Res Fl}(P:Nat->Ev->Prop):∀ (its:List D) (k:Nat) (τ:Ev),P k τ->(∀ (i:Nat) (x:D) (τ:Ev),its[i]? = some x->P (k+i) τ->∃ EW,body x τ=.ok (.nx EW)/\P (k+i+1) EW)->∃ EW,forM body its τ=.ok (.nx EW)/\P (k+its.length) EW
 | [],k,τ,h,_=>⟨τ,rfl,h⟩
 | x::xs,k,τ,h,hb=>by
  obtain⟨KS,e1,h1⟩:=hb 0 x τ rfl h
  obtain⟨Vl,e2,h2⟩:=mY P xs (k+1) KS h1 fun i y σ hy hp=>by
   obtain⟨EW,e',h'⟩:=hb (i+1) y σ (by simpa using hy) (by rw[show k+(i+1)=k+1+i by omega];exact hp)
   exact⟨EW,e',by rw[show k+1+i+1=k+(i+1)+1 by omega];exact h'⟩
  refine⟨Vl,?_,by rw[List.length_cons,show k+(xs.length+1)=k+1+xs.length by omega];exact h2⟩
  rw[aW,e1,bc,bf,e2]
theorem i9 {body:D->Ev->Res Fl}(P:Nat->Ev->Prop){its:List D}{τ:Ev}(h:P 0 τ)(hb:∀ (i:Nat)(x:D)(τ:Ev),its[i]? = some x->P i τ->∃ EW,body x τ=.ok (.nx EW)/\P (i+1) EW):∃ EW,forM body its τ=.ok (.nx EW)/\P its.length EW:=by
 obtain⟨EW,h1,h2⟩:=mY P its 0 τ h fun i x τ hx hp=>by
  rw[Nat.zero_add] at hp ⊢
  exact hb i x τ hx hp
 exact⟨EW,h1,by rw[Nat.zero_add] at h2;exact h2⟩
theorem dY {α β:Type}{g:D->Res (Option D)}(NW:α->D)(out:α->β)(L5:β->D):∀ (xs:List α),(∀ x∈xs,g (NW x)=.ok (some (L5 (out x))))->ax g (xs.map NW)=.ok ((xs.map out).map L5)
 | [],_=>rfl
 | x::xs,h=>by
  show U (g (NW x)) _=_
  rw[h x (by simp)]
  show U (ax g (xs.map NW)) _=_
  rw[dY NW out L5 xs fun y hy=>h y (List.mem_cons_of_mem _ hy)]
  rfl
theorem xX {α:Type}{a:α}:I0 (.ok a:Res α)=.ok a:=rfl
theorem dE (x:Str):bD x=(x.cps.toList.map fun c=>(⟨#[c]⟩:Str)).map .str:=by
 unfold bD
 rw[List.map_map]
 rfl
end
end Ev
theorem E1:type_of% (And.intro (And.intro (And.intro (And.intro (And.intro (And.intro (And.intro (And.intro @Ev.bc @Ev.wc) (And.intro @Ev.Su @Ev.Sw)) (And.intro (And.intro @Ev.Sy @Ev.qE) (And.intro @Ev.we (And.intro @Ev.wg @Ev.qF)))) (And.intro (And.intro (And.intro @Ev.wj @Ev.mE) (And.intro @Ev.qH (And.intro @Ev.wm @Ev.mF))) (And.intro (And.intro @Ev.qJ @Ev.wo) (And.intro @Ev.qK (And.intro @Ev.wq @Ev.B3))))) (And.intro (And.intro (And.intro (And.intro @Ev.mG @Ev.qM) (And.intro @Ev.wt @Ev.qN)) (And.intro (And.intro @Ev.wu @Ev.qO) (And.intro @Ev.wx (And.intro @Ev.qP @Ev.wy)))) (And.intro (And.intro (And.intro @Ev.qQ @Ev.wz) (And.intro @Ev.B6 (And.intro @Ev.mH @Ev.qR))) (And.intro (And.intro @Ev.B7 @Ev.qT) (And.intro @Ev.B9 (And.intro @Ev.Ca @Ev.Cc)))))) (And.intro (And.intro (And.intro (And.intro (And.intro @Ev.Cd @Ev.Ce) (And.intro @Ev.Cf @Ev.qU)) (And.intro (And.intro @Ev.Cg @Ev.qV) (And.intro @Ev.qW (And.intro @Ev.wB @Ev.qX)))) (And.intro (And.intro (And.intro @Ev.wC @Ev.qY) (And.intro @Ev.wD (And.intro @Ev.qZ @Ev.mI))) (And.intro (And.intro @Ev.ra @Ev.Ck) (And.intro @Ev.mJ (And.intro @Ev.wG @Ev.Cm))))) (And.intro (And.intro (And.intro (And.intro @Ev.rf @Ev.Cp) (And.intro @Ev.Cq (And.intro @Ev.Cr @Ev.wH))) (And.intro (And.intro @Ev.Cs @Ev.mK) (And.intro @Ev.Ct (And.intro @Ev.rh @Ev.j7)))) (And.intro (And.intro (And.intro @Ev.j8 @Ev.wJ) (And.intro @Ev.wK (And.intro @Ev.Cv @Ev.Cw))) (And.intro (And.intro @Ev.Cy @Ev.SF) (And.intro @Ev.OW (And.intro @Ev.mL @Ev.IF))))))) (And.intro (And.intro (And.intro (And.intro (And.intro (And.intro @Ev.mM @Ev.IG) (And.intro @Ev.mN @Ev.IH)) (And.intro (And.intro @Ev.ib @Ev.j9) (And.intro @Ev.Hm (And.intro @Ev.mO @Ev.SG)))) (And.intro (And.intro (And.intro @Ev.wO @Ev.wQ) (And.intro @Ev.wR (And.intro @Ev.wU @Ev.Cz))) (And.intro (And.intro @Ev.CA @Ev.rj) (And.intro @Ev.Hn (And.intro @Ev.rk @Ev.wV))))) (And.intro (And.intro (And.intro (And.intro @Ev.rn @Ev.CB) (And.intro @Ev.rp (And.intro @Ev.wW @Ev.CC))) (And.intro (And.intro @Ev.wX @Ev.rq) (And.intro @Ev.wY (And.intro @Ev.mP @Ev.rz)))) (And.intro (And.intro (And.intro @Ev.SJ @Ev.SK) (And.intro @Ev.SM (And.intro @Ev.SN @Ev.wZ))) (And.intro (And.intro @Ev.rA @Ev.Ho) (And.intro @Ev.rB (And.intro @Ev.rC @Ev.rD)))))) (And.intro (And.intro (And.intro (And.intro (And.intro @Ev.rE @Ev.rF) (And.intro @Ev.rG @Ev.rH)) (And.intro (And.intro @Ev.Hq @Ev.rJ) (And.intro @Ev.rK (And.intro @Ev.rL @Ev.rM)))) (And.intro (And.intro (And.intro @Ev.Hr @Ev.i5) (And.intro @Ev.mR (And.intro @Ev.GJ @Ev.Ht))) (And.intro (And.intro @Ev.w8 @Ev.Hu) (And.intro @Ev.xa (And.intro @Ev.II @Ev.rN))))) (And.intro (And.intro (And.intro (And.intro @Ev.Hv @Ev.Gj) (And.intro @Ev.rO (And.intro @Ev.Hs @Ev.CK))) (And.intro (And.intro @Ev.CL @Ev.xb) (And.intro @Ev.xc (And.intro @Ev.rP @Ev.mS)))) (And.intro (And.intro (And.intro @Ev.xg @Ev.xh) (And.intro @Ev.aW (And.intro @Ev.bf @Ev.CO))) (And.intro (And.intro @Ev.CP @Ev.xj) (And.intro @Ev.xk (And.intro @Ev.CQ @Ev.CS)))))))) (And.intro (And.intro (And.intro (And.intro (And.intro (And.intro (And.intro @Ev.xn @Ev.xo) (And.intro @Ev.xq @Ev.rQ)) (And.intro (And.intro @Ev.rR @Ev.xr) (And.intro @Ev.xu (And.intro @Ev.SR @Ev.CW)))) (And.intro (And.intro (And.intro @Ev.CY @Ev.CZ) (And.intro @Ev.C1 (And.intro @Ev.rS @Ev.C2))) (And.intro (And.intro @Ev.C3 @Ev.C4) (And.intro @Ev.C5 (And.intro @Ev.C6 @Ev.C7))))) (And.intro (And.intro (And.intro (And.intro @Ev.C8 @Ev.rT) (And.intro @Ev.xw (And.intro @Ev.C9 @Ev.Dc))) (And.intro (And.intro @Ev.Dd @Ev.De) (And.intro @Ev.Df (And.intro @Ev.xx @Ev.xA)))) (And.intro (And.intro (And.intro @Ev.rV @Ev.Dg) (And.intro @Ev.xB (And.intro @Ev.SU @Ev.SV))) (And.intro (And.intro @Ev.SW @Ev.SX) (And.intro @Ev.SY (And.intro @Ev.S1 @Ev.xC)))))) (And.intro (And.intro (And.intro (And.intro (And.intro @Ev.Dh @Ev.rW) (And.intro @Ev.xD @Ev.Di)) (And.intro (And.intro @Ev.xE @Ev.xF) (And.intro @Ev.xG (And.intro @Ev.rX @Ev.i6)))) (And.intro (And.intro (And.intro @Ev.rY @Ev.mT) (And.intro @Ev.ie (And.intro @Ev.xH @Ev.r6))) (And.intro (And.intro @Ev.r9 @Ev.sd) (And.intro @Ev.sf (And.intro @Ev.ka @Ev.kb))))) (And.intro (And.intro (And.intro (And.intro @Ev.kc @Ev.ke) (And.intro @Ev.kf (And.intro @Ev.kg @Ev.ij))) (And.intro (And.intro @Ev.ik @Ev.ip) (And.intro @Ev.iq (And.intro @Ev.ir @Ev.iu)))) (And.intro (And.intro (And.intro @Ev.iy @Ev.iz) (And.intro @Ev.iA (And.intro @Ev.iB @Ev.gk))) (And.intro (And.intro @Ev.gm @Ev.gn) (And.intro @Ev.gp (And.intro @Ev.gq @Ev.Dj))))))) (And.intro (And.intro (And.intro (And.intro (And.intro (And.intro @Ev.Dk @Ev.Dl) (And.intro @Ev.Dm @Ev.Dp)) (And.intro (And.intro @Ev.Dq @Ev.xI) (And.intro @Ev.xJ (And.intro @Ev.lj @Ev.i7)))) (And.intro (And.intro (And.intro @Ev.xK @Ev.xM) (And.intro @Ev.xN (And.intro @Ev.xO @Ev.xP))) (And.intro (And.intro @Ev.sj @Ev.sk) (And.intro @Ev.so (And.intro @Ev.sr @Ev.su))))) (And.intro (And.intro (And.intro (And.intro @Ev.xQ @Ev.lp) (And.intro @Ev.lq (And.intro @Ev.mU @Ev.OY))) (And.intro (And.intro @Ev.vp @Ev.NV) (And.intro @Ev.xX (And.intro @Ev.Dr @Ev.Ds)))) (And.intro (And.intro (And.intro @Ev.xR @Ev.xS) (And.intro @Ev.Dt (And.intro @Ev.Du @Ev.sv))) (And.intro (And.intro @Ev.sy @Ev.sA) (And.intro @Ev.mW (And.intro @Ev.xT @Ev.sC)))))) (And.intro (And.intro (And.intro (And.intro (And.intro @Ev.xU @Ev.xV) (And.intro @Ev.mX @Ev.sD)) (And.intro (And.intro @Ev.xW @Ev.sE) (And.intro @Ev.Dv (And.intro @Ev.Dx @cond_true.{1})))) (And.intro (And.intro (And.intro @cond_false.{1} @Ev.si) (And.intro @Ev.Ap (And.intro @List.contains_cons.{0} @List.contains_nil.{0}))) (And.intro (And.intro @Bool.or_false @Bool.or_true) (And.intro @Bool.true_or (And.intro @Bool.false_or @List.map_cons.{0,0}))))) (And.intro (And.intro (And.intro (And.intro @List.map_nil.{0,0} @List.cons_append.{0}) (And.intro @List.nil_append.{0} (And.intro @List.replicate_succ.{0} @List.replicate_zero.{0}))) (And.intro (And.intro @List.length_cons.{0} @List.length_nil.{0}) (And.intro @Nat.zero_add (And.intro @decide_true @Bool.and_self)))) (And.intro (And.intro (And.intro @Bool.not_true @Bool.not_false) (And.intro @Bool.and_true (And.intro @Bool.true_and @Bool.and_false))) (And.intro (And.intro @Bool.false_and @beq_self_eq_true.{0}) (And.intro @if_true.{1} (And.intro @if_false.{1} @Bool.false_eq_true))))))))):=⟨⟨⟨⟨⟨⟨⟨⟨@Ev.bc,@Ev.wc⟩,⟨@Ev.Su,@Ev.Sw⟩⟩,⟨⟨@Ev.Sy,@Ev.qE⟩,⟨@Ev.we,⟨@Ev.wg,@Ev.qF⟩⟩⟩⟩,⟨⟨⟨@Ev.wj,@Ev.mE⟩,⟨@Ev.qH,⟨@Ev.wm,@Ev.mF⟩⟩⟩,⟨⟨@Ev.qJ,@Ev.wo⟩,⟨@Ev.qK,⟨@Ev.wq,@Ev.B3⟩⟩⟩⟩⟩,⟨⟨⟨⟨@Ev.mG,@Ev.qM⟩,⟨@Ev.wt,@Ev.qN⟩⟩,⟨⟨@Ev.wu,@Ev.qO⟩,⟨@Ev.wx,⟨@Ev.qP,@Ev.wy⟩⟩⟩⟩,⟨⟨⟨@Ev.qQ,@Ev.wz⟩,⟨@Ev.B6,⟨@Ev.mH,@Ev.qR⟩⟩⟩,⟨⟨@Ev.B7,@Ev.qT⟩,⟨@Ev.B9,⟨@Ev.Ca,@Ev.Cc⟩⟩⟩⟩⟩⟩,⟨⟨⟨⟨⟨@Ev.Cd,@Ev.Ce⟩,⟨@Ev.Cf,@Ev.qU⟩⟩,⟨⟨@Ev.Cg,@Ev.qV⟩,⟨@Ev.qW,⟨@Ev.wB,@Ev.qX⟩⟩⟩⟩,⟨⟨⟨@Ev.wC,@Ev.qY⟩,⟨@Ev.wD,⟨@Ev.qZ,@Ev.mI⟩⟩⟩,⟨⟨@Ev.ra,@Ev.Ck⟩,⟨@Ev.mJ,⟨@Ev.wG,@Ev.Cm⟩⟩⟩⟩⟩,⟨⟨⟨⟨@Ev.rf,@Ev.Cp⟩,⟨@Ev.Cq,⟨@Ev.Cr,@Ev.wH⟩⟩⟩,⟨⟨@Ev.Cs,@Ev.mK⟩,⟨@Ev.Ct,⟨@Ev.rh,@Ev.j7⟩⟩⟩⟩,⟨⟨⟨@Ev.j8,@Ev.wJ⟩,⟨@Ev.wK,⟨@Ev.Cv,@Ev.Cw⟩⟩⟩,⟨⟨@Ev.Cy,@Ev.SF⟩,⟨@Ev.OW,⟨@Ev.mL,@Ev.IF⟩⟩⟩⟩⟩⟩⟩,⟨⟨⟨⟨⟨⟨@Ev.mM,@Ev.IG⟩,⟨@Ev.mN,@Ev.IH⟩⟩,⟨⟨@Ev.ib,@Ev.j9⟩,⟨@Ev.Hm,⟨@Ev.mO,@Ev.SG⟩⟩⟩⟩,⟨⟨⟨@Ev.wO,@Ev.wQ⟩,⟨@Ev.wR,⟨@Ev.wU,@Ev.Cz⟩⟩⟩,⟨⟨@Ev.CA,@Ev.rj⟩,⟨@Ev.Hn,⟨@Ev.rk,@Ev.wV⟩⟩⟩⟩⟩,⟨⟨⟨⟨@Ev.rn,@Ev.CB⟩,⟨@Ev.rp,⟨@Ev.wW,@Ev.CC⟩⟩⟩,⟨⟨@Ev.wX,@Ev.rq⟩,⟨@Ev.wY,⟨@Ev.mP,@Ev.rz⟩⟩⟩⟩,⟨⟨⟨@Ev.SJ,@Ev.SK⟩,⟨@Ev.SM,⟨@Ev.SN,@Ev.wZ⟩⟩⟩,⟨⟨@Ev.rA,@Ev.Ho⟩,⟨@Ev.rB,⟨@Ev.rC,@Ev.rD⟩⟩⟩⟩⟩⟩,⟨⟨⟨⟨⟨@Ev.rE,@Ev.rF⟩,⟨@Ev.rG,@Ev.rH⟩⟩,⟨⟨@Ev.Hq,@Ev.rJ⟩,⟨@Ev.rK,⟨@Ev.rL,@Ev.rM⟩⟩⟩⟩,⟨⟨⟨@Ev.Hr,@Ev.i5⟩,⟨@Ev.mR,⟨@Ev.GJ,@Ev.Ht⟩⟩⟩,⟨⟨@Ev.w8,@Ev.Hu⟩,⟨@Ev.xa,⟨@Ev.II,@Ev.rN⟩⟩⟩⟩⟩,⟨⟨⟨⟨@Ev.Hv,@Ev.Gj⟩,⟨@Ev.rO,⟨@Ev.Hs,@Ev.CK⟩⟩⟩,⟨⟨@Ev.CL,@Ev.xb⟩,⟨@Ev.xc,⟨@Ev.rP,@Ev.mS⟩⟩⟩⟩,⟨⟨⟨@Ev.xg,@Ev.xh⟩,⟨@Ev.aW,⟨@Ev.bf,@Ev.CO⟩⟩⟩,⟨⟨@Ev.CP,@Ev.xj⟩,⟨@Ev.xk,⟨@Ev.CQ,@Ev.CS⟩⟩⟩⟩⟩⟩⟩⟩,⟨⟨⟨⟨⟨⟨⟨@Ev.xn,@Ev.xo⟩,⟨@Ev.xq,@Ev.rQ⟩⟩,⟨⟨@Ev.rR,@Ev.xr⟩,⟨@Ev.xu,⟨@Ev.SR,@Ev.CW⟩⟩⟩⟩,⟨⟨⟨@Ev.CY,@Ev.CZ⟩,⟨@Ev.C1,⟨@Ev.rS,@Ev.C2⟩⟩⟩,⟨⟨@Ev.C3,@Ev.C4⟩,⟨@Ev.C5,⟨@Ev.C6,@Ev.C7⟩⟩⟩⟩⟩,⟨⟨⟨⟨@Ev.C8,@Ev.rT⟩,⟨@Ev.xw,⟨@Ev.C9,@Ev.Dc⟩⟩⟩,⟨⟨@Ev.Dd,@Ev.De⟩,⟨@Ev.Df,⟨@Ev.xx,@Ev.xA⟩⟩⟩⟩,⟨⟨⟨@Ev.rV,@Ev.Dg⟩,⟨@Ev.xB,⟨@Ev.SU,@Ev.SV⟩⟩⟩,⟨⟨@Ev.SW,@Ev.SX⟩,⟨@Ev.SY,⟨@Ev.S1,@Ev.xC⟩⟩⟩⟩⟩⟩,⟨⟨⟨⟨⟨@Ev.Dh,@Ev.rW⟩,⟨@Ev.xD,@Ev.Di⟩⟩,⟨⟨@Ev.xE,@Ev.xF⟩,⟨@Ev.xG,⟨@Ev.rX,@Ev.i6⟩⟩⟩⟩,⟨⟨⟨@Ev.rY,@Ev.mT⟩,⟨@Ev.ie,⟨@Ev.xH,@Ev.r6⟩⟩⟩,⟨⟨@Ev.r9,@Ev.sd⟩,⟨@Ev.sf,⟨@Ev.ka,@Ev.kb⟩⟩⟩⟩⟩,⟨⟨⟨⟨@Ev.kc,@Ev.ke⟩,⟨@Ev.kf,⟨@Ev.kg,@Ev.ij⟩⟩⟩,⟨⟨@Ev.ik,@Ev.ip⟩,⟨@Ev.iq,⟨@Ev.ir,@Ev.iu⟩⟩⟩⟩,⟨⟨⟨@Ev.iy,@Ev.iz⟩,⟨@Ev.iA,⟨@Ev.iB,@Ev.gk⟩⟩⟩,⟨⟨@Ev.gm,@Ev.gn⟩,⟨@Ev.gp,⟨@Ev.gq,@Ev.Dj⟩⟩⟩⟩⟩⟩⟩,⟨⟨⟨⟨⟨⟨@Ev.Dk,@Ev.Dl⟩,⟨@Ev.Dm,@Ev.Dp⟩⟩,⟨⟨@Ev.Dq,@Ev.xI⟩,⟨@Ev.xJ,⟨@Ev.lj,@Ev.i7⟩⟩⟩⟩,⟨⟨⟨@Ev.xK,@Ev.xM⟩,⟨@Ev.xN,⟨@Ev.xO,@Ev.xP⟩⟩⟩,⟨⟨@Ev.sj,@Ev.sk⟩,⟨@Ev.so,⟨@Ev.sr,@Ev.su⟩⟩⟩⟩⟩,⟨⟨⟨⟨@Ev.xQ,@Ev.lp⟩,⟨@Ev.lq,⟨@Ev.mU,@Ev.OY⟩⟩⟩,⟨⟨@Ev.vp,@Ev.NV⟩,⟨@Ev.xX,⟨@Ev.Dr,@Ev.Ds⟩⟩⟩⟩,⟨⟨⟨@Ev.xR,@Ev.xS⟩,⟨@Ev.Dt,⟨@Ev.Du,@Ev.sv⟩⟩⟩,⟨⟨@Ev.sy,@Ev.sA⟩,⟨@Ev.mW,⟨@Ev.xT,@Ev.sC⟩⟩⟩⟩⟩⟩,⟨⟨⟨⟨⟨@Ev.xU,@Ev.xV⟩,⟨@Ev.mX,@Ev.sD⟩⟩,⟨⟨@Ev.xW,@Ev.sE⟩,⟨@Ev.Dv,⟨@Ev.Dx,@cond_true.{1}⟩⟩⟩⟩,⟨⟨⟨@cond_false.{1},@Ev.si⟩,⟨@Ev.Ap,⟨@List.contains_cons.{0},@List.contains_nil.{0}⟩⟩⟩,⟨⟨@Bool.or_false,@Bool.or_true⟩,⟨@Bool.true_or,⟨@Bool.false_or,@List.map_cons.{0,0}⟩⟩⟩⟩⟩,⟨⟨⟨⟨@List.map_nil.{0,0},@List.cons_append.{0}⟩,⟨@List.nil_append.{0},⟨@List.replicate_succ.{0},@List.replicate_zero.{0}⟩⟩⟩,⟨⟨@List.length_cons.{0},@List.length_nil.{0}⟩,⟨@Nat.zero_add,⟨@decide_true,@Bool.and_self⟩⟩⟩⟩,⟨⟨⟨@Bool.not_true,@Bool.not_false⟩,⟨@Bool.and_true,⟨@Bool.true_and,@Bool.and_false⟩⟩⟩,⟨⟨@Bool.false_and,@beq_self_eq_true.{0}⟩,⟨@if_true.{1},⟨@if_false.{1},@Bool.false_eq_true⟩⟩⟩⟩⟩⟩⟩⟩⟩
namespace Fr
end Fr
end L2
namespace Law
open PySem L2
noncomputable def top (i:Nat):Stmt:=PySem.Challenge.pw_flagroll_k45_a_thing_in_a_cell.main.body.getD i (.Pass ⟨0,0,0,0⟩)
noncomputable def Z:Sg:={nm:=(["group_conds","looked_conds","SIGNS","things_told","texts_told","beginnings_told","text_beginning","thing_in","_law_draw","_law_names","_law_stem","_law_text","_law_center","_law_number","_law_thing","_law_many_things","_law_many_conds","_law_looking","_law_looked","_law_cells","_law_same","_law_copy","_law_lies","_law_crowded","_law_good"]:List Str)++(["law"]:List Str),My:=[(21,(.str "abcdefghijklmnopqrstuvwxyz0123456789"))],fns:=[19,20,22,23,24,25,26,27,28,29,30,31,32,33,34,35,36,37,38,41,39,40,42,43,44],cls:=[],xt:=[],pl:=[],rc:=[],xm:=[]}
noncomputable def QC:List IS:=
 [(.asg (.nm 2) (.lst [])),(.Fp (.tp [(.nm 3),(.nm 4)]) (.val (.v 0)) [(.Fg (.KQ false (.v 3) (.v 1)) [(.Fp (.nm 5) (.val (.v 4)) [(.ext 2 (.v 5))])] [])]),(.ret (.v 2))]
noncomputable def MG:Fn:={np:=2,G:={N:=["groups","names","conds","name","rows","row"],kd:=[.local,.local,.local,.local,.local,.local],gl:=[],df:=true},body:=QC}
noncomputable def NX:List IS:=
 [(.asg (.nm 2) (.lst [])),(.asg (.nm 3) .G3),(.Fp (.nm 4) (.val (.idx (.v 1) (.c (.int 2)))) [(.Fp (.nm 5) (.val (.idx (.v 4) (.c (.int 0)))) [(.Fg (.cmp .Hy (.idx (.v 5) (.c (.int 1))) (.tup [(.c (.str "in")),(.c (.str "out"))])) [(.Ie 3 (.idx (.v 5) (.c (.int 0))) (.c (.bl true)))] [(.app 2 (.v 5))])])]),(.ret (.bin .add (.v 2) (.call 19 [(.v 0),(.v 3)])))]
noncomputable def JR:Fn:={np:=2,G:={N:=["groups","switch","conds","group_names","rule","cond"],kd:=[.local,.local,.local,.local,.local,.local],gl:=[19],df:=true},body:=NX}
noncomputable def QD:List IS:=
 [(.asg (.nm 4) (.lst [])),(.Fp (.nm 5) (.val (.call 20 [(.v 0),(.v 1)])) [(.Fg (.E8 (.cmp .eq (.idx (.v 5) (.c (.int 0))) (.v 2)) (.cmp .Hy (.idx (.v 5) (.c (.int 1))) (.v 3))) [(.ext 4 (.idx (.v 5) (.c (.int 2))))] [])]),(.ret (.v 4))]
noncomputable def MH:Fn:={np:=4,G:={N:=["groups","switch","mark","words","things","cond"],kd:=[.local,.local,.local,.local,.local,.local],gl:=[20],df:=true},body:=QD}
noncomputable def QE:List IS:=
 [(.asg (.nm 3) (.call 22 [(.v 0),(.v 1),(.v 2),(.tup [(.c (.str "is")),(.c (.str "not"))])])),(.ret (.sset (.comp {N:=["thing"],kd:=[.local],gl:=[14,11],df:=false} [] (.nm 0) (.val (.v 3)) [(.FG (.v 0) .str)] (.v 0))))]
noncomputable def MI:Fn:={np:=3,G:={N:=["groups","switch","mark","things"],kd:=[.local,.local,.local,.local],gl:=[22,4,12],df:=true},body:=QE}
noncomputable def QF:List IS:=
 [(.ret (.sset (.bin .add (.lst [(.c (.str ""))]) (.call 22 [(.v 0),(.v 1),(.v 2),(.tup [(.c (.str "begins"))])]))))]
noncomputable def MJ:Fn:={np:=3,G:={N:=["groups","switch","mark"],kd:=[.local,.local,.local],gl:=[4,12,22],df:=true},body:=QF}
noncomputable def QG:List IS:=
 [(.asg (.nm 4) (.call 23 [(.v 0),(.v 1),(.v 2)])),(.asg (.nm 5) (.call 24 [(.v 0),(.v 1),(.v 2)])),(.asg (.nm 6) (.lst [(.v 3)])),(.Gv (.cmp .ne (.v 6) (.lst [])) [(.pop 7 6),(.Fg (.cmp .JB (.v 7) (.v 4)) [(.ret (.v 7))] []),(.ext 6 (.comp {N:=["text","beginnings","sign"],kd:=[.cell,.cell,.local],gl:=[],df:=false} [7,5] (.nm 2) (.val (.g 21 (.str "abcdefghijklmnopqrstuvwxyz0123456789"))) [(.cmp .JB (.bin .add (.v 0) (.v 2)) (.v 1))] (.bin .add (.v 0) (.v 2))))]),(.ret (.c .EZ))]
noncomputable def MK:Fn:={np:=4,G:={N:=["groups","switch","mark","beginning","texts","beginnings","waiting","text"],kd:=[.local,.local,.local,.local,.local,.cell,.local,.cell],gl:=[23,24,21],df:=true},body:=QG}
noncomputable def Je:List IS:=
 [(.Fg (.cmp .eq (.idx (.v 3) (.c (.int 0))) (.c (.str "none"))) [(.ret (.c .EZ))] []),(.Fg (.cmp .eq (.idx (.v 3) (.c (.int 0))) (.c (.str "text"))) [(.ret (.idx (.v 3) (.c (.int 1))))] []),(.Fg (.cmp .eq (.idx (.v 3) (.c (.int 0))) (.c (.str "begins"))) [(.ret (.call 25 [(.v 0),(.v 1),(.v 2),(.idx (.v 3) (.c (.int 1)))]))] []),(.Fg (.cmp .LC (.idx (.v 3) (.c (.int 1))) (.c .EZ)) [(.ret (.idx (.v 3) (.c (.int 1))))] []),(.ret (.ite (.cmp .IZ (.idx (.v 3) (.c (.int 2))) (.c .EZ)) (.c (.int 0)) (.idx (.v 3) (.c (.int 2)))))]
noncomputable def Gz:Fn:={np:=4,G:={N:=["groups","switch","mark","cell"],kd:=[.local,.local,.local,.local],gl:=[25],df:=true},body:=Je}
noncomputable def QH:List IS:=
 [(.asg (.nm 3) (.c (.int 0))),(.Fg (.cmp .gt (.bi .len [(.v 0)]) (.c (.int 0))) [(.asg (.nm 3) (.bin .mod (.idx (.v 0) (.bin .mod (.v 1) (.bi .len [(.v 0)]))) (.c (.int 2147483647))))] []),(.asg (.nm 4) (.bin .add (.bin .mul (.v 3) (.bin .add (.c (.int 742938285)) (.bin .mul (.bin .mul (.c (.int 9973)) (.v 1)) (.v 1)))) (.bin .mul (.v 1) (.c (.int 630360016))))),(.ret (.bin .mod (.bin .fdiv (.bin .mod (.v 4) (.c (.int 2147483647))) (.c (.int 97))) (.v 2)))]
noncomputable def ML:Fn:={np:=3,G:={N:=["_law_script","_law_k","_law_many","_law_cell","_law_mixed"],kd:=[.local,.local,.local,.local,.local],gl:=[0],df:=true},body:=QH}
noncomputable def NY:List IS:=
 [(.asg (.nm 3) (.c (.str "abcdefghijklmnopqrstuvwxyz"))),(.asg (.nm 4) (.call 27 [(.v 0),(.v 1),(.c (.int 26))])),(.Fg (.cmp .eq (.call 27 [(.v 0),(.bin .add (.v 1) (.c (.int 1))),(.c (.int 5))]) (.c (.int 0))) [(.ret (.comp {N:=["_law_letters","_law_start","_law_j"],kd:=[.cell,.cell,.local],gl:=[],df:=false} [3,4] (.nm 2) (.FO (.v 2)) [] (.bin .mul (.idx (.v 0) (.v 1)) (.bin .add (.c (.int 1)) (.v 2)))))] []),(.asg (.nm 5) (.c (.str ""))),(.Fp (.nm 6) (.FO (.call 27 [(.v 0),(.bin .add (.v 1) (.c (.int 2))),(.c (.int 8))])) [(.asg (.nm 5) (.bin .add (.v 5) (.idx (.v 3) (.call 27 [(.v 0),(.bin .add (.bin .add (.v 1) (.c (.int 40))) (.v 6)),(.c (.int 26))]))))]),(.asg (.nm 7) (.call 27 [(.v 0),(.bin .add (.v 1) (.c (.int 3))),(.bin .add (.bi .len [(.v 5)]) (.c (.int 1)))])),(.asg (.nm 8) (.idx (.lst [(.c (.int 1)),(.c (.int 7)),(.c (.int 25)),(.c (.int 11))]) (.call 27 [(.v 0),(.bin .add (.v 1) (.c (.int 1))),(.c (.int 4))]))),(.ret (.comp {N:=["_law_body","_law_at","_law_letters","_law_start","_law_step","_law_j"],kd:=[.cell,.cell,.cell,.cell,.cell,.local],gl:=[],df:=false} [5,7,3,4,8] (.nm 5) (.FO (.v 2)) [] (.bin .add (.bin .add (.sl (.v 0) none (some (.v 1))) (.idx (.v 2) (.bin .mod (.bin .add (.v 3) (.bin .mul (.v 4) (.v 5))) (.c (.int 26))))) (.sl (.v 0) (some (.v 1)) none))))]
noncomputable def JS:Fn:={np:=3,G:={N:=["_law_script","_law_k","_law_many","_law_letters","_law_start","_law_body","_law_j","_law_at","_law_step"],kd:=[.local,.local,.local,.cell,.cell,.cell,.local,.cell,.cell],gl:=[27,15,0],df:=true},body:=NY}
noncomputable def NZ:List IS:=
 [(.asg (.nm 2) (.c (.str "abcdefghijklmnopqrstuvwxyz0123456789"))),(.asg (.nm 3) (.v 2)),(.Fg (.cmp .eq (.call 27 [(.v 0),(.v 1),(.c (.int 2))]) (.c (.int 0))) [(.asg (.nm 3) (.sl (.sl (.v 2) (some (.call 27 [(.v 0),(.bin .add (.v 1) (.c (.int 1))),(.c (.int 34))])) none) none (some (.c (.int 2)))))] []),(.ret (.HV .join (.c (.str "")) [(.comp {N:=["_law_some","_law_script","_law_k","_law_j"],kd:=[.cell,.cell,.cell,.local],gl:=[27,0],df:=false} [3,0,1] (.nm 3) (.FO (.c (.int 12))) [] (.idx (.v 0) (.call 27 [(.v 1),(.bin .add (.bin .add (.v 2) (.c (.int 2))) (.v 3)),(.bi .len [(.v 0)])])))]))]
noncomputable def JT:Fn:={np:=2,G:={N:=["_law_script","_law_k","_law_signs","_law_some"],kd:=[.cell,.cell,.local,.cell],gl:=[27,15],df:=true},body:=NZ}
noncomputable def L6:List IS:=
 [(.asg (.nm 3) (.sl (.v 2) none (some (.call 27 [(.v 0),(.v 1),(.c (.int 9))])))),(.Fg (.E8 (.cmp .ne (.v 3) (.c (.str ""))) (.cmp .eq (.call 27 [(.v 0),(.bin .add (.v 1) (.c (.int 1))),(.c (.int 3))]) (.c (.int 0)))) [(.asg (.nm 3) (.bin .add (.sl (.v 3) none (some (.neg (.c (.int 1))))) (.idx (.c (.str "abcdefghijklmnopqrstuvwxyz0123456789")) (.call 27 [(.v 0),(.bin .add (.v 1) (.c (.int 2))),(.c (.int 36))]))))] []),(.ret (.v 3))]
noncomputable def IL:Fn:={np:=3,G:={N:=["_law_script","_law_k","_law_stem_here","_law_text_here"],kd:=[.local,.local,.local,.local],gl:=[27],df:=true},body:=L6}
noncomputable def QI:List IS:=
 [(.asg (.nm 2) (.bin .sub (.bin .add (.bin .mul (.call 27 [(.v 0),(.v 1),(.c (.int 20000))]) (.c (.int 100000))) (.call 27 [(.v 0),(.bin .add (.v 1) (.c (.int 1))),(.c (.int 100000))])) (.bin .pow (.c (.int 10)) (.c (.int 9))))),(.ret (.bi .min2 [(.bi .max2 [(.v 2),(.bin .sub (.c (.int 0)) (.c (.int 999999990)))]),(.c (.int 999999990))]))]
noncomputable def MM:Fn:={np:=2,G:={N:=["_law_script","_law_k","_law_number_here"],kd:=[.local,.local,.local],gl:=[27,2,3],df:=true},body:=QI}
noncomputable def N0:List IS:=
 [(.asg (.nm 3) (.call 27 [(.v 0),(.v 1),(.c (.int 8))])),(.Fg (.cmp .lt (.v 3) (.c (.int 5))) [(.ret (.bin .sub (.bin .add (.v 2) (.v 3)) (.c (.int 2))))] []),(.ret (.idx (.lst [(.c (.int 999999999)),(.bin .sub (.c (.int 0)) (.c (.int 999999999))),(.c (.int 0))]) (.bin .sub (.v 3) (.c (.int 5)))))]
noncomputable def JU:Fn:={np:=3,G:={N:=["_law_script","_law_k","_law_center_here","_law_way"],kd:=[.local,.local,.local,.local],gl:=[27],df:=true},body:=N0}
noncomputable def N1:List IS:=
 [(.Fg (.cmp .eq (.call 27 [(.v 0),(.v 1),(.c (.int 2))]) (.c (.int 0))) [(.ret (.call 32 [(.v 0),(.bin .add (.v 1) (.c (.int 1))),(.v 3)]))] []),(.ret (.call 30 [(.v 0),(.bin .add (.v 1) (.c (.int 2))),(.v 2)]))]
noncomputable def JV:Fn:={np:=4,G:={N:=["_law_script","_law_k","_law_stem_here","_law_center_here"],kd:=[.local,.local,.local,.local],gl:=[27,32,30],df:=true},body:=N1}
noncomputable def L7:List IS:=
 [(.Fg (.HH (.cmp .eq (.v 4) (.c (.str "least"))) (.cmp .eq (.v 4) (.c (.str "most")))) [(.ret (.lst [(.call 32 [(.v 0),(.bin .add (.v 1) (.c (.int 1))),(.v 3)])]))] []),(.Fg (.HH (.cmp .eq (.v 4) (.c (.str "has"))) (.cmp .eq (.v 4) (.c (.str "lacks")))) [(.ret (.lst []))] []),(.asg (.nm 6) (.lst [])),(.Fp (.nm 7) (.FO (.bin .add (.c (.int 1)) (.call 27 [(.v 0),(.v 1),(.v 5)]))) [(.asg (.nm 8) (.call 33 [(.v 0),(.bin .add (.bin .add (.v 1) (.c (.int 2))) (.bin .mul (.c (.int 5)) (.v 7))),(.v 2),(.v 3)])),(.Fg (.cmp .eq (.v 4) (.c (.str "begins"))) [(.asg (.nm 8) (.call 30 [(.v 0),(.bin .add (.bin .add (.v 1) (.c (.int 2))) (.bin .mul (.c (.int 5)) (.v 7))),(.v 2)])),(.Fg (.cmp .eq (.v 8) (.c (.str ""))) [(.asg (.nm 8) (.sl (.v 2) none (some (.c (.int 1)))))] [])] []),(.app 6 (.v 8))]),(.ret (.v 6))]
noncomputable def IM:Fn:={np:=6,G:={N:=["_law_script","_law_k","_law_stem_here","_law_center_here","_law_word","_law_room","_law_found","_law_j","_law_thing_here"],kd:=[.local,.local,.local,.local,.local,.local,.local,.local,.local],gl:=[32,15,27,33,30],df:=true},body:=L7}
noncomputable def QJ:List IS:=
 [(.asg (.nm 7) (.lst [(.c (.str "is")),(.c (.str "not")),(.c (.str "begins")),(.c (.str "least")),(.c (.str "most")),(.c (.str "has")),(.c (.str "lacks")),(.c (.str "is")),(.c (.str "begins"))])),(.asg (.nm 8) (.lst [])),(.Fp (.nm 9) (.FO (.v 5)) [(.asg (.nm 10) (.idx (.v 7) (.call 27 [(.v 0),(.bin .add (.v 1) (.bin .mul (.c (.int 60)) (.v 9))),(.c (.int 9))]))),(.asg (.nm 11) (.idx (.v 2) (.call 27 [(.v 0),(.bin .add (.bin .add (.v 1) (.c (.int 1))) (.bin .mul (.c (.int 60)) (.v 9))),(.bi .len [(.v 2)])]))),(.app 8 (.tup [(.v 11),(.v 10),(.call 34 [(.v 0),(.bin .add (.bin .add (.v 1) (.c (.int 2))) (.bin .mul (.c (.int 60)) (.v 9))),(.v 3),(.v 4),(.v 10),(.v 6)])]))]),(.ret (.v 8))]
noncomputable def MN:Fn:={np:=7,G:={N:=["_law_script","_law_k","_law_marks","_law_stem_here","_law_center_here","_law_count","_law_room","_law_words","_law_found","_law_j","_law_word","_law_mark"],kd:=[.local,.local,.local,.local,.local,.local,.local,.local,.local,.local,.local,.local],gl:=[15,27,0,34],df:=true},body:=QJ}
noncomputable def OZ:List IS:=
 [(.asg (.nm 4) (.call 35 [(.v 0),(.c (.int 500)),(.v 1),(.v 2),(.v 3),(.c (.int 2)),(.c (.int 2))])),(.asg (.nm 5) (.idx (.lst [(.c (.str "mates")),(.idx (.v 1) (.c (.int 0))),(.idx (.v 1) (.c (.int 1))),(.c (.str "mates"))]) (.call 27 [(.v 0),(.c (.int 487)),(.c (.int 4))]))),(.asg (.nm 6) (.lst [(.tup [(.v 5),(.idx (.lst [(.lst []),(.lst [(.sl (.v 4) none (some (.c (.int 1))))]),(.lst [(.sl (.v 4) none (some (.c (.int 1)))),(.sl (.v 4) (some (.c (.int 1))) none)]),(.lst [(.v 4)])]) (.call 27 [(.v 0),(.c (.int 480)),(.c (.int 4))]))])])),(.app 6 (.tup [(.idx (.comp {N:=["_law_mates","_law_own"],kd:=[.cell,.local],gl:=[],df:=false} [5] (.nm 1) (.val (.lst [(.c (.str "mates")),(.c (.str "others"))])) [(.cmp .ne (.v 1) (.v 0))] (.v 1)) (.c (.int 0))),(.lst [])])),(.asg (.nm 7) (.call 27 [(.v 0),(.c (.int 481)),(.c (.int 5))])),(.asg (.nm 8) (.call 35 [(.v 0),(.c (.int 200)),(.v 1),(.v 2),(.v 3),(.v 7),(.idx (.lst [(.c (.int 2)),(.c (.int 4))]) (.call 27 [(.v 0),(.c (.int 482)),(.c (.int 2))]))])),(.Fg (.cmp .eq (.call 27 [(.v 0),(.c (.int 483)),(.c (.int 2))]) (.c (.int 0))) [(.asg (.nm 9) (.tup [(.v 5),(.idx (.lst [(.c (.str "in")),(.c (.str "out"))]) (.call 27 [(.v 0),(.c (.int 484)),(.c (.int 2))])),(.lst [])])),(.ins 8 (.call 27 [(.v 0),(.c (.int 485)),(.bin .add (.v 7) (.c (.int 1)))]) (.v 9))] []),(.asg (.nm 10) (.call 27 [(.v 0),(.c (.int 486)),(.bin .add (.bi .len [(.v 8)]) (.c (.int 1)))])),(.asg (.nm 11) (.lst [(.tup [(.sl (.v 8) none (some (.v 10))),(.tup [(.c (.str "face")),(.c (.str "on"))])]),(.tup [(.sl (.v 8) (some (.v 10)) none),(.tup [(.c (.str "lot"))])])])),(.ret (.tup [(.v 6),(.tup [(.c (.str "salt")),(.c (.str "off")),(.v 11),(.tup [(.lst [(.tup [(.c (.str "on")),(.lst [])])]),(.lst [(.tup [(.c (.int 0)),(.c (.int 10007))])])])])]))]
noncomputable def JW:Fn:={np:=4,G:={N:=["_law_script","_law_marks","_law_stem_here","_law_center_here","_law_inner","_law_mates","_law_groups","_law_count","_law_conds","_law_named","_law_at","_law_rules"],kd:=[.local,.local,.local,.local,.local,.cell,.local,.local,.local,.local,.local,.local],gl:=[35,27,0],df:=true},body:=OZ}
noncomputable def QK:List IS:=
 [(.asg (.nm 2) (.lst [])),(.Fp (.tp [(.nm 3),(.nm 4)]) (.val (.idx (.v 1) (.c (.int 2)))) [(.Fp (.nm 5) (.val (.v 3)) [(.Fg (.E8 (.cmp .ne (.idx (.v 5) (.c (.int 1))) (.c (.str "in"))) (.cmp .ne (.idx (.v 5) (.c (.int 1))) (.c (.str "out")))) [(.app 2 (.v 5))] []),(.Fp (.tp [(.nm 6),(.nm 7)]) (.val (.v 0)) [(.Fg (.E8 (.cmp .Hy (.idx (.v 5) (.c (.int 1))) (.lst [(.c (.str "in")),(.c (.str "out"))])) (.cmp .eq (.v 6) (.idx (.v 5) (.c (.int 0))))) [(.Fp (.nm 8) (.val (.v 7)) [(.ext 2 (.v 8))])] [])])])]),(.ret (.v 2))]
noncomputable def MO:Fn:={np:=2,G:={N:=["_law_groups","_law_switch","_law_found","_law_conds","_law_outcome","_law_cond","_law_name","_law_rows","_law_row"],kd:=[.local,.local,.local,.local,.local,.local,.local,.local,.local],gl:=[],df:=true},body:=QK}
noncomputable def QL:List IS:=
 [(.asg (.nm 2) (.lst [])),(.asg (.nm 3) (.lst [(.c (.str ""))])),(.asg (.nm 4) (.lst [])),(.Fp (.tp [(.nm 5),(.nm 6),(.nm 7)]) (.val (.v 0)) [(.Fp (.nm 8) (.val (.v 7)) [(.Fg (.E8 (.cmp .eq (.v 5) (.v 1)) (.cmp .eq (.v 6) (.c (.str "begins")))) [(.app 3 (.v 8))] [(.Fg (.E8 (.cmp .eq (.v 5) (.v 1)) (.FG (.v 8) .str)) [(.app 2 (.v 8))] [(.Fg (.E8 (.cmp .eq (.v 5) (.v 1)) (.cmp .ne (.v 6) (.c (.str "most")))) [(.app 4 (.v 8))] [])])]),(.Fg (.E8 (.cmp .eq (.v 5) (.v 1)) (.E8 (.F3 (.FG (.v 8) .str)) (.cmp .ne (.v 6) (.c (.str "least"))))) [(.app 4 (.bin .add (.v 8) (.c (.int 1))))] [])])]),(.asg (.nm 4) (.sset (.v 4))),(.asg (.nm 9) (.bin .add (.lst [(.tup [(.c (.str "none"))])]) (.comp {N:=["_law_text_here"],kd:=[.local],gl:=[],df:=false} [] (.nm 0) (.val (.sset (.v 2))) [] (.tup [(.c (.str "text")),(.v 0)])))),(.asg (.nm 9) (.bin .add (.v 9) (.comp {N:=["_law_text_here"],kd:=[.local],gl:=[],df:=false} [] (.nm 0) (.val (.sset (.v 3))) [] (.tup [(.c (.str "begins")),(.v 0)])))),(.asg (.nm 10) (.bin .add (.lst [(.c .EZ)]) (.v 4))),(.asg (.nm 11) (.bin .add (.comp {N:=["_law_start"],kd:=[.local],gl:=[],df:=false} [] (.nm 0) (.val (.v 4)) [] (.bin .sub (.v 0) (.c (.int 1)))) (.lst [(.c .EZ)]))),(.ret (.bin .add (.v 9) (.comp {N:=["_law_low","_law_high"],kd:=[.local,.local],gl:=[],df:=false} [] (.tp [(.nm 0),(.nm 1)]) (.zip (.v 10) (.v 11)) [] (.tup [(.c (.str "numbers")),(.v 0),(.v 1)]))))]
noncomputable def MP:Fn:={np:=2,G:={N:=["_law_looked_here","_law_mark","_law_texts","_law_begins","_law_starts","_law_name","_law_word","_law_things","_law_thing_here","_law_cells_here","_law_lows","_law_highs"],kd:=[.local,.local,.local,.local,.local,.local,.local,.local,.local,.local,.local,.local],gl:=[14,11,4,12,17],df:=true},body:=QL}
noncomputable def Jf:List IS:=
 [(.Fg (.cmp .IZ (.v 2) (.c .EZ)) [(.ret (.cmp .eq (.v 1) (.tup [(.c (.str "none"))])))] []),(.Fg (.FG (.v 2) .str) [(.Fg (.cmp .Hy (.tup [(.c (.str "text")),(.v 2)]) (.v 0)) [(.ret (.cmp .eq (.v 1) (.tup [(.c (.str "text")),(.v 2)])))] []),(.asg (.nm 3) (.comp {N:=["_law_thing_here","_law_other"],kd:=[.cell,.local],gl:=[0],df:=false} [2] (.nm 1) (.val (.v 0)) [(.E8 (.cmp .eq (.idx (.v 1) (.c (.int 0))) (.c (.str "begins"))) (.HV .starts (.v 0) [(.idx (.v 1) (.c (.int 1)))]))] (.bi .len [(.idx (.v 1) (.c (.int 1)))]))),(.ret (.cmp .eq (.v 1) (.tup [(.c (.str "begins")),(.sl (.v 2) none (some (.bi .HG [(.v 3)])))])))] []),(.Fg (.cmp .ne (.idx (.v 1) (.c (.int 0))) (.c (.str "numbers"))) [(.ret (.c (.bl false)))] []),(.ret (.E8 (.HH (.cmp .IZ (.idx (.v 1) (.c (.int 1))) (.c .EZ)) (.cmp .le (.idx (.v 1) (.c (.int 1))) (.v 2))) (.HH (.cmp .IZ (.idx (.v 1) (.c (.int 2))) (.c .EZ)) (.cmp .le (.v 2) (.idx (.v 1) (.c (.int 2)))))))]
noncomputable def GA:Fn:={np:=3,G:={N:=["_law_cells_here","_law_cell","_law_thing_here","_law_sizes"],kd:=[.local,.local,.cell,.local],gl:=[14,11,3],df:=true},body:=Jf}
noncomputable def Vm:List IS:=
 [(.Fg (.cmp .IZ (.v 1) (.c .EZ)) [(.ret (.cmp .IZ (.v 0) (.c .EZ)))] []),(.Fg (.HH (.FG (.v 1) .bool) (.FG (.v 0) .bool)) [(.ret (.E8 (.FG (.v 1) .bool) (.E8 (.FG (.v 0) .bool) (.cmp .eq (.v 0) (.v 1)))))] []),(.Fg (.FG (.v 1) .str) [(.ret (.E8 (.FG (.v 0) .str) (.cmp .eq (.v 0) (.v 1))))] []),(.Fg (.FG (.v 1) .int) [(.ret (.E8 (.FG (.v 0) .int) (.cmp .eq (.v 0) (.v 1))))] []),(.Fg (.FG (.v 1) .tuple) [(.Fg (.F3 (.FG (.v 0) .tuple)) [(.ret (.c (.bl false)))] [])] [(.Fg (.F3 (.FG (.v 0) .list)) [(.ret (.c (.bl false)))] [])]),(.Fg (.cmp .ne (.bi .len [(.v 0)]) (.bi .len [(.v 1)])) [(.ret (.c (.bl false)))] []),(.ret (.bi .all [(.comp {N:=["_law_own","_law_part"],kd:=[.local,.local],gl:=[39],df:=false} [] (.tp [(.nm 0),(.nm 1)]) (.zip (.v 0) (.v 1)) [] (.call 39 [(.v 0),(.v 1)]))]))]
noncomputable def QM:Fn:={np:=2,G:={N:=["_law_found","_law_due"],kd:=[.local,.local],gl:=[14,16,11,8,6,5,0,9,17],df:=true},body:=Vm}
noncomputable def Vn:List IS:=
 [(.Fg (.FG (.v 0) .list) [(.ret (.comp {N:=["_law_part"],kd:=[.local],gl:=[40],df:=false} [] (.nm 0) (.val (.v 0)) [] (.call 40 [(.v 0)])))] []),(.Fg (.FG (.v 0) .tuple) [(.ret (.bi .tuple [(.comp {N:=["_law_part"],kd:=[.local],gl:=[40],df:=false} [] (.nm 0) (.val (.v 0)) [] (.call 40 [(.v 0)]))]))] []),(.ret (.v 0))]
noncomputable def QN:Fn:={np:=1,G:={N:=["_law_thing_here"],kd:=[.local],gl:=[14,5,6],df:=true},body:=Vn}
noncomputable def O0:List IS:=
 [(.asg (.nm 3) (.c (.str "abcdefghijklmnopqrstuvwxyz0123456789"))),(.asg (.nm 4) (.call 27 [(.v 0),(.c (.int 620)),(.c (.int 22))])),(.asg (.nm 5) (.sl (.v 2) none (some (.call 27 [(.v 0),(.c (.int 621)),(.c (.int 8))])))),(.asg (.nm 6) (.comp {N:=["_law_short","_law_sign"],kd:=[.cell,.local],gl:=[],df:=false} [5] (.nm 1) (.val (.sl (.v 3) (some (.v 4)) (some (.bin .add (.v 4) (.c (.int 15)))))) [] (.bin .add (.v 0) (.v 1)))),(.Fg (.cmp .eq (.call 27 [(.v 0),(.c (.int 622)),(.c (.int 2))]) (.c (.int 0))) [(.asg (.nm 6) (.Gu (.v 6)))] []),(.asg (.nm 7) (.call 27 [(.v 0),(.c (.int 623)),(.c (.int 9))])),(.asg (.nm 8) (.lst [(.tup [(.v 1),(.c (.str "begins")),(.comp {N:=["_law_thing_here"],kd:=[.local],gl:=[],df:=false} [] (.nm 0) (.val (.bin .add (.sl (.v 6) none (some (.v 7))) (.lst [(.v 5)]))) [(.cmp .ne (.v 0) (.c (.str "")))] (.v 0))])])),(.asg (.nm 8) (.bin .add (.comp {N:=["_law_cond"],kd:=[.local],gl:=[],df:=false} [] (.nm 0) (.val (.v 8)) [(.cmp .ne (.idx (.v 0) (.c (.int 2))) (.lst []))] (.v 0)) (.lst [(.tup [(.v 1),(.c (.str "is")),(.bin .add (.sl (.sl (.v 6) (some (.v 7)) (some (.c (.int 15)))) none (some (.c (.int 9)))) (.lst [(.v 5)]))])]))),(.ret (.tup [(.lst []),(.tup [(.c (.str "salt")),(.c (.str "off")),(.lst [(.tup [(.v 8),(.tup [(.c (.str "face")),(.c (.str "on"))])])]),(.tup [(.lst []),(.lst [(.tup [(.c (.int 0)),(.c (.int 10007))])])])])]))]
noncomputable def JX:Fn:={np:=3,G:={N:=["_law_script","_law_mark","_law_stem_here","_law_signs","_law_start","_law_short","_law_some","_law_cut","_law_conds"],kd:=[.local,.local,.local,.local,.local,.cell,.local,.local,.local],gl:=[27,5,18],df:=true},body:=O0}
noncomputable def L8:List IS:=
 [(.Fg (.cmp .eq (.v 1) (.tup [(.c (.str "none"))])) [(.ret (.cmp .IZ (.v 2) (.c .EZ)))] []),(.Fg (.FG (.v 2) .str) [(.asg (.nm 3) (.c (.str "abcdefghijklmnopqrstuvwxyz0123456789"))),(.Fg (.HH (.cmp .gt (.bi .len [(.v 2)]) (.c (.int 12))) (.F3 (.bi .all [(.comp {N:=["_law_signs","_law_sign"],kd:=[.cell,.local],gl:=[],df:=false} [3] (.nm 1) (.val (.v 2)) [] (.cmp .Hy (.v 1) (.v 0)))]))) [(.ret (.c (.bl false)))] [])] [(.Fg (.HH (.F3 (.FG (.v 2) .int)) (.HH (.FG (.v 2) .bool) (.HH (.cmp .gt (.v 2) (.bin .pow (.c (.int 10)) (.c (.int 9)))) (.cmp .lt (.v 2) (.bin .sub (.c (.int 0)) (.bin .pow (.c (.int 10)) (.c (.int 9)))))))) [(.ret (.c (.bl false)))] [])]),(.ret (.call 41 [(.v 0),(.v 1),(.v 2)]))]
noncomputable def IP:Fn:={np:=3,G:={N:=["_law_cells_here","_law_cell","_law_found","_law_signs"],kd:=[.local,.local,.local,.cell],gl:=[14,11,0,9,8,16,41],df:=true},body:=L8}
noncomputable def QO:List IS:=
 [(.asg (.nm 1) (.call 28 [(.v 0),(.c (.int 0)),(.c (.int 2))])),(.asg (.nm 2) (.call 29 [(.v 0),(.c (.int 130))])),(.asg (.tp [(.nm 3),(.nm 4)]) (.call 36 [(.v 0),(.v 1),(.v 2),(.call 31 [(.v 0),(.c (.int 145))])])),(.Fg (.cmp .eq (.call 27 [(.v 0),(.c (.int 619)),(.c (.int 4))]) (.c (.int 0))) [(.asg (.tp [(.nm 3),(.nm 4)]) (.call 42 [(.v 0),(.idx (.v 1) (.c (.int 0))),(.v 2)]))] []),(.asg (.nm 5) (.call 37 [(.v 3),(.v 4)])),(.asg (.nm 6) (.call 40 [(.tup [(.v 3),(.v 4)])])),(.Fp (.nm 7) (.val (.v 1)) [(.asg (.nm 8) (.call 38 [(.v 5),(.v 7)])),(.Fp (.nm 9) (.val (.v 8)) [(.Fg (.F3 (.call 43 [(.v 8),(.v 9),(.call 26 [(.idx (.v 6) (.c (.int 0))),(.idx (.v 6) (.c (.int 1))),(.v 7),(.v 9)])])) [(.ret (.c (.bl false)))] [])])]),(.ret (.call 39 [(.v 6),(.tup [(.v 3),(.v 4)])]))]
noncomputable def L9:Fn:={np:=1,G:={N:=["_law_script","_law_marks","_law_stem_here","_law_groups","_law_switch","_law_looked_here","_law_handed","_law_mark","_law_cells_here","_law_cell"],kd:=[.local,.local,.local,.local,.local,.local,.local,.local,.local,.local],gl:=[28,29,36,31,27,42,37,40,38,43,26,39],df:=true},body:=QO}
noncomputable def T:Tb:=fun n=>match n with
 | 19=>some MG
 | 20=>some JR
 | 22=>some MH
 | 23=>some MI
 | 24=>some MJ
 | 25=>some MK
 | 26=>some Gz
 | 27=>some ML
 | 28=>some JS
 | 29=>some JT
 | 30=>some IL
 | 31=>some MM
 | 32=>some JU
 | 33=>some JV
 | 34=>some IM
 | 35=>some MN
 | 36=>some JW
 | 37=>some MO
 | 38=>some MP
 | 41=>some GA
 | 39=>some QM
 | 40=>some QN
 | 42=>some JX
 | 43=>some IP
 | 44=>some L9
 | _=>none
theorem c19:aA Z MG ["groups","names"] (top 2)=true:=by decide +kernel
theorem c20:aA Z JR ["groups","switch"] (top 3)=true:=by decide +kernel
theorem c22:aA Z MH ["groups","switch","mark","words"] (top 4)=true:=by decide +kernel
theorem c23:aA Z MI ["groups","switch","mark"] (top 5)=true:=by decide +kernel
theorem c24:aA Z MJ ["groups","switch","mark"] (top 6)=true:=by decide +kernel
theorem c25:aA Z MK ["groups","switch","mark","beginning"] (top 7)=true:=by decide +kernel
theorem c26:aA Z Gz ["groups","switch","mark","cell"] (top 8)=true:=by decide +kernel
theorem c27:aA Z ML ["_law_script","_law_k","_law_many"] (top 10)=true:=by decide +kernel
theorem c28:aA Z JS ["_law_script","_law_k","_law_many"] (top 11)=true:=by decide +kernel
theorem c29:aA Z JT ["_law_script","_law_k"] (top 12)=true:=by decide +kernel
theorem c30:aA Z IL ["_law_script","_law_k","_law_stem_here"] (top 13)=true:=by decide +kernel
theorem c31:aA Z MM ["_law_script","_law_k"] (top 14)=true:=by decide +kernel
theorem c32:aA Z JU ["_law_script","_law_k","_law_center_here"] (top 15)=true:=by decide +kernel
theorem c33:aA Z JV ["_law_script","_law_k","_law_stem_here","_law_center_here"] (top 16)=true:=by decide +kernel
theorem c34:aA Z IM ["_law_script","_law_k","_law_stem_here","_law_center_here","_law_word","_law_room"] (top 17)=true:=by decide +kernel
theorem c35:aA Z MN ["_law_script","_law_k","_law_marks","_law_stem_here","_law_center_here","_law_count","_law_room"] (top 18)=true:=by decide +kernel
theorem c36:aA Z JW ["_law_script","_law_marks","_law_stem_here","_law_center_here"] (top 19)=true:=by decide +kernel
theorem c37:aA Z MO ["_law_groups","_law_switch"] (top 20)=true:=by decide +kernel
theorem c38:aA Z MP ["_law_looked_here","_law_mark"] (top 21)=true:=by decide +kernel
theorem c41:aA Z GA ["_law_cells_here","_law_cell","_law_thing_here"] (top 22)=true:=by decide +kernel
theorem c39:aA Z QM ["_law_found","_law_due"] (top 23)=true:=by decide +kernel
theorem c40:aA Z QN ["_law_thing_here"] (top 24)=true:=by decide +kernel
theorem c42:aA Z JX ["_law_script","_law_mark","_law_stem_here"] (top 25)=true:=by decide +kernel
theorem c43:aA Z IP ["_law_cells_here","_law_cell","_law_found"] (top 26)=true:=by decide +kernel
theorem S3:aA Z L9 ["_law_script"] (top 27)=true:=by decide +kernel
theorem As:∀ n x,Z.name n=some x->x≠"__name__"/\(x == ("__debug__" : Str))=false:=by
 have h:(aZ++Z.nm).all (fun x=>!(x == "__name__")&&!(x == "__debug__"))=true:=by decide +kernel
 intro n x hx
 have:=List.all_eq_true.mp h x (List.mem_of_getElem? hx)
 simpa using this
theorem ln1 {fd:FuncData}{ps:List Str}(h:∀ x0:Value,bindArgs fd ⟨[x0],[]⟩=pure (ps.zip [x0]))(us:List Value)(e:us.length=1):bindArgs fd ⟨us,[]⟩=pure (ps.zip us):=by
 match us,e with
 | [x0],_=>exact h x0
theorem ln2 {fd:FuncData}{ps:List Str}(h:∀ x0 x1:Value,bindArgs fd ⟨[x0,x1],[]⟩=pure (ps.zip [x0,x1]))(us:List Value)(e:us.length=2):bindArgs fd ⟨us,[]⟩=pure (ps.zip us):=by
 match us,e with
 | [x0,x1],_=>exact h x0 x1
theorem ln3 {fd:FuncData}{ps:List Str}(h:∀ x0 x1 x2:Value,bindArgs fd ⟨[x0,x1,x2],[]⟩=pure (ps.zip [x0,x1,x2]))(us:List Value)(e:us.length=3):bindArgs fd ⟨us,[]⟩=pure (ps.zip us):=by
 match us,e with
 | [x0,x1,x2],_=>exact h x0 x1 x2
theorem ln4 {fd:FuncData}{ps:List Str}(h:∀ x0 x1 x2 x3:Value,bindArgs fd ⟨[x0,x1,x2,x3],[]⟩=pure (ps.zip [x0,x1,x2,x3]))(us:List Value)(e:us.length=4):bindArgs fd ⟨us,[]⟩=pure (ps.zip us):=by
 match us,e with
 | [x0,x1,x2,x3],_=>exact h x0 x1 x2 x3
theorem ln6 {fd:FuncData}{ps:List Str}(h:∀ x0 x1 x2 x3 x4 x5:Value,bindArgs fd ⟨[x0,x1,x2,x3,x4,x5],[]⟩=pure (ps.zip [x0,x1,x2,x3,x4,x5]))(us:List Value)(e:us.length=6):bindArgs fd ⟨us,[]⟩=pure (ps.zip us):=by
 match us,e with
 | [x0,x1,x2,x3,x4,x5],_=>exact h x0 x1 x2 x3 x4 x5
theorem ln7 {fd:FuncData}{ps:List Str}(h:∀ x0 x1 x2 x3 x4 x5 x6:Value,bindArgs fd ⟨[x0,x1,x2,x3,x4,x5,x6],[]⟩=pure (ps.zip [x0,x1,x2,x3,x4,x5,x6]))(us:List Value)(e:us.length=7):bindArgs fd ⟨us,[]⟩=pure (ps.zip us):=by
 match us,e with
 | [x0,x1,x2,x3,x4,x5,x6],_=>exact h x0 x1 x2 x3 x4 x5 x6
theorem dfo {f:Nat}{x:Str}{fn:Fn}{st:Stmt}{fa:Addr}{ps:List Str}{K:W.Frag}{h:Heap}{mg:Str->Option Value}{oc:Value}{od an:Option Addr}{sl:Array (Option Value)}{kV dc pm cd ct:Value}(c:aA Z fn ps st=true)(hT:T f=some fn)(b:∀ (kV dc pm:Value)(an:Option Addr)(cd ct:Value)(us:List Value),us.length=ps.length->bindArgs (W.fnOf x x (ck st) (bB st) (ar st) .none kV dc pm an cd ct) ⟨us,[]⟩=pure (ps.zip us))(X:K.In h)(G:h.Ns mainGlobals mg)
  (a:W.nsIn K mainGlobals x=some (some (.ref fa))) (l:K.lookup fa=some ⟨oc,od,.func (W.fnOf x x (ck st) (bB st) (ar st) .none kV dc pm an cd ct),sl⟩) (e:W.codeIn K cd x=true) (k:W.keepIn K (.ref fa)=true):Fd K mg Z T f x:=⟨fn,st,fa,_,ps,hT,kG l e k,W.mg_of X G a,(kG l e k).binds b,j6 c⟩
noncomputable def vq:Nat:=44
noncomputable def vt:Str:="_law_script"
theorem all_mk {l:PySem.W.OpenLaw}{w:World}{fa:Addr}{K:W.Frag}{h:Heap}{mg:Str->Option Value}{QP:Addr}{QQ N2:Option Addr}{QR:Array (Option Value)}{QS N3 N4 N5 L' N6:Value}{Vo:Tok}(X:K.In h)(G:h.Ns mainGlobals mg)(Vp:mg "law" = some (.ref fa))
  (Vq:Fd K mg Z T 19 "group_conds")
  (Vr:Fd K mg Z T 20 "looked_conds")
  (Vs:Fd K mg Z T 22 "things_told")
  (Vt:Fd K mg Z T 23 "texts_told")
  (Vu:Fd K mg Z T 24 "beginnings_told")
  (Vv:Fd K mg Z T 25 "text_beginning")
  (Vw:Fd K mg Z T 26 "thing_in")
  (Vx:Fd K mg Z T 27 "_law_draw")
  (Vy:Fd K mg Z T 28 "_law_names")
  (Vz:Fd K mg Z T 29 "_law_stem")
  (VA:Fd K mg Z T 30 "_law_text")
  (VB:Fd K mg Z T 31 "_law_center")
  (VC:Fd K mg Z T 32 "_law_number")
  (VD:Fd K mg Z T 33 "_law_thing")
  (VE:Fd K mg Z T 34 "_law_many_things")
  (VF:Fd K mg Z T 35 "_law_many_conds")
  (VG:Fd K mg Z T 36 "_law_looking")
  (VH:Fd K mg Z T 37 "_law_looked")
  (VI:Fd K mg Z T 38 "_law_cells")
  (VJ:Fd K mg Z T 41 "_law_lies")
  (VL:Fd K mg Z T 39 "_law_same")
  (VM:Fd K mg Z T 40 "_law_copy")
  (VN:Fd K mg Z T 42 "_law_crowded")
  (VO:Fd K mg Z T 43 "_law_good")
  (a44:W.nsIn K mainGlobals "law" = some (some (.ref QP))) (l44:K.lookup QP=some ⟨QS,QQ,.func (W.fnOf "law" "law" (ck (top 27)) (bB (top 27)) (ar (top 27)) .none N3 N4 N5 N2 L' N6),QR⟩) (e44:W.codeIn K L' "law" = true) (k44:W.keepIn K (.ref QP)=true)
  (q21:W.nsIn K mainGlobals "SIGNS" = some (some (.str "abcdefghijklmnopqrstuvwxyz0123456789" Vo)))
  (z0:W.nsIn K mainGlobals "len" = some none)
  (z1:W.nsIn K mainGlobals "sum" = some none)
  (z2:W.nsIn K mainGlobals "min" = some none)
  (z3:W.nsIn K mainGlobals "max" = some none)
  (z4:W.nsIn K mainGlobals "sorted" = some none)
  (z5:W.nsIn K mainGlobals "list" = some none)
  (z6:W.nsIn K mainGlobals "tuple" = some none)
  (z7:W.nsIn K mainGlobals "ord" = some none)
  (z8:W.nsIn K mainGlobals "int" = some none)
  (z9:W.nsIn K mainGlobals "all" = some none)
  (z10:W.nsIn K mainGlobals "any" = some none)
  (z11:W.nsIn K mainGlobals "str" = some none)
  (z12:W.nsIn K mainGlobals "set" = some none)
  (z13:W.nsIn K mainGlobals "abs" = some none)
  (z14:W.nsIn K mainGlobals "isinstance" = some none)
  (z15:W.nsIn K mainGlobals "range" = some none)
  (z16:W.nsIn K mainGlobals "bool" = some none)
  (z17:W.nsIn K mainGlobals "zip" = some none)
  (z18:W.nsIn K mainGlobals "reversed" = some none) :
  ∃ fd:FuncData,(∀ (s:Shared) (v:Value),BindsTo s fd ⟨[v],[]⟩ [(vt,v)])/\∀ base:Heap,K.In base->base.Ns mainGlobals mg->GL l.prog w K mg base (GH l.prog w) (14+1) fa fd [vt] (MF K (ae T (14+1)) vq [vt]):=by
 have e:=Vp.symm.trans (PySem.W.mg_of X G a44)
 cases e
 have t:IK K mg Z T:=by
  constructor
  case LM=>
   exact As
  case blt=>
   exact fun n x hx=>by
    have key:∀ y∈aZ,mg y=none:=by
     intro y hy
     simp only[aZ,List.mem_cons,List.not_mem_nil,or_false] at hy
     rcases hy with rfl|rfl|rfl|rfl|rfl|rfl|rfl|rfl|rfl|rfl|rfl|rfl|rfl|rfl|rfl|rfl|rfl|rfl|rfl
     ·exact W.mg_none_of X G z0
     ·exact W.mg_none_of X G z1
     ·exact W.mg_none_of X G z2
     ·exact W.mg_none_of X G z3
     ·exact W.mg_none_of X G z4
     ·exact W.mg_none_of X G z5
     ·exact W.mg_none_of X G z6
     ·exact W.mg_none_of X G z7
     ·exact W.mg_none_of X G z8
     ·exact W.mg_none_of X G z9
     ·exact W.mg_none_of X G z10
     ·exact W.mg_none_of X G z11
     ·exact W.mg_none_of X G z12
     ·exact W.mg_none_of X G z13
     ·exact W.mg_none_of X G z14
     ·exact W.mg_none_of X G z15
     ·exact W.mg_none_of X G z16
     ·exact W.mg_none_of X G z17
     ·exact W.mg_none_of X G z18
    exact key x (List.mem_of_getElem? hx)
  case cst=>
   exact fun n d x hm hx=>by
    have LW:(n,d)∈([(21,(.str "abcdefghijklmnopqrstuvwxyz0123456789"))]:List (Nat×D)):=hm
    simp only[List.mem_cons,List.not_mem_nil,or_false,Prod.mk.injEq] at LW
    rcases LW with ⟨rfl,rfl⟩
    ·cases hx;exact⟨_,.str _,PySem.W.mg_of X G q21,⟨_,rfl⟩,fun _ _=>.str _⟩
  case fns=>
   exact fun f hf x hx=>by
    have K4:f∈([19,20,22,23,24,25,26,27,28,29,30,31,32,33,34,35,36,37,38,41,39,40,42,43,44]:List Nat):=hf
    simp only[List.mem_cons,List.not_mem_nil,or_false] at K4
    rcases K4 with rfl|rfl|rfl|rfl|rfl|rfl|rfl|rfl|rfl|rfl|rfl|rfl|rfl|rfl|rfl|rfl|rfl|rfl|rfl|rfl|rfl|rfl|rfl|rfl|rfl
    ·cases hx;exact Vq
    ·cases hx;exact Vr
    ·cases hx;exact Vs
    ·cases hx;exact Vt
    ·cases hx;exact Vu
    ·cases hx;exact Vv
    ·cases hx;exact Vw
    ·cases hx;exact Vx
    ·cases hx;exact Vy
    ·cases hx;exact Vz
    ·cases hx;exact VA
    ·cases hx;exact VB
    ·cases hx;exact VC
    ·cases hx;exact VD
    ·cases hx;exact VE
    ·cases hx;exact VF
    ·cases hx;exact VG
    ·cases hx;exact VH
    ·cases hx;exact VI
    ·cases hx;exact VJ
    ·cases hx;exact VL
    ·cases hx;exact VM
    ·cases hx;exact VN
    ·cases hx;exact VO
    ·cases hx;exact dfo S3 rfl (fun _ _ _ _ _ _=>ln1 fun _=>rfl) X G a44 l44 e44 k44
  case So=>
   exact fun f hf=>absurd (show f∈([]:List Nat) from hf) (by simp)
  case NC=>
   exact fun n hn=>absurd (show n∈([]:List Nat) from hn) (by simp)
  case ND=>
   exact fun c n b x hm=>absurd (show (c,n,b)∈([]:List (Str×Nat×Bool)) from hm) (by simp)
  case NF=>
   exact fun c n x hm=>absurd (show (c,n)∈([]:List (Str×Nat)) from hm) (by simp)
  case NG=>
   exact fun n c hm=>absurd (show (n,c)∈([]:List (Nat×Str)) from hm) (by simp)
 exact⟨PySem.W.fnOf "law" "law" (ck (top 27)) (bB (top 27)) (ar (top 27)) .none N3 N4 N5 N2 L' N6,fun s v=>.of_eq rfl,fun base _ _=>zW t 14 (by decide) (f:=44) (fn:=L9) rfl (kG (st:=top 27) l44 e44 k44) (j6 S3)⟩
end Law
namespace L2
open PySem PySem.Spec PyProof.Rows PySem.SeqAt
namespace Fr
variable {T:Tb}
mutual
noncomputable def pl:Nat->D->Bool
 | n+1,.tup ds=>Fo n ds&&decide (ds.length < 1000)
 | n+1,.lst o ds=>!o&&(Fo n ds&&decide (ds.length < 1000))
 | _+1,.Ff _ _ _=>false
 | _+1,.exc _=>false
 | 0,_=>false
 | _+1,_=>true
noncomputable def Fo:Nat->List D->Bool
 | _,[]=>true
 | n,d::ds=>pl n d&&Fo n ds
end
theorem ja {n:Nat}:∀ {ds:List D},Fo n ds=true->∀ d∈ds,pl n d=true
 | [],_,d,hd=>by simp at hd
 | e::ds,h,d,hd=>by
  have h':=Bool.and_eq_true_iff.mp (show (pl n e&&Fo n ds)=true from h)
  rcases List.mem_cons.mp hd with rfl|hd
  ·exact h'.1
  ·exact ja h'.2 d hd
theorem kh:∀ (n:Nat) (d:D),pl n d=true->er d=d:=by
 intro n
 induction n with
 | zero=>intro d h;cases d<;>cases h
 | succ n ih=>
  have all:∀ ds:List D,Fo n ds=true->E0 ds=ds:=by
   intro ds
   induction ds with
   | nil=>intro _;rfl
   | cons e ds PZ=>
    intro h
    have h':=Bool.and_eq_true_iff.mp (show (pl n e&&Fo n ds)=true from h)
    show er e::E0 ds=_
    rw[ih e h'.1,PZ h'.2]
  intro d h
  cases d with
  | tup ds=>
   have h':=Bool.and_eq_true_iff.mp (show (Fo n ds&&decide (ds.length < 1000))=true from h)
   rw[er,all ds h'.1]
  | lst o ds=>
   have h':=Bool.and_eq_true_iff.mp (show (!o&&(Fo n ds&&decide (ds.length < 1000)))=true from h)
   have h2:=Bool.and_eq_true_iff.mp h'.2
   have ho:o=false:=by simpa using h'.1
   subst ho
   rw[er,all ds h2.1]
  | Ff _ _ _=>cases h
  | exc _=>cases h
  | _=>rfl
theorem sF {n:Nat}:∀ {ds:List D},Fo n ds=true->E0 ds=ds
 | [],_=>rfl
 | e::ds,h=>by
  have h':=Bool.and_eq_true_iff.mp (show (pl n e&&Fo n ds)=true from h)
  show er e::E0 ds=_
  rw[kh n e h'.1,sF h'.2]
noncomputable def sG (f:Nat):Gm:={N:=["_law_own","_law_part"],kd:=[.local,.local],gl:=[f],df:=false}
noncomputable def xY (f:Nat):List IS:=
 [(.Fg (.cmp .IZ (.v 1) (.c .EZ)) [(.ret (.cmp .IZ (.v 0) (.c .EZ)))] []),(.Fg (.HH (.FG (.v 1) .bool) (.FG (.v 0) .bool)) [(.ret (.E8 (.FG (.v 1) .bool) (.E8 (.FG (.v 0) .bool) (.cmp .eq (.v 0) (.v 1)))))] []),(.Fg (.FG (.v 1) .str) [(.ret (.E8 (.FG (.v 0) .str) (.cmp .eq (.v 0) (.v 1))))] []),(.Fg (.FG (.v 1) .int) [(.ret (.E8 (.FG (.v 0) .int) (.cmp .eq (.v 0) (.v 1))))] []),(.Fg (.FG (.v 1) .tuple) [(.Fg (.F3 (.FG (.v 0) .tuple)) [(.ret (.c (.bl false)))] [])] [(.Fg (.F3 (.FG (.v 0) .list)) [(.ret (.c (.bl false)))] [])]),(.Fg (.cmp .ne (.bi .len [(.v 0)]) (.bi .len [(.v 1)])) [(.ret (.c (.bl false)))] []),(.ret (.bi .all [(.comp (sG f) [] (.tp [(.nm 0),(.nm 1)]) (.zip (.v 0) (.v 1)) [] (.call f [(.v 0),(.v 1)]))]))]
theorem gw (ds:List D):dj ds ds=ds.map fun a=>.tup [a,a]:=by
 unfold dj
 induction ds with
 | nil=>rfl
 | cons d ds ih=>rw[List.zipWith_cons_cons,ih];rfl
theorem ki:∀ n:Nat,du (List.replicate n (D.bl true))=some (List.replicate n true)
 | 0=>rfl
 | n+1=>by
  rw[List.replicate_succ,List.replicate_succ]
  show (du _).map _=_
  rw[ki n]
  rfl
theorem all_true (o:Bool)(n:Nat):cR .all [.lst o (List.replicate n (D.bl true))]=.ok (.bl true):=by
 show (match du (List.replicate n (D.bl true)) with|some bs=>.ok (.bl (bs.all id))|none=>EY:Res D)=_
 rw[ki]
 simp
theorem vw {f:Nat}{fn:Fn}(hT:T f=some fn)(h1:fn.np=2)(h2:fn.G.N.length=2)(h3:fn.body=xY f):∀ (n k:Nat) (d:D),pl n d=true->ae T (n+k) f [d,d]=.ok (.bl true):=by
 intro n
 induction n with
 | zero=>intro k d h;cases d<;>cases h
 | succ n ih=>
  intro k d h
  have fm:∀ ds:List D,Fo n ds=true->ax (aC (ae T (n+k)) (.tp [(.nm 0),(.nm 1)]) [] (.call f [(.v 0),(.v 1)]) [none,none]) (dj ds ds)=.ok (List.replicate ds.length (D.bl true)):=by
   intro ds hp
   rw[gw]
   refine(Ev.dY (fun a:D=>D.tup [a,a]) (fun _=>D.bl true) id ds fun x hx=>?_).trans (by rw[List.map_id,List.map_const'])
   have FT:=ja hp x hx
   have hc:=ih k x FT
   have he:=kh n x FT
   have e2:E0 [x,x]=[x,x]:=by show [er x,er x]=_;rw[he]
   simp -implicitDefEqProofs (disch:=omega) only[E1,Nat.reduceBEq,Nat.reduceSub,Nat.reduceAdd,reduceIte,Ev.ag,hc,e2,he,id]
  rw[show n+1+k=(n+k)+1 by omega,Ev.go hT h1 h2 h3 rfl]
  unfold xY
  cases d with
  | EZ=>simp -implicitDefEqProofs (disch:=omega) only[E1,Nat.reduceBEq,Nat.reduceSub,Nat.reduceAdd,reduceIte]
  | bl b=>simp -implicitDefEqProofs (disch:=omega) only[E1,Nat.reduceBEq,Nat.reduceSub,Nat.reduceAdd,reduceIte]
  | int i=>simp -implicitDefEqProofs (disch:=omega) only[E1,Nat.reduceBEq,Nat.reduceSub,Nat.reduceAdd,reduceIte]
  | str x=>simp -implicitDefEqProofs (disch:=omega) only[E1,Nat.reduceBEq,Nat.reduceSub,Nat.reduceAdd,reduceIte]
  | tup ds=>
   have h':=Bool.and_eq_true_iff.mp (show (Fo n ds&&decide (ds.length < 1000))=true from h)
   have hl:ds.length < 1000:=of_decide_eq_true h'.2
   have hz:(dj ds ds).length=ds.length:=by rw[gw,List.length_map]
   have e:=fm ds h'.1
   have ea:=all_true true ds.length
   unfold sG
   simp -implicitDefEqProofs (disch:=omega) only[E1,Nat.reduceBEq,Nat.reduceSub,Nat.reduceAdd,reduceIte,e,ea,hz]
  | lst o ds=>
   have h0:=Bool.and_eq_true_iff.mp (show (!o&&(Fo n ds&&decide (ds.length < 1000)))=true from h)
   have h':=Bool.and_eq_true_iff.mp h0.2
   have hl:ds.length < 1000:=of_decide_eq_true h'.2
   have hz:(dj ds ds).length=ds.length:=by rw[gw,List.length_map]
   have e:=fm ds h'.1
   have ea:=all_true true ds.length
   unfold sG
   simp -implicitDefEqProofs (disch:=omega) only[E1,Nat.reduceBEq,Nat.reduceSub,Nat.reduceAdd,reduceIte,e,ea,hz]
  | Ff _ _ _=>cases h
  | exc _=>cases h
end Fr
namespace Fr
variable {T:Tb}
noncomputable def mZ (f:Nat)(x:Str):Gm:={N:=[x],kd:=[.local],gl:=[f],df:=false}
noncomputable def xZ (f:Nat)(x:Str):List IS:=
 [(.Fg (.FG (.v 0) .list) [(.ret (.comp (mZ f x) [] (.nm 0) (.val (.v 0)) [] (.call f [(.v 0)])))] []),(.Fg (.FG (.v 0) .tuple) [(.ret (.bi .tuple [(.comp (mZ f x) [] (.nm 0) (.val (.v 0)) [] (.call f [(.v 0)]))]))] []),(.ret (.v 0))]
theorem FP:∀ ds:List D,E0 (E0 ds)=E0 ds:=by
 intro ds
 rw[aF,aF,List.map_map]
 exact List.map_congr_left fun d _=>pZ d
theorem m7 {g:D->Res (Option D)}:∀ (xs:List D),(∀ x∈xs,∃ y,g x=.ok (some y)/\er y=er x)->∃ ys,ax g xs=.ok ys/\E0 ys=E0 xs/\ys.length=xs.length
 | [],_=>⟨[],rfl,rfl,rfl⟩
 | x::xs,h=>by
  obtain⟨y,h1,h2⟩:=h x (by simp)
  obtain⟨ys,h3,h4,h5⟩:=m7 xs fun z hz=>h z (List.mem_cons_of_mem _ hz)
  refine⟨y::ys,?_,by show er y::E0 ys=er x::E0 xs;rw[h2,h4],by rw[List.length_cons,List.length_cons,h5]⟩
  show U (g x) _=_
  rw[h1]
  show U (ax g xs) _=_
  rw[h3]
  rfl
theorem vx {f:Nat}{fn:Fn}{x:Str}(hT:T f=some fn)(h1:fn.np=1)(h2:fn.G.N.length=1)(h3:fn.body=xZ f x):∀ (n k:Nat) (d:D),pl n d=true->∃ d',ae T (n+k) f [d]=.ok d'/\er d'=d:=by
 intro n
 induction n with
 | zero=>intro k d h;cases d<;>cases h
 | succ n ih=>
  intro k d h
  have fm:∀ ds:List D,Fo n ds=true->∃ ys,ax (aC (ae T (n+k)) (.nm 0) [] (.call f [(.v 0)]) [none]) ds=.ok ys/\E0 ys=ds/\ys.length=ds.length:=by
   intro ds hp
   obtain⟨ys,h1,h2,h3⟩:=m7 (g:=aC (ae T (n+k)) (.nm 0) [] (.call f [(.v 0)]) [none]) ds fun x hx=>by
    have FT:=ja hp x hx
    obtain⟨y,hc,hy⟩:=ih k x FT
    have he:=kh n x FT
    have e2:E0 [x]=[x]:=by show [er x]=_;rw[he]
    refine⟨y,?_,hy.trans he.symm⟩
    simp -implicitDefEqProofs (disch:=omega) only[E1,Nat.reduceBEq,Nat.reduceSub,Nat.reduceAdd,reduceIte,Ev.ag,hc,e2,he]
   exact⟨ys,h1,h2.trans (sF hp),h3⟩
  rw[show n+1+k=(n+k)+1 by omega,Ev.go hT h1 h2 h3 rfl]
  unfold xZ
  cases d with
  | EZ=>exact⟨.EZ,by simp -implicitDefEqProofs (disch:=omega) only[E1,Nat.reduceBEq,Nat.reduceSub,Nat.reduceAdd,reduceIte],rfl⟩
  | bl b=>exact⟨.bl b,by simp -implicitDefEqProofs (disch:=omega) only[E1,Nat.reduceBEq,Nat.reduceSub,Nat.reduceAdd,reduceIte],rfl⟩
  | int i=>exact⟨.int i,by simp -implicitDefEqProofs (disch:=omega) only[E1,Nat.reduceBEq,Nat.reduceSub,Nat.reduceAdd,reduceIte],rfl⟩
  | str z=>exact⟨.str z,by simp -implicitDefEqProofs (disch:=omega) only[E1,Nat.reduceBEq,Nat.reduceSub,Nat.reduceAdd,reduceIte],rfl⟩
  | tup ds=>
   have h':=Bool.and_eq_true_iff.mp (show (Fo n ds&&decide (ds.length < 1000))=true from h)
   have hl:ds.length < 1000:=of_decide_eq_true h'.2
   obtain⟨ys,e,hy,VP⟩:=fm ds h'.1
   unfold mZ
   cases lf:af ys with
   | true=>
    refine⟨.tup ys,?_,by rw[er,hy]⟩
    simp -implicitDefEqProofs (disch:=omega) only[E1,Nat.reduceBEq,Nat.reduceSub,Nat.reduceAdd,reduceIte,e,lf]
   | false=>
    refine⟨.tup (E0 ys),?_,by rw[er,FP,hy]⟩
    simp -implicitDefEqProofs (disch:=omega) only[E1,Nat.reduceBEq,Nat.reduceSub,Nat.reduceAdd,reduceIte,e,lf]
  | lst o ds=>
   have h0:=Bool.and_eq_true_iff.mp (show (!o&&(Fo n ds&&decide (ds.length < 1000)))=true from h)
   have h':=Bool.and_eq_true_iff.mp h0.2
   have ho:o=false:=by simpa using h0.1
   subst ho
   have hl:ds.length < 1000:=of_decide_eq_true h'.2
   obtain⟨ys,e,hy,VP⟩:=fm ds h'.1
   unfold mZ
   cases lf:af ys with
   | true=>
    refine⟨.lst true ys,?_,by rw[er,hy]⟩
    simp -implicitDefEqProofs (disch:=omega) only[E1,Nat.reduceBEq,Nat.reduceSub,Nat.reduceAdd,reduceIte,e,lf]
   | false=>
    refine⟨.lst true (E0 ys),?_,by rw[er,FP,hy]⟩
    simp -implicitDefEqProofs (disch:=omega) only[E1,Nat.reduceBEq,Nat.reduceSub,Nat.reduceAdd,reduceIte,e,lf]
  | Ff _ _ _=>cases h
  | exc _=>cases h
end Fr
end L2
namespace Law
open PySem PySem.Spec L2 L2.Fr
theorem same (n k:Nat){d:D}(h:pl n d=true):ae T (n+k) 39 [d,d]=.ok (.bl true):=vw (fn:=QM) rfl rfl rfl rfl n k d h
theorem copy (n k:Nat){d:D}(h:pl n d=true):∃ d',ae T (n+k) 40 [d]=.ok d'/\er d'=d:=vx (fn:=QN) (x:="_law_part") rfl rfl rfl rfl n k d h
inductive Tn where
 | i (n:Int)|s (x:Str)
noncomputable def Tn.d:Tn->D
 | .i n=>.int n
 | .s x=>.str x
structure Cn where
 m:Str
 w:Str
 ts:List Tn
noncomputable def Cn.d (c:Cn):D:=.tup [.str c.m,.str c.w,.lst false (c.ts.map Tn.d)]
noncomputable def aB (r:List Cn):D:=.lst false (r.map Cn.d)
structure Gp where
 n:Str
 rows:List (List Cn)
noncomputable def Gp.d (g:Gp):D:=.tup [.str g.n,.lst false (g.rows.map aB)]
structure Ru where
 cs:List Cn
 o:D
noncomputable def Ru.d (r:Ru):D:=.tup [aB r.cs,r.o]
theorem ya:∀ ts:List Tn,af (ts.map Tn.d)=true
 | []=>rfl
 | t::ts=>by
  show (ao t.d&&af (ts.map Tn.d))=true
  rw[ya ts]
  cases t<;>rfl
theorem m8 (ts:List Tn):E0 (ts.map Tn.d)=ts.map Tn.d:=aK (ya ts)
theorem kj (c:Cn):er c.d=c.d:=by
 unfold Cn.d
 show D.tup [er (.str c.m),er (.str c.w),er (.lst false (c.ts.map Tn.d))]=_
 show D.tup [.str c.m,.str c.w,.lst false (E0 (c.ts.map Tn.d))]=_
 rw[m8]
theorem lu {α:Type}{e:α->D}(h:∀ a,er (e a)=e a)(xs:List α):E0 (xs.map e)=xs.map e:=by
 rw[aF,List.map_map]
 exact List.map_congr_left fun a _=>h a
theorem bY (r:List Cn):E0 (r.map Cn.d)=r.map Cn.d:=lu kj r
theorem lx (r:List Cn):er (aB r)=aB r:=by
 unfold aB
 show D.lst false (E0 (r.map Cn.d))=_
 rw[bY]
theorem jb (r:List (List Cn)):E0 (r.map aB)=r.map aB:=lu lx r
theorem Dy (g:Gp):er g.d=g.d:=by
 unfold Gp.d
 show D.tup [.str g.n,.lst false (E0 (g.rows.map aB))]=_
 rw[jb]
theorem cX (gs:List Gp):E0 (gs.map Gp.d)=gs.map Gp.d:=lu Dy gs
noncomputable def nD (o:Bool)(ks:List Str):D:=.Ff o (ks.map Sum.inr) (ks.map fun _=>.bl true)
theorem sH (x:Str):∀ ks:List Str,(look (ks.map Sum.inr) (ks.map fun _=>D.bl true) (.inr x)).isSome=ks.contains x
 | []=>rfl
 | k::ks=>by
  show (if (Sum.inr k:Key)=.inr x then some (D.bl true) else look (ks.map Sum.inr) (ks.map fun _=>D.bl true) (.inr x)).isSome=_
  rw[List.contains_cons]
  by_cases h:k=x
  ·subst h;simp
  ·rw[if_neg (fun z=>h (Sum.inr.inj z)),sH x ks]
   have:(x == k)=false:=by simpa using fun z:x=k=>h z.symm
   rw[this,Bool.false_or]
theorem Dz:(false != true)=true:=rfl
theorem DA:(false != false)=false:=rfl
noncomputable def N7:List IS:=[(.ext 2 (.v 5))]
noncomputable def MQ:List IS:=[(.Fg (.KQ false (.v 3) (.v 1)) [(.Fp (.nm 5) (.val (.v 4)) N7)] [])]
theorem DB (cl:Nat->List D->Res D)(a0 a1 a3 a4:Option D):∀ (rows:List (List Cn)) (acc:List Cn) (a5:Option D),acc.length+rows.flatten.length<=1000->
  ∃ GX,forM (Ev.turn cl (.nm 5) N7) (rows.map aB) [a0,a1,some (.lst true (acc.map Cn.d)),a3,a4,a5]=.ok (.nx [a0,a1,some (.lst true ((acc++rows.flatten).map Cn.d)),a3,a4,GX])
 | [],acc,a5,_=>⟨a5,by rw[List.flatten_nil,List.append_nil];rfl⟩
 | r::rows,acc,a5,h=>by
  rw[List.flatten_cons,List.length_append] at h
  have e0:=lx r
  have lr:(r.map Cn.d).length=r.length:=List.length_map ..
  have la:(acc.map Cn.d).length=acc.length:=List.length_map ..
  have e1:Ev.turn cl (.nm 5) N7 (aB r) [a0,a1,some (.lst true (acc.map Cn.d)),a3,a4,a5]=.ok (.nx [a0,a1,some (.lst true ((acc++r).map Cn.d)),a3,a4,some (aB r)]):=by
   rw[List.map_append]
   unfold N7 aB
   have e2:=bY r
   simp -implicitDefEqProofs (disch:=omega) only[E1,Nat.reduceBEq,Nat.reduceSub,Nat.reduceAdd,reduceIte,Ev.ag,e2,lr,la]
  obtain⟨GX,e2⟩:=DB cl a0 a1 a3 a4 rows (acc++r) (some (aB r)) (by rw[List.length_append];omega)
  refine⟨GX,?_⟩
  rw[List.map_cons,Ev.aW,e1,Ev.bc,Ev.bf,e2,List.flatten_cons,List.append_assoc]
noncomputable def Gb (p:Str->Bool):List Gp->List Cn
 | []=>[]
 | g::gs=>(if p g.n=true then g.rows.flatten else [])++Gb p gs
theorem sJ (cl:Nat->List D->Res D)(a0:Option D)(ks:List Str):∀ (gs:List Gp) (acc:List Cn) (a3 a4 a5:Option D),acc.length+(Gb ks.contains gs).length<=1000->
  ∃ QT N8 GX,forM (Ev.turn cl (.tp [(.nm 3),(.nm 4)]) MQ) (gs.map Gp.d) [a0,some (nD false ks),some (.lst true (acc.map Cn.d)),a3,a4,a5]=.ok (.nx [a0,some (nD false ks),some (.lst true ((acc++Gb ks.contains gs).map Cn.d)),QT,N8,GX])
 | [],acc,a3,a4,a5,_=>⟨a3,a4,a5,by show _=_;rw[show Gb ks.contains []=[] from rfl,List.append_nil];rfl⟩
 | g::gs,acc,a3,a4,a5,h=>by
  have hg:Gb ks.contains (g::gs)=(if ks.contains g.n=true then g.rows.flatten else [])++Gb ks.contains gs:=rfl
  rw[hg,List.length_append] at h
  have hl:=sH g.n ks
  have IQ:=jb g.rows
  cases hk:ks.contains g.n with
  | true=>
   rw[hk,if_pos rfl] at h
   rw[hk] at hl
   obtain⟨GX,e5⟩:=DB cl a0 (some (nD false ks)) (some (.str g.n)) (some (.lst false (g.rows.map aB))) g.rows acc a5 (by omega)
   have e1:Ev.turn cl (.tp [(.nm 3),(.nm 4)]) MQ g.d [a0,some (nD false ks),some (.lst true (acc.map Cn.d)),a3,a4,a5]=.ok (.nx [a0,some (nD false ks),some (.lst true ((acc++g.rows.flatten).map Cn.d)),some (.str g.n),some (.lst false (g.rows.map aB)),GX]):=by
    unfold nD at e5 ⊢
    unfold MQ Gp.d
    simp -implicitDefEqProofs (disch:=omega) only[E1,Nat.reduceBEq,Nat.reduceSub,Nat.reduceAdd,reduceIte,Ev.ag,hl,IQ,e5,Dz]
   obtain⟨b3,b4,b5,e2⟩:=sJ cl a0 ks gs (acc++g.rows.flatten) (some (.str g.n)) (some (.lst false (g.rows.map aB))) GX (by rw[List.length_append];omega)
   refine⟨b3,b4,b5,?_⟩
   rw[List.map_cons,Ev.aW,e1,Ev.bc,Ev.bf,e2,hg,hk,if_pos rfl,List.append_assoc]
  | false=>
   rw[hk,if_neg Bool.false_ne_true] at h
   rw[hk] at hl
   have e1:Ev.turn cl (.tp [(.nm 3),(.nm 4)]) MQ g.d [a0,some (nD false ks),some (.lst true (acc.map Cn.d)),a3,a4,a5]=.ok (.nx [a0,some (nD false ks),some (.lst true (acc.map Cn.d)),some (.str g.n),some (.lst false (g.rows.map aB)),a5]):=by
    unfold nD
    unfold MQ Gp.d
    simp -implicitDefEqProofs (disch:=omega) only[E1,Nat.reduceBEq,Nat.reduceSub,Nat.reduceAdd,reduceIte,Ev.ag,hl,IQ,DA]
   obtain⟨b3,b4,b5,e2⟩:=sJ cl a0 ks gs acc (some (.str g.n)) (some (.lst false (g.rows.map aB))) a5 (by rw[List.length_nil] at h;omega)
   refine⟨b3,b4,b5,?_⟩
   rw[List.map_cons,Ev.aW,e1,Ev.bc,Ev.bf,e2,hg,hk,if_neg Bool.false_ne_true,List.nil_append]
theorem kl (n:Nat)(gs:List Gp)(ks:List Str)(h:(Gb ks.contains gs).length<=1000):ae T (n+1) 19 [.lst false (gs.map Gp.d),nD false ks]=.ok (.lst true ((Gb ks.contains gs).map Cn.d)):=by
 obtain⟨a3,a4,a5,e⟩:=sJ (ae T n) (some (.lst false (gs.map Gp.d))) ks gs [] none none none (by simpa using h)
 rw[List.map_nil,List.nil_append] at e
 have IQ:=cX gs
 rw[Ev.go (show T 19=some MG from rfl) (show MG.np=2 from rfl) (show MG.G.N.length=6 from rfl) (show MG.body=QC from rfl) rfl];unfold QC
 unfold MQ N7 at e
 simp -implicitDefEqProofs (disch:=omega) only[E1,Nat.reduceBEq,Nat.reduceSub,Nat.reduceAdd,reduceIte,e,IQ]
noncomputable def io (c:Cn):Bool:=(Str.ofString "in" == c.w)||(Str.ofString "out" == c.w)
noncomputable def dZ (ks:List Str)(x:Str):List Str:=if ks.contains x=true then ks else ks++[x]
theorem sL (x:Str):∀ ks:List Str,jM (ks.map Sum.inr) (.inr x)=ks.contains x
 | []=>rfl
 | k::ks=>by
  show (decide ((Sum.inr k:Key)=.inr x)||jM (ks.map Sum.inr) (.inr x))=_
  rw[List.contains_cons,sL x ks]
  by_cases h:k=x
  ·subst h;simp
  ·have h1:decide ((Sum.inr k:Key)=.inr x)=false:=decide_eq_false fun z=>h (Sum.inr.inj z)
   have h2:(x == k)=false:=by simpa using fun z:x=k=>h z.symm
   rw[h1,h2]
theorem JH (ks:List Str)(x:Str):dJ (ks.map Sum.inr) (.inr x)=(dZ ks x).map Sum.inr:=by
 unfold dJ dZ
 rw[sL]
 cases ks.contains x
 ·simp
 ·rfl
theorem m9 (q:Key):∀ ks:List Str,List.zipWith (fun (k:Key) (e:D)=>if k=q then D.bl true else e) (ks.map Sum.inr) (ks.map fun _=>D.bl true)=ks.map fun _=>D.bl true
 | []=>rfl
 | k::ks=>by
  rw[List.map_cons,List.map_cons,List.zipWith_cons_cons,m9 q ks]
  split<;>rfl
theorem DC (ks:List Str)(x:Str):cP (ks.map Sum.inr) (ks.map fun _=>D.bl true) (.inr x) (.bl true)=(dZ ks x).map fun _=>D.bl true:=by
 unfold cP dZ
 rw[sL]
 cases ks.contains x
 ·simp
 ·rw[if_pos rfl,if_pos rfl,m9]
theorem DD (ks:List Str):af (ks.map fun _=>D.bl true)=true:=by
 induction ks with
 | nil=>rfl
 | cons k ks ih=>show (true&&af (ks.map fun _=>D.bl true))=true;rw[ih];rfl
theorem EJ (ks:List Str):er (nD true ks)=nD false ks:=by
 unfold nD
 show D.Ff false _ (E0 _)=_
 rw[aK (DD ks)]
theorem km (ks:List Str)(x:Str):(dZ ks x).length<=ks.length+1:=by
 unfold dZ
 split
 ·omega
 ·rw[List.length_append];exact Nat.le_refl _
theorem QU (c:Cn):bt c.d (.int 0)=.ok (.str c.m):=rfl
theorem O1 (c:Cn):bt c.d (.int 1)=.ok (.str c.w):=rfl
theorem VQ (c:Cn):bt c.d (.int 2)=.ok (.lst false (c.ts.map Tn.d)):=rfl
noncomputable def K5:List IS:=[(.Fg (.cmp .Hy (.idx (.v 5) (.c (.int 1))) (.tup [(.c (.str "in")),(.c (.str "out"))])) [(.Ie 3 (.idx (.v 5) (.c (.int 0))) (.c (.bl true)))] [(.app 2 (.v 5))])]
noncomputable def N9:List IS:=[(.Fp (.nm 5) (.val (.idx (.v 4) (.c (.int 0)))) K5)]
noncomputable def GD (ks:List Str)(cs:List Cn):List Str:=(cs.filter io).foldl (fun k c=>dZ k c.m) ks
theorem nc (ks:List Str)(c:Cn)(cs:List Cn):GD ks (c::cs)=GD (if io c=true then dZ ks c.m else ks) cs:=by
 unfold GD
 rw[List.filter_cons]
 split<;>rfl
theorem Au (cl:Nat->List D->Res D)(a0 a1 a4:Option D):∀ (cs acc:List Cn) (ks:List Str) (a5:Option D),acc.length+cs.length<=1000->ks.length+cs.length<=1000->
  ∃ GX,forM (Ev.turn cl (.nm 5) K5) (cs.map Cn.d) [a0,a1,some (.lst true (acc.map Cn.d)),some (nD true ks),a4,a5]=.ok (.nx [a0,a1,some (.lst true ((acc++cs.filter (fun c=>!io c)).map Cn.d)),some (nD true (GD ks cs)),a4,GX])
 | [],acc,ks,a5,_,_=>⟨a5,by rw[List.filter_nil,List.append_nil];rfl⟩
 | c::cs,acc,ks,a5,h,h'=>by
  rw[List.length_cons] at h h'
  have la:(acc.map Cn.d).length=acc.length:=List.length_map ..
  have x0:=QU c
  have x1:=O1 c
  have ce:=kj c
  cases hc:io c with
  | true=>
   have hd:Ev.mQ cl 3 (.idx (.v 5) (.c (.int 0))) [a0,a1,some (.lst true (acc.map Cn.d)),some (nD true ks),a4,some c.d] (.bl true) (some (nD true ks))=.ok (.nx [a0,a1,some (.lst true (acc.map Cn.d)),some (nD true (dZ ks c.m)),a4,some c.d]):=by
    unfold nD
    rw[Ev.i5 (x:=c.m) (by simp -implicitDefEqProofs (disch:=omega) only[E1,Nat.reduceBEq,Nat.reduceSub,Nat.reduceAdd,reduceIte,x0]) (by rw[DD,List.length_map,Ev.lq (by omega)];rfl),JH,DC]
    rfl
   have e1:Ev.turn cl (.nm 5) K5 c.d [a0,a1,some (.lst true (acc.map Cn.d)),some (nD true ks),a4,a5]=.ok (.nx [a0,a1,some (.lst true (acc.map Cn.d)),some (nD true (dZ ks c.m)),a4,some c.d]):=by
    unfold io at hc
    unfold K5
    cases w1:(Str.ofString "in" == c.w) with
    | true=>
     cases w2:(Str.ofString "out" == c.w) with
     | true=>simp -implicitDefEqProofs (disch:=omega) only[E1,Nat.reduceBEq,Nat.reduceSub,Nat.reduceAdd,reduceIte,Ev.ag,w1,w2,hd,x1]
     | false=>simp -implicitDefEqProofs (disch:=omega) only[E1,Nat.reduceBEq,Nat.reduceSub,Nat.reduceAdd,reduceIte,Ev.ag,w1,w2,hd,x1]
    | false=>
     rw[w1,Bool.false_or] at hc
     simp -implicitDefEqProofs (disch:=omega) only[E1,Nat.reduceBEq,Nat.reduceSub,Nat.reduceAdd,reduceIte,Ev.ag,w1,hc,hd,x1]
   obtain⟨GX,e2⟩:=Au cl a0 a1 a4 cs acc (dZ ks c.m) (some c.d) (by omega) (by have:=km ks c.m;omega)
   refine⟨GX,?_⟩
   rw[List.map_cons,Ev.aW,e1,Ev.bc,Ev.bf,e2,List.filter_cons,nc,hc]
   rfl
  | false=>
   have e1:Ev.turn cl (.nm 5) K5 c.d [a0,a1,some (.lst true (acc.map Cn.d)),some (nD true ks),a4,a5]=.ok (.nx [a0,a1,some (.lst true ((acc++[c]).map Cn.d)),some (nD true ks),a4,some c.d]):=by
    unfold io at hc
    have Ji:=Bool.or_eq_false_iff.mp hc
    have w1:=Ji.1
    have w2:=Ji.2
    rw[List.map_append,List.map_cons,List.map_nil]
    unfold K5
    simp -implicitDefEqProofs (disch:=omega) only[E1,Nat.reduceBEq,Nat.reduceSub,Nat.reduceAdd,reduceIte,Ev.ag,w1,w2,x1,ce,la]
   obtain⟨GX,e2⟩:=Au cl a0 a1 a4 cs (acc++[c]) ks (some c.d) (by rw[List.length_append,List.length_singleton];omega) (by omega)
   refine⟨GX,?_⟩
   rw[List.map_cons,Ev.aW,e1,Ev.bc,Ev.bf,e2,List.filter_cons,nc,hc]
   simp
noncomputable def au (rs:List Ru):List Cn:=rs.flatMap Ru.cs
theorem vy (ks:List Str)(a b:List Cn):GD (GD ks a) b=GD ks (a++b):=by
 unfold GD
 rw[List.filter_append,List.foldl_append]
theorem ng:∀ (cs:List Cn) (ks:List Str),(GD ks cs).length<=ks.length+cs.length
 | [],ks=>Nat.le_refl _
 | c::cs,ks=>by
  rw[nc,List.length_cons]
  have h:=ng cs (if io c=true then dZ ks c.m else ks)
  have h2:=km ks c.m
  split at h<;>(rename_i q;simp only[q,if_true,if_false] at h ⊢;simp_all;omega)
theorem VR (r:Ru):bt r.d (.int 0)=.ok (.lst false (r.cs.map Cn.d)):=rfl
theorem yb {r:Ru}(h:er r.o=r.o):er r.d=r.d:=by
 unfold Ru.d
 show D.tup [er (aB r.cs),er r.o]=_
 rw[lx,h]
theorem yd (cl:Nat->List D->Res D)(a0 a1:Option D):∀ (rs:List Ru) (acc:List Cn) (ks:List Str) (a4 a5:Option D),(∀ r∈rs,er r.o=r.o)->acc.length+(au rs).length<=1000->ks.length+(au rs).length<=1000->
  ∃ N8 GX,forM (Ev.turn cl (.nm 4) N9) (rs.map Ru.d) [a0,a1,some (.lst true (acc.map Cn.d)),some (nD true ks),a4,a5]=.ok (.nx [a0,a1,some (.lst true ((acc++(au rs).filter (fun c=>!io c)).map Cn.d)),some (nD true (GD ks (au rs))),N8,GX])
 | [],acc,ks,a4,a5,_,_,_=>⟨a4,a5,by show _=_;rw[show au []=[] from rfl,List.filter_nil,List.append_nil];rfl⟩
 | r::rs,acc,ks,a4,a5,ho,h,h'=>by
  have hr:au (r::rs)=r.cs++au rs:=rfl
  rw[hr,List.length_append] at h h'
  obtain⟨b5,e5⟩:=Au cl a0 a1 (some r.d) r.cs acc ks a5 (by omega) (by omega)
  have x0:=VR r
  have re:=yb (ho r (by simp))
  have ce:=bY r.cs
  have e1:Ev.turn cl (.nm 4) N9 r.d [a0,a1,some (.lst true (acc.map Cn.d)),some (nD true ks),a4,a5]=.ok (.nx [a0,a1,some (.lst true ((acc++r.cs.filter (fun c=>!io c)).map Cn.d)),some (nD true (GD ks r.cs)),some r.d,b5]):=by
   unfold N9
   simp -implicitDefEqProofs (disch:=omega) only[E1,Nat.reduceBEq,Nat.reduceSub,Nat.reduceAdd,reduceIte,Ev.ag,x0,re,ce,e5]
  have hf:=List.length_filter_le (fun c=>!io c) r.cs
  obtain⟨b4,c5,e2⟩:=yd cl a0 a1 rs (acc++r.cs.filter (fun c=>!io c)) (GD ks r.cs) (some r.d) b5 (fun z hz=>ho z (List.mem_cons_of_mem _ hz)) (by rw[List.length_append];omega) (by have:=ng r.cs ks;omega)
  refine⟨b4,c5,?_⟩
  rw[List.map_cons,Ev.aW,e1,Ev.bc,Ev.bf,e2,hr,List.filter_append,vy,List.append_assoc]
noncomputable def lk (gs:List Gp)(rs:List Ru):List Cn:=(au rs).filter (fun c=>!io c)++Gb (GD [] (au rs)).contains gs
structure Hd (gs:List Gp)(rs:List Ru)(sw:D):Prop where
 ix:bt sw (.int 2)=.ok (.lst false (rs.map Ru.d))
 er:L2.er sw=sw
 ro:∀ r∈rs,L2.er r.o=r.o
 l1:(au rs).length<=100
 l2:(Gb (GD [] (au rs)).contains gs).length<=100
theorem jc {rs:List Ru}(h:∀ r∈rs,er r.o=r.o):E0 (rs.map Ru.d)=rs.map Ru.d:=by
 rw[aF,List.map_map]
 exact List.map_congr_left fun r hr=>yb (h r hr)
theorem looked (n:Nat){gs:List Gp}{rs:List Ru}{sw:D}(H:Hd gs rs sw):ae T (n+2) 20 [.lst false (gs.map Gp.d),sw]=.ok (.lst true ((lk gs rs).map Cn.d)):=by
 have h1:=H.l1
 have h2:=H.l2
 obtain⟨a4,a5,e⟩:=yd (ae T (n+1)) (some (.lst false (gs.map Gp.d))) (some sw) rs [] [] none none H.ro (by simpa using(by omega:(au rs).length<=1000)) (by simpa using(by omega:(au rs).length<=1000))
 rw[List.map_nil,List.nil_append] at e
 have eg:=kl n gs (GD [] (au rs)) (by omega)
 have ne:=EJ (GD [] (au rs))
 have ge:=cX gs
 have re:=jc H.ro
 have se:=H.er
 have sx:=H.ix
 have hf:=List.length_filter_le (fun c=>!io c) (au rs)
 have hl:(((au rs).filter (fun c=>!io c)).map Cn.d).length=((au rs).filter (fun c=>!io c)).length:=List.length_map ..
 have Mw:((Gb (GD [] (au rs)).contains gs).map Cn.d).length=(Gb (GD [] (au rs)).contains gs).length:=List.length_map ..
 unfold lk
 rw[List.map_append]
 have ce:E0 (((au rs).filter (fun c=>!io c)).map Cn.d++(Gb (GD [] (au rs)).contains gs).map Cn.d)=((au rs).filter (fun c=>!io c)).map Cn.d++(Gb (GD [] (au rs)).contains gs).map Cn.d:=by
  rw[<- List.map_append];exact bY _
 have nd:D.Ff true [] []=nD true []:=rfl
 cases lf:af (((au rs).filter (fun c=>!io c)).map Cn.d++(Gb (GD [] (au rs)).contains gs).map Cn.d) with
 | true=>
  rw[Ev.go (show T 20=some JR from rfl) (show JR.np=2 from rfl) (show JR.G.N.length=6 from rfl) (show JR.body=NX from rfl) rfl];unfold NX
  unfold N9 K5 at e
  simp -implicitDefEqProofs (disch:=omega) only[E1,Nat.reduceBEq,Nat.reduceSub,Nat.reduceAdd,reduceIte,nd,sx,se,re,e,eg,ne,ge,hl,Mw,lf]
 | false=>
  rw[Ev.go (show T 20=some JR from rfl) (show JR.np=2 from rfl) (show JR.G.N.length=6 from rfl) (show JR.body=NX from rfl) rfl];unfold NX
  unfold N9 K5 at e
  simp -implicitDefEqProofs (disch:=omega) only[E1,Nat.reduceBEq,Nat.reduceSub,Nat.reduceAdd,reduceIte,nd,sx,se,re,e,eg,ne,ge,hl,Mw,lf,ce]
theorem yf (w:Str):∀ ws:List Str,Fh (.str w) (ws.map .str)=.ok (ws.any (· == w))
 | []=>rfl
 | x::ws=>by
  show U (.ok (x == w)) (fun a=>U (Fh (.str w) (ws.map .str)) fun b=>.ok (a||b))=_
  rw[yf w ws]
  rfl
theorem EK (w:Str)(ws:List Str):G5 .Hy (.str w) (.tup (ws.map .str))=.ok (ws.any (· == w)):=yf w ws
noncomputable def tT:List IS:=[(.Fg (.E8 (.cmp .eq (.idx (.v 5) (.c (.int 0))) (.v 2)) (.cmp .Hy (.idx (.v 5) (.c (.int 1))) (.v 3))) [(.ext 4 (.idx (.v 5) (.c (.int 2))))] [])]
noncomputable def hit (mk:Str)(ws:List Str)(c:Cn):Bool:=(c.m == mk)&&ws.any (· == c.w)
noncomputable def tt (mk:Str)(ws:List Str)(cs:List Cn):List Tn:=(cs.filter (hit mk ws)).flatMap Cn.ts
theorem Av (cl:Nat->List D->Res D)(a0 a1:Option D)(mk:Str)(ws:List Str):∀ (cs:List Cn) (acc:List Tn) (a5:Option D),acc.length+(cs.flatMap Cn.ts).length<=1000->
  ∃ GX,forM (Ev.turn cl (.nm 5) tT) (cs.map Cn.d) [a0,a1,some (.str mk),some (.tup (ws.map .str)),some (.lst true (acc.map Tn.d)),a5]=.ok (.nx [a0,a1,some (.str mk),some (.tup (ws.map .str)),some (.lst true ((acc++tt mk ws cs).map Tn.d)),GX])
 | [],acc,a5,_=>⟨a5,by show _=_;rw[show tt mk ws []=[] from rfl,List.append_nil];rfl⟩
 | c::cs,acc,a5,h=>by
  rw[List.flatMap_cons,List.length_append] at h
  have x0:=QU c
  have x1:=O1 c
  have x2:=VQ c
  have ce:=kj c
  have te:=m8 c.ts
  have iw:=EK c.w ws
  have la:(acc.map Tn.d).length=acc.length:=List.length_map ..
  have lt:(c.ts.map Tn.d).length=c.ts.length:=List.length_map ..
  cases hh:hit mk ws c with
  | true=>
   have S4:=Bool.and_eq_true_iff.mp hh
   have q1:=S4.1
   have q2:=S4.2
   have e1:Ev.turn cl (.nm 5) tT c.d [a0,a1,some (.str mk),some (.tup (ws.map .str)),some (.lst true (acc.map Tn.d)),a5]=.ok (.nx [a0,a1,some (.str mk),some (.tup (ws.map .str)),some (.lst true ((acc++c.ts).map Tn.d)),some c.d]):=by
    rw[List.map_append]
    unfold tT
    simp -implicitDefEqProofs (disch:=omega) only[E1,Nat.reduceBEq,Nat.reduceSub,Nat.reduceAdd,reduceIte,Ev.ag,x0,x1,x2,ce,te,iw,q1,q2,la,lt]
   obtain⟨b5,e2⟩:=Av cl a0 a1 mk ws cs (acc++c.ts) (some c.d) (by rw[List.length_append];omega)
   refine⟨b5,?_⟩
   have ht:tt mk ws (c::cs)=c.ts++tt mk ws cs:=by unfold tt;rw[List.filter_cons,hh,if_pos rfl,List.flatMap_cons]
   rw[List.map_cons,Ev.aW,e1,Ev.bc,Ev.bf,e2,ht,List.append_assoc]
  | false=>
   have ht:tt mk ws (c::cs)=tt mk ws cs:=by unfold tt;rw[List.filter_cons,hh];rfl
   have e1:Ev.turn cl (.nm 5) tT c.d [a0,a1,some (.str mk),some (.tup (ws.map .str)),some (.lst true (acc.map Tn.d)),a5]=.ok (.nx [a0,a1,some (.str mk),some (.tup (ws.map .str)),some (.lst true (acc.map Tn.d)),some c.d]):=by
    unfold tT
    unfold hit at hh
    cases q1:(c.m == mk) with
    | true=>
     rw[q1,Bool.true_and] at hh
     simp -implicitDefEqProofs (disch:=omega) only[E1,Nat.reduceBEq,Nat.reduceSub,Nat.reduceAdd,reduceIte,Ev.ag,x0,x1,ce,iw,q1,hh]
    | false=>simp -implicitDefEqProofs (disch:=omega) only[E1,Nat.reduceBEq,Nat.reduceSub,Nat.reduceAdd,reduceIte,Ev.ag,x0,ce,q1]
   obtain⟨b5,e2⟩:=Av cl a0 a1 mk ws cs acc (some c.d) (by omega)
   refine⟨b5,?_⟩
   rw[List.map_cons,Ev.aW,e1,Ev.bc,Ev.bf,e2,ht]
theorem told (n:Nat){gs:List Gp}{rs:List Ru}{sw:D}(H:Hd gs rs sw)(hn:((lk gs rs).flatMap Cn.ts).length<=1000)(mk:Str)(ws:List Str) :
  ae T (n+3) 22 [.lst false (gs.map Gp.d),sw,.str mk,.tup (ws.map .str)]=.ok (.lst true ((tt mk ws (lk gs rs)).map Tn.d)):=by
 have el:=looked n H
 obtain⟨a5,e⟩:=Av (ae T (n+2)) (some (.lst false (gs.map Gp.d))) (some sw) mk ws (lk gs rs) [] none (by simpa using hn)
 rw[List.map_nil,List.nil_append] at e
 have ge:=cX gs
 have se:=H.er
 have ce:=bY (lk gs rs)
 rw[Ev.go (show T 22=some MH from rfl) (show MH.np=4 from rfl) (show MH.G.N.length=6 from rfl) (show MH.body=QD from rfl) rfl];unfold QD
 unfold tT at e
 simp -implicitDefEqProofs (disch:=omega) only[E1,Nat.reduceBEq,Nat.reduceSub,Nat.reduceAdd,reduceIte,el,ge,se,ce,e]
theorem sM:∀ xs:List Int,bg (xs.map .int)=some xs
 | []=>rfl
 | x::xs=>by show (bg (xs.map .int)).map (x::·)=_;rw[sM xs];rfl
theorem yg:∀ xs:List Str,aY (xs.map .str)=some xs
 | []=>rfl
 | x::xs=>by show (aY (xs.map .str)).map (x::·)=_;rw[yg xs];rfl
theorem Aw {o:Bool}{xs:List Int}(h:xs.length < 64):jO (.lst o (xs.map .int))=.ok (.lst true ((PySem.W.sortI (dd xs)).map .int)):=by
 show (match bg (xs.map .int) with|some ns=>EX (decide (ns.length < 64)) (.ok (.lst true ((PySem.W.sortI (dd ns)).map .int)))|none=>match aY (xs.map .int) with|some ns=>EX (decide (ns.length < 64)) (.ok (.lst true ((bH (HU ns)).map .str)))|none=>EY:Res D)=_
 rw[sM]
 show EX (decide (xs.length < 64)) _=_
 rw[decide_eq_true h]
 rfl
theorem jd {o:Bool}{xs:List Str}(h:xs.length < 64):jO (.lst o (xs.map .str))=.ok (.lst true ((bH (HU xs)).map .str)):=by
 show (match bg (xs.map .str) with|some ns=>EX (decide (ns.length < 64)) (.ok (.lst true ((PySem.W.sortI (dd ns)).map .int)))|none=>match aY (xs.map .str) with|some ns=>EX (decide (ns.length < 64)) (.ok (.lst true ((bH (HU ns)).map .str)))|none=>EY:Res D)=_
 cases xs with
 | nil=>rfl
 | cons x xs=>
  rw[show bg ((x::xs).map D.str)=none from rfl]
  show (match aY ((x::xs).map .str) with|some ns=>EX (decide (ns.length < 64)) (.ok (.lst true ((bH (HU ns)).map .str)))|none=>EY:Res D)=_
  rw[yg]
  show EX (decide ((x::xs).length < 64)) _=_
  rw[decide_eq_true h]
  rfl
noncomputable def sS (xs:List Str):List Str:=bH (HU xs)
noncomputable def sI (xs:List Int):List Int:=PySem.W.sortI (dd xs)
noncomputable def GR:List Tn->List Str
 | []=>[]
 | .s x::r=>x::GR r
 | .i _::r=>GR r
noncomputable def ins:List Tn->List Int
 | []=>[]
 | .i x::r=>x::ins r
 | .s _::r=>ins r
theorem bR:∀ ts:List Tn,(GR ts).length<=ts.length
 | []=>Nat.le_refl _
 | .s x::r=>Nat.succ_le_succ (bR r)
 | .i _::r=>Nat.le_succ_of_le (bR r)
theorem fg:∀ ts:List Tn,(ins ts).length<=ts.length
 | []=>Nat.le_refl _
 | .i x::r=>Nat.succ_le_succ (fg r)
 | .s _::r=>Nat.le_succ_of_le (fg r)
theorem bz {g:D->Res (Option D)}{x y:D}{xs ys:List D}(h:g x=.ok (some y))(k:ax g xs=.ok ys):ax g (x::xs)=.ok (y::ys):=by
 show U (g x) _=_
 rw[h]
 show U (ax g xs) _=_
 rw[k]
 rfl
theorem cM {g:D->Res (Option D)}{x:D}{xs ys:List D}(h:g x=.ok none)(k:ax g xs=.ok ys):ax g (x::xs)=.ok ys:=by
 show U (g x) _=_
 rw[h]
 exact k
theorem sN (cl:Nat->List D->Res D):∀ ts:List Tn,ax (aC cl (.nm 0) [(.FG (.v 0) .str)] (.v 0) [none]) (ts.map Tn.d)=.ok ((GR ts).map .str)
 | []=>rfl
 | .s x::r=>bz (show aC cl (.nm 0) [(.FG (.v 0) .str)] (.v 0) [none] (.str x)=.ok (some (.str x)) from rfl) (sN cl r)
 | .i x::r=>cM (show aC cl (.nm 0) [(.FG (.v 0) .str)] (.v 0) [none] (.int x)=.ok none from rfl) (sN cl r)
noncomputable def JY:List Str:=[Str.ofString "is",Str.ofString "not"]
noncomputable def JJ:List Str:=[Str.ofString "begins"]
structure Ok (cs:List Cn):Prop where
 be:∀ c∈cs,c.w=Str.ofString "begins"->∀ t∈c.ts,∃ x,t=.s x
 le:∀ c∈cs,c.w=Str.ofString "least"->∀ t∈c.ts,∃ x,t=.i x
 mo:∀ c∈cs,c.w=Str.ofString "most"->∀ t∈c.ts,∃ x,t=.i x
 G1:(cs.flatMap Cn.ts).length<=20
 fc:cs.length < 64
theorem lG (mk:Str)(ws:List Str):∀ cs:List Cn,(tt mk ws cs).length<=(cs.flatMap Cn.ts).length
 | []=>Nat.le_refl _
 | c::cs=>by
  have ih:=lG mk ws cs
  unfold tt at ih ⊢
  rw[List.filter_cons,List.flatMap_cons,List.length_append]
  split
  ·rw[List.flatMap_cons,List.length_append];omega
  ·omega
theorem lH {mk:Str}{ws:List Str}{cs:List Cn}{t:Tn}:t∈tt mk ws cs↔∃ c∈cs,hit mk ws c=true/\t∈c.ts:=by
 unfold tt
 rw[List.mem_flatMap]
 constructor
 ·rintro ⟨c,h1,h2⟩
  rw[List.mem_filter] at h1
  exact⟨c,h1.1,h1.2,h2⟩
 ·rintro ⟨c,h1,h2,h3⟩
  exact⟨c,List.mem_filter.mpr ⟨h1,h2⟩,h3⟩
theorem yh:∀ {ts:List Tn},(∀ t∈ts,∃ x,t=.s x)->ts.map Tn.d=(GR ts).map .str
 | [],_=>rfl
 | t::r,h=>by
  obtain⟨x,rfl⟩:=h t (by simp)
  show D.str x::r.map Tn.d=D.str x::(GR r).map .str
  rw[yh fun t ht=>h t (List.mem_cons_of_mem _ ht)]
theorem DE {w x:Str}(h:[x].any (· == w)=true):w=x:=by
 simp at h
 exact h.symm
theorem DF {mk:Str}{cs:List Cn}(o:Ok cs):(tt mk JJ cs).map Tn.d=(GR (tt mk JJ cs)).map .str:=yh fun t ht=>by
 obtain⟨c,h1,h2,h3⟩:=lH.mp ht
 exact o.be c h1 (DE (Bool.and_eq_true_iff.mp h2).2) t h3
variable {gs:List Gp}{rs:List Ru}{sw:D}
noncomputable def N' (mk:Str)(cs:List Cn):List Str:=sS (GR (tt mk JY cs))
noncomputable def Oa (mk:Str)(cs:List Cn):List Str:=sS (Str.ofString ""::GR (tt mk JJ cs))
theorem sO (n:Nat)(H:Hd gs rs sw)(o:Ok (lk gs rs))(mk:Str):ae T (n+4) 23 [.lst false (gs.map Gp.d),sw,.str mk]=.ok (.lst false ((N' mk (lk gs rs)).map .str)):=by
 have G1:=o.G1
 have tl:=lG mk JY (lk gs rs)
 have xl:=bR (tt mk JY (lk gs rs))
 have et:=told n H (by omega) mk JY
 unfold JY at et
 have ge:=cX gs
 have se:=H.er
 have ss:=jd (o:=true) (xs:=GR (tt mk JY (lk gs rs))) (by omega)
 have f:=sN (ae T (n+3)) (tt mk JY (lk gs rs))
 have ll:((tt mk JY (lk gs rs)).map Tn.d).length=(tt mk JY (lk gs rs)).length:=List.length_map ..
 have nl:aE (.sset (.comp {N:=["thing"],kd:=[.local],gl:=[14,11],df:=false} [] (.nm 0) (.val (.v 3)) [(.FG (.v 0) .str)] (.v 0)))=false:=rfl
 unfold N' sS
 unfold JY at *
 rw[List.map_cons,List.map_cons,List.map_nil] at et
 rw[Ev.go (show T 23=some MI from rfl) (show MI.np=3 from rfl) (show MI.G.N.length=4 from rfl) (show MI.body=QE from rfl) rfl];unfold QE
 simp -implicitDefEqProofs (disch:=omega) only[E1,Nat.reduceBEq,Nat.reduceSub,Nat.reduceAdd,reduceIte,et,ge,se,ss,f,ll,nl]
theorem sP (n:Nat)(H:Hd gs rs sw)(o:Ok (lk gs rs))(mk:Str):ae T (n+4) 24 [.lst false (gs.map Gp.d),sw,.str mk]=.ok (.lst false ((Oa mk (lk gs rs)).map .str)):=by
 have G1:=o.G1
 have tl:=lG mk JJ (lk gs rs)
 have xl:=bR (tt mk JJ (lk gs rs))
 have et:=told n H (by omega) mk JJ
 rw[DF o] at et
 have ge:=cX gs
 have se:=H.er
 have ss:=jd (o:=true) (xs:=Str.ofString ""::GR (tt mk JJ (lk gs rs))) (by rw[List.length_cons];omega)
 rw[List.map_cons] at ss
 have ll:((GR (tt mk JJ (lk gs rs))).map D.str).length=(GR (tt mk JJ (lk gs rs))).length:=List.length_map ..
 have nl:aE (.sset (.bin .add (.lst [(.c (.str ""))]) (.call 22 [(.v 0),(.v 1),(.v 2),(.tup [(.c (.str "begins"))])])))=false:=rfl
 unfold Oa sS
 unfold JJ at *
 rw[List.map_cons,List.map_nil] at et
 rw[Ev.go (show T 24=some MJ from rfl) (show MJ.np=3 from rfl) (show MJ.G.N.length=3 from rfl) (show MJ.body=QF from rfl) rfl];unfold QF
 simp -implicitDefEqProofs (disch:=omega) only[E1,Nat.reduceBEq,Nat.reduceSub,Nat.reduceAdd,reduceIte,et,ge,se,ss,ll,nl]
end Law
namespace Law
open PySem PySem.Spec L2 L2.Fr
variable {gs:List Gp}{rs:List Ru}{sw:D}
theorem EL (cl:Nat->List D->Res D)(xs:List Int):ax (aC cl (.nm 0) [] (.bin .sub (.v 0) (.c (.int 1))) [none]) (xs.map .int)=.ok ((xs.map (· - 1)).map .int):=
 Ev.dY D.int (· - 1) D.int xs fun x _=>rfl
noncomputable def az (k:Str)(x:Str):D:=.tup [.str k,.str x]
theorem sQ (cl:Nat->List D->Res D)(k:Str)(xs:List Str):ax (aC cl (.nm 0) [] (.tup [(.c (.str k)),(.v 0)]) [none]) (xs.map .str)=.ok (xs.map (az k)):=by
 rw[<- List.map_id (xs.map (az k))]
 exact Ev.dY D.str (az k) id xs fun x _=>by
  unfold az
  simp -implicitDefEqProofs (disch:=omega) only[E1,Nat.reduceBEq,Nat.reduceSub,Nat.reduceAdd,reduceIte,Ev.ag,id]
end Law
namespace Law
open PySem PySem.Spec L2 L2.Fr
variable {gs:List Gp}{rs:List Ru}{sw:D}
noncomputable def bS (a b:D):D:=.tup [.str "numbers",a,b]
noncomputable def nums (cu:List Int):List D:=List.zipWith bS (.EZ::cu.map .int) ((cu.map (· - 1)).map .int++[.EZ])
noncomputable def aP (ts bs:List Str)(cu:List Int):List D:=[.tup [.str "none"]]++ts.map (az "text")++bs.map (az "begins")++nums cu
theorem yi (cl:Nat->List D->Res D):∀ (A B:List D),ax (aC cl (.tp [(.nm 0),(.nm 1)]) [] (.tup [(.c (.str "numbers")),(.v 0),(.v 1)]) [none,none]) (dj A B)=.ok (List.zipWith bS A B)
 | [],_=>rfl
 | _::_,[]=>rfl
 | a::A,b::B=>bz (show aC cl (.tp [(.nm 0),(.nm 1)]) [] (.tup [(.c (.str "numbers")),(.v 0),(.v 1)]) [none,none] (.tup [a,b])=.ok (some (bS a b)) by
   unfold bS
   simp -implicitDefEqProofs (disch:=omega) only[E1,Nat.reduceBEq,Nat.reduceSub,Nat.reduceAdd,reduceIte,Ev.ag]) (yi cl A B)
theorem d8 (k:Str):∀ xs:List Str,af (xs.map (az k))=true
 | []=>rfl
 | x::xs=>by show (true&&af (xs.map (az k)))=true;rw[d8 k xs];rfl
theorem sR:∀ (A B:List D),af A=true->af B=true->af (List.zipWith bS A B)=true
 | [],_,_,_=>rfl
 | _::_,[],_,_=>rfl
 | a::A,b::B,h1,h2=>by
  have MC:=Bool.and_eq_true_iff.mp (show (ao a&&af A)=true from h1)
  have KY:=Bool.and_eq_true_iff.mp (show (ao b&&af B)=true from h2)
  show ((true&&(ao a&&(ao b&&true)))&&af (List.zipWith bS A B))=true
  rw[MC.1,KY.1,sR A B MC.2 KY.2]
  rfl
theorem eN:∀ (A B:List D),af (A++B)=(af A&&af B)
 | [],_=>rfl
 | a::A,B=>by
  show (ao a&&af (A++B))=((ao a&&af A)&&af B)
  rw[eN A B,Bool.and_assoc]
theorem yj (cu:List Int):af (D.EZ::cu.map .int)=true:=by
 show (true&&af (cu.map D.int))=true
 rw[Ev.si];rfl
theorem yk (cu:List Int):af ((cu.map (· - 1)).map D.int++[.EZ])=true:=by
 rw[eN,Ev.si];rfl
theorem vz (cu:List Int):af (nums cu)=true:=sR _ _ (yj cu) (yk cu)
theorem gA (ts bs:List Str)(cu:List Int):af (aP ts bs cu)=true:=by
 unfold aP
 rw[eN,eN,eN,d8,d8,vz]
 rfl
theorem kn (cu:List Int):(nums cu).length=cu.length+1:=by
 unfold nums
 rw[List.length_zipWith,List.length_cons,List.length_map,List.length_append,List.length_map,List.length_map]
 simp
theorem zl (cu:List Int):(dj (.EZ::cu.map .int) ((cu.map (· - 1)).map .int++[.EZ])).length=cu.length+1:=by
 unfold dj
 rw[List.length_zipWith,List.length_cons,List.length_map,List.length_append,List.length_map,List.length_map]
 simp
theorem jf (xs:List Str):(sS xs).length<=xs.length:=by
 unfold sS
 rw[(bu _).length_eq]
 exact l7 xs
theorem sT (xs:List Int):(sI xs).length<=xs.length:=by
 unfold sI
 rw[(PySem.W.sortI_perm _).length_eq]
 exact pW xs
end Law
namespace Law
open PySem PySem.Spec L2 L2.Fr
variable {gs:List Gp}{rs:List Ru}{sw:D}
theorem ko (a b:Str):(a == b)=(b == a):=by
 by_cases h:a=b
 ·subst h;rfl
 ·have h1:(a == b)=false:=by simpa using h
  have h2:(b == a)=false:=by simpa using fun z:b=a=>h z.symm
  rw[h1,h2]
noncomputable def Ob:List IS:=[(.ext 2 (.v 8))]
noncomputable def Ma:List IS:=[(.Fg (.E8 (.cmp .Hy (.idx (.v 5) (.c (.int 1))) (.lst [(.c (.str "in")),(.c (.str "out"))])) (.cmp .eq (.v 6) (.idx (.v 5) (.c (.int 0))))) [(.Fp (.nm 8) (.val (.v 7)) Ob)] [])]
noncomputable def Mb:List IS:=[(.Fg (.E8 (.cmp .ne (.idx (.v 5) (.c (.int 1))) (.c (.str "in"))) (.cmp .ne (.idx (.v 5) (.c (.int 1))) (.c (.str "out")))) [(.app 2 (.v 5))] []),(.Fp (.tp [(.nm 6),(.nm 7)]) (.val (.v 0)) Ma)]
noncomputable def O6:List IS:=[(.Fp (.nm 5) (.val (.v 3)) Mb)]
theorem DG (cl:Nat->List D->Res D)(a0 a1 a3 a4 a5 a6 a7:Option D):∀ (rows:List (List Cn)) (acc:List Cn) (a8:Option D),acc.length+rows.flatten.length<=1000->
  ∃ Jn,forM (Ev.turn cl (.nm 8) Ob) (rows.map aB) [a0,a1,some (.lst true (acc.map Cn.d)),a3,a4,a5,a6,a7,a8]=.ok (.nx [a0,a1,some (.lst true ((acc++rows.flatten).map Cn.d)),a3,a4,a5,a6,a7,Jn])
 | [],acc,a8,_=>⟨a8,by rw[List.flatten_nil,List.append_nil];rfl⟩
 | r::rows,acc,a8,h=>by
  rw[List.flatten_cons,List.length_append] at h
  have lr:(r.map Cn.d).length=r.length:=List.length_map ..
  have la:(acc.map Cn.d).length=acc.length:=List.length_map ..
  have e1:Ev.turn cl (.nm 8) Ob (aB r) [a0,a1,some (.lst true (acc.map Cn.d)),a3,a4,a5,a6,a7,a8]=.ok (.nx [a0,a1,some (.lst true ((acc++r).map Cn.d)),a3,a4,a5,a6,a7,some (aB r)]):=by
   rw[List.map_append]
   unfold Ob aB
   have e2:=bY r
   simp -implicitDefEqProofs (disch:=omega) only[E1,Nat.reduceBEq,Nat.reduceSub,Nat.reduceAdd,reduceIte,Ev.ag,e2,lr,la]
  obtain⟨Jn,e2⟩:=DG cl a0 a1 a3 a4 a5 a6 a7 rows (acc++r) (some (aB r)) (by rw[List.length_append];omega)
  refine⟨Jn,?_⟩
  rw[List.map_cons,Ev.aW,e1,Ev.bc,Ev.bf,e2,List.flatten_cons,List.append_assoc]
noncomputable def pk (c:Cn)(n:Str):Bool:=io c&&(n == c.m)
theorem vA (cl:Nat->List D->Res D)(a0 a1 a3 a4:Option D)(c:Cn):∀ (gs:List Gp) (acc:List Cn) (a6 a7 a8:Option D),acc.length+(Gb (pk c) gs).length<=1000->
  ∃ Oc Oe Jn,forM (Ev.turn cl (.tp [(.nm 6),(.nm 7)]) Ma) (gs.map Gp.d) [a0,a1,some (.lst true (acc.map Cn.d)),a3,a4,some c.d,a6,a7,a8]=.ok (.nx [a0,a1,some (.lst true ((acc++Gb (pk c) gs).map Cn.d)),a3,a4,some c.d,Oc,Oe,Jn])
 | [],acc,a6,a7,a8,_=>⟨a6,a7,a8,by show _=_;rw[show Gb (pk c) []=[] from rfl,List.append_nil];rfl⟩
 | g::gs,acc,a6,a7,a8,h=>by
  have hg:Gb (pk c) (g::gs)=(if pk c g.n=true then g.rows.flatten else [])++Gb (pk c) gs:=rfl
  rw[hg,List.length_append] at h
  have IQ:=jb g.rows
  have x0:=QU c
  have x1:=O1 c
  cases hk:pk c g.n with
  | true=>
   rw[hk,if_pos rfl] at h
   obtain⟨Jn,e5⟩:=DG cl a0 a1 a3 a4 (some c.d) (some (.str g.n)) (some (.lst false (g.rows.map aB))) g.rows acc a8 (by omega)
   have Mv:=Bool.and_eq_true_iff.mp hk
   have q2:=Mv.2
   have q1:((Str.ofString "in" == c.w)||(Str.ofString "out" == c.w))=true:=Mv.1
   have e1:Ev.turn cl (.tp [(.nm 6),(.nm 7)]) Ma g.d [a0,a1,some (.lst true (acc.map Cn.d)),a3,a4,some c.d,a6,a7,a8]=.ok (.nx [a0,a1,some (.lst true ((acc++g.rows.flatten).map Cn.d)),a3,a4,some c.d,some (.str g.n),some (.lst false (g.rows.map aB)),Jn]):=by
    unfold Ma Gp.d
    cases w1:(Str.ofString "in" == c.w) with
    | true=>
     cases w2:(Str.ofString "out" == c.w) with
     | true=>simp -implicitDefEqProofs (disch:=omega) only[E1,Nat.reduceBEq,Nat.reduceSub,Nat.reduceAdd,reduceIte,Ev.ag,x0,x1,w1,w2,q2,IQ,e5]
     | false=>simp -implicitDefEqProofs (disch:=omega) only[E1,Nat.reduceBEq,Nat.reduceSub,Nat.reduceAdd,reduceIte,Ev.ag,x0,x1,w1,w2,q2,IQ,e5]
    | false=>
     rw[w1,Bool.false_or] at q1
     simp -implicitDefEqProofs (disch:=omega) only[E1,Nat.reduceBEq,Nat.reduceSub,Nat.reduceAdd,reduceIte,Ev.ag,x0,x1,w1,q1,q2,IQ,e5]
   obtain⟨b6,b7,b8,e2⟩:=vA cl a0 a1 a3 a4 c gs (acc++g.rows.flatten) (some (.str g.n)) (some (.lst false (g.rows.map aB))) Jn (by rw[List.length_append];omega)
   refine⟨b6,b7,b8,?_⟩
   rw[List.map_cons,Ev.aW,e1,Ev.bc,Ev.bf,e2,hg,hk,if_pos rfl,List.append_assoc]
  | false=>
   rw[hk,if_neg Bool.false_ne_true] at h
   have e1:Ev.turn cl (.tp [(.nm 6),(.nm 7)]) Ma g.d [a0,a1,some (.lst true (acc.map Cn.d)),a3,a4,some c.d,a6,a7,a8]=.ok (.nx [a0,a1,some (.lst true (acc.map Cn.d)),a3,a4,some c.d,some (.str g.n),some (.lst false (g.rows.map aB)),a8]):=by
    unfold Ma Gp.d
    unfold pk io at hk
    cases w1:(Str.ofString "in" == c.w) with
    | true=>
     rw[w1,Bool.true_or,Bool.true_and] at hk
     cases w2:(Str.ofString "out" == c.w) with
     | true=>simp -implicitDefEqProofs (disch:=omega) only[E1,Nat.reduceBEq,Nat.reduceSub,Nat.reduceAdd,reduceIte,Ev.ag,x0,x1,w1,w2,hk,IQ]
     | false=>simp -implicitDefEqProofs (disch:=omega) only[E1,Nat.reduceBEq,Nat.reduceSub,Nat.reduceAdd,reduceIte,Ev.ag,x0,x1,w1,w2,hk,IQ]
    | false=>
     rw[w1,Bool.false_or] at hk
     cases w2:(Str.ofString "out" == c.w) with
     | true=>
      rw[w2,Bool.true_and] at hk
      simp -implicitDefEqProofs (disch:=omega) only[E1,Nat.reduceBEq,Nat.reduceSub,Nat.reduceAdd,reduceIte,Ev.ag,x0,x1,w1,w2,hk,IQ]
     | false=>simp -implicitDefEqProofs (disch:=omega) only[E1,Nat.reduceBEq,Nat.reduceSub,Nat.reduceAdd,reduceIte,Ev.ag,x0,x1,w1,w2,IQ]
   obtain⟨b6,b7,b8,e2⟩:=vA cl a0 a1 a3 a4 c gs acc (some (.str g.n)) (some (.lst false (g.rows.map aB))) a8 (by rw[List.length_nil] at h;omega)
   refine⟨b6,b7,b8,?_⟩
   rw[List.map_cons,Ev.aW,e1,Ev.bc,Ev.bf,e2,hg,hk,if_neg Bool.false_ne_true,List.nil_append]
end Law
namespace Law
open PySem PySem.Spec L2 L2.Fr
variable {gs:List Gp}{rs:List Ru}{sw:D}
noncomputable def HW (gs:List Gp)(c:Cn):List Cn:=(if io c=true then [] else [c])++Gb (pk c) gs
noncomputable def Fu (gs:List Gp)(cs:List Cn):List Cn:=cs.flatMap (HW gs)
theorem Ax (cl:Nat->List D->Res D)(gs:List Gp)(a1 a3 a4:Option D):∀ (cs acc:List Cn) (a5 a6 a7 a8:Option D),acc.length+(Fu gs cs).length<=1000->
  ∃ GX Oc Oe Jn,forM (Ev.turn cl (.nm 5) Mb) (cs.map Cn.d) [some (.lst false (gs.map Gp.d)),a1,some (.lst true (acc.map Cn.d)),a3,a4,a5,a6,a7,a8]=.ok (.nx [some (.lst false (gs.map Gp.d)),a1,some (.lst true ((acc++Fu gs cs).map Cn.d)),a3,a4,GX,Oc,Oe,Jn])
 | [],acc,a5,a6,a7,a8,_=>⟨a5,a6,a7,a8,by show _=_;rw[show Fu gs []=[] from rfl,List.append_nil];rfl⟩
 | c::cs,acc,a5,a6,a7,a8,h=>by
  have hl:Fu gs (c::cs)=HW gs c++Fu gs cs:=rfl
  rw[hl,List.length_append] at h
  have OM:HW gs c=(if io c=true then [] else [c])++Gb (pk c) gs:=rfl
  rw[OM,List.length_append] at h
  have x1:=O1 c
  have ce:=kj c
  have ge:=cX gs
  have la:(acc.map Cn.d).length=acc.length:=List.length_map ..
  have s1:=ko c.w (Str.ofString "in")
  have s2:=ko c.w (Str.ofString "out")
  cases hc:io c with
  | true=>
   rw[hc,if_pos rfl,List.length_nil] at h
   obtain⟨b6,b7,b8,e5⟩:=vA cl (some (.lst false (gs.map Gp.d))) a1 a3 a4 c gs acc a6 a7 a8 (by omega)
   have q1:((Str.ofString "in" == c.w)||(Str.ofString "out" == c.w))=true:=hc
   have e1:Ev.turn cl (.nm 5) Mb c.d [some (.lst false (gs.map Gp.d)),a1,some (.lst true (acc.map Cn.d)),a3,a4,a5,a6,a7,a8]=.ok (.nx [some (.lst false (gs.map Gp.d)),a1,some (.lst true ((acc++Gb (pk c) gs).map Cn.d)),a3,a4,some c.d,b6,b7,b8]):=by
    unfold Mb
    cases w1:(Str.ofString "in" == c.w) with
    | true=>
     rw[w1] at s1
     simp -implicitDefEqProofs (disch:=omega) only[E1,Nat.reduceBEq,Nat.reduceSub,Nat.reduceAdd,reduceIte,Ev.ag,x1,s1,ge,e5]
    | false=>
     rw[w1,Bool.false_or] at q1
     rw[w1] at s1
     rw[q1] at s2
     simp -implicitDefEqProofs (disch:=omega) only[E1,Nat.reduceBEq,Nat.reduceSub,Nat.reduceAdd,reduceIte,Ev.ag,x1,s1,s2,ge,e5]
   obtain⟨c5,c6,c7,c8,e2⟩:=Ax cl gs a1 a3 a4 cs (acc++Gb (pk c) gs) (some c.d) b6 b7 b8 (by rw[List.length_append];omega)
   refine⟨c5,c6,c7,c8,?_⟩
   rw[List.map_cons,Ev.aW,e1,Ev.bc,Ev.bf,e2,hl,OM,hc,if_pos rfl,List.nil_append,List.append_assoc]
  | false=>
   rw[hc,if_neg Bool.false_ne_true,List.length_singleton] at h
   obtain⟨b6,b7,b8,e5⟩:=vA cl (some (.lst false (gs.map Gp.d))) a1 a3 a4 c gs (acc++[c]) a6 a7 a8 (by rw[List.length_append,List.length_singleton];omega)
   have q1:=Bool.or_eq_false_iff.mp (show ((Str.ofString "in" == c.w)||(Str.ofString "out" == c.w))=false from hc)
   rw[q1.1] at s1
   rw[q1.2] at s2
   have e1:Ev.turn cl (.nm 5) Mb c.d [some (.lst false (gs.map Gp.d)),a1,some (.lst true (acc.map Cn.d)),a3,a4,a5,a6,a7,a8]=.ok (.nx [some (.lst false (gs.map Gp.d)),a1,some (.lst true ((acc++[c]++Gb (pk c) gs).map Cn.d)),a3,a4,some c.d,b6,b7,b8]):=by
    rw[List.map_append,List.map_cons,List.map_nil] at e5
    unfold Mb
    simp -implicitDefEqProofs (disch:=omega) only[E1,Nat.reduceBEq,Nat.reduceSub,Nat.reduceAdd,reduceIte,Ev.ag,x1,ce,s1,s2,ge,la,e5]
   obtain⟨c5,c6,c7,c8,e2⟩:=Ax cl gs a1 a3 a4 cs (acc++[c]++Gb (pk c) gs) (some c.d) b6 b7 b8 (by rw[List.length_append,List.length_append,List.length_singleton];omega)
   refine⟨c5,c6,c7,c8,?_⟩
   rw[List.map_cons,Ev.aW,e1,Ev.bc,Ev.bf,e2,hl,OM,hc,if_neg Bool.false_ne_true,List.append_assoc,List.append_assoc,List.append_assoc]
theorem DH (cl:Nat->List D->Res D)(gs:List Gp)(a1:Option D):∀ (rs:List Ru) (acc:List Cn) (a3 a4 a5 a6 a7 a8:Option D),(∀ r∈rs,er r.o=r.o)->acc.length+(Fu gs (au rs)).length<=1000->
  ∃ QT N8 GX Oc Oe Jn,forM (Ev.turn cl (.tp [(.nm 3),(.nm 4)]) O6) (rs.map Ru.d) [some (.lst false (gs.map Gp.d)),a1,some (.lst true (acc.map Cn.d)),a3,a4,a5,a6,a7,a8]=.ok (.nx [some (.lst false (gs.map Gp.d)),a1,some (.lst true ((acc++Fu gs (au rs)).map Cn.d)),QT,N8,GX,Oc,Oe,Jn])
 | [],acc,a3,a4,a5,a6,a7,a8,_,_=>⟨a3,a4,a5,a6,a7,a8,by show _=_;rw[show Fu gs (au [])=[] from rfl,List.append_nil];rfl⟩
 | r::rs,acc,a3,a4,a5,a6,a7,a8,ho,h=>by
  have hl:Fu gs (au (r::rs))=Fu gs r.cs++Fu gs (au rs):=by
   show List.flatMap (HW gs) (r.cs++au rs)=_
   rw[List.flatMap_append]
   rfl
  rw[hl,List.length_append] at h
  obtain⟨b5,b6,b7,b8,e5⟩:=Ax cl gs a1 (some (aB r.cs)) (some r.o) r.cs acc a5 a6 a7 a8 (by omega)
  have ce:=bY r.cs
  have oe:=ho r (by simp)
  have e1:Ev.turn cl (.tp [(.nm 3),(.nm 4)]) O6 r.d [some (.lst false (gs.map Gp.d)),a1,some (.lst true (acc.map Cn.d)),a3,a4,a5,a6,a7,a8]=.ok (.nx [some (.lst false (gs.map Gp.d)),a1,some (.lst true ((acc++Fu gs r.cs).map Cn.d)),some (aB r.cs),some r.o,b5,b6,b7,b8]):=by
   unfold aB at e5 ⊢
   unfold O6 Ru.d aB
   simp -implicitDefEqProofs (disch:=omega) only[E1,Nat.reduceBEq,Nat.reduceSub,Nat.reduceAdd,reduceIte,Ev.ag,ce,oe,e5]
  obtain⟨c3,c4,c5,c6,c7,c8,e2⟩:=DH cl gs a1 rs (acc++Fu gs r.cs) (some (aB r.cs)) (some r.o) b5 b6 b7 b8 (fun z hz=>ho z (List.mem_cons_of_mem _ hz)) (by rw[List.length_append];omega)
  refine⟨c3,c4,c5,c6,c7,c8,?_⟩
  rw[List.map_cons,Ev.aW,e1,Ev.bc,Ev.bf,e2,hl,List.append_assoc]
theorem lI (n:Nat)(H:Hd gs rs sw)(hl:(Fu gs (au rs)).length<=1000):ae T (n+1) 37 [.lst false (gs.map Gp.d),sw]=.ok (.lst true ((Fu gs (au rs)).map Cn.d)):=by
 obtain⟨c3,c4,c5,c6,c7,c8,e⟩:=DH (ae T n) gs (some sw) rs [] none none none none none none H.ro (by simpa using hl)
 rw[List.map_nil,List.nil_append] at e
 have re:=jc H.ro
 have se:=H.er
 have sx:=H.ix
 rw[Ev.go (show T 37=some MO from rfl) (show MO.np=2 from rfl) (show MO.G.N.length=9 from rfl) (show MO.body=QK from rfl) rfl];unfold QK
 unfold O6 Mb Ma Ob at e
 simp -implicitDefEqProofs (disch:=omega) only[E1,Nat.reduceBEq,Nat.reduceSub,Nat.reduceAdd,reduceIte,sx,se,re,e]
end Law
namespace Law
open PySem PySem.Spec L2 L2.Fr
noncomputable def HM:List IS:=[(.Fg (.E8 (.cmp .eq (.v 5) (.v 1)) (.cmp .eq (.v 6) (.c (.str "begins")))) [(.app 3 (.v 8))] [(.Fg (.E8 (.cmp .eq (.v 5) (.v 1)) (.FG (.v 8) .str)) [(.app 2 (.v 8))] [(.Fg (.E8 (.cmp .eq (.v 5) (.v 1)) (.cmp .ne (.v 6) (.c (.str "most")))) [(.app 4 (.v 8))] [])])]),(.Fg (.E8 (.cmp .eq (.v 5) (.v 1)) (.E8 (.F3 (.FG (.v 8) .str)) (.cmp .ne (.v 6) (.c (.str "least"))))) [(.app 4 (.bin .add (.v 8) (.c (.int 1))))] [])]
noncomputable def Of:List IS:=[(.Fp (.nm 8) (.val (.v 7)) HM)]
noncomputable def cS (l:Option D)(mk:Str)(A B:List Str)(C:List Int)(x5 x6 x7 x8:Option D):Ev:=[l,some (.str mk),some (.lst true (A.map .str)),some (.lst true (B.map .str)),some (.lst true (C.map .int)),x5,x6,x7,x8,none,none,none]
noncomputable def GU (q2 q3:Bool)(x:Int):List Int:=(if q2=true then [] else [x])++(if q3=true then [] else [x+1])
section
variable (cl:Nat->List D->Res D)(l x7:Option D)(mk m w:Str)
theorem DI (q0:(m == mk)=false)(A B:List Str)(C:List Int):∀ (ts:List Tn) (x8:Option D),∃ y8,forM (Ev.turn cl (.nm 8) HM) (ts.map Tn.d) (cS l mk A B C (some (.str m)) (some (.str w)) x7 x8)=.ok (.nx (cS l mk A B C (some (.str m)) (some (.str w)) x7 y8))
 | [],x8=>⟨x8,rfl⟩
 | t::ts,x8=>by
  have e1:Ev.turn cl (.nm 8) HM t.d (cS l mk A B C (some (.str m)) (some (.str w)) x7 x8)=.ok (.nx (cS l mk A B C (some (.str m)) (some (.str w)) x7 (some t.d))):=by
   unfold cS HM
   simp -implicitDefEqProofs (disch:=omega) only[E1,Nat.reduceBEq,Nat.reduceSub,Nat.reduceAdd,reduceIte,Ev.ag,q0]
  obtain⟨y8,e2⟩:=DI q0 A B C ts (some t.d)
  exact⟨y8,by rw[List.map_cons,Ev.aW,e1,Ev.bc,Ev.bf,e2]⟩
theorem DJ (q0:(m == mk)=true)(q1:(w == Str.ofString "begins")=true) (A:List Str) (C:List Int):∀ (ts:List Tn) (B:List Str) (x8:Option D),(∀ t∈ts,∃ x,t=.s x)->B.length+ts.length<=1000->∃ y8,forM (Ev.turn cl (.nm 8) HM) (ts.map Tn.d) (cS l mk A B C (some (.str m)) (some (.str w)) x7 x8)=.ok (.nx (cS l mk A (B++GR ts) C (some (.str m)) (some (.str w)) x7 y8))
 | [],B,x8,_,_=>⟨x8,by rw[show GR []=[] from rfl,List.append_nil];rfl⟩
 | t::ts,B,x8,h,hb=>by
  obtain⟨x,rfl⟩:=h t (by simp)
  rw[List.length_cons] at hb
  have lB:(B.map D.str).length=B.length:=List.length_map ..
  have e1:Ev.turn cl (.nm 8) HM (.str x) (cS l mk A B C (some (.str m)) (some (.str w)) x7 x8)=.ok (.nx (cS l mk A (B++[x]) C (some (.str m)) (some (.str w)) x7 (some (.str x)))):=by
   unfold cS HM
   rw[List.map_append,List.map_cons,List.map_nil]
   simp -implicitDefEqProofs (disch:=omega) only[E1,Nat.reduceBEq,Nat.reduceSub,Nat.reduceAdd,reduceIte,Ev.ag,q0,q1,lB]
  obtain⟨y8,e2⟩:=DJ q0 q1 A C ts (B++[x]) (some (.str x)) (fun t ht=>h t (List.mem_cons_of_mem _ ht)) (by rw[List.length_append,List.length_singleton];omega)
  refine⟨y8,?_⟩
  show forM (Ev.turn cl (.nm 8) HM) (D.str x::ts.map Tn.d) _=_
  rw[Ev.aW,e1,Ev.bc,Ev.bf,e2,List.append_assoc]
  rfl
theorem Ay (q0:(m == mk)=true)(q1:(w == Str.ofString "begins")=false) {b2 b3:Bool} (q2:(w == Str.ofString "most")=b2) (q3:(w == Str.ofString "least")=b3) (B:List Str):∀ (ts:List Tn) (A:List Str) (C:List Int) (x8:Option D),A.length+ts.length<=1000->C.length+2*ts.length<=1000->
  ∃ y8,forM (Ev.turn cl (.nm 8) HM) (ts.map Tn.d) (cS l mk A B C (some (.str m)) (some (.str w)) x7 x8)=.ok (.nx (cS l mk (A++GR ts) B (C++(ins ts).flatMap (GU b2 b3)) (some (.str m)) (some (.str w)) x7 y8))
 | [],A,C,x8,_,_=>⟨x8,by rw[show GR []=[] from rfl,List.append_nil,show (ins []).flatMap (GU b2 b3)=[] from rfl,List.append_nil];rfl⟩
 | .s x::ts,A,C,x8,h1,h2=>by
  rw[List.length_cons] at h1 h2
  have lA:(A.map D.str).length=A.length:=List.length_map ..
  have e1:Ev.turn cl (.nm 8) HM (.str x) (cS l mk A B C (some (.str m)) (some (.str w)) x7 x8)=.ok (.nx (cS l mk (A++[x]) B C (some (.str m)) (some (.str w)) x7 (some (.str x)))):=by
   unfold cS HM
   rw[List.map_append,List.map_cons,List.map_nil]
   simp -implicitDefEqProofs (disch:=omega) only[E1,Nat.reduceBEq,Nat.reduceSub,Nat.reduceAdd,reduceIte,Ev.ag,q0,q1,lA]
  obtain⟨y8,e2⟩:=Ay q0 q1 q2 q3 B ts (A++[x]) C (some (.str x)) (by rw[List.length_append,List.length_singleton];omega) (by omega)
  refine⟨y8,?_⟩
  show forM (Ev.turn cl (.nm 8) HM) (D.str x::ts.map Tn.d) _=_
  rw[Ev.aW,e1,Ev.bc,Ev.bf,e2,List.append_assoc]
  rfl
 | .i x::ts,A,C,x8,h1,h2=>by
  rw[List.length_cons] at h1 h2
  have lC:(C.map D.int).length=C.length:=List.length_map ..
  have e1:Ev.turn cl (.nm 8) HM (.int x) (cS l mk A B C (some (.str m)) (some (.str w)) x7 x8)=.ok (.nx (cS l mk A B (C++GU b2 b3 x) (some (.str m)) (some (.str w)) x7 (some (.int x)))):=by
   unfold cS HM GU
   cases b2 with
   | true=>
    cases b3 with
    | true=>
     rw[if_pos rfl,if_pos rfl,List.nil_append,List.append_nil]
     simp -implicitDefEqProofs (disch:=omega) only[E1,Nat.reduceBEq,Nat.reduceSub,Nat.reduceAdd,reduceIte,Ev.ag,q0,q1,q2,q3,lC]
    | false=>
     rw[if_pos rfl,if_neg Bool.false_ne_true,List.nil_append,List.map_append,List.map_cons,List.map_nil]
     simp -implicitDefEqProofs (disch:=omega) only[E1,Nat.reduceBEq,Nat.reduceSub,Nat.reduceAdd,reduceIte,Ev.ag,q0,q1,q2,q3,lC]
   | false=>
    cases b3 with
    | true=>
     rw[if_pos rfl,if_neg Bool.false_ne_true,List.append_nil,List.map_append,List.map_cons,List.map_nil]
     simp -implicitDefEqProofs (disch:=omega) only[E1,Nat.reduceBEq,Nat.reduceSub,Nat.reduceAdd,reduceIte,Ev.ag,q0,q1,q2,q3,lC]
    | false=>
     rw[if_neg Bool.false_ne_true,if_neg Bool.false_ne_true,List.map_append,List.map_append,List.map_cons,List.map_nil,List.map_cons,List.map_nil]
     simp -implicitDefEqProofs (disch:=omega) only[E1,Nat.reduceBEq,Nat.reduceSub,Nat.reduceAdd,reduceIte,Ev.ag,q0,q1,q2,q3,lC,List.length_append,List.append_assoc]
  have hf:(GU b2 b3 x).length<=2:=by unfold GU;cases b2<;>cases b3<;>simp
  obtain⟨y8,e2⟩:=Ay q0 q1 q2 q3 B ts A (C++GU b2 b3 x) (some (.int x)) (by omega) (by rw[List.length_append];omega)
  refine⟨y8,?_⟩
  show forM (Ev.turn cl (.nm 8) HM) (D.int x::ts.map Tn.d) _=_
  rw[Ev.aW,e1,Ev.bc,Ev.bf,e2,List.append_assoc]
  rfl
end
noncomputable def aT (mk:Str)(c:Cn):List Str:=if ((c.m == mk)&&!(c.w == Str.ofString "begins"))=true then GR c.ts else []
noncomputable def bT (mk:Str)(c:Cn):List Str:=if ((c.m == mk)&&(c.w == Str.ofString "begins"))=true then GR c.ts else []
noncomputable def cT (mk:Str)(c:Cn):List Int:=if ((c.m == mk)&&!(c.w == Str.ofString "begins"))=true then (ins c.ts).flatMap (GU (c.w == Str.ofString "most") (c.w == Str.ofString "least")) else []
theorem yl (cl:Nat->List D->Res D)(l:Option D)(mk:Str):∀ (cs:List Cn) (A B:List Str) (C:List Int) (x5 x6 x7 x8:Option D),(∀ c∈cs,c.w=Str.ofString "begins"->∀ t∈c.ts,∃ x,t=.s x)->
  A.length+(cs.flatMap Cn.ts).length<=400->B.length+(cs.flatMap Cn.ts).length<=400->C.length+2*(cs.flatMap Cn.ts).length<=400->
  ∃ y5 y6 y7 y8,forM (Ev.turn cl (.tp [(.nm 5),(.nm 6),(.nm 7)]) Of) (cs.map Cn.d) (cS l mk A B C x5 x6 x7 x8)=.ok (.nx (cS l mk (A++cs.flatMap (aT mk)) (B++cs.flatMap (bT mk)) (C++cs.flatMap (cT mk)) y5 y6 y7 y8))
 | [],A,B,C,x5,x6,x7,x8,_,_,_,_=>⟨x5,x6,x7,x8,by rw[List.flatMap_nil,List.flatMap_nil,List.flatMap_nil,List.append_nil,List.append_nil,List.append_nil];rfl⟩
 | c::cs,A,B,C,x5,x6,x7,x8,hb,h1,h2,h3=>by
  rw[List.flatMap_cons,List.length_append] at h1 h2 h3
  have te:=m8 c.ts
  have key:∃ y8,Ev.turn cl (.tp [(.nm 5),(.nm 6),(.nm 7)]) Of c.d (cS l mk A B C x5 x6 x7 x8)=.ok (.nx (cS l mk (A++aT mk c) (B++bT mk c) (C++cT mk c) (some (.str c.m)) (some (.str c.w)) (some (.lst false (c.ts.map Tn.d))) y8)):=by
   have go:∀ (A' B':List Str) (C':List Int) (y8:Option D),forM (Ev.turn cl (.nm 8) HM) (c.ts.map Tn.d) (cS l mk A B C (some (.str c.m)) (some (.str c.w)) (some (.lst false (c.ts.map Tn.d))) x8)=.ok (.nx (cS l mk A' B' C' (some (.str c.m)) (some (.str c.w)) (some (.lst false (c.ts.map Tn.d))) y8))->
     Ev.turn cl (.tp [(.nm 5),(.nm 6),(.nm 7)]) Of c.d (cS l mk A B C x5 x6 x7 x8)=.ok (.nx (cS l mk A' B' C' (some (.str c.m)) (some (.str c.w)) (some (.lst false (c.ts.map Tn.d))) y8)):=by
    intro A' B' C' y8 e
    unfold cS at e ⊢
    unfold Of Cn.d
    simp -implicitDefEqProofs (disch:=omega) only[E1,Nat.reduceBEq,Nat.reduceSub,Nat.reduceAdd,reduceIte,Ev.ag,te,e]
   unfold aT bT cT
   cases q0:(c.m == mk) with
   | false=>
    obtain⟨y8,e⟩:=DI cl l (some (.lst false (c.ts.map Tn.d))) mk c.m c.w q0 A B C c.ts x8
    refine⟨y8,?_⟩
    simp only[Bool.false_and,Bool.false_eq_true,if_false,List.append_nil]
    exact go _ _ _ _ e
   | true=>
    cases q1:(c.w == Str.ofString "begins") with
    | true=>
     obtain⟨y8,e⟩:=DJ cl l (some (.lst false (c.ts.map Tn.d))) mk c.m c.w q0 q1 A C c.ts B x8 (hb c (by simp) (eq_of_beq q1)) (by omega)
     refine⟨y8,?_⟩
     simp only[Bool.true_and,Bool.not_true,Bool.false_eq_true,if_true,if_false,List.append_nil]
     exact go _ _ _ _ e
    | false=>
     obtain⟨y8,e⟩:=Ay cl l (some (.lst false (c.ts.map Tn.d))) mk c.m c.w q0 q1 (b2:=c.w == Str.ofString "most") (b3:=c.w == Str.ofString "least") rfl rfl B c.ts A C x8 (by omega) (by omega)
     refine⟨y8,?_⟩
     simp only[Bool.true_and,Bool.not_false,Bool.false_eq_true,if_true,if_false,List.append_nil]
     exact go _ _ _ _ e
  obtain⟨z8,e1⟩:=key
  have la:(aT mk c).length<=c.ts.length:=by have:=bR c.ts;unfold aT;split<;>simp<;>omega
  have lb:(bT mk c).length<=c.ts.length:=by have:=bR c.ts;unfold bT;split<;>simp<;>omega
  have lf:∀ (b2 b3:Bool) (xs:List Int),(xs.flatMap (GU b2 b3)).length<=2*xs.length:=fun b2 b3 xs=>by
   induction xs with
   | nil=>exact Nat.le_refl _
   | cons x xs ih=>
    have:(GU b2 b3 x).length<=2:=by unfold GU;cases b2<;>cases b3<;>simp
    rw[List.flatMap_cons,List.length_append,List.length_cons]
    omega
  have lc:(cT mk c).length<=2*c.ts.length:=by
   have h1:=fg c.ts
   have h2:=lf (c.w == Str.ofString "most") (c.w == Str.ofString "least") (ins c.ts)
   unfold cT
   split
   ·omega
   ·simp
  obtain⟨y5,y6,y7,y8,e2⟩:=yl cl l mk cs (A++aT mk c) (B++bT mk c) (C++cT mk c) (some (.str c.m)) (some (.str c.w)) (some (.lst false (c.ts.map Tn.d))) z8 (fun z hz=>hb z (List.mem_cons_of_mem _ hz)) (by rw[List.length_append];omega) (by rw[List.length_append];omega) (by rw[List.length_append];omega)
  refine⟨y5,y6,y7,y8,?_⟩
  rw[List.map_cons,Ev.aW,e1,Ev.bc,Ev.bf,e2,List.flatMap_cons,List.flatMap_cons,List.flatMap_cons,List.append_assoc,List.append_assoc,List.append_assoc]
noncomputable def cL (mk:Str)(cs:List Cn):List D:=aP (sS (cs.flatMap (aT mk))) (sS (Str.ofString ""::cs.flatMap (bT mk))) (sI (cs.flatMap (cT mk)))
theorem oD (n:Nat)(mk:Str){cs:List Cn}(hb:∀ c∈cs,c.w=Str.ofString "begins"->∀ t∈c.ts,∃ x,t=.s x) (G1:(cs.flatMap Cn.ts).length<=30)
  (g1:(cs.flatMap (aT mk)).length < 63) (g2:(cs.flatMap (bT mk)).length < 63) (g3:(cs.flatMap (cT mk)).length < 64):ae T (n+1) 38 [.lst false (cs.map Cn.d),.str mk]=.ok (.lst true (cL mk cs)):=by
 obtain⟨y5,y6,y7,y8,e⟩:=yl (ae T n) (some (.lst false (cs.map Cn.d))) mk cs [] [Str.ofString ""] [] none none none none hb (by simp only[List.length_nil];omega) (by simp only[List.length_singleton];omega) (by simp only[List.length_nil];omega)
 have ce:=bY cs
 unfold cL
 rw[List.nil_append,List.nil_append,List.cons_append,List.nil_append] at e
 have s1:=jd (o:=true) (xs:=cs.flatMap (aT mk)) (by omega)
 have s2:=jd (o:=true) (xs:=Str.ofString ""::cs.flatMap (bT mk)) (by rw[List.length_cons];omega)
 have s3:=Aw (o:=true) (xs:=cs.flatMap (cT mk)) (by omega)
 have l1:=jf (cs.flatMap (aT mk))
 have l2:=jf (Str.ofString ""::cs.flatMap (bT mk))
 have l3:=sT (cs.flatMap (cT mk))
 rw[List.length_cons] at l2
 unfold cS at e
 have RH:bH (HU (cs.flatMap (aT mk)))=sS (cs.flatMap (aT mk)):=rfl
 have Ia:bH (HU (Str.ofString ""::cs.flatMap (bT mk)))=sS (Str.ofString ""::cs.flatMap (bT mk)):=rfl
 have OG:PySem.W.sortI (dd (cs.flatMap (cT mk)))=sI (cs.flatMap (cT mk)):=rfl
 rw[RH] at s1
 rw[Ia] at s2
 rw[OG] at s3
 generalize sS (cs.flatMap (aT mk))=A at *
 generalize sS (Str.ofString ""::cs.flatMap (bT mk))=B at *
 generalize sI (cs.flatMap (cT mk))=C at *
 generalize cs.flatMap (aT mk)=A0 at *
 generalize Str.ofString ""::cs.flatMap (bT mk)=B0 at *
 generalize cs.flatMap (cT mk)=C0 at *
 have f1:=sQ (ae T n) "text" A
 have f2:=sQ (ae T n) "begins" B
 have f3:=EL (ae T n) C
 have f4:=yi (ae T n) (.EZ::C.map .int) ((C.map (· - 1)).map .int++[.EZ])
 have lA:(A.map D.str).length=A.length:=List.length_map ..
 have lB:(B.map D.str).length=B.length:=List.length_map ..
 have lC:(C.map D.int).length=C.length:=List.length_map ..
 have lD:((C.map (· - 1)).map D.int).length=C.length:=by rw[List.length_map,List.length_map]
 have lE:(A.map (az "text")).length=A.length:=List.length_map ..
 have lF:(B.map (az "begins")).length=B.length:=List.length_map ..
 have z1:=d8 "text" A
 have z2:=d8 "begins" B
 have z3:=yj C
 have z4:=yk C
 have z5:=gA A B C
 have z6:=zl C
 have z7:=kn C
 have z8:af (D.tup [.str "none"]::A.map (az "text"))=true:=by show (true&&af (A.map (az "text")))=true;rw[z1];rfl
 have z9:af (D.tup [.str "none"]::(A.map (az "text")++B.map (az "begins")))=true:=by show (true&&af (A.map (az "text")++B.map (az "begins")))=true;rw[eN,z1,z2];rfl
 have nl:∀ a,aE (.sset a)=false:=fun _=>rfl
 have vs:∀ a,vars (.sset a)=vars a:=fun _=>rfl
 unfold aP nums at *
 generalize List.zipWith bS (.EZ::C.map .int) ((C.map (· - 1)).map .int++[.EZ])=Z at *
 generalize hP:A.map (az "text")=P at *
 generalize hR:B.map (az "begins")=R at *
 rw[List.cons_append,List.nil_append,List.cons_append,List.cons_append] at z5 ⊢
 rw[Ev.go (show T 38=some MP from rfl) (show MP.np=2 from rfl) (show MP.G.N.length=12 from rfl) (show MP.body=QL from rfl) rfl];unfold QL
 unfold Of HM at e
 have Sm:([D.str ""]:List D)=[Str.ofString ""].map D.str:=rfl
 rw[List.map_nil,List.map_nil,List.map_cons,List.map_nil] at e
 simp -implicitDefEqProofs (disch:=omega) only[E1,Nat.reduceBEq,Nat.reduceSub,Nat.reduceAdd,reduceIte,e,ce,s1,s2,s3,f1,f2,f3,f4,lA,lB,lC,lD,lE,lF,z1,z2,z3,z4,z5,z6,z7,z8,z9,nl,vs,List.length_append]
theorem vB (v x:Str)(σ:List Str):x∈Sv.Jy σ v↔x∈σ∨x=v:=by
 unfold Sv.Jy
 by_cases h:σ.any (· == v)=true
 ·rw[if_pos h]
  constructor
  ·exact .inl
  ·rintro (h1|rfl)
   ·exact h1
   ·obtain⟨y,hy,e⟩:=List.any_eq_true.mp h
    rw[<- eq_of_beq e];exact hy
 ·rw[if_neg h,List.mem_append,List.mem_singleton]
theorem Az (v:Str){σ:List Str}(n:σ.Nodup):(Sv.Jy σ v).Nodup:=by
 unfold Sv.Jy
 by_cases h:σ.any (· == v)=true
 ·rw[if_pos h];exact n
 ·rw[if_neg h,List.nodup_append]
  refine⟨n,by simp,fun a ha b hb e=>h (List.any_eq_true.mpr ⟨a,ha,?_⟩)⟩
  rw[e,List.mem_singleton.mp hb]
  simp
theorem jg:∀ (xs σ:List Str),σ.Nodup->(xs.foldl Sv.Jy σ).Nodup/\∀ x,x∈xs.foldl Sv.Jy σ↔x∈σ∨x∈xs
 | [],σ,n=>⟨n,fun x=>by simp⟩
 | v::xs,σ,n=>by
  obtain⟨h1,h2⟩:=jg xs (Sv.Jy σ v) (Az v n)
  refine⟨h1,fun x=>?_⟩
  rw[List.foldl_cons,h2,vB,List.mem_cons,or_assoc]
theorem ym {a b:List Str}(h:∀ x,x∈a↔x∈b):sS a=sS b:=by
 obtain⟨n1,m1⟩:=jg a [] List.nodup_nil
 obtain⟨n2,m2⟩:=jg b [] List.nodup_nil
 have p:(HU a).Perm (HU b):=(List.perm_ext_iff_of_nodup n1 n2).mpr fun x=>by
  rw[m1,m2,h]
 exact List.Perm.eq_of_pairwise (fun _ _ _ _ a b=>jJ a b) (cn _) (cn _) (((bu _).trans p).trans (bu _).symm)
theorem vC (v x:Int)(σ:List Int):x∈PyProof.Rows.step_dedup σ v↔x∈σ∨x=v:=by
 unfold PyProof.Rows.step_dedup
 by_cases h:σ.any (· == v)=true
 ·rw[if_pos h]
  constructor
  ·exact .inl
  ·rintro (h1|rfl)
   ·exact h1
   ·obtain⟨y,hy,e⟩:=List.any_eq_true.mp h
    rw[<- eq_of_beq e];exact hy
 ·rw[if_neg h,List.mem_append,List.mem_singleton]
theorem AA (v:Int){σ:List Int}(n:σ.Nodup):(PyProof.Rows.step_dedup σ v).Nodup:=by
 unfold PyProof.Rows.step_dedup
 by_cases h:σ.any (· == v)=true
 ·rw[if_pos h];exact n
 ·rw[if_neg h,List.nodup_append]
  refine⟨n,by simp,fun a ha b hb e=>h (List.any_eq_true.mpr ⟨a,ha,?_⟩)⟩
  rw[e,List.mem_singleton.mp hb]
  simp
theorem lJ:∀ (xs σ:List Int),σ.Nodup->(xs.foldl PyProof.Rows.step_dedup σ).Nodup/\∀ x,x∈xs.foldl PyProof.Rows.step_dedup σ↔x∈σ∨x∈xs
 | [],σ,n=>⟨n,fun x=>by simp⟩
 | v::xs,σ,n=>by
  obtain⟨h1,h2⟩:=lJ xs (PyProof.Rows.step_dedup σ v) (AA v n)
  refine⟨h1,fun x=>?_⟩
  rw[List.foldl_cons,h2,vC,List.mem_cons,or_assoc]
theorem fq {p:Str->Bool}{c:Cn}:∀ {gs:List Gp},c∈Gb p gs↔∃ g∈gs,p g.n=true/\c∈g.rows.flatten
 | []=>by simp[Gb]
 | g::gs=>by
  show c∈(if p g.n=true then g.rows.flatten else [])++Gb p gs↔_
  rw[List.mem_append,fq]
  constructor
  ·rintro (h|⟨g',h1,h2⟩)
   ·split at h
    ·rename_i hp;exact⟨g,by simp,hp,h⟩
    ·simp at h
   ·exact⟨g',List.mem_cons_of_mem _ h1,h2⟩
  ·rintro ⟨g',h1,h2,h3⟩
   rcases List.mem_cons.mp h1 with rfl|h1
   ·exact .inl (by rw[if_pos h2];exact h3)
   ·exact .inr ⟨g',h1,h2,h3⟩
theorem sU (ks:List Str)(x y:Str):y∈dZ ks x↔y∈ks∨y=x:=by
 unfold dZ
 by_cases h:ks.contains x=true
 ·rw[if_pos h]
  constructor
  ·exact .inl
  ·rintro (h1|rfl)
   ·exact h1
   ·simpa using h
 ·rw[if_neg h,List.mem_append,List.mem_singleton]
theorem jh:∀ (cs:List Cn) (ks:List Str) (y:Str),y∈GD ks cs↔y∈ks∨∃ c∈cs,io c=true/\c.m=y
 | [],ks,y=>by simp[GD]
 | c::cs,ks,y=>by
  rw[nc,jh cs]
  by_cases h:io c=true
  ·rw[if_pos h,sU]
   constructor
   ·rintro ((h1|rfl)|⟨d,h1,h2⟩)
    ·exact .inl h1
    ·exact .inr ⟨c,by simp,h,rfl⟩
    ·exact .inr ⟨d,List.mem_cons_of_mem _ h1,h2⟩
   ·rintro (h1|⟨d,h1,h2,h3⟩)
    ·exact .inl (.inl h1)
    ·rcases List.mem_cons.mp h1 with rfl|h1
     ·exact .inl (.inr h3.symm)
     ·exact .inr ⟨d,h1,h2,h3⟩
  ·rw[if_neg h]
   constructor
   ·rintro (h1|⟨d,h1,h2⟩)
    ·exact .inl h1
    ·exact .inr ⟨d,List.mem_cons_of_mem _ h1,h2⟩
   ·rintro (h1|⟨d,h1,h2,h3⟩)
    ·exact .inl h1
    ·rcases List.mem_cons.mp h1 with rfl|h1
     ·exact absurd h2 h
     ·exact .inr ⟨d,h1,h2,h3⟩
theorem AB (gs:List Gp)(rs:List Ru)(c:Cn):c∈lk gs rs↔c∈Fu gs (au rs):=by
 unfold lk Fu
 rw[List.mem_append,List.mem_filter,fq,List.mem_flatMap]
 constructor
 ·rintro (⟨h1,h2⟩|⟨g,h1,h2,h3⟩)
  ·refine⟨c,h1,?_⟩
   have KY:io c=false:=by simpa using h2
   unfold HW
   rw[KY,if_neg Bool.false_ne_true]
   simp
  ·have KY:g.n∈GD [] (au rs):=by simpa using h2
   rcases (jh _ _ _).mp KY with h|⟨d,k1,k2,k3⟩
   ·simp at h
   ·refine⟨d,k1,?_⟩
    unfold HW
    rw[List.mem_append]
    refine .inr (fq.mpr ⟨g,h1,?_,h3⟩)
    unfold pk
    rw[k2,k3]
    simp
 ·rintro ⟨d,h1,h2⟩
  unfold HW at h2
  rw[List.mem_append] at h2
  rcases h2 with h2|h2
  ·split at h2
   ·simp at h2
   ·rename_i hd
    rw[List.mem_singleton] at h2
    subst h2
    exact .inl ⟨h1,by simpa using hd⟩
  ·obtain⟨g,k1,k2,k3⟩:=fq.mp h2
   have S5:=Bool.and_eq_true_iff.mp k2
   refine .inr ⟨g,k1,?_,k3⟩
   have:g.n∈GD [] (au rs):=(jh _ _ _).mpr (.inr ⟨d,h1,S5.1,(eq_of_beq S5.2).symm⟩)
   simpa using this
theorem de {x:Str}:∀ {ts:List Tn},x∈GR ts↔Tn.s x∈ts
 | []=>by simp[GR]
 | .s y::r=>by
  show x∈y::GR r↔_
  rw[List.mem_cons,List.mem_cons,de]
  constructor
  ·rintro (rfl|h)
   ·exact .inl rfl
   ·exact .inr h
  ·rintro (h|h)
   ·exact .inl (by cases h;rfl)
   ·exact .inr h
 | .i y::r=>by
  show x∈GR r↔_
  rw[List.mem_cons,de]
  exact⟨.inr,fun h=>h.elim (fun z=>by cases z) id⟩
theorem ft {x:Int}:∀ {ts:List Tn},x∈ins ts↔Tn.i x∈ts
 | []=>by simp[ins]
 | .i y::r=>by
  show x∈y::ins r↔_
  rw[List.mem_cons,List.mem_cons,ft]
  constructor
  ·rintro (rfl|h)
   ·exact .inl rfl
   ·exact .inr h
  ·rintro (h|h)
   ·exact .inl (by cases h;rfl)
   ·exact .inr h
 | .s y::r=>by
  show x∈ins r↔_
  rw[List.mem_cons,ft]
  exact⟨.inr,fun h=>h.elim (fun z=>by cases z) id⟩
inductive Wk:Str->Prop
 | is:Wk (Str.ofString "is")
 | not:Wk (Str.ofString "not")
 | be:Wk (Str.ofString "begins")
 | le:Wk (Str.ofString "least")
 | mo:Wk (Str.ofString "most")
theorem sV {a b:Str}(h:a≠b):(a == b)=false:=by simpa using h
theorem n3:Str.ofString "least"≠Str.ofString "begins":=by decide +kernel
theorem n4:Str.ofString "most"≠Str.ofString "begins":=by decide +kernel
theorem n5:Str.ofString "is"≠Str.ofString "most":=by decide +kernel
theorem n7:Str.ofString "least"≠Str.ofString "most":=by decide +kernel
theorem n8:Str.ofString "is"≠Str.ofString "least":=by decide +kernel
theorem fu {mk:Str}{ws:List Str}{c:Cn}:hit mk ws c=true↔c.m=mk/\c.w∈ws:=by
 unfold hit
 rw[Bool.and_eq_true,List.any_eq_true]
 constructor
 ·rintro ⟨h1,y,h2,h3⟩
  exact⟨eq_of_beq h1,(eq_of_beq h3) ▸ h2⟩
 ·rintro ⟨h1,h2⟩
  exact⟨by rw[h1];simp,c.w,h2,by simp⟩
theorem lK {mk x:Str}{c:Cn}:x∈aT mk c↔c.m=mk/\c.w≠Str.ofString "begins"/\Tn.s x∈c.ts:=by
 unfold aT
 by_cases h:((c.m == mk)&&!(c.w == Str.ofString "begins"))=true
 ·rw[if_pos h,de]
  have h':=Bool.and_eq_true_iff.mp h
  have e1:c.m=mk:=eq_of_beq h'.1
  have e2:c.w≠Str.ofString "begins":=by simpa using h'.2
  exact⟨fun z=>⟨e1,e2,z⟩,fun z=>z.2.2⟩
 ·rw[if_neg h]
  refine⟨fun z=>by simp at z,fun ⟨e1,e2,z⟩=>absurd ?_ h⟩
  rw[e1,sV e2]
  simp
theorem lL {mk x:Str}{c:Cn}:x∈bT mk c↔c.m=mk/\c.w=Str.ofString "begins"/\Tn.s x∈c.ts:=by
 unfold bT
 by_cases h:((c.m == mk)&&(c.w == Str.ofString "begins"))=true
 ·rw[if_pos h,de]
  have h':=Bool.and_eq_true_iff.mp h
  exact⟨fun z=>⟨eq_of_beq h'.1,eq_of_beq h'.2,z⟩,fun z=>z.2.2⟩
 ·rw[if_neg h]
  refine⟨fun z=>by simp at z,fun ⟨e1,e2,z⟩=>absurd ?_ h⟩
  rw[e1,e2]
  simp
theorem ni {w:Str}{x y:Int}:x∈GU (w == Str.ofString "most") (w == Str.ofString "least") y↔(w≠Str.ofString "most"/\x=y)∨(w≠Str.ofString "least"/\x=y+1):=by
 unfold GU
 rw[List.mem_append]
 by_cases h1:w=Str.ofString "most"
 ·by_cases h2:w=Str.ofString "least"
  ·simp[h1,h2]
  ·rw[sV h2,h1];simp[<- h1,h2]
 ·rw[sV h1]
  by_cases h2:w=Str.ofString "least"
  ·rw[h2];simp[n7]
  ·rw[sV h2];simp[h1,h2]
theorem AD {mk:Str}{x:Int}{c:Cn}:x∈cT mk c↔c.m=mk/\c.w≠Str.ofString "begins"/\∃ y,Tn.i y∈c.ts/\((c.w≠Str.ofString "most"/\x=y)∨(c.w≠Str.ofString "least"/\x=y+1)):=by
 unfold cT
 by_cases h:((c.m == mk)&&!(c.w == Str.ofString "begins"))=true
 ·rw[if_pos h,List.mem_flatMap]
  have h':=Bool.and_eq_true_iff.mp h
  have e1:c.m=mk:=eq_of_beq h'.1
  have e2:c.w≠Str.ofString "begins":=by simpa using h'.2
  constructor
  ·rintro ⟨y,h1,h2⟩;exact⟨e1,e2,y,ft.mp h1,ni.mp h2⟩
  ·rintro ⟨_,_,y,h1,h2⟩;exact⟨y,ft.mpr h1,ni.mpr h2⟩
 ·rw[if_neg h]
  refine⟨fun z=>by simp at z,fun ⟨e1,e2,z⟩=>absurd ?_ h⟩
  rw[e1,sV e2]
  simp
theorem DK {cs MR:List Cn}(mk:Str)(hm:∀ c,c∈cs↔c∈MR)(o:Ok cs)(hw:∀ c∈cs,c.ts=[]∨Wk c.w):N' mk cs=sS (MR.flatMap (aT mk)):=ym fun x=>by
 rw[de,lH,List.mem_flatMap]
 constructor
 ·rintro ⟨c,h1,h2,h3⟩
  obtain⟨k1,k2⟩:=fu.mp h2
  refine⟨c,(hm c).mp h1,lK.mpr ⟨k1,fun z=>?_,h3⟩⟩
  rw[z] at k2
  exact absurd k2 (by decide +kernel)
 ·rintro ⟨c,h1,h2⟩
  obtain⟨k1,k2,k3⟩:=lK.mp h2
  have hc:=(hm c).mpr h1
  refine⟨c,hc,fu.mpr ⟨k1,?_⟩,k3⟩
  rcases hw c hc with z|z
  ·rw[z] at k3;simp at k3
  ·generalize QV:c.w=w at z
   cases z with
   | is=>exact List.mem_cons_self
   | not=>exact List.mem_cons_of_mem _ List.mem_cons_self
   | be=>exact absurd QV k2
   | le=>obtain⟨y,e⟩:=o.le c hc QV _ k3;cases e
   | mo=>obtain⟨y,e⟩:=o.mo c hc QV _ k3;cases e
theorem DL {cs MR:List Cn}(mk:Str)(hm:∀ c,c∈cs↔c∈MR)(o:Ok cs)(hw:∀ c∈cs,c.ts=[]∨Wk c.w):Oa mk cs=sS (Str.ofString ""::MR.flatMap (bT mk)):=ym fun x=>by
 rw[List.mem_cons,List.mem_cons,de,lH,List.mem_flatMap]
 have key:(∃ c∈cs,hit mk JJ c=true/\Tn.s x∈c.ts)↔∃ c∈MR,x∈bT mk c:=by
  constructor
  ·rintro ⟨c,h1,h2,h3⟩
   obtain⟨k1,k2⟩:=fu.mp h2
   exact⟨c,(hm c).mp h1,lL.mpr ⟨k1,List.mem_singleton.mp k2,h3⟩⟩
  ·rintro ⟨c,h1,h2⟩
   obtain⟨k1,k2,k3⟩:=lL.mp h2
   exact⟨c,(hm c).mpr h1,fu.mpr ⟨k1,List.mem_singleton.mpr k2⟩,k3⟩
 rw[key]
open PyProof.Rows
noncomputable def K6 (ns:List Int)(k:Int):Int:=if 0 < ns.length then ns.getD (k % (ns.length:Int)).toNat 0 % 2147483647 else 0
noncomputable def dr (ns:List Int)(k m:Int):Int:=(K6 ns k*(742938285+9973*k*k)+k*630360016) % 2147483647 / 97 % m
theorem DM (ns:List Int)(k:Int):0<=K6 ns k/\K6 ns k < 2147483647:=by
 unfold K6
 split
 ·exact⟨Int.emod_nonneg _ (by decide),Int.emod_lt_of_pos _ (by decide)⟩
 ·decide
theorem bZ (ns:List Int)(k:Int){m:Int}(h:0 < m):0<=dr ns k m:=Int.emod_nonneg _ (by omega)
theorem cA (ns:List Int)(k:Int){m:Int}(h:0 < m):dr ns k m < m:=Int.emod_lt_of_pos _ h
theorem aH (n:Nat)(ns:List Int)(k m:Int)(h0:0<=k)(h1:k<=2000)(hm:0 < m):ae T (n+1) 27 [.lst false (ns.map .int),.int k,.int m]=.ok (.int (dr ns k m)):=by
 rw[Ev.go (show T 27=some ML from rfl) (show ML.np=3 from rfl) (show ML.G.N.length=5 from rfl) (show ML.body=QH from rfl) rfl];unfold QH
 obtain⟨b0,b1⟩:=DM ns k
 unfold dr
 have lm:(ns.map D.int).length=ns.length:=List.length_map _
 by_cases h:0 < ns.length
 ·have hd:decide ((0:Int) < (ns.length:Int))=true:=decide_eq_true (by omega)
  have c0:=Int.emod_nonneg k (show (ns.length:Int)≠0 by omega)
  have c1:=Int.emod_lt_of_pos k (show (0:Int) < (ns.length:Int) by omega)
  have ec:ns.getD (k % (ns.length:Int)).toNat 0 % 2147483647=K6 ns k:=by unfold K6;rw[if_pos h]
  simp -implicitDefEqProofs (disch:=omega) only[E1,Nat.reduceBEq,Nat.reduceSub,Nat.reduceAdd,reduceIte,lm,hd,ec]
 ·have hd:decide ((0:Int) < (ns.length:Int))=false:=decide_eq_false (by omega)
  have ec:K6 ns k=0:=by unfold K6;rw[if_neg h]
  rw[ec]
  simp -implicitDefEqProofs (disch:=omega) only[E1,Nat.reduceBEq,Nat.reduceSub,Nat.reduceAdd,reduceIte,lm,hd]
theorem eO:(Str.ofString "abcdefghijklmnopqrstuvwxyz0123456789").length=36:=by decide +kernel
theorem sW:(Str.ofString "abcdefghijklmnopqrstuvwxyz").length=26:=by decide +kernel
theorem sX:(Str.ofString "").length=0:=by decide +kernel
theorem cG (x:Str)(lo hi:Option Int):(Txt.slice x lo hi).length<=x.length:=by
 have:=indices_len_le lo hi x.length
 unfold Txt.slice
 split
 ·exact Nat.le_refl _
 ·refine Nat.le_trans ?_ this
  show (List.filterMap _ _).toArray.size<=_
  rw[List.size_toArray]
  exact List.length_filterMap_le ..
theorem cz (x y:Str):(x++y).length=x.length+y.length:=by
 show (x.cps++y.cps).size=_
 rw[Array.size_append]
 rfl
theorem AE {z:Str}{i:Int}(h0:0<=i)(h1:i < z.length)(hz:z.length<=1000):∃ y:Str,bt (.str z) (.int i)=.ok (.str y)/\y.length=1:=⟨_,Ev.NV h0 h1 (by omega),rfl⟩
noncomputable def sg:Str:=Str.ofString "abcdefghijklmnopqrstuvwxyz0123456789"
def Sx (x:Str):Prop:=∀ c∈x.cps.toList,c∈sg.cps.toList
def Cb (c:Int):Prop:=-999999990<=c/\c<=999999990
noncomputable def Tg:Tn->Prop
 | .s x=>x.length<=8/\Sx x
 | .i n=>-999999999<=n/\n<=999999999
theorem nj (lo hi:Option Int)(len:Nat):Builtin.Str.strSliceIndices lo hi 1 len=sliceRange ((HT.FY len 0 lo:Nat):Int) ((HT.FY len len hi:Nat):Int) 1:=by
 unfold Builtin.Str.strSliceIndices
 have one:(1:Int) > 0:=by decide
 simp only[if_pos one]
 have c:∀ (v:Int) (d:Nat),max 0 (min (if v < 0 then v+(len:Int) else v) (len:Int))=((HT.FY len d (some v):Nat):Int):=by
  intro v d
  show _=(((if v < 0 then (v+(len:Int)).toNat else min v.toNat len):Nat):Int)
  by_cases hv:v < 0
  ·simp only[if_pos hv];omega
  ·simp only[if_neg hv];omega
 congr 1
 ·cases lo with
  | none=>rfl
  | some v=>exact c v 0
 ·cases hi with
  | none=>rfl
  | some v=>exact c v len
theorem vD {s e:Nat}:sliceRange (s:Int) (e:Int) 1=sliceRange (s:Int) ((max s e:Nat):Int) 1:=by
 by_cases h:s < e
 ·rw[show max s e=e by omega]
 ·unfold sliceRange
  have one:(1:Int) > 0:=by decide
  simp only[if_pos one]
  rw[if_neg (show ¬ ((s:Int) < (e:Int)) by omega),if_neg (show ¬ ((s:Int) < ((max s e:Nat):Int)) by omega)]
theorem dg (x:Str)(lo hi:Option Int):Txt.slice x lo hi=⟨(bp x.cps.toList lo hi).toArray⟩:=by
 have hl:x.cps.toList.length=x.length:=by simp[Str.length]
 have h1:=HT.Jt x.length 0 (Nat.zero_le _) lo
 have h2:=HT.Jt x.length x.length (Nat.le_refl _) hi
 have e:StrLaws.sliceText x lo hi=StrLaws.sliceText x (some ((HT.FY x.length 0 lo:Nat):Int)) (some ((max (HT.FY x.length 0 lo) (HT.FY x.length x.length hi):Nat):Int)):=by
  unfold StrLaws.sliceText
  rw[nj lo hi,vD,nj (some _) (some _),HT.Ir,HT.Ir,Nat.min_eq_left h1,Nat.min_eq_left (by omega)]
 refine e.trans ((StrLaws.sliceText_nat x (Nat.le_max_left _ _) (by omega)).trans ?_)
 unfold bp
 rw[hl,show max (HT.FY x.length 0 lo) (HT.FY x.length x.length hi) - HT.FY x.length 0 lo=HT.FY x.length x.length hi - HT.FY x.length 0 lo by omega]
theorem Sx.slice {x:Str}(h:Sx x)(lo hi:Option Int):Sx (Txt.slice x lo hi):=fun c hc=>by
 rw[dg,List.toList_toArray] at hc
 exact h c (List.mem_of_mem_drop (List.mem_of_mem_take hc))
theorem Sx.app {x y:Str}(h:Sx x)(k:Sx y):Sx (x++y):=fun c hc=>by
 have Ji:c∈(x.cps++y.cps).toList:=hc
 rw[Array.toList_append,List.mem_append] at Ji
 exact Ji.elim (h c) (k c)
theorem cN (x:Str){m:Int}(h:0<=m):(Txt.slice x none (some m)).length<=m.toNat:=by
 rw[dg,Ev.gu _ h]
 show (List.take _ _).toArray.size<=_
 rw[List.size_toArray,List.length_take]
 exact Nat.min_le_left ..
theorem sY (x:Str):(Txt.slice x none (some (-1))).length=x.length - 1:=by
 rw[dg]
 show (bp _ _ _).toArray.size=_
 have hl:x.cps.toList.length=x.length:=by simp[Str.length]
 rw[List.size_toArray]
 unfold bp
 rw[List.length_take,List.length_drop,hl]
 show min ((if (-1:Int) < 0 then (-1+(x.length:Int)).toNat else min (Int.toNat (-1)) x.length) - 0) (x.length - 0)=_
 rw[if_pos (by decide)]
 omega
theorem getD_mem {l:List Nat}{i:Nat}(d:Nat)(h:i < l.length):l.getD i d∈l:=by
 rw[List.getD_eq_getElem?_getD,List.getElem?_eq_getElem h]
 exact List.getElem_mem h
theorem str0 {x:Str}(h:(x == Str.ofString "")=false):0 < x.length:=by
 rcases Nat.eq_zero_or_pos x.length with h0|h0
 ·have e:x=Str.ofString "":=by
   have h1:x.cps = #[]:=Array.eq_empty_of_size_eq_zero h0
   have h2:(Str.ofString "").cps = #[]:=by decide +kernel
   cases x
   rw[show Str.ofString "" = ⟨#[]⟩ by decide +kernel]
   congr
  rw[e] at h
  simp at h
 ·exact h0
theorem DN {i:Int}(h0:0<=i)(h1:i < 36):∃ y:Str,bt (.str "abcdefghijklmnopqrstuvwxyz0123456789") (.int i)=.ok (.str y)/\y.length=1/\Sx y:=by
 refine⟨_,Ev.NV (z:=Str.ofString "abcdefghijklmnopqrstuvwxyz0123456789") h0 (by rw[eO];exact h1) (by rw[eO];decide),rfl,fun c hc=>?_⟩
 have e:c=(Str.ofString "abcdefghijklmnopqrstuvwxyz0123456789").cps.toList.getD i.toNat 0:=by simpa using hc
 rw[e]
 refine getD_mem 0 ?_
 have e36:(Str.ofString "abcdefghijklmnopqrstuvwxyz0123456789").cps.toList.length=36:=by decide +kernel
 show i.toNat < (Str.ofString "abcdefghijklmnopqrstuvwxyz0123456789").cps.toList.length
 rw[e36]
 omega
theorem nk (n:Nat)(ns:List Int){k:Int}(h0:0<=k)(h1:k<=1900){st:Str}(hs:st.length<=100)(hx:Sx st):∃ x:Str,ae T (n+2) 30 [.lst false (ns.map .int),.int k,.str st]=.ok (.str x)/\x.length<=8/\Sx x:=by
 have d1:=aH n ns k 9 h0 (by omega) (by decide)
 have b1:=bZ ns k (m:=9) (by decide)
 have c1:=cA ns k (m:=9) (by decide)
 have d2:=aH n ns (k+1) 3 (by omega) (by omega) (by decide)
 have d3:=aH n ns (k+2) 36 (by omega) (by omega) (by decide)
 have b3:=bZ ns (k+2) (m:=36) (by decide)
 have c3:=cA ns (k+2) (m:=36) (by decide)
 obtain⟨y,hy,ly,xy⟩:=DN b3 c3
 have l1:=cN st b1
 have l2:=sY (Txt.slice st none (some (dr ns k 9)))
 have x1:=hx.slice none (some (dr ns k 9))
 have x2:=x1.slice none (some (-1))
 obtain⟨a,ha⟩:∃ a,Txt.slice st none (some (dr ns k 9))=a:=⟨_,rfl⟩
 rw[ha] at l1 l2 x1 x2
 obtain⟨b,hb⟩:∃ b,Txt.slice a none (some (-1))=b:=⟨_,rfl⟩
 rw[hb] at l2 x2
 have ab:=cz b y
 cases q1:(a == Str.ofString "") with
 | true=>
  refine⟨a,?_,by omega,x1⟩
  rw[Ev.go (show T 30=some IL from rfl) (show IL.np=3 from rfl) (show IL.G.N.length=4 from rfl) (show IL.body=L6 from rfl) rfl];unfold L6
  simp -implicitDefEqProofs (disch:=omega) only[E1,Nat.reduceBEq,Nat.reduceSub,Nat.reduceAdd,reduceIte,d1,q1,ha]
 | false=>
  have a0:=str0 q1
  cases q2:(dr ns (k+1) 3 == 0) with
  | true=>
   refine⟨b++y,?_,by omega,x2.app xy⟩
   rw[Ev.go (show T 30=some IL from rfl) (show IL.np=3 from rfl) (show IL.G.N.length=4 from rfl) (show IL.body=L6 from rfl) rfl];unfold L6
   simp -implicitDefEqProofs (disch:=omega) only[E1,Nat.reduceBEq,Nat.reduceSub,Nat.reduceAdd,reduceIte,d1,d2,d3,q1,q2,hy,ha,hb]
  | false=>
   refine⟨a,?_,by omega,x1⟩
   rw[Ev.go (show T 30=some IL from rfl) (show IL.np=3 from rfl) (show IL.G.N.length=4 from rfl) (show IL.body=L6 from rfl) rfl];unfold L6
   simp -implicitDefEqProofs (disch:=omega) only[E1,Nat.reduceBEq,Nat.reduceSub,Nat.reduceAdd,reduceIte,d1,d2,q1,q2,ha]
theorem iC (n:Nat)(ns:List Int){k:Int}(h0:0<=k)(h1:k<=1900){c:Int}(hc:Cb c):∃ x:Int,ae T (n+2) 32 [.lst false (ns.map .int),.int k,.int c]=.ok (.int x)/\-999999999<=x/\x<=999999999:=by
 have d1:=aH n ns k 8 h0 (by omega) (by decide)
 have b1:=bZ ns k (m:=8) (by decide)
 have c1:=cA ns k (m:=8) (by decide)
 obtain⟨RW,Wo⟩:=hc
 generalize dr ns k 8=r at *
 by_cases h:r < 5
 ·have hd:decide (r < 5)=true:=decide_eq_true h
  refine⟨c+r - 2,?_,by omega,by omega⟩
  rw[Ev.go (show T 32=some JU from rfl) (show JU.np=3 from rfl) (show JU.G.N.length=4 from rfl) (show JU.body=N0 from rfl) rfl];unfold N0
  simp -implicitDefEqProofs (disch:=omega) only[E1,Nat.reduceBEq,Nat.reduceSub,Nat.reduceAdd,reduceIte,d1,hd]
 ·have hd:decide (r < 5)=false:=decide_eq_false h
  have hx:bt (.lst true [.int 999999999,.int (0 - 999999999),.int 0]) (.int (r - 5))=.ok (.int ([999999999,0 - 999999999,0].getD (r - 5).toNat 0)):=Ev.OY (o:=true) (xs:=[999999999,0 - 999999999,0]) (by omega) (by show r - 5 < 3;omega)
  have hv : -999999999<=([999999999,0 - 999999999,0]:List Int).getD (r - 5).toNat 0/\([999999999,0 - 999999999,0]:List Int).getD (r - 5).toNat 0<=999999999:=by
   have:r=5∨r=6∨r=7:=by omega
   rcases this with rfl|rfl|rfl<;>decide
  refine⟨([999999999,0 - 999999999,0]:List Int).getD (r - 5).toNat 0,?_,hv.1,hv.2⟩
  rw[Ev.go (show T 32=some JU from rfl) (show JU.np=3 from rfl) (show JU.G.N.length=4 from rfl) (show JU.body=N0 from rfl) rfl];unfold N0
  simp -implicitDefEqProofs (disch:=omega) only[E1,Nat.reduceBEq,Nat.reduceSub,Nat.reduceAdd,reduceIte,d1,hd,hx]
theorem sZ (n:Nat)(ns:List Int){k:Int}(h0:0<=k)(h1:k<=1800){st:Str}(hs:st.length<=100)(JZ:Sx st)(c:Int)(hc:Cb c):∃ t:Tn,ae T (n+3) 33 [.lst false (ns.map .int),.int k,.str st,.int c]=.ok t.d/\Tg t:=by
 have d1:=aH (n+1) ns k 2 h0 (by omega) (by decide)
 obtain⟨x,ex,gx⟩:=iC n ns (k:=k+1) (by omega) (by omega) hc
 obtain⟨y,ey,gy⟩:=nk n ns (k:=k+2) (by omega) (by omega) hs JZ
 cases q:(dr ns k 2 == 0) with
 | true=>
  refine⟨.i x,?_,gx⟩
  unfold Tn.d
  rw[Ev.go (show T 33=some JV from rfl) (show JV.np=4 from rfl) (show JV.G.N.length=4 from rfl) (show JV.body=N1 from rfl) rfl];unfold N1
  simp -implicitDefEqProofs (disch:=omega) only[E1,Nat.reduceBEq,Nat.reduceSub,Nat.reduceAdd,reduceIte,d1,q,ex]
 | false=>
  refine⟨.s y,?_,gy⟩
  unfold Tn.d
  rw[Ev.go (show T 33=some JV from rfl) (show JV.np=4 from rfl) (show JV.G.N.length=4 from rfl) (show JV.body=N1 from rfl) rfl];unfold N1
  simp -implicitDefEqProofs (disch:=omega) only[E1,Nat.reduceBEq,Nat.reduceSub,Nat.reduceAdd,reduceIte,d1,q,ey]
theorem AF (t:Tn):er t.d=t.d:=by cases t<;>rfl
theorem AG (t:Tn):ao t.d=true:=by cases t<;>rfl
noncomputable def tM:List IS:=[(.asg (.nm 8) (.call 33 [(.v 0),(.bin .add (.bin .add (.v 1) (.c (.int 2))) (.bin .mul (.c (.int 5)) (.v 7))),(.v 2),(.v 3)])),(.Fg (.cmp .eq (.v 4) (.c (.str "begins"))) [(.asg (.nm 8) (.call 30 [(.v 0),(.bin .add (.bin .add (.v 1) (.c (.int 2))) (.bin .mul (.c (.int 5)) (.v 7))),(.v 2)])),(.Fg (.cmp .eq (.v 8) (.c (.str ""))) [(.asg (.nm 8) (.sl (.v 2) none (some (.c (.int 1)))))] [])] []),(.app 6 (.v 8))]
theorem AH (n:Nat)(ns:List Int){k:Int}(h0:0<=k)(h1:k<=1500){st:Str}(hs:st.length<=100)(hx:Sx st)(c:Int)(hc:Cb c)(w:Str)(rm:Int)(ts:List Tn)(j:Int)(j0:0<=j)(j1:j<=20)(lt:ts.length<=100)(x7 x8:Option D) :
  ∃ (t:Tn) (y8:Option D),Ev.turn (ae T (n+3)) (.nm 7) tM (.int j) [some (.lst false (ns.map .int)),some (.int k),some (.str st),some (.int c),some (.str w),some (.int rm),some (.lst true (ts.map Tn.d)),x7,x8]=.ok (.nx [some (.lst false (ns.map .int)),some (.int k),some (.str st),some (.int c),some (.str w),some (.int rm),some (.lst true ((ts++[t]).map Tn.d)),some (.int j),y8])/\(w=Str.ofString "begins"->∃ x,t=.s x)/\Tg t:=by
 obtain⟨t,et,gt⟩:=sZ n ns (k:=k+2+5*j) (by omega) (by omega) hs hx c hc
 obtain⟨x,ex,gx⟩:=nk (n+1) ns (k:=k+2+5*j) (by omega) (by omega) hs hx
 have l1:(ts.map Tn.d).length=ts.length:=List.length_map ..
 have te:=AF t
 have tl:=AG t
 cases q:(w == Str.ofString "begins") with
 | false=>
  refine⟨t,some t.d,?_,fun z=>?_,gt⟩
  ·unfold tM
   rw[List.map_append,List.map_cons,List.map_nil]
   simp -implicitDefEqProofs (disch:=omega) only[E1,Nat.reduceBEq,Nat.reduceSub,Nat.reduceAdd,reduceIte,Ev.ag,et,te,tl,q,l1]
  ·rw[z] at q
   simp at q
 | true=>
  cases q2:(x == Str.ofString "") with
  | false=>
   refine⟨.s x,some (.str x),?_,fun _=>⟨x,rfl⟩,gx⟩
   unfold tM
   rw[List.map_append,List.map_cons,List.map_nil]
   show _=Except.ok (Fl.nx [_,_,_,_,_,_,some (.lst true (ts.map Tn.d++[.str x])),_,_])
   simp -implicitDefEqProofs (disch:=omega) only[E1,Nat.reduceBEq,Nat.reduceSub,Nat.reduceAdd,reduceIte,Ev.ag,et,te,tl,ex,q,q2,l1]
  | true=>
   refine⟨.s (Txt.slice st none (some 1)),some (.str (Txt.slice st none (some 1))),?_,fun _=>⟨_,rfl⟩,⟨Nat.le_trans (cN st (show (0:Int)<=1 by decide)) (by decide),hx.slice _ _⟩⟩
   unfold tM
   rw[List.map_append,List.map_cons,List.map_nil]
   show _=Except.ok (Fl.nx [_,_,_,_,_,_,some (.lst true (ts.map Tn.d++[.str (Txt.slice st none (some 1))])),_,_])
   simp -implicitDefEqProofs (disch:=omega) only[E1,Nat.reduceBEq,Nat.reduceSub,Nat.reduceAdd,reduceIte,Ev.ag,et,te,tl,ex,q,q2,l1]
theorem vE (n:Nat)(ns:List Int){k:Int}(h0:0<=k)(h1:k<=1500){st:Str}(hs:st.length<=100)(hx:Sx st)(c:Int)(hc:Cb c)(w:Str)(rm:Int)(r0:0 < rm)(r1:rm<=4) :
  ∃ ts:List Tn,ae T (n+4) 34 [.lst false (ns.map .int),.int k,.str st,.int c,.str w,.int rm]=.ok (.lst true (ts.map Tn.d))/\(ts.length:Int)<=rm/\(w=Str.ofString "begins"->∀ t∈ts,∃ x,t=.s x)/\
   (w=Str.ofString "least"∨w=Str.ofString "most"->∀ t∈ts,∃ x,t=.i x)/\(w=Str.ofString "has"∨w=Str.ofString "lacks"->ts=[])/\∀ t∈ts,Tg t:=by
 obtain⟨x,ex,gx⟩:=iC (n+1) ns (k:=k+1) (by omega) (by omega) hc
 have key:∀ b:Bool,(w == Str.ofString "least"||w == Str.ofString "most")=b->∀ b':Bool,(w == Str.ofString "has"||w == Str.ofString "lacks")=b'->
   ∃ ts:List Tn,ae T (n+4) 34 [.lst false (ns.map .int),.int k,.str st,.int c,.str w,.int rm]=.ok (.lst true (ts.map Tn.d))/\(ts.length:Int)<=rm/\(b=false->w=Str.ofString "begins"->∀ t∈ts,∃ x,t=.s x)/\(b=true->∀ t∈ts,∃ x,t=.i x)/\(b=false->b'=true->ts=[])/\∀ t∈ts,Tg t:=by
  intro b hb b' Iy
  cases b with
  | true=>
   refine⟨[.i x],?_,by show (1:Int)<=rm;omega,fun z=>(by cases z),fun _ t ht=>?_,fun z=>(by cases z),fun t ht=>?_⟩
   ·rw[List.map_cons,List.map_nil]
    show _=Except.ok (D.lst true [.int x])
    rw[Ev.go (show T 34=some IM from rfl) (show IM.np=6 from rfl) (show IM.G.N.length=9 from rfl) (show IM.body=L7 from rfl) rfl];unfold L7
    cases q1:(w == Str.ofString "least") with
    | true=>simp -implicitDefEqProofs (disch:=omega) only[E1,Nat.reduceBEq,Nat.reduceSub,Nat.reduceAdd,reduceIte,q1,ex]
    | false=>
     rw[q1,Bool.false_or] at hb
     simp -implicitDefEqProofs (disch:=omega) only[E1,Nat.reduceBEq,Nat.reduceSub,Nat.reduceAdd,reduceIte,q1,hb,ex]
   ·exact⟨x,List.mem_singleton.mp ht⟩
   ·rw[List.mem_singleton.mp ht];exact gx
  | false=>
   have S6:=Bool.or_eq_false_iff.mp hb
   have q1:=S6.1
   have q2:=S6.2
   cases b' with
   | true=>
    refine⟨[],?_,by show (0:Int)<=rm;omega,fun _ _ t ht=>(by simp at ht),fun z=>(by cases z),fun _ _=>rfl,fun t ht=>(by simp at ht)⟩
    rw[List.map_nil]
    rw[Ev.go (show T 34=some IM from rfl) (show IM.np=6 from rfl) (show IM.G.N.length=9 from rfl) (show IM.body=L7 from rfl) rfl];unfold L7
    cases q3:(w == Str.ofString "has") with
    | true=>simp -implicitDefEqProofs (disch:=omega) only[E1,Nat.reduceBEq,Nat.reduceSub,Nat.reduceAdd,reduceIte,q1,q2,q3]
    | false=>
     rw[q3,Bool.false_or] at Iy
     simp -implicitDefEqProofs (disch:=omega) only[E1,Nat.reduceBEq,Nat.reduceSub,Nat.reduceAdd,reduceIte,q1,q2,q3,Iy]
   | false=>
    have S7:=Bool.or_eq_false_iff.mp Iy
    have q3:=S7.1
    have q4:=S7.2
    have d1:=aH (n+2) ns k rm h0 (by omega) r0
    have c0:=bZ ns k r0
    have c1:=cA ns k r0
    generalize dr ns k rm=r at *
    obtain⟨EW,e,ts,y7,y8,rfl,hl,VS,VT⟩:=Ev.i9 (its:=bA 0 (1+r)) (τ:=[some (.lst false (ns.map .int)),some (.int k),some (.str st),some (.int c),some (.str w),some (.int rm),some (.lst true []),none,none]) (body:=Ev.turn (ae T (n+3)) (.nm 7) tM)
     (fun i τ=>∃ (ts:List Tn) (x7 x8:Option D),τ=[some (.lst false (ns.map .int)),some (.int k),some (.str st),some (.int c),some (.str w),some (.int rm),some (.lst true (ts.map Tn.d)),x7,x8]/\ts.length=i/\(w=Str.ofString "begins"->∀ t∈ts,∃ x,t=.s x)/\∀ t∈ts,Tg t)
     ⟨[],none,none,rfl,rfl,fun _ t ht=>by simp at ht,fun t ht=>by simp at ht⟩ (by
      rintro i x τ O7 ⟨ts,x7,x8,rfl,hl,Mc,VU⟩
      have hi:i < (1+r).toNat:=by
       have:=(List.getElem?_eq_some_iff.mp O7).1
       rw[bo] at this
       omega
      unfold bA at O7
      rw[List.getElem?_map,List.getElem?_range (by omega)] at O7
      have FT:D.int (0+(i:Nat))=x:=Option.some.inj O7
      subst FT
      obtain⟨t,y8,e,ht,hg⟩:=AH n ns h0 h1 hs hx c hc w rm ts (0+(i:Int)) (by omega) (by omega) (by omega) x7 x8
      refine⟨_,e,ts++[t],_,_,rfl,by rw[List.length_append,hl];rfl,fun z u hu=>?_,fun u hu=>?_⟩
      ·rcases List.mem_append.mp hu with hu|hu
       ·exact Mc z u hu
       ·rw[List.mem_singleton.mp hu];exact ht z
      ·rcases List.mem_append.mp hu with hu|hu
       ·exact VU u hu
       ·rw[List.mem_singleton.mp hu];exact hg)
    refine⟨ts,?_,?_,fun _=>VS,fun z=>(by cases z),fun _ z=>(by cases z),VT⟩
    ·rw[Ev.go (show T 34=some IM from rfl) (show IM.np=6 from rfl) (show IM.G.N.length=9 from rfl) (show IM.body=L7 from rfl) rfl];unfold L7
     unfold tM at e
     simp -implicitDefEqProofs (disch:=omega) only[E1,Nat.reduceBEq,Nat.reduceSub,Nat.reduceAdd,reduceIte,q1,q2,q3,q4,d1,e]
    ·rw[bo] at hl
     omega
 obtain⟨ts,e,hl,k1,k2,k3,k4⟩:=key _ rfl _ rfl
 have nb:w=Str.ofString "begins"->(w == Str.ofString "least"||w == Str.ofString "most")=false:=fun z=>by rw[z];decide +kernel
 have nh:(w=Str.ofString "has"∨w=Str.ofString "lacks")->(w == Str.ofString "least"||w == Str.ofString "most")=false/\(w == Str.ofString "has"||w == Str.ofString "lacks")=true:=fun z=>by rcases z with rfl|rfl<;>exact⟨by decide +kernel,by decide +kernel⟩
 have nl:(w=Str.ofString "least"∨w=Str.ofString "most")->(w == Str.ofString "least"||w == Str.ofString "most")=true:=fun z=>by rcases z with rfl|rfl<;>decide +kernel
 exact⟨ts,e,hl,fun z=>k1 (nb z) z,fun z=>k2 (nl z),fun z=>k3 (nh z).1 (nh z).2,k4⟩
noncomputable def Cn.t (c:Cn):D:=.tup [.str c.m,.str c.w,.lst true (c.ts.map Tn.d)]
theorem kq (c:Cn):er c.t=c.d:=by
 unfold Cn.t Cn.d
 show D.tup [.str c.m,.str c.w,.lst false (E0 (c.ts.map Tn.d))]=_
 rw[m8]
theorem lM (cs:List Cn):E0 (cs.map Cn.t)=cs.map Cn.d:=by
 rw[aF,List.map_map]
 exact List.map_congr_left fun c _=>kq c
structure Gc (c:Cn):Prop where
 io:io c=false
 be:c.w=Str.ofString "begins"->∀ t∈c.ts,∃ x,t=.s x
 le:c.w=Str.ofString "least"->∀ t∈c.ts,∃ x,t=.i x
 mo:c.w=Str.ofString "most"->∀ t∈c.ts,∃ x,t=.i x
 wk:c.ts=[]∨Wk c.w
 tg:∀ t∈c.ts,Tg t
noncomputable def w9:List Str:=[Str.ofString "is",Str.ofString "not",Str.ofString "begins",Str.ofString "least",Str.ofString "most",Str.ofString "has",Str.ofString "lacks",Str.ofString "is",Str.ofString "begins"]
theorem AI {k:Nat}(h:k < 9):(Wk (w9.getD k ⟨#[]⟩)∨w9.getD k ⟨#[]⟩=Str.ofString "has"∨w9.getD k ⟨#[]⟩=Str.ofString "lacks")/\((Str.ofString "in" == w9.getD k ⟨#[]⟩)||(Str.ofString "out" == w9.getD k ⟨#[]⟩))=false:=by
 match k,h with
 | 0,_=>exact⟨.inl .is,by decide +kernel⟩
 | 1,_=>exact⟨.inl .not,by decide +kernel⟩
 | 2,_=>exact⟨.inl .be,by decide +kernel⟩
 | 3,_=>exact⟨.inl .le,by decide +kernel⟩
 | 4,_=>exact⟨.inl .mo,by decide +kernel⟩
 | 5,_=>exact⟨.inr (.inl rfl),by decide +kernel⟩
 | 6,_=>exact⟨.inr (.inr rfl),by decide +kernel⟩
 | 7,_=>exact⟨.inl .is,by decide +kernel⟩
 | 8,_=>exact⟨.inl .be,by decide +kernel⟩
noncomputable def tQ:List IS:=[(.asg (.nm 10) (.idx (.v 7) (.call 27 [(.v 0),(.bin .add (.v 1) (.bin .mul (.c (.int 60)) (.v 9))),(.c (.int 9))]))),(.asg (.nm 11) (.idx (.v 2) (.call 27 [(.v 0),(.bin .add (.bin .add (.v 1) (.c (.int 1))) (.bin .mul (.c (.int 60)) (.v 9))),(.bi .len [(.v 2)])]))),(.app 8 (.tup [(.v 11),(.v 10),(.call 34 [(.v 0),(.bin .add (.bin .add (.v 1) (.c (.int 2))) (.bin .mul (.c (.int 60)) (.v 9))),(.v 3),(.v 4),(.v 10),(.v 6)])]))]
noncomputable def qS (ns:List Int)(k:Int)(ms:List Str)(st:Str)(c ct rm:Int)(cs:List Cn)(x9 Md Me:Option D):Ev:=[some (.lst false (ns.map .int)),some (.int k),some (.lst false (ms.map .str)),some (.str st),some (.int c),some (.int ct),some (.int rm),some (.lst true (w9.map .str)),some (.lst true (cs.map Cn.t)),x9,Md,Me]
theorem AJ (n:Nat)(ns:List Int){k:Int}(h0:0<=k)(h1:k<=600){ms:List Str}(m0:0 < ms.length)(m1:ms.length<=10){st:Str}(hs:st.length<=100)(JZ:Sx st)(c ct rm:Int)(hc:Cb c)(r0:0 < rm)(r1:rm<=4)(cs:List Cn)(j:Int)(j0:0<=j)(j1:j<=10)(lt:cs.length<=100)(x9 Md Me:Option D) :
  ∃ (d:Cn) (QW QX:Option D),Ev.turn (ae T (n+4)) (.nm 9) tQ (.int j) (qS ns k ms st c ct rm cs x9 Md Me)=.ok (.nx (qS ns k ms st c ct rm (cs++[d]) (some (.int j)) QW QX))/\Gc d/\(d.ts.length:Int)<=rm:=by
 have d1:=aH (n+3) ns (k+60*j) 9 (by omega) (by omega) (by decide)
 have b1:=bZ ns (k+60*j) (m:=9) (by decide)
 have c1:=cA ns (k+60*j) (m:=9) (by decide)
 have d2:=aH (n+3) ns (k+1+60*j) (ms.length:Int) (by omega) (by omega) (by omega)
 have b2:=bZ ns (k+1+60*j) (m:=(ms.length:Int)) (by omega)
 have c2:=cA ns (k+1+60*j) (m:=(ms.length:Int)) (by omega)
 have hx:bt (.lst true (w9.map .str)) (.int (dr ns (k+60*j) 9))=.ok (.str (w9.getD (dr ns (k+60*j) 9).toNat ⟨#[]⟩)):=Ev.vp b1 (by show dr ns (k+60*j) 9 < 9;exact c1)
 have hm:bt (.lst false (ms.map .str)) (.int (dr ns (k+1+60*j) (ms.length:Int)))=.ok (.str (ms.getD (dr ns (k+1+60*j) (ms.length:Int)).toNat ⟨#[]⟩)):=Ev.vp b2 c2
 obtain⟨hw,VV⟩:=AI (k:=(dr ns (k+60*j) 9).toNat) (by omega)
 generalize w9.getD (dr ns (k+60*j) 9).toNat ⟨#[]⟩=w at *
 generalize ms.getD (dr ns (k+1+60*j) (ms.length:Int)).toNat ⟨#[]⟩=m at *
 obtain⟨ts,et,tl,p1,p2,p3,p4⟩:=vE n ns (k:=k+2+60*j) (by omega) (by omega) hs JZ c hc w rm r0 r1
 have lm:(ms.map D.str).length=ms.length:=List.length_map ..
 have lc:(cs.map Cn.t).length=cs.length:=List.length_map ..
 refine⟨⟨m,w,ts⟩,some (.str w),some (.str m),?_,⟨VV,p1,fun z=>p2 (.inl z),fun z=>p2 (.inr z),?_,p4⟩,tl⟩
 ·unfold qS
  rw[List.map_append,List.map_cons,List.map_nil]
  show _=Except.ok (Fl.nx [_,_,_,_,_,_,_,_,some (.lst true (cs.map Cn.t++[.tup [.str m,.str w,.lst true (ts.map Tn.d)]])),_,_,_])
  generalize w9.map D.str=W at hx ⊢
  unfold tQ
  simp -implicitDefEqProofs (disch:=omega) only[E1,Nat.reduceBEq,Nat.reduceSub,Nat.reduceAdd,reduceIte,Ev.ag,d1,d2,hx,hm,et,lm,lc]
 ·rcases hw with z|z|z
  ·exact .inr z
  ·exact .inl (p3 (.inl z))
  ·exact .inl (p3 (.inr z))
theorem kr (n:Nat)(ns:List Int){k:Int}(h0:0<=k)(h1:k<=600){ms:List Str}(m0:0 < ms.length)(m1:ms.length<=10){st:Str}(hs:st.length<=100)(JZ:Sx st)(c ct rm:Int)(hc:Cb c)(t0:0<=ct)(t1:ct<=10)(r0:0 < rm)(r1:rm<=4) :
  ∃ cs:List Cn,ae T (n+5) 35 [.lst false (ns.map .int),.int k,.lst false (ms.map .str),.str st,.int c,.int ct,.int rm]=.ok (.lst true (cs.map Cn.t))/\cs.length=ct.toNat/\∀ d∈cs,Gc d/\(d.ts.length:Int)<=rm:=by
 obtain⟨EW,e,cs,y9,QW,QX,rfl,hl,hx⟩:=Ev.i9 (its:=bA 0 ct) (τ:=qS ns k ms st c ct rm [] none none none) (body:=Ev.turn (ae T (n+4)) (.nm 9) tQ)
  (fun i τ=>∃ (cs:List Cn) (x9 Md Me:Option D),τ=qS ns k ms st c ct rm cs x9 Md Me/\cs.length=i/\∀ d∈cs,Gc d/\(d.ts.length:Int)<=rm)
  ⟨[],none,none,none,rfl,rfl,fun t ht=>by simp at ht⟩ (by
   rintro i x τ hx ⟨cs,x9,Md,Me,rfl,hl,Mc⟩
   have hi:i < ct.toNat:=by
    have:=(List.getElem?_eq_some_iff.mp hx).1
    rw[bo] at this
    omega
   unfold bA at hx
   rw[List.getElem?_map,List.getElem?_range (by omega)] at hx
   have FT:D.int (0+(i:Nat))=x:=Option.some.inj hx
   subst FT
   obtain⟨d,QW,QX,e,g1,g2⟩:=AJ n ns h0 h1 m0 m1 hs JZ c ct rm hc r0 r1 cs (0+(i:Int)) (by omega) (by omega) (by omega) x9 Md Me
   refine⟨_,e,cs++[d],_,_,_,rfl,by rw[List.length_append,hl];rfl,fun u hu=>?_⟩
   rcases List.mem_append.mp hu with hu|hu
   ·exact Mc u hu
   ·rw[List.mem_singleton.mp hu];exact⟨g1,g2⟩)
 refine⟨cs,?_,by rw[hl,bo];omega,hx⟩
 unfold qS w9 at e
 rw[List.map_nil,List.map_cons,List.map_cons,List.map_cons,List.map_cons,List.map_cons,List.map_cons,List.map_cons,List.map_cons,List.map_cons,List.map_nil] at e
 rw[Ev.go (show T 35=some MN from rfl) (show MN.np=7 from rfl) (show MN.G.N.length=12 from rfl) (show MN.body=QJ from rfl) rfl];unfold QJ
 unfold tQ at e
 simp -implicitDefEqProofs (disch:=omega) only[E1,Nat.reduceBEq,Nat.reduceSub,Nat.reduceAdd,reduceIte,e]
noncomputable def one (c:Nat):Str:=⟨#[c]⟩
noncomputable def Ku (cs:List Nat):Str:=⟨cs.toArray⟩
theorem nq (cs:List Nat):(Ku cs).length=cs.length:=by unfold Ku Str.length;simp
theorem cO (c:Nat):(one c).length=1:=rfl
theorem iD:∀ (cs:List Nat) (acc:Array Nat),(cs.map one).foldl (fun acc p=>acc++(Str.ofString "").cps++p.cps) acc=acc++cs.toArray
 | [],acc=>by simp
 | c::cs,acc=>by
  have e:(Str.ofString "").cps = #[]:=by decide +kernel
  rw[List.map_cons,List.foldl_cons,iD cs,e]
  show acc++#[]++#[c]++cs.toArray=_
  simp
theorem join_one (cs:List Nat):Txt.join "" (cs.map one)=Ku cs:=by
 show (⟨((cs.map one).drop 1).foldl (fun acc p=>acc++(Str.ofString "").cps++p.cps) ((cs.map one).headD Str.empty).cps⟩:Str)=_
 cases cs with
 | nil=>rfl
 | cons c cs=>
  rw[List.map_cons,List.drop_succ_cons,List.drop_zero,List.headD_cons,iD]
  unfold Ku one
  simp
theorem vF (cs:List Nat):((cs.map one).map (fun y:Str=>y.length)).sum=cs.length:=by
 induction cs with
 | nil=>rfl
 | cons c cs ih=>
  rw[List.map_cons,List.map_cons,List.sum_cons,ih,List.length_cons,cO]
  omega
theorem nr {o:Bool}{cs:List Nat}(h:cs.length<=1000):fS .join (.str "") [.lst o ((cs.map one).map .str)]=.ok (.str (Ku cs)):=by
 have e:(Str.ofString "").length=0:=by decide +kernel
 rw[Ev.vn (by rw[vF,List.length_map,e];omega),join_one]
theorem oE (n:Nat)(ns:List Int){k:Int}(h0:0<=k)(h1:k<=1900):∃ c:Int,ae T (n+2) 31 [.lst false (ns.map .int),.int k]=.ok (.int c)/\Cb c:=by
 have d1:=aH n ns k 20000 h0 (by omega) (by decide)
 have d2:=aH n ns (k+1) 100000 (by omega) (by omega) (by decide)
 have b1:=bZ ns k (m:=20000) (by decide)
 have c1:=cA ns k (m:=20000) (by decide)
 have hp:GW .pow (.int 10) (.int 9)=.ok (.int 1000000000):=by kernel_rfl
 generalize dr ns k 20000=a at *
 generalize dr ns (k+1) 100000=b at *
 refine⟨if 999999990 < (if 0 - 999999990 > a*100000+b - 1000000000 then 0 - 999999990 else a*100000+b - 1000000000) then 999999990 else (if 0 - 999999990 > a*100000+b - 1000000000 then 0 - 999999990 else a*100000+b - 1000000000),?_,by unfold Cb;split<;>split<;>omega⟩
 rw[Ev.go (show T 31=some MM from rfl) (show MM.np=2 from rfl) (show MM.G.N.length=3 from rfl) (show MM.body=QI from rfl) rfl];unfold QI
 simp -implicitDefEqProofs (disch:=omega) only[E1,Nat.reduceBEq,Nat.reduceSub,Nat.reduceAdd,reduceIte,d1,d2,hp]
theorem ku {P:Nat->Prop}{g:D->Res (Option D)}:∀ (its:List D),(∀ x∈its,∃ y:Nat,g x=.ok (some (.str (one y)))/\P y)->∃ ys:List Nat,ax g its=.ok ((ys.map one).map .str)/\ys.length=its.length/\∀ y∈ys,P y
 | [],_=>⟨[],rfl,rfl,fun y hy=>by simp at hy⟩
 | x::its,h=>by
  obtain⟨y,hy,py⟩:=h x (by simp)
  obtain⟨ys,e,hl,hp⟩:=ku its fun z hz=>h z (List.mem_cons_of_mem _ hz)
  exact⟨y::ys,bz hy e,by rw[List.length_cons,List.length_cons,hl],fun u hu=>by
   rcases List.mem_cons.mp hu with rfl|hu
   ·exact py
   ·exact hp u hu⟩
theorem eP {g:D->Res (Option D)}:∀ (its:List D),(∀ x∈its,∃ y:Str,g x=.ok (some (.str y)))->∃ ys:List Str,ax g its=.ok (ys.map .str)/\ys.length=its.length
 | [],_=>⟨[],rfl,rfl⟩
 | x::its,h=>by
  obtain⟨y,hy⟩:=h x (by simp)
  obtain⟨ys,e,hl⟩:=eP its fun z hz=>h z (List.mem_cons_of_mem _ hz)
  exact⟨y::ys,bz hy e,by rw[List.length_cons,List.length_cons,hl]⟩
theorem ji {a:Int}{x:D}(h:x∈bA 0 a):∃ j:Int,x=.int j/\0<=j/\j < a:=by
 unfold bA at h
 obtain⟨k,hk,rfl⟩:=List.mem_map.mp h
 rw[List.mem_range] at hk
 exact⟨0+(k:Int),rfl,by omega,by omega⟩
theorem nt (n:Nat)(ns:List Int){k:Int}(h0:0<=k)(h1:k<=1900){z:Str}(z0:0 < z.length)(z1:z.length<=100)(zx:Sx z) :
  ∃ ys:List Nat,ax (aC (ae T (n+1)) (.nm 3) [] (.idx (.v 0) (.call 27 [(.v 1),(.bin .add (.bin .add (.v 2) (.c (.int 2))) (.v 3)),(.bi .len [(.v 0)])])) [some (.str z),some (.lst false (ns.map .int)),some (.int k),none]) (bA 0 12)=.ok ((ys.map one).map .str)/\ys.length=12/\∀ y∈ys,y∈sg.cps.toList:=by
 obtain⟨ys,e,hl,hp⟩:=ku (P:=fun y=>y∈sg.cps.toList) (g:=aC (ae T (n+1)) (.nm 3) [] (.idx (.v 0) (.call 27 [(.v 1),(.bin .add (.bin .add (.v 2) (.c (.int 2))) (.v 3)),(.bi .len [(.v 0)])])) [some (.str z),some (.lst false (ns.map .int)),some (.int k),none]) (bA 0 12) (by
  intro x hx
  obtain⟨j,rfl,j0,j1⟩:=ji hx
  have d:=aH n ns (k+2+j) (z.length:Int) (by omega) (by omega) (by omega)
  have b:=bZ ns (k+2+j) (m:=(z.length:Int)) (by omega)
  have c:=cA ns (k+2+j) (m:=(z.length:Int)) (by omega)
  have hy:=Ev.NV (z:=z) b c (by omega)
  refine⟨z.cps.toList.getD (dr ns (k+2+j) (z.length:Int)).toNat 0,?_,zx _ (getD_mem _ (by have:z.cps.toList.length=z.length:=(by simp[Str.length]);omega))⟩
  unfold one
  simp -implicitDefEqProofs (disch:=omega) only[E1,Nat.reduceBEq,Nat.reduceSub,Nat.reduceAdd,reduceIte,Ev.ag,d,hy])
 exact⟨ys,e,hl.trans (by rw[bo];rfl),hp⟩
theorem AK:∀ d:Fin 34,0 < (Txt.slice (Txt.slice sg (some ((d:Nat):Int)) none) none (some 2)).length:=by decide +kernel
theorem fw:sg.length=36:=eO
theorem vG (n:Nat)(ns:List Int){k:Int}(h0:0<=k)(h1:k<=1800):∃ x:Str,ae T (n+2) 29 [.lst false (ns.map .int),.int k]=.ok (.str x)/\x.length<=100/\Sx x:=by
 have d1:=aH n ns k 2 h0 (by omega) (by decide)
 have d2:=aH n ns (k+1) 34 (by omega) (by omega) (by decide)
 have b2:=bZ ns (k+1) (m:=34) (by decide)
 have c2:=cA ns (k+1) (m:=34) (by decide)
 have lr:(bA 0 12).length=12:=by rw[bo];rfl
 cases q:(dr ns k 2 == 0) with
 | false=>
  obtain⟨ys,e,hl,hp⟩:=nt n ns h0 (by omega) (z:=sg) (by rw[fw];decide) (by rw[fw];decide) (fun c hc=>hc)
  have je:=nr (o:=true) (cs:=ys) (by omega)
  refine⟨Ku ys,?_,by rw[nq];omega,fun c hc=>hp c (by simpa[Ku] using hc)⟩
  unfold sg at e
  rw[Ev.go (show T 29=some JT from rfl) (show JT.np=2 from rfl) (show JT.G.N.length=4 from rfl) (show JT.body=NZ from rfl) rfl];unfold NZ
  simp -implicitDefEqProofs (disch:=omega) only[E1,Nat.reduceBEq,Nat.reduceSub,Nat.reduceAdd,reduceIte,d1,q,e,je,lr]
 | true=>
  obtain⟨j,hj⟩:=Int.eq_ofNat_of_zero_le b2
  have hz:=AK ⟨j,by omega⟩
  have l1:=cG sg (some ((j:Nat):Int)) none
  have l2:=cG (Txt.slice sg (some ((j:Nat):Int)) none) none (some 2)
  rw[fw] at l1
  have P':0 < (Txt.slice (Txt.slice sg (some ((j:Nat):Int)) none) none (some 2)).length:=hz
  obtain⟨ys,e,hl,hp⟩:=nt n ns h0 (by omega) (z:=Txt.slice (Txt.slice sg (some ((j:Nat):Int)) none) none (some 2)) P' (by omega) ((Sx.slice (x:=sg) (fun c hc=>hc) _ _).slice _ _)
  have je:=nr (o:=true) (cs:=ys) (by omega)
  refine⟨Ku ys,?_,by rw[nq];omega,fun c hc=>hp c (by simpa[Ku] using hc)⟩
  rw[hj] at d2
  have sl:=fw
  unfold sg at e l1 l2 sl
  rw[Ev.go (show T 29=some JT from rfl) (show JT.np=2 from rfl) (show JT.G.N.length=4 from rfl) (show JT.body=NZ from rfl) rfl];unfold NZ
  simp -implicitDefEqProofs (disch:=omega) only[E1,Nat.reduceBEq,Nat.reduceSub,Nat.reduceAdd,reduceIte,d1,d2,q,e,je,sl,lr]
theorem tf {i:Int}(h0:0<=i)(h1:i < 26):∃ y:Str,bt (.str "abcdefghijklmnopqrstuvwxyz") (.int i)=.ok (.str y)/\y.length=1:=AE h0 (by rw[sW];exact h1) (by rw[sW];decide)
noncomputable def tN:List IS:=[(.asg (.nm 5) (.bin .add (.v 5) (.idx (.v 3) (.call 27 [(.v 0),(.bin .add (.bin .add (.v 1) (.c (.int 40))) (.v 6)),(.c (.int 26))]))))]
theorem vH (n:Nat)(ns:List Int){k:Int}(h0:0<=k)(h1:k<=1000)(a2 a3 a4:Option D)(ha:a3=some (.str "abcdefghijklmnopqrstuvwxyz")) {r:Int} (r0:0<=r) (r1:r < 8) :
  ∃ (b:Str) (x6:Option D),forM (Ev.turn (ae T (n+1)) (.nm 6) tN) (bA 0 r) [some (.lst false (ns.map .int)),some (.int k),a2,a3,a4,some (.str ""),none,none,none]=.ok (.nx [some (.lst false (ns.map .int)),some (.int k),a2,a3,a4,some (.str b),x6,none,none])/\b.length<=8:=by
 subst ha
 obtain⟨EW,e,b,x6,rfl,hb⟩:=Ev.i9 (its:=bA 0 r) (τ:=[some (.lst false (ns.map .int)),some (.int k),a2,some (.str "abcdefghijklmnopqrstuvwxyz"),a4,some (.str ""),none,none,none]) (body:=Ev.turn (ae T (n+1)) (.nm 6) tN)
  (fun i τ=>∃ (b:Str) (x6:Option D),τ=[some (.lst false (ns.map .int)),some (.int k),a2,some (.str "abcdefghijklmnopqrstuvwxyz"),a4,some (.str b),x6,none,none]/\b.length=i)
  ⟨Str.ofString "",none,rfl,sX⟩ (by
   rintro i x τ hx ⟨b,x6,rfl,hb⟩
   have hi:i < r.toNat:=by
    have:=(List.getElem?_eq_some_iff.mp hx).1
    rw[bo] at this
    omega
   unfold bA at hx
   rw[List.getElem?_map,List.getElem?_range (by omega)] at hx
   have FT:D.int (0+(i:Nat))=x:=Option.some.inj hx
   subst FT
   have d:=aH n ns (k+40+(0+(i:Int))) 26 (by omega) (by omega) (by decide)
   obtain⟨y,hy,ly⟩:=tf (bZ ns (k+40+(0+(i:Int))) (m:=26) (by decide)) (cA ns (k+40+(0+(i:Int))) (m:=26) (by decide))
   refine⟨_,?_,b++y,some (.int (0+(i:Nat))),rfl,by rw[cz];omega⟩
   unfold tN
   simp -implicitDefEqProofs (disch:=omega) only[E1,Nat.reduceBEq,Nat.reduceSub,Nat.reduceAdd,reduceIte,Ev.ag,d,hy])
 refine⟨b,x6,e,?_⟩
 rw[hb,bo]
 omega
theorem DO {y:Str}{z:Int}(hy:y.length<=100)(h0:0<=z)(h1:z<=100):GW .mul (.str y) (.int z)=.ok (.str (Txt.mul y z)):=by
 show EX (decide (-16000<=z/\z<=16000/\y.length<=1000)) _=_
 rw[decide_eq_true ⟨by omega,by omega,by omega⟩]
 rfl
theorem ti (n:Nat)(ns:List Int){k:Int}(h0:0<=k)(h1:k<=1000){mn:Int}(m0:0<=mn)(m1:mn<=10):∃ xs:List Str,ae T (n+2) 28 [.lst false (ns.map .int),.int k,.int mn]=.ok (.lst true (xs.map .str))/\xs.length=mn.toNat:=by
 have d1:=aH n ns k 26 h0 (by omega) (by decide)
 have b1:=bZ ns k (m:=26) (by decide)
 have c1:=cA ns k (m:=26) (by decide)
 have d2:=aH n ns (k+1) 5 (by omega) (by omega) (by decide)
 have lr:(bA 0 mn).length=mn.toNat:=by rw[bo];omega
 generalize dr ns k 26=s at *
 cases q:(dr ns (k+1) 5 == 0) with
 | true=>
  obtain⟨xs,e,hl⟩:=eP (g:=aC (ae T (n+1)) (.nm 2) [] (.bin .mul (.idx (.v 0) (.v 1)) (.bin .add (.c (.int 1)) (.v 2))) [some (.str "abcdefghijklmnopqrstuvwxyz"),some (.int s),none]) (bA 0 mn) (by
   intro x hx
   obtain⟨j,rfl,j0,j1⟩:=ji hx
   obtain⟨y,hy,ly⟩:=tf b1 c1
   have hm:=DO (y:=y) (z:=1+j) (by omega) (by omega) (by omega)
   refine⟨Txt.mul y (1+j),?_⟩
   simp -implicitDefEqProofs (disch:=omega) only[E1,Nat.reduceBEq,Nat.reduceSub,Nat.reduceAdd,reduceIte,Ev.ag,hy,hm])
  refine⟨xs,?_,hl.trans lr⟩
  rw[Ev.go (show T 28=some JS from rfl) (show JS.np=3 from rfl) (show JS.G.N.length=9 from rfl) (show JS.body=NY from rfl) rfl];unfold NY
  simp -implicitDefEqProofs (disch:=omega) only[E1,Nat.reduceBEq,Nat.reduceSub,Nat.reduceAdd,reduceIte,d1,d2,q,e,lr]
 | false=>
  have d3:=aH n ns (k+2) 8 (by omega) (by omega) (by decide)
  have b3:=bZ ns (k+2) (m:=8) (by decide)
  have c3:=cA ns (k+2) (m:=8) (by decide)
  generalize dr ns (k+2) 8=r at *
  obtain⟨b,x6,eb,lb⟩:=vH n ns h0 h1 (some (.int mn)) (some (.str "abcdefghijklmnopqrstuvwxyz")) (some (.int s)) rfl b3 c3
  have d4:=aH n ns (k+3) ((b.length:Int)+1) (by omega) (by omega) (by omega)
  have b4:=bZ ns (k+3) (m:=(b.length:Int)+1) (by omega)
  have d5:=aH n ns (k+1) 4 (by omega) (by omega) (by decide)
  have b5:=bZ ns (k+1) (m:=4) (by decide)
  have c5:=cA ns (k+1) (m:=4) (by decide)
  generalize dr ns (k+3) ((b.length:Int)+1)=at' at *
  generalize dr ns (k+1) 4=u at *
  have hx:bt (.lst true [.int 1,.int 7,.int 25,.int 11]) (.int u)=.ok (.int (([1,7,25,11]:List Int).getD u.toNat 0)):=Ev.OY (o:=true) (xs:=[1,7,25,11]) b5 (by show u < 4;exact c5)
  have hb:0<=([1,7,25,11]:List Int).getD u.toNat 0/\([1,7,25,11]:List Int).getD u.toNat 0<=25:=by
   have:u=0∨u=1∨u=2∨u=3:=by omega
   rcases this with rfl|rfl|rfl|rfl<;>decide
  generalize ([1,7,25,11]:List Int).getD u.toNat 0=GQ at *
  obtain⟨xs,e,hl⟩:=eP (g:=aC (ae T (n+1)) (.nm 5) [] (.bin .add (.bin .add (.sl (.v 0) none (some (.v 1))) (.idx (.v 2) (.bin .mod (.bin .add (.v 3) (.bin .mul (.v 4) (.v 5))) (.c (.int 26))))) (.sl (.v 0) (some (.v 1)) none)) [some (.str b),some (.int at'),some (.str "abcdefghijklmnopqrstuvwxyz"),some (.int s),some (.int GQ),none]) (bA 0 mn) (by
   intro x hx
   obtain⟨j,rfl,j0,j1⟩:=ji hx
   have e0:=Int.emod_nonneg (s+GQ*j) (show (26:Int)≠0 by decide)
   have e1:=Int.emod_lt_of_pos (s+GQ*j) (show (0:Int) < 26 by decide)
   obtain⟨y,hy,ly⟩:=tf e0 e1
   have l1:=cG b none (some at')
   have l2:=cG b (some at') none
   have l3:=cz (Txt.slice b none (some at')) y
   refine⟨Txt.slice b none (some at')++y++Txt.slice b (some at') none,?_⟩
   simp -implicitDefEqProofs (disch:=omega) only[E1,Nat.reduceBEq,Nat.reduceSub,Nat.reduceAdd,reduceIte,Ev.ag,hy])
  refine⟨xs,?_,hl.trans lr⟩
  rw[Ev.go (show T 28=some JS from rfl) (show JS.np=3 from rfl) (show JS.G.N.length=9 from rfl) (show JS.body=NY from rfl) rfl];unfold NY
  unfold tN at eb
  simp -implicitDefEqProofs (disch:=omega) only[E1,Nat.reduceBEq,Nat.reduceSub,Nat.reduceAdd,reduceIte,d1,d2,d3,d4,d5,q,eb,hx,e,lr]
theorem DP (c0 c1:Cn){r:Int}(h0:0<=r)(h1:r < 4):∃ (ds:List D) (rows:List (List Cn)),bt (.lst true [.lst true [],.lst true [.lst true [c0.t]],.lst true [.lst true [c0.t],.lst true [c1.t]],.lst true [.lst true [c0.t,c1.t]]]) (.int r)=.ok (.lst true ds)/\E0 ds=rows.map aB/\
  (∀ c∈rows.flatten,c=c0∨c=c1)/\(rows.flatten.length<=2/\rows.length<=2)/\(rows.flatten.flatMap Cn.ts).length<=c0.ts.length+c1.ts.length:=by
 have e0:er c0.t=c0.d:=kq c0
 have e1:er c1.t=c1.d:=kq c1
 have:r=0∨r=1∨r=2∨r=3:=by omega
 rcases this with rfl|rfl|rfl|rfl
 ·exact⟨[],[],rfl,rfl,fun c hc=>by simp at hc,by simp,by simp⟩
 ·refine⟨[.lst true [c0.t]],[[c0]],rfl,?_,fun c hc=>by simp at hc;exact .inl hc,by simp,by simp⟩
  show [D.lst false [er c0.t]]=[D.lst false [c0.d]]
  rw[e0]
 ·refine⟨[.lst true [c0.t],.lst true [c1.t]],[[c0],[c1]],rfl,?_,fun c hc=>by simpa using hc,by simp,by simp⟩
  show [D.lst false [er c0.t],D.lst false [er c1.t]]=[D.lst false [c0.d],D.lst false [c1.d]]
  rw[e0,e1]
 ·refine⟨[.lst true [c0.t,c1.t]],[[c0,c1]],rfl,?_,fun c hc=>by simpa using hc,by simp,by simp⟩
  show [D.lst false [er c0.t,er c1.t]]=[D.lst false [c0.d,c1.d]]
  rw[e0,e1]
theorem AL (m0 m1:Str){r:Int}(h0:0<=r)(h1:r < 4):∃ mt:Str,bt (.lst true [.str "mates",.str m0,.str m1,.str "mates"]) (.int r)=.ok (.str mt):=by
 have:r=0∨r=1∨r=2∨r=3:=by omega
 rcases this with rfl|rfl|rfl|rfl
 ·exact⟨_,rfl⟩
 ·exact⟨_,rfl⟩
 ·exact⟨_,rfl⟩
 ·exact⟨_,rfl⟩
theorem tj (cl:Nat->List D->Res D)(mt:Str):∃ (Fj:Str) (rest:List D),ax (aC cl (.nm 1) [(.cmp .ne (.v 1) (.v 0))] (.v 1) [some (.str mt),none]) [.str "mates",.str "others"]=.ok (.str Fj::rest)/\af rest=true:=by
 have st:∀ x:Str,aC cl (.nm 1) [(.cmp .ne (.v 1) (.v 0))] (.v 1) [some (.str mt),none] (.str x)=.ok (if (x == mt)=true then none else some (.str x)):=by
  intro x
  cases q:(x == mt) with
  | true=>simp -implicitDefEqProofs (disch:=omega) only[E1,Nat.reduceBEq,Nat.reduceSub,Nat.reduceAdd,reduceIte,Ev.ag,q]
  | false=>simp -implicitDefEqProofs (disch:=omega) only[E1,Nat.reduceBEq,Nat.reduceSub,Nat.reduceAdd,reduceIte,Ev.ag,q]
 have s1:=st "mates"
 have s2:=st "others"
 cases q1:((Str.ofString "mates") == mt) with
 | false=>
  rw[q1] at s1
  cases q2:((Str.ofString "others") == mt) with
  | false=>rw[q2] at s2;exact⟨_,_,bz s1 (bz s2 rfl),rfl⟩
  | true=>rw[q2] at s2;exact⟨_,_,bz s1 (cM s2 rfl),rfl⟩
 | true=>
  rw[q1] at s1
  have hm:mt=Str.ofString "mates":=(eq_of_beq q1).symm
  have q2:((Str.ofString "others") == mt)=false:=by rw[hm];decide +kernel
  rw[q2] at s2
  exact⟨_,_,cM s1 (bz s2 rfl),rfl⟩
theorem kx {α:Type}(xs:List α){m:Int}(h:0<=m):bp xs (some m) none=xs.drop m.toNat:=by
 unfold bp HT.FY
 simp only
 rw[if_neg (by omega)]
 by_cases hm:m.toNat<=xs.length
 ·rw[show min m.toNat xs.length=m.toNat from Nat.min_eq_left hm,List.take_of_length_le (by rw[List.length_drop];omega)]
 ·rw[show min m.toNat xs.length=xs.length from Nat.min_eq_right (by omega),List.drop_length,List.take_nil,List.drop_of_length_le (by omega)]
noncomputable def Og:List IS:=[(.asg (.nm 10) (.call 27 [(.v 0),(.c (.int 486)),(.bin .add (.bi .len [(.v 8)]) (.c (.int 1)))])),(.asg (.nm 11) (.lst [(.tup [(.sl (.v 8) none (some (.v 10))),(.tup [(.c (.str "face")),(.c (.str "on"))])]),(.tup [(.sl (.v 8) (some (.v 10)) none),(.tup [(.c (.str "lot"))])])])),(.ret (.tup [(.v 6),(.tup [(.c (.str "salt")),(.c (.str "off")),(.v 11),(.tup [(.lst [(.tup [(.c (.str "on")),(.lst [])])]),(.lst [(.tup [(.c (.int 0)),(.c (.int 10007))])])])])]))]
noncomputable def cY:D:=.tup [.lst true [.tup [.str "on",.lst true []]],.lst true [.tup [.int 0,.int 10007]]]
theorem kz (n:Nat)(ns:List Int)(a1 a2 a3 a4 a5 a7 a9:Option D)(G:D){ds:List D}{cs:List Cn}(he:E0 ds=cs.map Cn.d)(hl:cs.length<=100) :
  ∃ Fv Fw:List Cn,Fv++Fw=cs/\aG (ae T (n+1)) Og [some (.lst false (ns.map .int)),a1,a2,a3,a4,a5,some G,a7,some (.lst true ds),a9,none,none]=.ok (.rt (.tup [G,.tup [.str "salt",.str "off",.lst true [.tup [.lst true (Fv.map Cn.d),.tup [.str "face",.str "on"]],.tup [.lst true (Fw.map Cn.d),.tup [.str "lot"]]],cY]])):=by
 have ld:ds.length=cs.length:=by rw[<- bW ds,he,List.length_map]
 have d:=aH n ns 486 ((ds.length:Int)+1) (by decide) (by decide) (by omega)
 have b:=bZ ns 486 (m:=(ds.length:Int)+1) (by omega)
 generalize dr ns 486 ((ds.length:Int)+1)=z at *
 have c1:bp ds none (some z)=ds.take z.toNat:=Ev.gu ds b
 have c2:bp ds (some z) none=ds.drop z.toNat:=kx ds b
 have c3:bp (E0 ds) (some z) none=(E0 ds).drop z.toNat:=kx (E0 ds) b
 have e1:E0 (ds.take z.toNat)=(cs.take z.toNat).map Cn.d:=by rw[aF,List.map_take,<- aF,he,<- List.map_take]
 have e2:E0 (ds.drop z.toNat)=(cs.drop z.toNat).map Cn.d:=by rw[aF,List.map_drop,<- aF,he,<- List.map_drop]
 have e3:E0 ((E0 ds).drop z.toNat)=(cs.drop z.toNat).map Cn.d:=by rw[he,<- List.map_drop,bY]
 refine⟨cs.take z.toNat,cs.drop z.toNat,List.take_append_drop ..,?_⟩
 have v1:vars (.sl (.v 8) none (some (.v 10)))=[8,10]:=rfl
 have v2:vars (.sl (.v 8) (some (.v 10)) none)=[8,10]:=rfl
 unfold Og cY
 cases f1:af (ds.take z.toNat) with
 | true=>
  have g1:(cs.take z.toNat).map Cn.d=ds.take z.toNat:=by rw[<- e1];exact aK f1
  cases f2:af (ds.drop z.toNat) with
  | true=>
   have g2:(cs.drop z.toNat).map Cn.d=ds.drop z.toNat:=by rw[<- e2];exact aK f2
   rw[g1,g2]
   simp -implicitDefEqProofs (disch:=omega) only[E1,Nat.reduceBEq,Nat.reduceSub,Nat.reduceAdd,reduceIte,d,c1,c2,f1,f2]
  | false=>
   rw[g1]
   simp -implicitDefEqProofs (disch:=omega) only[E1,Nat.reduceBEq,Nat.reduceSub,Nat.reduceAdd,reduceIte,d,c1,c2,f1,f2,e2,v2]
 | false=>
  cases f2:af ((E0 ds).drop z.toNat) with
  | true=>
   have g2:(cs.drop z.toNat).map Cn.d=(E0 ds).drop z.toNat:=by rw[<- e3];exact aK f2
   rw[g2]
   simp -implicitDefEqProofs (disch:=omega) only[E1,Nat.reduceBEq,Nat.reduceSub,Nat.reduceAdd,reduceIte,d,c1,c3,f1,f2,e1,v1]
  | false=>
   simp -implicitDefEqProofs (disch:=omega) only[E1,Nat.reduceBEq,Nat.reduceSub,Nat.reduceAdd,reduceIte,d,c1,c3,f1,f2,e1,e3,v1,v2]
noncomputable def QY:List IS:=[(.asg (.nm 4) (.call 35 [(.v 0),(.c (.int 500)),(.v 1),(.v 2),(.v 3),(.c (.int 2)),(.c (.int 2))])),(.asg (.nm 5) (.idx (.lst [(.c (.str "mates")),(.idx (.v 1) (.c (.int 0))),(.idx (.v 1) (.c (.int 1))),(.c (.str "mates"))]) (.call 27 [(.v 0),(.c (.int 487)),(.c (.int 4))]))),(.asg (.nm 6) (.lst [(.tup [(.v 5),(.idx (.lst [(.lst []),(.lst [(.sl (.v 4) none (some (.c (.int 1))))]),(.lst [(.sl (.v 4) none (some (.c (.int 1)))),(.sl (.v 4) (some (.c (.int 1))) none)]),(.lst [(.v 4)])]) (.call 27 [(.v 0),(.c (.int 480)),(.c (.int 4))]))])])),(.app 6 (.tup [(.idx (.comp {N:=["_law_mates","_law_own"],kd:=[.cell,.local],gl:=[],df:=false} [5] (.nm 1) (.val (.lst [(.c (.str "mates")),(.c (.str "others"))])) [(.cmp .ne (.v 1) (.v 0))] (.v 1)) (.c (.int 0))),(.lst [])])),(.asg (.nm 7) (.call 27 [(.v 0),(.c (.int 481)),(.c (.int 5))])),(.asg (.nm 8) (.call 35 [(.v 0),(.c (.int 200)),(.v 1),(.v 2),(.v 3),(.v 7),(.idx (.lst [(.c (.int 2)),(.c (.int 4))]) (.call 27 [(.v 0),(.c (.int 482)),(.c (.int 2))]))])),(.Fg (.cmp .eq (.call 27 [(.v 0),(.c (.int 483)),(.c (.int 2))]) (.c (.int 0))) [(.asg (.nm 9) (.tup [(.v 5),(.idx (.lst [(.c (.str "in")),(.c (.str "out"))]) (.call 27 [(.v 0),(.c (.int 484)),(.c (.int 2))])),(.lst [])])),(.ins 8 (.call 27 [(.v 0),(.c (.int 485)),(.bin .add (.v 7) (.c (.int 1)))]) (.v 9))] [])]
theorem tm:OZ=QY++Og:=rfl
theorem AM {r:Int}(h0:0<=r)(h1:r < 2):∃ w:Str,bt (.lst true [.str "in",.str "out"]) (.int r)=.ok (.str w)/\(w=Str.ofString "in"∨w=Str.ofString "out"):=by
 have:r=0∨r=1:=by omega
 rcases this with rfl|rfl
 ·exact⟨_,rfl,.inl rfl⟩
 ·exact⟨_,rfl,.inr rfl⟩
theorem tq {r:Int}(h0:0<=r)(h1:r < 2):∃ w:Int,bt (.lst true [.int 2,.int 4]) (.int r)=.ok (.int w)/\0 < w/\w<=4:=by
 have:r=0∨r=1:=by omega
 rcases this with rfl|rfl
 ·exact⟨_,rfl,by decide,by decide⟩
 ·exact⟨_,rfl,by decide,by decide⟩
theorem vJ (n:Nat)(ns:List Int)(m0 m1:Str){st:Str}(hs:st.length<=100)(JZ:Sx st)(c:Int)(hc:Cb c) :
  ∃ (mt Fj:Str) (c0 c1:Cn) (rows:List (List Cn)) (cs Fv Fw:List Cn),ae T (n+6) 36 [.lst false (ns.map .int),.lst false [.str m0,.str m1],.str st,.int c]=.ok (.tup [.lst true [.tup [.str mt,.lst false (rows.map aB)],.tup [.str Fj,.lst true []]],.tup [.str "salt",.str "off",.lst true [.tup [.lst true (Fv.map Cn.d),.tup [.str "face",.str "on"]],.tup [.lst true (Fw.map Cn.d),.tup [.str "lot"]]],cY]])/\Fv++Fw=cs/\
   (Gc c0/\c0.ts.length<=2)/\(Gc c1/\c1.ts.length<=2)/\(∀ d∈rows.flatten,d=c0∨d=c1)/\(rows.flatten.length<=2/\rows.length<=2)/\(rows.flatten.flatMap Cn.ts).length<=c0.ts.length+c1.ts.length/\
   ∃ (l r:List Cn) (x:Option Cn),cs=l++x.toList++r/\(l++r).length<=4/\(∀ d∈l++r,Gc d/\d.ts.length<=4)/\∀ d,x=some d->io d=true/\d.ts=[]:=by
 obtain⟨ic,ei,il,ig⟩:=kr n ns (k:=500) (by decide) (by decide) (ms:=[m0,m1]) (by simp) (by simp) hs JZ c 2 2 hc (by decide) (by decide) (by decide) (by decide)
 match ic,il,ei,ig with
 | [c0,c1],_,ei,ig=>
 have d1:=aH (n+4) ns 487 4 (by decide) (by decide) (by decide)
 have d2:=aH (n+4) ns 480 4 (by decide) (by decide) (by decide)
 have d3:=aH (n+4) ns 481 5 (by decide) (by decide) (by decide)
 have d4:=aH (n+4) ns 482 2 (by decide) (by decide) (by decide)
 have d5:=aH (n+4) ns 483 2 (by decide) (by decide) (by decide)
 have d6:=aH (n+4) ns 484 2 (by decide) (by decide) (by decide)
 obtain⟨mt,S8⟩:=AL m0 m1 (bZ ns 487 (m:=4) (by decide)) (cA ns 487 (m:=4) (by decide))
 obtain⟨Wq,rows,S9,re,r1,r2,r3⟩:=DP c0 c1 (bZ ns 480 (m:=4) (by decide)) (cA ns 480 (m:=4) (by decide))
 obtain⟨rm,Ta,VW,VX⟩:=tq (bZ ns 482 (m:=2) (by decide)) (cA ns 482 (m:=2) (by decide))
 obtain⟨w,hw,ww⟩:=AM (bZ ns 484 (m:=2) (by decide)) (cA ns 484 (m:=2) (by decide))
 obtain⟨Fj,rest,eo,_⟩:=tj (ae T (n+5)) mt
 have b3:=bZ ns 481 (m:=5) (by decide)
 have c3:=cA ns 481 (m:=5) (by decide)
 obtain⟨cs,ec,cl,cg⟩:=kr n ns (k:=200) (by decide) (by decide) (ms:=[m0,m1]) (by simp) (by simp) hs JZ c (dr ns 481 5) rm hc b3 (by omega) VW VX
 have d7:=aH (n+4) ns 485 (dr ns 481 5+1) (by decide) (by decide) (by omega)
 have b7:=bZ ns 485 (m:=dr ns 481 5+1) (by omega)
 have c7:=cA ns 485 (m:=dr ns 481 5+1) (by omega)
 rw[List.map_cons,List.map_cons,List.map_nil] at ei ec
 rw[List.map_cons,List.map_cons,List.map_nil] at ei
 generalize dr ns 481 5=ct at *
 generalize dr ns 485 (ct+1)=z at *
 have e0:=kq c0
 have e1:=kq c1
 have k1:bp [c0.t,c1.t] none (some 1)=[c0.t]:=rfl
 have k2:bp [c0.t,c1.t] (some 1) none=[c1.t]:=rfl
 have x0:bt (.lst false [.str m0,.str m1]) (.int 0)=.ok (.str m0):=rfl
 have x1:bt (.lst false [.str m0,.str m1]) (.int 1)=.ok (.str m1):=rfl
 have x2:bt (.lst true (.str Fj::rest)) (.int 0)=.ok (.str Fj):=by
  rw[Ev.QB,Ev.i8 .EZ (by decide) (by rw[List.length_cons];omega)]
  rfl
 have lc:(cs.map Cn.t).length=cs.length:=List.length_map ..
 have vI:vars (.idx (.lst [(.lst []),(.lst [(.sl (.v 4) none (some (.c (.int 1))))]),(.lst [(.sl (.v 4) none (some (.c (.int 1)))),(.sl (.v 4) (some (.c (.int 1))) none)]),(.lst [(.v 4)])]) (.call 27 [(.v 0),(.c (.int 480)),(.c (.int 4))]))=[4,4,4,4,0]:=rfl
 have g0:=ig c0 (by simp)
 have g1:=ig c1 (by simp)
 cases q:(dr ns 483 2 == 0) with
 | false=>
  obtain⟨Fv,Fw,Hg,ee⟩:=kz (n+4) ns (some (.lst false [.str m0,.str m1])) (some (.str st)) (some (.int c)) (some (.lst false [c0.d,c1.d])) (some (.str mt)) (some (.int ct)) none (.lst true [.tup [.str mt,.lst false (rows.map aB)],.tup [.str Fj,.lst true []]]) (ds:=cs.map Cn.t) (cs:=cs) (lM cs) (by omega)
  refine⟨mt,Fj,c0,c1,rows,cs,Fv,Fw,?_,Hg,⟨g0.1,by have:=g0.2;omega⟩,⟨g1.1,by have:=g1.2;omega⟩,r1,r2,r3,cs,[],none,by simp,by rw[List.append_nil];omega,fun d hd=>?_,fun d hd=>by cases hd⟩
  ·rw[Ev.go (show T 36=some JW from rfl) (show JW.np=4 from rfl) (show JW.G.N.length=12 from rfl) (show JW.body=OZ from rfl) rfl,tm]
   unfold QY
   generalize Og=TL at ee ⊢
   simp -implicitDefEqProofs (disch:=omega) only[E1,Nat.reduceBEq,Nat.reduceSub,Nat.reduceAdd,reduceIte,ei,ec,d1,d2,d3,d4,d5,q,S8,S9,Ta,re,eo,x0,x1,x2,k1,k2,vI,e0,e1,ee]
  ·rw[List.append_nil] at hd
   exact⟨(cg d hd).1,by have:=(cg d hd).2;omega⟩
 | true=>
  have hz:(decide (0<=z/\z.toNat<=cs.length))=true:=decide_eq_true ⟨b7,by omega⟩
  have ne:D.tup [.str mt,.str w,.lst false []]=Cn.d (⟨mt,w,[]⟩:Cn):=rfl
  have he:E0 ((cs.map Cn.t).take z.toNat++D.tup [.str mt,.str w,.lst false []]::(cs.map Cn.t).drop z.toNat)=(cs.take z.toNat++[(⟨mt,w,[]⟩:Cn)]++cs.drop z.toNat).map Cn.d:=by
   rw[aF,List.map_append,List.map_cons,<- List.map_take,<- List.map_drop,<- aF,<- aF,lM,lM,ne,kj,List.map_append,List.map_append,List.append_assoc]
   rfl
  obtain⟨Fv,Fw,Hg,ee⟩:=kz (n+4) ns (some (.lst false [.str m0,.str m1])) (some (.str st)) (some (.int c)) (some (.lst false [c0.d,c1.d])) (some (.str mt)) (some (.int ct)) (some (.tup [.str mt,.str w,.lst false []])) (.lst true [.tup [.str mt,.lst false (rows.map aB)],.tup [.str Fj,.lst true []]]) he (by rw[List.length_append,List.length_append,List.length_take,List.length_drop,List.length_singleton];omega)
  refine⟨mt,Fj,c0,c1,rows,_,Fv,Fw,?_,Hg,⟨g0.1,by have:=g0.2;omega⟩,⟨g1.1,by have:=g1.2;omega⟩,r1,r2,r3,cs.take z.toNat,cs.drop z.toNat,some ⟨mt,w,[]⟩,rfl,by rw[List.take_append_drop];omega,fun d hd=>?_,fun d hd=>?_⟩
  ·rw[Ev.go (show T 36=some JW from rfl) (show JW.np=4 from rfl) (show JW.G.N.length=12 from rfl) (show JW.body=OZ from rfl) rfl,tm]
   unfold QY
   generalize Og=TL at ee ⊢
   simp -implicitDefEqProofs (disch:=omega) only[E1,Nat.reduceBEq,Nat.reduceSub,Nat.reduceAdd,reduceIte,ei,ec,d1,d2,d3,d4,d5,d6,d7,q,S8,S9,Ta,hw,re,eo,x0,x1,x2,k1,k2,vI,e0,e1,hz,lc,ee]
  ·rw[List.take_append_drop] at hd
   exact⟨(cg d hd).1,by have:=(cg d hd).2;omega⟩
  ·cases hd
   refine⟨?_,rfl⟩
   unfold io
   rcases ww with rfl|rfl
   ·show ((Str.ofString "in" == Str.ofString "in")||_)=true
    simp
   ·show (_||(Str.ofString "out" == Str.ofString "out"))=true
    simp
noncomputable def HN (mt Fj:Str)(rows:List (List Cn)):List Gp:=[⟨mt,rows⟩,⟨Fj,[]⟩]
noncomputable def Kv (Fv Fw:List Cn):List Ru:=[⟨Fv,.tup [.str "face",.str "on"]⟩,⟨Fw,.tup [.str "lot"]⟩]
noncomputable def Mf (Fv Fw:List Cn):D:=.tup [.str "salt",.str "off",.lst false ((Kv Fv Fw).map Ru.d),er cY]
theorem all2 (Fv Fw:List Cn):au (Kv Fv Fw)=Fv++Fw:=by
 show Fv++(Fw++[])=_
 rw[List.append_nil]
theorem oF (p:Str->Bool)(mt Fj:Str)(rows:List (List Cn)):Gb p (HN mt Fj rows)=if p mt=true then rows.flatten else []:=by
 show (if p mt=true then rows.flatten else [])++((if p Fj=true then List.flatten [] else [])++[])=_
 rw[List.flatten_nil]
 simp
theorem Tc (Fv Fw:List Cn):∀ r∈Kv Fv Fw,er r.o=r.o:=by
 intro r hr
 unfold Kv at hr
 rcases List.mem_cons.mp hr with rfl|hr
 ·rfl
 ·rw[List.mem_singleton.mp hr];rfl
theorem hd2 (mt Fj:Str)(rows:List (List Cn))(Fv Fw:List Cn)(h1:(Fv++Fw).length<=100)(h2:rows.flatten.length<=2):Hd (HN mt Fj rows) (Kv Fv Fw) (Mf Fv Fw) where
 ix:=rfl
 er:=by
  have h:=jc (Tc Fv Fw)
  unfold Mf
  show D.tup [.str "salt",.str "off",.lst false (E0 ((Kv Fv Fw).map Ru.d)),L2.er (L2.er cY)]=_
  rw[h,pZ]
 ro:=Tc Fv Fw
 l1:=by rw[all2];exact h1
 l2:=by
  rw[oF]
  split
  ·omega
  ·simp
theorem tu {cs:List Cn}{k:Nat}(h:∀ c∈cs,c.ts.length<=k):(cs.flatMap Cn.ts).length<=k*cs.length:=by
 induction cs with
 | nil=>simp
 | cons c cs ih=>
  rw[List.flatMap_cons,List.length_append,List.length_cons,Nat.mul_succ]
  have h1:=h c (by simp)
  have h2:=ih fun d hd=>h d (List.mem_cons_of_mem _ hd)
  omega
structure Dw (c0 c1:Cn)(rows:List (List Cn))(cs l r:List Cn)(x:Option Cn):Prop where
 g0:Gc c0/\c0.ts.length<=2
 g1:Gc c1/\c1.ts.length<=2
 rw:∀ d∈rows.flatten,d=c0∨d=c1
 rl:rows.flatten.length<=2
 rt:(rows.flatten.flatMap Cn.ts).length<=c0.ts.length+c1.ts.length
 eq:cs=l++x.toList++r
 ll:(l++r).length<=4
 lg:∀ d∈l++r,Gc d/\d.ts.length<=4
 xi:∀ d,x=some d->io d=true/\d.ts=[]
variable {c0 c1:Cn}{rows:List (List Cn)}{cs l r:List Cn}{x:Option Cn}
theorem QZ (w:Dw c0 c1 rows cs l r x):cs.filter (fun c=>!io c)=l++r:=by
 rw[w.eq,List.filter_append,List.filter_append]
 have h1:l.filter (fun c=>!io c)=l:=List.filter_eq_self.mpr fun d hd=>by rw[(w.lg d (List.mem_append_left _ hd)).1.io];rfl
 have h2:r.filter (fun c=>!io c)=r:=List.filter_eq_self.mpr fun d hd=>by rw[(w.lg d (List.mem_append_right _ hd)).1.io];rfl
 have h3:x.toList.filter (fun c=>!io c)=[]:=by
  cases x with
  | none=>rfl
  | some d=>show List.filter _ [d]=[];rw[List.filter_cons,(w.xi d rfl).1];rfl
 rw[h1,h2,h3,List.append_nil]
theorem nu (w:Dw c0 c1 rows cs l r x)(mt Fj:Str)(Fv Fw:List Cn)(h:Fv++Fw=cs):∀ c∈lk (HN mt Fj rows) (Kv Fv Fw),Gc c:=by
 intro c hc
 unfold lk at hc
 rw[all2,h,QZ w,oF,List.mem_append] at hc
 rcases hc with hc|hc
 ·exact(w.lg c hc).1
 ·split at hc
  ·rcases w.rw c hc with rfl|rfl
   ·exact w.g0.1
   ·exact w.g1.1
  ·simp at hc
theorem DQ (w:Dw c0 c1 rows cs l r x)(mt Fj:Str)(Fv Fw:List Cn)(h:Fv++Fw=cs):Ok (lk (HN mt Fj rows) (Kv Fv Fw)) where
 be:=fun c hc=>(nu w mt Fj Fv Fw h c hc).be
 le:=fun c hc=>(nu w mt Fj Fv Fw h c hc).le
 mo:=fun c hc=>(nu w mt Fj Fv Fw h c hc).mo
 G1:=by
  unfold lk
  rw[all2,h,QZ w,oF,List.flatMap_append,List.length_append]
  have h1:=tu (k:=4) fun c hc=>(w.lg c hc).2
  have h2:=w.ll
  have h3:=w.rt
  have h4:=w.g0.2
  have h5:=w.g1.2
  split
  ·omega
  ·simp only[List.flatMap_nil,List.length_nil];omega
 fc:=by
  unfold lk
  rw[all2,h,QZ w,oF,List.length_append]
  have h2:=w.ll
  have h3:=w.rl
  split
  ·omega
  ·simp only[List.length_nil];omega
end Law
namespace Law
open PySem PySem.Spec L2 L2.Fr PyProof.Rows
variable {c0 c1:Cn}{rows:List (List Cn)}{cs l r:List Cn}{x:Option Cn}
theorem AN (mt Fj:Str){d:Cn}(h:io d=false):HW (HN mt Fj rows) d=[d]:=by
 unfold HW
 rw[h,if_neg Bool.false_ne_true,oF]
 have:pk d mt=false:=by unfold pk;rw[h];rfl
 rw[this,if_neg Bool.false_ne_true]
 rfl
theorem lN (mt Fj:Str):∀ {a:List Cn},(∀ d∈a,io d=false)->Fu (HN mt Fj rows) a=a
 | [],_=>rfl
 | d::a,h=>by
  show HW _ d++Fu _ a=_
  rw[AN mt Fj (h d (by simp)),lN mt Fj fun e he=>h e (List.mem_cons_of_mem _ he)]
  rfl
theorem AO (w:Dw c0 c1 rows cs l r x)(mt Fj:Str):∃ y:List Cn,Fu (HN mt Fj rows) cs=l++y++r/\(y=[]∨y=rows.flatten):=by
 have h1:Fu (HN mt Fj rows) l=l:=lN mt Fj fun d hd=>(w.lg d (List.mem_append_left _ hd)).1.io
 have h2:Fu (HN mt Fj rows) r=r:=lN mt Fj fun d hd=>(w.lg d (List.mem_append_right _ hd)).1.io
 refine⟨Fu (HN mt Fj rows) x.toList,?_,?_⟩
 ·rw[w.eq]
  show List.flatMap (HW _) _=_
  rw[List.flatMap_append,List.flatMap_append]
  exact congr (congrArg _ (congr (congrArg _ h1) rfl)) h2
 ·cases x with
  | none=>exact .inl rfl
  | some d=>
   show HW _ d++[]=[]∨HW _ d++[]=_
   rw[List.append_nil]
   unfold HW
   rw[(w.xi d rfl).1,if_pos rfl,oF,List.nil_append]
   split
   ·exact .inr rfl
   ·exact .inl rfl
theorem vK (w:Dw c0 c1 rows cs l r x)(mt Fj:Str):(Fu (HN mt Fj rows) cs).length<=6/\((Fu (HN mt Fj rows) cs).flatMap Cn.ts).length<=20:=by
 obtain⟨y,e,hy⟩:=AO w mt Fj
 have h1:=tu (k:=4) fun c hc=>(w.lg c hc).2
 have h2:=w.ll
 have h3:=w.rt
 have h4:=w.g0.2
 have h5:=w.g1.2
 have h6:=w.rl
 rw[e]
 rw[List.flatMap_append,List.length_append] at h1
 rw[List.length_append] at h2
 rw[List.length_append,List.length_append,List.flatMap_append,List.flatMap_append,List.length_append,List.length_append]
 rw[List.length_append] at h1
 rcases hy with rfl|rfl
 ·constructor
  ·simp only[List.length_nil];omega
  ·simp only[List.flatMap_nil,List.length_nil];omega
 ·constructor<;>omega
end Law
namespace Law
open PySem PySem.Spec L2 L2.Fr PyProof.Rows
theorem fx {α:Type}{e:α->D}{n:Nat}:∀ {xs:List α},(∀ a∈xs,pl n (e a)=true)->Fo n (xs.map e)=true
 | [],_=>by rw[List.map_nil,Fo]
 | a::xs,h=>by
  rw[List.map_cons,Fo,h a (by simp),fx fun b hb=>h b (List.mem_cons_of_mem _ hb)]
  rfl
theorem eQ {n:Nat}{ds:List D}(h:Fo n ds=true)(hl:ds.length < 1000):pl (n+1) (.lst false ds)=true:=by
 rw[pl,h,decide_eq_true hl]
 rfl
theorem cZ {n:Nat}{ds:List D}(h:Fo n ds=true)(hl:ds.length < 1000):pl (n+1) (.tup ds)=true:=by
 rw[pl,h,decide_eq_true hl]
 rfl
theorem DR (n:Nat)(t:Tn):pl (n+1) t.d=true:=by
 cases t<;>rfl
theorem DS (n:Nat){c:Cn}(h:c.ts.length < 1000):pl (n+3) c.d=true:=by
 unfold Cn.d
 refine cZ ?_ (by simp)
 have h1:pl (n+2) (.lst false (c.ts.map Tn.d))=true:=eQ (fx fun t _=>DR n t) (by rw[List.length_map];exact h)
 rw[Fo,Fo,Fo,Fo,h1]
 rfl
theorem jj (n:Nat){r:List Cn}(h:∀ c∈r,c.ts.length < 1000)(hl:r.length < 1000):pl (n+4) (aB r)=true:=eQ (fx fun c hc=>DS n (h c hc)) (by rw[List.length_map];exact hl)
theorem DT {mt Fj:Str}{rows:List (List Cn)}(h:∀ c∈rows.flatten,c.ts.length < 1000)(hl:rows.flatten.length < 1000)(hr:rows.length < 1000):pl 8 (.lst false ((HN mt Fj rows).map Gp.d))=true:=by
 have h1:pl 6 (.lst false (rows.map aB))=true:=eQ (fx fun r hr=>jj 1 (fun c hc=>h c (List.mem_flatten.mpr ⟨r,hr,hc⟩)) (Nat.lt_of_le_of_lt (by
  have:=List.Sublist.length_le (List.sublist_flatten_of_mem hr)
  exact this) hl)) (by rw[List.length_map];exact hr)
 refine eQ (n:=7) ?_ (by simp[HN])
 show Fo 7 [D.tup [.str mt,.lst false (rows.map aB)],D.tup [.str Fj,.lst false []]]=true
 rw[Fo,Fo,Fo]
 rw[cZ (n:=6) (by rw[Fo,Fo,Fo,h1];rfl) (by simp)]
 rfl
theorem DU {Fv Fw:List Cn}(h:∀ c∈Fv++Fw,c.ts.length < 1000)(hl:(Fv++Fw).length < 1000):pl 8 (Mf Fv Fw)=true:=by
 rw[List.length_append] at hl
 have h1:pl 5 (aB Fv)=true:=jj 1 (fun c hc=>h c (List.mem_append_left _ hc)) (by omega)
 have h2:pl 5 (aB Fw)=true:=jj 1 (fun c hc=>h c (List.mem_append_right _ hc)) (by omega)
 have h3:pl 6 (D.tup [aB Fv,.tup [.str "face",.str "on"]])=true:=cZ (by rw[Fo,Fo,Fo,h1];rfl) (by simp)
 have h4:pl 6 (D.tup [aB Fw,.tup [.str "lot"]])=true:=cZ (by rw[Fo,Fo,Fo,h2];rfl) (by simp)
 have h5:pl 7 (.lst false [D.tup [aB Fv,.tup [.str "face",.str "on"]],D.tup [aB Fw,.tup [.str "lot"]]])=true:=eQ (by rw[Fo,Fo,Fo,h3,h4];rfl) (by simp)
 unfold Mf
 refine cZ (n:=7) ?_ (by simp)
 show Fo 7 [.str "salt",.str "off",.lst false [D.tup [aB Fv,.tup [.str "face",.str "on"]],D.tup [aB Fw,.tup [.str "lot"]]],er cY]=true
 rw[Fo,Fo,Fo,Fo,Fo,h5]
 rfl
variable {c0 c1:Cn}{rows:List (List Cn)}{cs l r:List Cn}{x:Option Cn}
theorem tw (mk:Str):∀ cs:List Cn,(cs.flatMap (aT mk)).length<=(cs.flatMap Cn.ts).length
 | []=>Nat.le_refl _
 | c::cs=>by
  rw[List.flatMap_cons,List.flatMap_cons,List.length_append,List.length_append]
  have h:=tw mk cs
  have h1:=bR c.ts
  unfold aT at *
  split
  ·omega
  ·simp only[List.length_nil];omega
theorem tD (mk:Str):∀ cs:List Cn,(cs.flatMap (bT mk)).length<=(cs.flatMap Cn.ts).length
 | []=>Nat.le_refl _
 | c::cs=>by
  rw[List.flatMap_cons,List.flatMap_cons,List.length_append,List.length_append]
  have h:=tD mk cs
  have h1:=bR c.ts
  unfold bT at *
  split
  ·omega
  ·simp only[List.length_nil];omega
theorem ny (a b:Bool):∀ xs:List Int,(xs.flatMap (GU a b)).length<=2*xs.length
 | []=>Nat.le_refl _
 | x::xs=>by
  rw[List.flatMap_cons,List.length_append,List.length_cons]
  have h:=ny a b xs
  have h1:(GU a b x).length<=2:=by cases a<;>cases b<;>simp[GU]
  omega
theorem lO (mk:Str):∀ cs:List Cn,(cs.flatMap (cT mk)).length<=2*(cs.flatMap Cn.ts).length
 | []=>Nat.le_refl _
 | c::cs=>by
  rw[List.flatMap_cons,List.flatMap_cons,List.length_append,List.length_append]
  have h:=lO mk cs
  have h1:=fg c.ts
  have h2:=ny (c.w == Str.ofString "most") (c.w == Str.ofString "least") (ins c.ts)
  unfold cT at *
  split
  ·omega
  ·simp only[List.length_nil];omega
end Law
namespace Law
open PySem PySem.Spec L2 L2.Fr PyProof.Rows
theorem lP {x:Str}{xs:List Str}:x∈sS xs↔x∈xs:=by
 unfold sS
 rw[(bu _).mem_iff]
 have:=(jg xs [] List.nodup_nil).2 x
 simp at this
 exact this
theorem AQ {x:Int}{xs:List Int}:x∈sI xs↔x∈xs:=by
 unfold sI
 rw[(PySem.W.sortI_perm _).mem_iff]
 have:=(lJ xs [] List.nodup_nil).2 x
 simp at this
 exact this
theorem DV (xs:List Int):(sI xs).Pairwise (· < ·):=by
 have h1:(sI xs).Pairwise (·<=·):=PySem.W.sortI_rises _
 have h2:(sI xs).Nodup:=(PySem.W.sortI_perm _).nodup_iff.mpr (lJ xs [] List.nodup_nil).1
 exact(h1.and h2).imp fun ⟨a,b⟩=>by omega
structure Cl (A B:List Str)(C:List Int):Prop where
 a:∀ x∈A,x.length<=8/\Sx x
 b:∀ x∈B,x.length<=8/\Sx x
 e:Str.ofString ""∈B
 c:∀ n∈C,-999999999<=n/\n<=1000000000
 up:C.Pairwise (· < ·)
 G1:A.length+B.length<=30
 lc:C.length<=64
theorem tE (mk:Str):∀ cs:List Cn,(cs.flatMap (aT mk)).length+(cs.flatMap (bT mk)).length<=(cs.flatMap Cn.ts).length
 | []=>Nat.le_refl _
 | c::cs=>by
  rw[List.flatMap_cons,List.flatMap_cons,List.flatMap_cons,List.length_append,List.length_append,List.length_append]
  have h:=tE mk cs
  have h1:=bR c.ts
  have h2:(aT mk c).length+(bT mk c).length<=c.ts.length:=by
   unfold aT bT
   cases (c.m == mk)<;>cases (c.w == Str.ofString "begins")<;>simp<;>omega
  omega
theorem DW:(Str.ofString "").length<=8/\Sx (Str.ofString ""):=by
 have e:(Str.ofString "").cps = #[]:=by decide +kernel
 refine⟨by rw[sX];decide,fun c hc=>?_⟩
 rw[e] at hc
 simp at hc
theorem DX (mk:Str){cs:List Cn}(hg:∀ c∈cs,∀ t∈c.ts,Tg t)(G1:(cs.flatMap Cn.ts).length<=20):Cl (sS (cs.flatMap (aT mk))) (sS (Str.ofString ""::cs.flatMap (bT mk))) (sI (cs.flatMap (cT mk))) where
 a:=fun x hx=>by
  obtain⟨c,h1,h2⟩:=List.mem_flatMap.mp (lP.mp hx)
  exact hg c h1 _ (lK.mp h2).2.2
 b:=fun x hx=>by
  rcases List.mem_cons.mp (lP.mp hx) with rfl|hx
  ·exact DW
  ·obtain⟨c,h1,h2⟩:=List.mem_flatMap.mp hx
   exact hg c h1 _ (lL.mp h2).2.2
 e:=lP.mpr List.mem_cons_self
 c:=fun n hn=>by
  obtain⟨c,h1,h2⟩:=List.mem_flatMap.mp (AQ.mp hn)
  obtain⟨_,_,y,h3,h4⟩:=AD.mp h2
  have h5 : -999999999<=y/\y<=999999999:=hg c h1 _ h3
  rcases h4 with ⟨_,rfl⟩|⟨_,rfl⟩<;>omega
 up:=DV _
 G1:=by
  have h1:=jf (cs.flatMap (aT mk))
  have h2:=jf (Str.ofString ""::cs.flatMap (bT mk))
  have h3:=tE mk cs
  rw[List.length_cons] at h2
  omega
 lc:=by
  have h1:=sT (cs.flatMap (cT mk))
  have h2:=lO mk cs
  omega
theorem nA (x:Str):∀ xs:List Str,Fh (.str x) (xs.map .str)=.ok (xs.any (· == x))
 | []=>rfl
 | y::xs=>by
  show U (FC 40 (.str y) (.str x)) _=_
  show U (.ok (y == x)) _=_
  show U (Fh (.str x) (xs.map .str)) _=_
  rw[nA x xs]
  rfl
theorem yn {x:Str}{xs:List Str}(h:xs.any (· == x)=false):x∉xs:=fun hx=>by
 have:=List.any_eq_false.mp h x hx
 simp at this
theorem yo {x:Str}{xs:List Str}(h:xs.any (· == x)=true):x∈xs:=by
 obtain⟨y,h1,h2⟩:=List.any_eq_true.mp h
 rw[<- eq_of_beq h2]
 exact h1
theorem tF {x:Str}{xs:List Str}(h:x∉xs):xs.any (· == x)=false:=by
 cases q:xs.any (· == x) with
 | false=>rfl
 | true=>exact absurd (yo q) h
theorem tG {x:Str}{xs:List Str}(h:x∈xs):xs.any (· == x)=true:=List.any_eq_true.mpr ⟨x,h,by simp⟩
theorem Td:∀ (l m:List Str),l.Nodup->(∀ x∈l,x∈m)->l.length<=m.length
 | [],_,_,_=>Nat.zero_le _
 | x::l,m,nd,h=>by
  rw[List.nodup_cons] at nd
  have hx:=h x List.mem_cons_self
  have:=Td l (m.erase x) nd.2 fun y hy=>(List.mem_erase_of_ne (fun e=>nd.1 (by rw[<- e];exact hy))).mpr (h y (List.mem_cons_of_mem _ hy))
  rw[List.length_erase_of_mem hx] at this
  have:=List.length_pos_of_mem hx
  rw[List.length_cons]
  omega
noncomputable def MS:List Str:=sg.cps.toList.map one
theorem nB:MS.length=36:=by decide +kernel
theorem DY:sg.cps.toList.Nodup:=by decide +kernel
theorem nC (b:Str)(c:Nat):(b++one c).cps=b.cps.push c:=by
 show b.cps++#[c]=_
 simp
theorem vL {b:Str}{c d:Nat}(h:b++one c=b++one d):c=d:=by
 have:=congrArg (fun z:Str=>z.cps.toList) h
 simp only[nC,Array.toList_push] at this
 have:=List.append_cancel_left this
 simpa using this
noncomputable def HK (B:List Str)(b:Str):List Str:=(MS.filter fun s=>!(B.any (· == (b++s)))).map (b++·)
theorem jk (B:List Str)(b:Str):(HK B b).length<=36:=by
 unfold HK
 rw[List.length_map,<- nB]
 exact List.length_filter_le ..
theorem jl {B:List Str}{b x:Str}:x∈HK B b↔∃ c∈sg.cps.toList,x=b++one c/\x∉B:=by
 unfold HK MS
 rw[List.mem_map]
 constructor
 ·rintro ⟨s,h1,rfl⟩
  rw[List.mem_filter,List.mem_map] at h1
  obtain⟨⟨c,h2,rfl⟩,h3⟩:=h1
  exact⟨c,h2,rfl,yn (by simpa using h3)⟩
 ·rintro ⟨c,h1,rfl,h2⟩
  exact⟨one c,List.mem_filter.mpr ⟨List.mem_map.mpr ⟨c,h1,rfl⟩,by rw[tF h2];rfl⟩,rfl⟩
theorem iE {f:Nat->Str}(hf:∀ a b,f a=f b->a=b):∀ {l:List Nat},l.Nodup->(l.map f).Nodup
 | [],_=>List.nodup_nil
 | x::l,h=>by
  rw[List.nodup_cons] at h
  rw[List.map_cons,List.nodup_cons]
  refine⟨fun z=>?_,iE hf h.2⟩
  obtain⟨y,h1,h2⟩:=List.mem_map.mp z
  rw[hf y x h2] at h1
  exact h.1 h1
theorem vM {A B:List Str}(h:A.length+B.length<=30)(b:Str):∃ x∈HK B b,x∉A:=by
 apply Classical.byContradiction
 intro hn
 have all:∀ x∈HK B b,x∈A:=fun x hx=>Classical.byContradiction fun z=>hn ⟨x,hx,z⟩
 have:=Td (sg.cps.toList.map fun c=>b++one c) (A++B) (iE (fun _ _=>vL) DY) fun x hx=>by
  obtain⟨c,h1,rfl⟩:=List.mem_map.mp hx
  rw[List.mem_append]
  by_cases hb:(b++one c)∈B
  ·exact .inr hb
  ·exact .inl (all _ (jl.mpr ⟨c,h1,rfl,hb⟩))
 rw[List.length_map,List.length_append] at this
 have e36:sg.cps.toList.length=36:=by decide +kernel
 omega
noncomputable def tW:List IS:=[(.pop 7 6),(.Fg (.cmp .JB (.v 7) (.v 4)) [(.ret (.v 7))] []),(.ext 6 (.comp {N:=["text","beginnings","sign"],kd:=[.cell,.cell,.local],gl:=[],df:=false} [7,5] (.nm 2) (.val (.g 21 (.str "abcdefghijklmnopqrstuvwxyz0123456789"))) [(.cmp .JB (.bin .add (.v 0) (.v 2)) (.v 1))] (.bin .add (.v 0) (.v 2))))]
theorem tH:bD "abcdefghijklmnopqrstuvwxyz0123456789" = MS.map .str:=by
 rw[Ev.dE]
 rfl
theorem yp (cl:Nat->List D->Res D)(o:Bool)(B:List Str){h:Str}(hl:h.length<=1000):∀ ss:List Str,(∀ s∈ss,s.length=1)->ax (aC cl (.nm 2) [(.cmp .JB (.bin .add (.v 0) (.v 2)) (.v 1))] (.bin .add (.v 0) (.v 2)) [some (.str h),some (.lst o (B.map .str)),none]) (ss.map .str)=.ok (((ss.filter fun s=>!(B.any (· == (h++s)))).map (h++·)).map .str)
 | [],_=>rfl
 | s::ss,hs=>by
  have ih:=yp cl o B hl ss fun z hz=>hs z (List.mem_cons_of_mem _ hz)
  have ls:=hs s List.mem_cons_self
  have an:=nA (h++s) B
  rw[List.map_cons,List.filter_cons]
  cases q:B.any (· == (h++s)) with
  | true=>
   rw[q] at an
   rw[if_neg (by simp)]
   refine cM ?_ ih
   simp -implicitDefEqProofs (disch:=omega) only[E1,Nat.reduceBEq,Nat.reduceSub,Nat.reduceAdd,reduceIte,Ev.ag,an]
  | false=>
   rw[q] at an
   rw[if_pos (by simp),List.map_cons,List.map_cons]
   refine bz ?_ ih
   simp -implicitDefEqProofs (disch:=omega) only[E1,Nat.reduceBEq,Nat.reduceSub,Nat.reduceAdd,reduceIte,Ev.ag,an]
section
variable (cl:Nat->List D->Res D)(a0 a1 a2 a3:Option D)(A B:List Str)
noncomputable def wS (ws:List Str)(x7:Option D):Ev:=[a0,a1,a2,a3,some (.lst false (A.map .str)),some (.lst false (B.map .str)),some (.lst true (ws.map .str)),x7]
theorem DZ {h:Str}(ws:List Str)(x7:Option D)(q:A.any (· == h)=false):aG cl tW (wS a0 a1 a2 a3 A B (h::ws) x7)=.ok (.rt (.str h)):=by
 have an:=nA h A
 rw[q] at an
 unfold tW wS
 rw[List.map_cons]
 simp -implicitDefEqProofs (disch:=omega) only[E1,Nat.reduceBEq,Nat.reduceSub,Nat.reduceAdd,reduceIte,an]
theorem tJ {h:Str}(hl:h.length<=1000)(ws:List Str)(lw:ws.length<=10000)(x7:Option D)(q:A.any (· == h)=true):aG cl tW (wS a0 a1 a2 a3 A B (h::ws) x7)=.ok (.nx (wS a0 a1 a2 a3 A B (ws++HK B h) (some (.str h)))):=by
 have an:=nA h A
 rw[q] at an
 have ef:=yp cl false B hl MS (by decide +kernel)
 have el:=jk B h
 have sl:(Str.ofString "abcdefghijklmnopqrstuvwxyz0123456789").length=36:=eO
 have l1:(ws.map D.str).length=ws.length:=List.length_map ..
 have l2:((HK B h).map D.str).length=(HK B h).length:=List.length_map ..
 have l3:(MS.map D.str).length=36:=by rw[List.length_map,nB]
 unfold tW wS
 rw[List.map_cons,List.map_append]
 unfold HK at l2 el ⊢
 simp -implicitDefEqProofs (disch:=omega) only[E1,Nat.reduceBEq,Nat.reduceSub,Nat.reduceAdd,reduceIte,an,ef,tH,sl,l1,l2,l3]
theorem tK (ws:List Str)(x7:Option D):Hk cl (.cmp .ne (.v 6) (.lst [])) (wS a0 a1 a2 a3 A B ws x7)=.ok (!ws.isEmpty):=by
 unfold wS
 cases ws with
 | nil=>rfl
 | cons h ws=>rfl
theorem lQ:∀ (L GS:List Str) (x7:Option D) (f:Nat),(∃ x∈L,x∉A)->(∀ x∈L,x.length<=1000)->L.length<=f->L.length+GS.length+40*L.length<=5000->
  ∃ x∈L,x∉A/\bI (Hk cl (.cmp .ne (.v 6) (.lst []))) (aG cl tW) f (wS a0 a1 a2 a3 A B (L++GS) x7)=.ok (.rt (.str x))
 | [],GS,x7,f,⟨x,h,_⟩,_,_,_=>by simp at h
 | h::L,GS,x7,0,_,_,hf,_=>by simp at hf
 | h::L,GS,x7,f+1,hx,hl,hf,hz=>by
  rw[List.length_cons] at hf hz
  have ht:=tK cl a0 a1 a2 a3 A B (h::L++GS) x7
  have st:bI (Hk cl (.cmp .ne (.v 6) (.lst []))) (aG cl tW) (f+1) (wS a0 a1 a2 a3 A B (h::L++GS) x7)=U (aG cl tW (wS a0 a1 a2 a3 A B (h::(L++GS)) x7)) fun
    | .nx EW=>bI (Hk cl (.cmp .ne (.v 6) (.lst []))) (aG cl tW) f EW
    | .ct EW=>bI (Hk cl (.cmp .ne (.v 6) (.lst []))) (aG cl tW) f EW
    | .bk EW=>.ok (.nx EW)
    | .rt d=>.ok (.rt d):=by
   show U (Hk cl _ _) _=_
   rw[ht]
   rfl
  cases q:A.any (· == h) with
  | false=>
   refine⟨h,List.mem_cons_self,yn q,?_⟩
   rw[st,DZ cl a0 a1 a2 a3 A B (L++GS) x7 q]
   rfl
  | true=>
   have FT:∃ x∈L,x∉A:=by
    obtain⟨x,h1,h2⟩:=hx
    rcases List.mem_cons.mp h1 with rfl|h1
    ·exact absurd (yo q) h2
    ·exact⟨x,h1,h2⟩
   have el:=jk B h
   obtain⟨x,h1,h2,h3⟩:=lQ L (GS++HK B h) (some (.str h)) f FT (fun y hy=>hl y (List.mem_cons_of_mem _ hy)) (by omega) (by rw[List.length_append];omega)
   refine⟨x,List.mem_cons_of_mem _ h1,h2,?_⟩
   rw[st,tJ cl a0 a1 a2 a3 A B (hl h List.mem_cons_self) (L++GS) (by rw[List.length_append];omega) x7 q]
   rw[List.append_assoc]
   exact h3
end
def K7 (A B:List Str)(b t:Str):Prop:=t∉A/\(t=b∨∃ c∈sg.cps.toList,t=b++one c/\t∉B)
theorem w_all (cl:Nat->List D->Res D)(a0 a1 a2 a3:Option D){A B:List Str}(G1:A.length+B.length<=30){b:Str}(hb:b.length<=900) :
  ∃ t,K7 A B b t/\bI (Hk cl (.cmp .ne (.v 6) (.lst []))) (aG cl tW) jP (wS a0 a1 a2 a3 A B [b] none)=.ok (.rt (.str t)):=by
 by_cases hA:b∈A
 ·have w1:=vM G1 b
  have st:bI (Hk cl (.cmp .ne (.v 6) (.lst []))) (aG cl tW) (999999+1) (wS a0 a1 a2 a3 A B [b] none)=bI (Hk cl (.cmp .ne (.v 6) (.lst []))) (aG cl tW) 999999 (wS a0 a1 a2 a3 A B ([]++HK B b) (some (.str b))):=by
   show U (Hk cl _ _) _=_
   rw[tK]
   show U (aG cl tW _) _=_
   rw[tJ cl a0 a1 a2 a3 A B (by omega) [] (by simp) none (tG hA)]
   rfl
  have el:=jk B b
  obtain⟨t,h1,h2,h3⟩:=lQ cl a0 a1 a2 a3 A B (HK B b) [] (some (.str b)) 999999 w1 (fun x hx=>by
   obtain⟨c,_,rfl,_⟩:=jl.mp hx
   rw[cz,cO]
   omega) (by omega) (by simp only[List.length_nil];omega)
  obtain⟨c,k1,k2,k3⟩:=jl.mp h1
  refine⟨t,⟨h2,.inr ⟨c,k1,k2,k3⟩⟩,st.trans ?_⟩
  rw[List.nil_append]
  rw[List.append_nil] at h3
  exact h3
 ·obtain⟨t,h1,h2,h3⟩:=lQ cl a0 a1 a2 a3 A B [b] [] none jP ⟨b,List.mem_singleton.mpr rfl,hA⟩ (fun x hx=>by rw[List.mem_singleton.mp hx];omega) (by show 1<=1000000;decide) (by show 1+0+40*1<=5000;decide)
  rw[List.mem_singleton] at h1
  subst h1
  exact⟨t,⟨h2,.inl rfl⟩,h3⟩
theorem lR (n:Nat){gs:List Gp}{rs:List Ru}{sw:D}(H:Hd gs rs sw)(o:Ok (lk gs rs))(mk:Str){A B:List Str}(eA:N' mk (lk gs rs)=A)(eB:Oa mk (lk gs rs)=B)(G1:A.length+B.length<=30){b:Str}(hb:b.length<=900) :
  ∃ t,K7 A B b t/\ae T (n+5) 25 [.lst false (gs.map Gp.d),sw,.str mk,.str b]=.ok (.str t):=by
 have e1:=sO n H o mk
 have e2:=sP n H o mk
 rw[eA] at e1
 rw[eB] at e2
 obtain⟨t,h1,h2⟩:=w_all (ae T (n+4)) (some (.lst false (gs.map Gp.d))) (some sw) (some (.str mk)) (some (.str b)) G1 hb
 refine⟨t,h1,?_⟩
 have ge:=cX gs
 have se:=H.er
 unfold wS tW at h2
 rw[List.map_cons,List.map_nil] at h2
 rw[Ev.go (show T 25=some MK from rfl) (show MK.np=4 from rfl) (show MK.G.N.length=8 from rfl) (show MK.body=QG from rfl) rfl];unfold QG
 simp -implicitDefEqProofs (disch:=omega) only[E1,Nat.reduceBEq,Nat.reduceSub,Nat.reduceAdd,reduceIte,e1,e2,ge,se,h2]
theorem k1:(Str.ofString "text" == Str.ofString "none")=false:=by decide +kernel
theorem k2:(Str.ofString "begins" == Str.ofString "none")=false:=by decide +kernel
theorem k3:(Str.ofString "begins" == Str.ofString "text")=false:=by decide +kernel
theorem k4:(Str.ofString "numbers" == Str.ofString "none")=false:=by decide +kernel
theorem k5:(Str.ofString "numbers" == Str.ofString "text")=false:=by decide +kernel
theorem k6:(Str.ofString "numbers" == Str.ofString "begins")=false:=by decide +kernel
theorem k7:(Str.ofString "none" == Str.ofString "text")=false:=by decide +kernel
theorem k8:(Str.ofString "text" == Str.ofString "begins")=false:=by decide +kernel
theorem k9:(Str.ofString "none" == Str.ofString "begins")=false:=by decide +kernel
noncomputable def oI:Option Int->D
 | none=>.EZ
 | some i=>.int i
noncomputable def nv:Option Int->Option Int->Int
 | some i,_=>i
 | none,some j=>j
 | none,none=>0
section
variable (n:Nat)(G S mk:D)
theorem Te {a:D}:F9 [a] 0=some a:=rfl
theorem MT {a b:D}:F9 [a,b] 0=some a:=rfl
theorem Oh {a b:D}:F9 [a,b] 1=some b:=rfl
theorem K8 {a b c:D}:F9 [a,b,c] 0=some a:=rfl
theorem Mg {a b c:D}:F9 [a,b,c] 1=some b:=rfl
theorem Mh {a b c:D}:F9 [a,b,c] 2=some c:=rfl
theorem vN:ae T (n+1) 26 [G,S,mk,.tup [.str "none"]]=.ok .EZ:=by
 rw[Ev.go (show T 26=some Gz from rfl) (show Gz.np=4 from rfl) (show Gz.G.N.length=4 from rfl) (show Gz.body=Je from rfl) rfl];unfold Je
 simp -implicitDefEqProofs (disch:=omega) only[E1,Nat.reduceBEq,Nat.reduceSub,Nat.reduceAdd,reduceIte,Te]
theorem vO (x:Str):ae T (n+1) 26 [G,S,mk,az "text" x]=.ok (.str x):=by
 unfold az
 rw[Ev.go (show T 26=some Gz from rfl) (show Gz.np=4 from rfl) (show Gz.G.N.length=4 from rfl) (show Gz.body=Je from rfl) rfl];unfold Je
 simp -implicitDefEqProofs (disch:=omega) only[E1,Nat.reduceBEq,Nat.reduceSub,Nat.reduceAdd,reduceIte,MT,Oh,k1]
theorem AR {b t:Str}(hG:er G=G)(hS:er S=S)(hm:er mk=mk)(e:ae T n 25 [G,S,mk,.str b]=.ok (.str t)):ae T (n+1) 26 [G,S,mk,az "begins" b]=.ok (.str t):=by
 unfold az
 rw[Ev.go (show T 26=some Gz from rfl) (show Gz.np=4 from rfl) (show Gz.G.N.length=4 from rfl) (show Gz.body=Je from rfl) rfl];unfold Je
 simp -implicitDefEqProofs (disch:=omega) only[E1,Nat.reduceBEq,Nat.reduceSub,Nat.reduceAdd,reduceIte,MT,Oh,k2,k3,hG,hS,hm,e]
theorem AS (lo hi:Option Int):ae T (n+1) 26 [G,S,mk,bS (oI lo) (oI hi)]=.ok (.int (nv lo hi)):=by
 unfold bS
 cases lo with
 | some i=>
  have e:oI (some i)=.int i:=rfl
  rw[e]
  have ev:nv (some i) hi=i:=rfl
  rw[ev]
  rw[Ev.go (show T 26=some Gz from rfl) (show Gz.np=4 from rfl) (show Gz.G.N.length=4 from rfl) (show Gz.body=Je from rfl) rfl];unfold Je
  simp -implicitDefEqProofs (disch:=omega) only[E1,Nat.reduceBEq,Nat.reduceSub,Nat.reduceAdd,reduceIte,K8,Mg,Mh,k4,k5,k6]
 | none=>
  cases hi with
  | some j=>
   show ae T (n+1) 26 [G,S,mk,.tup [.str "numbers",.EZ,.int j]]=.ok (.int j)
   rw[Ev.go (show T 26=some Gz from rfl) (show Gz.np=4 from rfl) (show Gz.G.N.length=4 from rfl) (show Gz.body=Je from rfl) rfl];unfold Je
   simp -implicitDefEqProofs (disch:=omega) only[E1,Nat.reduceBEq,Nat.reduceSub,Nat.reduceAdd,reduceIte,K8,Mg,Mh,k4,k5,k6]
  | none=>
   show ae T (n+1) 26 [G,S,mk,.tup [.str "numbers",.EZ,.EZ]]=.ok (.int 0)
   rw[Ev.go (show T 26=some Gz from rfl) (show Gz.np=4 from rfl) (show Gz.G.N.length=4 from rfl) (show Gz.body=Je from rfl) rfl];unfold Je
   simp -implicitDefEqProofs (disch:=omega) only[E1,Nat.reduceBEq,Nat.reduceSub,Nat.reduceAdd,reduceIte,K8,Mg,Mh,k4,k5,k6]
end
theorem tP:∀ (C:List Int) (Kw:Option Int),C.Pairwise (· < ·)->(∀ i,Kw=some i->∀ c∈C,i < c)->∀ e∈List.zipWith bS (oI Kw::C.map .int) ((C.map (· - 1)).map .int++[.EZ]),
  ∃ lo hi,e=bS (oI lo) (oI hi)/\(∀ i,lo=some i->Kw=some i∨i∈C)/\(∀ j,hi=some j->j+1∈C)/\∀ i j,lo=some i->hi=some j->i<=j
 | [],Kw,_,_,e,he=>by
  have Hf:e∈[bS (oI Kw) .EZ]:=he
  rw[List.mem_singleton.mp Hf]
  exact⟨Kw,none,rfl,fun i h=>.inl h,fun j h=>(by cases h),fun i j _ h=>(by cases h)⟩
 | c::C,Kw,hp,hl,e,he=>by
  rw[List.pairwise_cons] at hp
  have Hf:e∈bS (oI Kw) (.int (c - 1))::List.zipWith bS (oI (some c)::C.map .int) ((C.map (· - 1)).map .int++[.EZ]):=he
  rcases List.mem_cons.mp Hf with rfl|Hf
  ·exact⟨Kw,some (c - 1),rfl,fun i h=>.inl h,fun j h=>(by cases h;rw[show c - 1+1=c by omega];exact List.mem_cons_self),fun i j h k=>by
    cases k
    have:=hl i h c List.mem_cons_self
    omega⟩
  ·obtain⟨lo,hi,h1,h2,h3,h4⟩:=tP C (some c) hp.2 (fun i h x hx=>by cases h;exact hp.1 x hx) e Hf
   refine⟨lo,hi,h1,fun i h=>.inr ?_,fun j h=>List.mem_cons_of_mem _ (h3 j h),h4⟩
   rcases h2 i h with k|k
   ·cases k;exact List.mem_cons_self
   ·exact List.mem_cons_of_mem _ k
theorem jm {C:List Int}(up:C.Pairwise (· < ·)){e:D}(he:e∈nums C):∃ lo hi,e=bS (oI lo) (oI hi)/\(∀ i,lo=some i->i∈C)/\(∀ j,hi=some j->j+1∈C)/\∀ i j,lo=some i->hi=some j->i<=j:=by
 obtain⟨lo,hi,h1,h2,h3,h4⟩:=tP C none up (fun i h=>by cases h) e he
 exact⟨lo,hi,h1,fun i h=>(h2 i h).resolve_left (by simp),h3,h4⟩
theorem fy {d:D}{ys:List D}{q:Bool}(h:Fh d ys=.ok q):∀ {xs:List D}{p:Bool},Fh d xs=.ok p->Fh d (xs++ys)=.ok (p||q)
 | [],p,k=>by cases k;exact h
 | x::xs,p,k=>by
  have k':U (FC 40 x d) (fun a=>U (Fh d xs) fun b=>.ok (a||b))=.ok p:=k
  show U (FC 40 x d) (fun a=>U (Fh d (xs++ys)) fun b=>.ok (a||b))=_
  obtain⟨a,h1,k'⟩:=bE k'
  obtain⟨b,h2,k'⟩:=bE k'
  cases k'
  rw[h1,fy h h2]
  show Except.ok (a||(b||q))=_
  rw[Bool.or_assoc]
theorem jn {d:D}:∀ {xs:List D},(∀ x∈xs,FC 40 x d=.ok false)->Fh d xs=.ok false
 | [],_=>rfl
 | x::xs,h=>by
  show U (FC 40 x d) _=_
  rw[h x List.mem_cons_self]
  show U (Fh d xs) _=_
  rw[jn fun y hy=>h y (List.mem_cons_of_mem _ hy)]
  rfl
theorem tR (t:Str):∀ A:List Str,Fh (.tup [.str "text",.str t]) (A.map (az "text"))=.ok (A.any (· == t))
 | []=>rfl
 | x::A=>by
  have e:FC 40 (az "text" x) (.tup [.str "text",.str t])=.ok (x == t):=by
   show Except.ok ((Str.ofString "text" == Str.ofString "text")&&((x == t)&&true))=_
   rw[Bool.and_true,beq_self_eq_true,Bool.true_and]
  show U (FC 40 (az "text" x) _) _=_
  rw[e]
  show U (Fh _ (A.map (az "text"))) _=_
  rw[tR t A]
  rfl
theorem iF {A B:List Str}{C:List Int}(up:C.Pairwise (· < ·))(t:Str):Fh (.tup [.str "text",.str t]) (aP A B C)=.ok (A.any (· == t)):=by
 unfold aP
 have h1:Fh (.tup [.str "text",.str t]) [D.tup [.str "none"]]=.ok false:=jn fun x hx=>by
  rw[List.mem_singleton.mp hx]
  show Except.ok ((Str.ofString "none" == Str.ofString "text")&&false)=_
  rw[k7]
  rfl
 have h3:Fh (.tup [.str "text",.str t]) (B.map (az "begins"))=.ok false:=jn fun x hx=>by
  obtain⟨y,_,rfl⟩:=List.mem_map.mp hx
  show Except.ok ((Str.ofString "begins" == Str.ofString "text")&&((y == t)&&true))=_
  rw[k3]
  rfl
 have h4:Fh (.tup [.str "text",.str t]) (nums C)=.ok false:=jn fun x hx=>by
  obtain⟨lo,hi,rfl,_⟩:=jm up hx
  cases lo<;>cases hi<;>(show Except.ok ((Str.ofString "numbers" == Str.ofString "text")&&(false&&false))=_;rw[k5];rfl)
 have:=fy h4 (fy h3 (fy (tR t A) h1))
 rw[Bool.false_or,Bool.or_false,Bool.or_false] at this
 exact this
theorem kA {g:D->Res (Option D)}{ys vs:List D}(h:ax g ys=.ok vs):∀ {xs us:List D},ax g xs=.ok us->ax g (xs++ys)=.ok (us++vs)
 | [],us,k=>by cases k;exact h
 | x::xs,us,k=>by
  have k':U (g x) _=.ok us:=k
  obtain⟨y,h1,k'⟩:=bE k'
  cases y with
  | some z=>
   obtain⟨r,h2,k'⟩:=bE k'
   cases k'
   exact bz h1 (kA h h2)
  | none=>exact cM h1 (kA h k')
theorem vP {g:D->Res (Option D)}:∀ {xs:List D},(∀ x∈xs,g x=.ok none)->ax g xs=.ok []
 | [],_=>rfl
 | x::xs,h=>cM (h x List.mem_cons_self) (vP fun y hy=>h y (List.mem_cons_of_mem _ hy))
noncomputable def Mi (t:Str)(B:List Str):List Int:=(B.filter fun b=>Txt.startswith t b).map fun b=>(b.length:Int)
section
variable (cl:Nat->List D->Res D)(t:Str)
theorem yq:∀ B:List Str,(∀ b∈B,b.length<=1000)->ax (aC cl (.nm 1) [(.E8 (.cmp .eq (.idx (.v 1) (.c (.int 0))) (.c (.str "begins"))) (.HV .starts (.v 0) [(.idx (.v 1) (.c (.int 1)))]))] (.bi .len [(.idx (.v 1) (.c (.int 1)))]) [some (.str t),none]) (B.map (az "begins"))=.ok ((Mi t B).map .int)
 | [],_=>rfl
 | b::B,h=>by
  have ih:=yq B fun z hz=>h z (List.mem_cons_of_mem _ hz)
  have hb:=h b List.mem_cons_self
  unfold Mi at ih ⊢
  rw[List.map_cons,List.filter_cons]
  unfold az at ih ⊢
  cases q:Txt.startswith t b with
  | true=>
   rw[if_pos rfl,List.map_cons,List.map_cons]
   refine bz ?_ ih
   simp -implicitDefEqProofs (disch:=omega) only[E1,Nat.reduceBEq,Nat.reduceSub,Nat.reduceAdd,reduceIte,Ev.ag,q,MT,Oh]
  | false=>
   rw[if_neg (by simp)]
   refine cM ?_ ih
   simp -implicitDefEqProofs (disch:=omega) only[E1,Nat.reduceBEq,Nat.reduceSub,Nat.reduceAdd,reduceIte,Ev.ag,q,MT,Oh]
theorem vQ {A B:List Str}{C:List Int}(up:C.Pairwise (· < ·))(hb:∀ b∈B,b.length<=1000):ax (aC cl (.nm 1) [(.E8 (.cmp .eq (.idx (.v 1) (.c (.int 0))) (.c (.str "begins"))) (.HV .starts (.v 0) [(.idx (.v 1) (.c (.int 1)))]))] (.bi .len [(.idx (.v 1) (.c (.int 1)))]) [some (.str t),none]) (aP A B C)=.ok ((Mi t B).map .int):=by
 unfold aP
 have h1:=vP (g:=aC cl (.nm 1) [(.E8 (.cmp .eq (.idx (.v 1) (.c (.int 0))) (.c (.str "begins"))) (.HV .starts (.v 0) [(.idx (.v 1) (.c (.int 1)))]))] (.bi .len [(.idx (.v 1) (.c (.int 1)))]) [some (.str t),none]) (xs:=[D.tup [.str "none"]]) fun x hx=>by
  rw[List.mem_singleton.mp hx]
  simp -implicitDefEqProofs (disch:=omega) only[E1,Nat.reduceBEq,Nat.reduceSub,Nat.reduceAdd,reduceIte,Ev.ag,Te,k9]
 have h2:=vP (g:=aC cl (.nm 1) [(.E8 (.cmp .eq (.idx (.v 1) (.c (.int 0))) (.c (.str "begins"))) (.HV .starts (.v 0) [(.idx (.v 1) (.c (.int 1)))]))] (.bi .len [(.idx (.v 1) (.c (.int 1)))]) [some (.str t),none]) (xs:=A.map (az "text")) fun x hx=>by
  obtain⟨y,_,rfl⟩:=List.mem_map.mp hx
  unfold az
  simp -implicitDefEqProofs (disch:=omega) only[E1,Nat.reduceBEq,Nat.reduceSub,Nat.reduceAdd,reduceIte,Ev.ag,MT,k8]
 have h4:=vP (g:=aC cl (.nm 1) [(.E8 (.cmp .eq (.idx (.v 1) (.c (.int 0))) (.c (.str "begins"))) (.HV .starts (.v 0) [(.idx (.v 1) (.c (.int 1)))]))] (.bi .len [(.idx (.v 1) (.c (.int 1)))]) [some (.str t),none]) (xs:=nums C) fun x hx=>by
  obtain⟨lo,hi,rfl,_⟩:=jm up hx
  unfold bS
  simp -implicitDefEqProofs (disch:=omega) only[E1,Nat.reduceBEq,Nat.reduceSub,Nat.reduceAdd,reduceIte,Ev.ag,K8,k6]
 have:=kA h4 (kA (yq cl t B hb) (kA h2 h1))
 rw[List.append_nil,List.append_nil,List.nil_append] at this
 exact this
end
theorem dw (x:Str):x.cps.toList.length=x.length:=by simp[Str.length]
theorem lT {x y:Str}:Txt.startswith x y=true↔x.cps.toList.take y.length=y.cps.toList:=by
 have key:Builtin.Str.subAt x y 0=(x.cps.toList.take y.length == y.cps.toList):=by rw[StrLaws.subAt_eq,List.drop_zero]
 show (decide (0+y.length<=x.length)&&Builtin.Str.subAt x y 0)=true↔_
 rw[key,Bool.and_eq_true,beq_iff_eq]
 constructor
 ·exact fun h=>h.2
 ·intro h
  refine⟨decide_eq_true ?_,h⟩
  have:=congrArg List.length h
  rw[List.length_take,dw,dw] at this
  omega
theorem nE {x y:Str}(h:x.cps.toList=y.cps.toList):x=y:=by
 cases x;cases y
 congr
 exact Array.toList_inj.mp h
theorem D0 (b:Str)(c:Nat):(b++one c).cps.toList=b.cps.toList++[c]:=by
 rw[nC,Array.toList_push]
theorem tS {A B:List Str}{b t:Str}(h:K7 A B b t):Txt.startswith t b=true:=by
 rw[lT]
 rcases h.2 with rfl|⟨c,_,rfl,_⟩
 ·rw[<- dw,List.take_length]
 ·rw[D0,<- dw,List.take_left]
theorem vR {A B:List Str}{b t:Str}(h:K7 A B b t){b':Str}(hb:b'∈B)(hs:Txt.startswith t b'=true):b'.length<=b.length:=by
 rw[lT] at hs
 have hl:=congrArg List.length hs
 rw[List.length_take,dw,dw] at hl
 rcases h.2 with rfl|⟨c,_,rfl,hn⟩
 ·omega
 ·rw[cz,cO] at hl
  rcases Nat.lt_or_ge b'.length (b.length+1) with k|k
  ·omega
  ·have e:b'.length=b.length+1:=by omega
   exfalso
   refine hn ?_
   have:b++one c=b':=nE (by
    rw[<- hs,e,List.take_of_length_le]
    rw[dw,cz,cO]
    exact Nat.le_refl _)
   rw[this]
   exact hb
theorem AU {A B:List Str}{b t:Str}(h:K7 A B b t):Txt.slice t none (some (b.length:Int))=b:=by
 rw[dg,Ev.gu _ (by omega),Int.toNat_natCast]
 refine nE ?_
 rw[List.toList_toArray]
 exact lT.mp (tS h)
theorem tU {A B:List Str}{b t:Str}(h:K7 A B b t)(hb:b.length<=8/\Sx b):t.length<=12/\Sx t:=by
 rcases h.2 with rfl|⟨c,hc,rfl,hn⟩
 ·exact⟨by omega,hb.2⟩
 ·refine⟨by rw[cz,cO];omega,hb.2.app fun d hd=>?_⟩
  have:d=c:=by simpa[one] using hd
  rw[this]
  exact hc
theorem vS {A B:List Str}{b t:Str}(h:K7 A B b t)(hb:b∈B):∃ n ns,Mi t B=n::ns/\cV n ns=(b.length:Int):=by
 have h1:(b.length:Int)∈Mi t B:=List.mem_map.mpr ⟨b,List.mem_filter.mpr ⟨hb,tS h⟩,rfl⟩
 have h2:∀ m∈Mi t B,m<=(b.length:Int):=fun m hm=>by
  obtain⟨b',k,rfl⟩:=List.mem_map.mp hm
  rw[List.mem_filter] at k
  have:=vR h k.1 k.2
  omega
 cases q:Mi t B with
 | nil=>rw[q] at h1;simp at h1
 | cons n ns=>
  rw[q] at h1 h2
  obtain⟨m1,m2,m3⟩:=iU ns n
  refine⟨n,ns,rfl,Int.le_antisymm (h2 _ m3) ?_⟩
  rcases List.mem_cons.mp h1 with e|h1
  ·rw[e];exact m1
  ·exact m2 _ h1
section
variable (n:Nat){A B:List Str}{C:List Int}
theorem oG (c:Cl A B C){t:Str}(ht:t∈A):ae T (n+1) 41 [.lst false (aP A B C),az "text" t,.str t]=.ok (.bl true):=by
 have an:=iF (A:=A) (B:=B) c.up t
 rw[tG ht] at an
 generalize aP A B C=cs at *
 unfold az
 rw[Ev.go (show T 41=some GA from rfl) (show GA.np=3 from rfl) (show GA.G.N.length=4 from rfl) (show GA.body=Jf from rfl) rfl];unfold Jf
 simp -implicitDefEqProofs (disch:=omega) only[E1,Nat.reduceBEq,Nat.reduceSub,Nat.reduceAdd,reduceIte,an]
theorem tV (c:Cl A B C){b t:Str}(h:K7 A B b t)(hb:b∈B):ae T (n+1) 41 [.lst false (aP A B C),az "begins" b,.str t]=.ok (.bl true):=by
 have an:=iF (A:=A) (B:=B) c.up t
 rw[tF h.1] at an
 have fs:=vQ (ae T n) t (A:=A) c.up fun b hb=>Nat.le_trans (c.b b hb).1 (by decide)
 obtain⟨m,ms,e1,e2⟩:=vS h hb
 rw[e1,List.map_cons] at fs
 have bx:∀ o:Bool,cR .HG [.lst o (.int m::ms.map .int)]=.ok (.int (b.length:Int)):=fun o=>by
  rw[Ev.i6 (n:=m) (ns:=ms) (by rw[<- List.map_cons];exact sM (m::ms)),e2]
 have sl:=AU h
 have tl:=(tU h (c.b b hb)).1
 have ll:(aP A B C).length<=200:=by
  have h1:=c.G1
  have h2:=c.lc
  unfold aP
  rw[List.length_append,List.length_append,List.length_append,List.length_map,List.length_map,kn,List.length_singleton]
  omega
 generalize aP A B C=cs at *
 unfold az
 rw[Ev.go (show T 41=some GA from rfl) (show GA.np=3 from rfl) (show GA.G.N.length=4 from rfl) (show GA.body=Jf from rfl) rfl];unfold Jf
 simp -implicitDefEqProofs (disch:=omega) only[E1,Nat.reduceBEq,Nat.reduceSub,Nat.reduceAdd,reduceIte,an,fs,bx,sl,ll]
theorem tX (c:Cl A B C){lo hi:Option Int}(h:∀ i j,lo=some i->hi=some j->i<=j):ae T (n+1) 41 [.lst false (aP A B C),bS (oI lo) (oI hi),.int (nv lo hi)]=.ok (.bl true):=by
 generalize aP A B C=cs at *
 unfold bS
 cases lo with
 | some i=>
  cases hi with
  | some j=>
   have hd:decide (i<=j)=true:=decide_eq_true (h i j rfl rfl)
   have hi:decide (i<=i)=true:=decide_eq_true (Int.le_refl _)
   show ae T (n+1) 41 [.lst false cs,.tup [.str "numbers",.int i,.int j],.int i]=_
   rw[Ev.go (show T 41=some GA from rfl) (show GA.np=3 from rfl) (show GA.G.N.length=4 from rfl) (show GA.body=Jf from rfl) rfl];unfold Jf
   simp -implicitDefEqProofs (disch:=omega) only[E1,Nat.reduceBEq,Nat.reduceSub,Nat.reduceAdd,reduceIte,K8,Mg,Mh,hd,hi]
  | none=>
   have hi:decide (i<=i)=true:=decide_eq_true (Int.le_refl _)
   show ae T (n+1) 41 [.lst false cs,.tup [.str "numbers",.int i,.EZ],.int i]=_
   rw[Ev.go (show T 41=some GA from rfl) (show GA.np=3 from rfl) (show GA.G.N.length=4 from rfl) (show GA.body=Jf from rfl) rfl];unfold Jf
   simp -implicitDefEqProofs (disch:=omega) only[E1,Nat.reduceBEq,Nat.reduceSub,Nat.reduceAdd,reduceIte,K8,Mg,Mh,hi]
 | none=>
  cases hi with
  | some j=>
   have hi:decide (j<=j)=true:=decide_eq_true (Int.le_refl _)
   show ae T (n+1) 41 [.lst false cs,.tup [.str "numbers",.EZ,.int j],.int j]=_
   rw[Ev.go (show T 41=some GA from rfl) (show GA.np=3 from rfl) (show GA.G.N.length=4 from rfl) (show GA.body=Jf from rfl) rfl];unfold Jf
   simp -implicitDefEqProofs (disch:=omega) only[E1,Nat.reduceBEq,Nat.reduceSub,Nat.reduceAdd,reduceIte,K8,Mg,Mh,hi]
  | none=>
   show ae T (n+1) 41 [.lst false cs,.tup [.str "numbers",.EZ,.EZ],.int 0]=_
   rw[Ev.go (show T 41=some GA from rfl) (show GA.np=3 from rfl) (show GA.G.N.length=4 from rfl) (show GA.body=Jf from rfl) rfl];unfold Jf
   simp -implicitDefEqProofs (disch:=omega) only[E1,Nat.reduceBEq,Nat.reduceSub,Nat.reduceAdd,reduceIte,K8,Mg,Mh]
end
theorem D3:∀ c∈sg.cps.toList,l8 "abcdefghijklmnopqrstuvwxyz0123456789" (one c)=true:=by decide +kernel
theorem yr (cl:Nat->List D->Res D):∀ cs:List Nat,(∀ c∈cs,c∈sg.cps.toList)->ax (aC cl (.nm 1) [] (.cmp .Hy (.v 1) (.v 0)) [some (.str "abcdefghijklmnopqrstuvwxyz0123456789"),none]) ((cs.map one).map .str)=.ok (List.replicate cs.length (.bl true))
 | [],_=>rfl
 | c::cs,h=>by
  have ih:=yr cl cs fun z hz=>h z (List.mem_cons_of_mem _ hz)
  have hc:=D3 c (h c List.mem_cons_self)
  rw[List.map_cons,List.map_cons,List.length_cons,List.replicate_succ]
  refine bz ?_ ih
  simp -implicitDefEqProofs (disch:=omega) only[E1,Nat.reduceBEq,Nat.reduceSub,Nat.reduceAdd,reduceIte,Ev.ag,hc]
section
variable (n:Nat)(cs:List D)
theorem good_none:ae T (n+1) 43 [.lst false cs,.tup [.str "none"],.EZ]=.ok (.bl true):=by
 rw[Ev.go (show T 43=some IP from rfl) (show IP.np=3 from rfl) (show IP.G.N.length=4 from rfl) (show IP.body=L8 from rfl) rfl];unfold L8
 simp -implicitDefEqProofs (disch:=omega) only[E1,Nat.reduceBEq,Nat.reduceSub,Nat.reduceAdd,reduceIte]
theorem good_str {k x t:Str}(hk:(k == Str.ofString "none")=false) (ht:t.length<=12) (hx:Sx t) (HP:E0 cs=cs) (e:ae T n 41 [.lst false cs,az k x,.str t]=.ok (.bl true)):ae T (n+1) 43 [.lst false cs,az k x,.str t]=.ok (.bl true):=by
 have f:=yr (ae T n) t.cps.toList hx
 have hc:bD t=(t.cps.toList.map one).map .str:=Ev.dE t
 have ha:=all_true true t.cps.toList.length
 have hl:(((t.cps.toList.map one).map D.str).length)=t.length:=by rw[List.length_map,List.length_map,dw]
 have hd:decide ((12:Int) < (t.length:Int))=false:=decide_eq_false (by omega)
 unfold az at e ⊢
 rw[Ev.go (show T 43=some IP from rfl) (show IP.np=3 from rfl) (show IP.G.N.length=4 from rfl) (show IP.body=L8 from rfl) rfl];unfold L8
 simp -implicitDefEqProofs (disch:=omega) only[E1,Nat.reduceBEq,Nat.reduceSub,Nat.reduceAdd,reduceIte,hk,hc,f,ha,hl,hd,e,HP]
theorem tY {lo hi:Option Int}{v:Int}(h0 : -1000000000<=v)(h1:v<=1000000000)(HP:E0 cs=cs)(e:ae T n 41 [.lst false cs,bS (oI lo) (oI hi),.int v]=.ok (.bl true)):ae T (n+1) 43 [.lst false cs,bS (oI lo) (oI hi),.int v]=.ok (.bl true):=by
 have hp:GW .pow (.int 10) (.int 9)=.ok (.int 1000000000):=by kernel_rfl
 have h2:decide ((1000000000:Int) < v)=false:=decide_eq_false (by omega)
 have h3:decide (v < 0 - 1000000000)=false:=decide_eq_false (by omega)
 have IQ:er (bS (oI lo) (oI hi))=bS (oI lo) (oI hi):=by cases lo<;>cases hi<;>rfl
 have eq:FC 40 (bS (oI lo) (oI hi)) (.tup [.str "none"])=.ok false:=by
  cases lo<;>cases hi<;>(show Except.ok ((Str.ofString "numbers" == Str.ofString "none")&&false)=_;rw[k4];rfl)
 generalize bS (oI lo) (oI hi)=ce at *
 rw[Ev.go (show T 43=some IP from rfl) (show IP.np=3 from rfl) (show IP.G.N.length=4 from rfl) (show IP.body=L8 from rfl) rfl];unfold L8
 simp -implicitDefEqProofs (disch:=omega) only[E1,Nat.reduceBEq,Nat.reduceSub,Nat.reduceAdd,reduceIte,hp,h2,h3,IQ,eq,e,HP]
end
theorem EM {A B:List Str}{C:List Int}(c:Cl A B C){lo hi:Option Int}(h1:∀ i,lo=some i->i∈C)(h2:∀ j,hi=some j->j+1∈C) : -1000000000<=nv lo hi/\nv lo hi<=1000000000:=by
 cases lo with
 | some i=>
  have:=c.c i (h1 i rfl)
  show -1000000000<=i/\i<=1000000000
  omega
 | none=>
  cases hi with
  | some j=>
   have:=c.c (j+1) (h2 j rfl)
   show -1000000000<=j/\j<=1000000000
   omega
  | none=>decide
theorem vT (n m:Nat){gs:List Gp}{rs:List Ru}{sw:D}(H:Hd gs rs sw)(o:Ok (lk gs rs))(mk:Str){A B:List Str}{C:List Int}(eA:N' mk (lk gs rs)=A)(eB:Oa mk (lk gs rs)=B)(c:Cl A B C){e:D}(he:e∈aP A B C) :
  ∃ f,ae T (n+6) 26 [.lst false (gs.map Gp.d),sw,.str mk,e]=.ok f/\er f=f/\er e=e/\ae T (m+2) 43 [.lst false (aP A B C),e,f]=.ok (.bl true):=by
 have hG:er (.lst false (gs.map Gp.d))=.lst false (gs.map Gp.d):=by
  show D.lst false (E0 (gs.map Gp.d))=_
  rw[cX]
 have HP:E0 (aP A B C)=aP A B C:=aK (gA A B C)
 have Hf:=he
 unfold aP at Hf
 rw[List.mem_append,List.mem_append,List.mem_append] at Hf
 rcases Hf with ((Hf|Hf)|Hf)|Hf
 ·rw[List.mem_singleton.mp Hf]
  exact⟨.EZ,vN _ _ _ _,rfl,rfl,good_none _ _⟩
 ·obtain⟨x,hx,rfl⟩:=List.mem_map.mp Hf
  have FT:=c.a x hx
  exact⟨.str x,vO _ _ _ _ x,rfl,rfl,good_str _ _ k1 (by omega) FT.2 HP (oG _ c hx)⟩
 ·obtain⟨b,hb,rfl⟩:=List.mem_map.mp Hf
  have Iy:=c.b b hb
  obtain⟨t,h1,h2⟩:=lR n H o mk eA eB c.G1 (b:=b) (by omega)
  have hs:=tU h1 Iy
  exact⟨.str t,AR _ _ _ _ hG H.er rfl h2,rfl,rfl,good_str _ _ k2 hs.1 hs.2 HP (tV _ c h1 hb)⟩
 ·obtain⟨lo,hi,rfl,h1,h2,h3⟩:=jm c.up Hf
  have hb:=EM c h1 h2
  exact⟨.int (nv lo hi),AS _ _ _ _ lo hi,rfl,by cases lo<;>cases hi<;>rfl,tY _ _ hb.1 hb.2 HP (tX _ c h3)⟩
noncomputable def tI:List IS:=[(.Fg (.F3 (.call 43 [(.v 8),(.v 9),(.call 26 [(.idx (.v 6) (.c (.int 0))),(.idx (.v 6) (.c (.int 1))),(.v 7),(.v 9)])])) [(.ret (.c (.bl false)))] [])]
noncomputable def tO:List IS:=[(.asg (.nm 8) (.call 38 [(.v 5),(.v 7)])),(.Fp (.nm 9) (.val (.v 8)) tI)]
section
variable (a0 a1 a2 a3 a4 a5:Option D){g s G S:D}(mk:Str)
theorem tZ (hg:er g=G)(hs:er s=S){cs:List D}(HP:E0 cs=cs)(ok:∀ e∈cs,∃ f,ae T 14 26 [G,S,.str mk,e]=.ok f/\er f=f/\er e=e/\ae T 14 43 [.lst false cs,e,f]=.ok (.bl true))(o:Bool) :
  ∀ (es:List D) (a9:Option D),(∀ e∈es,e∈cs)->∃ b9,forM (Ev.turn (ae T 14) (.nm 9) tI) es [a0,a1,a2,a3,a4,a5,some (.tup [g,s]),some (.str mk),some (.lst o cs),a9]=.ok (.nx [a0,a1,a2,a3,a4,a5,some (.tup [g,s]),some (.str mk),some (.lst o cs),b9])
 | [],a9,_=>⟨a9,rfl⟩
 | e::es,a9,h=>by
  obtain⟨f,e1,hf,VY,e2⟩:=ok e (h e List.mem_cons_self)
  obtain⟨b9,e3⟩:=tZ hg hs HP ok o es (some e) fun x hx=>h x (List.mem_cons_of_mem _ hx)
  have e4:Ev.turn (ae T 14) (.nm 9) tI e [a0,a1,a2,a3,a4,a5,some (.tup [g,s]),some (.str mk),some (.lst o cs),a9]=.ok (.nx [a0,a1,a2,a3,a4,a5,some (.tup [g,s]),some (.str mk),some (.lst o cs),some e]):=by
   unfold tI
   simp -implicitDefEqProofs (disch:=omega) only[E1,Nat.reduceBEq,Nat.reduceSub,Nat.reduceAdd,reduceIte,Ev.ag,MT,Oh,hg,hs,HP,hf,VY,e1,e2]
  exact⟨b9,by rw[Ev.aW,e4,Ev.bc,Ev.bf,e3]⟩
end
def Gx (x:Str):Prop:=x.length<=8/\Sx x
theorem D4 (cl:Nat->List D->Res D){h:Str}(hl:h.length<=7)(hx:Sx h):∀ cs:List Nat,(∀ c∈cs,c∈sg.cps.toList)->∃ sm:List Str,ax (aC cl (.nm 1) [] (.bin .add (.v 0) (.v 1)) [some (.str h),none]) ((cs.map one).map .str)=.ok (sm.map .str)/\sm.length=cs.length/\∀ x∈sm,Gx x
 | [],_=>⟨[],rfl,rfl,fun x hx=>by simp at hx⟩
 | c::cs,hc=>by
  obtain⟨sm,e,l,g⟩:=D4 cl hl hx cs fun z hz=>hc z (List.mem_cons_of_mem _ hz)
  have ol:=cO c
  refine⟨(h++one c)::sm,?_,by rw[List.length_cons,List.length_cons,l],fun x FT=>?_⟩
  ·rw[List.map_cons,List.map_cons,List.map_cons]
   refine bz ?_ e
   simp -implicitDefEqProofs (disch:=omega) only[E1,Nat.reduceBEq,Nat.reduceSub,Nat.reduceAdd,reduceIte,Ev.ag,ol]
  ·rcases List.mem_cons.mp FT with rfl|FT
   ·exact⟨by rw[cz,cO];omega,hx.app fun d hd=>by
     have:d=c:=by simpa[one] using hd
     rw[this];exact hc c List.mem_cons_self⟩
   ·exact g x FT
theorem D5 (cl:Nat->List D->Res D):∀ xs:List Str,ax (aC cl (.nm 0) [(.cmp .ne (.v 0) (.c (.str "")))] (.v 0) [none]) (xs.map .str)=.ok ((xs.filter fun x=>!(x == Str.ofString "")).map .str)
 | []=>rfl
 | x::xs=>by
  have ih:=D5 cl xs
  rw[List.map_cons,List.filter_cons]
  cases q:(x == Str.ofString "") with
  | true=>
   rw[if_neg (by simp)]
   refine cM ?_ ih
   simp -implicitDefEqProofs (disch:=omega) only[E1,Nat.reduceBEq,Nat.reduceSub,Nat.reduceAdd,reduceIte,Ev.ag,q]
  | false=>
   rw[if_pos (by simp),List.map_cons]
   refine bz ?_ ih
   simp -implicitDefEqProofs (disch:=omega) only[E1,Nat.reduceBEq,Nat.reduceSub,Nat.reduceAdd,reduceIte,Ev.ag,q]
theorem t4 {α:Type}{xs:List α}{lo hi:Option Int}{x:α}(h:x∈bp xs lo hi):x∈xs:=List.mem_of_mem_drop (List.mem_of_mem_take h)
theorem t5 {α:Type}(xs:List α)(lo hi:Option Int):(bp xs lo hi).length<=xs.length:=by
 unfold bp
 rw[List.length_take,List.length_drop]
 omega
theorem EN (cl:Nat->List D->Res D)(mk:Str)(bs:List Str):ax (aC cl (.nm 0) [(.cmp .ne (.idx (.v 0) (.c (.int 2))) (.lst []))] (.v 0) [none]) [.tup [.str mk,.str "begins",.lst true (bs.map .str)]]=.ok (if bs=[] then [] else [.tup [.str mk,.str "begins",.lst true (bs.map .str)]]):=by
 cases bs with
 | nil=>
  rw[if_pos rfl]
  refine cM ?_ rfl
  rfl
 | cons b bs=>
  rw[if_neg (by simp)]
  refine bz ?_ rfl
  rfl
noncomputable def Kx (xs:List Str):List Tn:=xs.map Tn.s
theorem D6 (xs:List Str):(Kx xs).map Tn.d=xs.map .str:=by
 unfold Kx
 rw[List.map_map]
 rfl
noncomputable def JK (mk:Str)(bs is:List Str):List Cn:=(if bs=[] then [] else [⟨mk,Str.ofString "begins",Kx bs⟩])++[⟨mk,Str.ofString "is",Kx is⟩]
theorem D7 (st:Str)(hx:Sx st)(lo hi:Option Int):∀ c∈(Txt.slice st lo hi).cps.toList,c∈sg.cps.toList:=hx.slice lo hi
noncomputable def Oi:List IS:=[(.asg (.nm 7) (.call 27 [(.v 0),(.c (.int 623)),(.c (.int 9))])),(.asg (.nm 8) (.lst [(.tup [(.v 1),(.c (.str "begins")),(.comp {N:=["_law_thing_here"],kd:=[.local],gl:=[],df:=false} [] (.nm 0) (.val (.bin .add (.sl (.v 6) none (some (.v 7))) (.lst [(.v 5)]))) [(.cmp .ne (.v 0) (.c (.str "")))] (.v 0))])])),(.asg (.nm 8) (.bin .add (.comp {N:=["_law_cond"],kd:=[.local],gl:=[],df:=false} [] (.nm 0) (.val (.v 8)) [(.cmp .ne (.idx (.v 0) (.c (.int 2))) (.lst []))] (.v 0)) (.lst [(.tup [(.v 1),(.c (.str "is")),(.bin .add (.sl (.sl (.v 6) (some (.v 7)) (some (.c (.int 15)))) none (some (.c (.int 9)))) (.lst [(.v 5)]))])]))),(.ret (.tup [(.lst []),(.tup [(.c (.str "salt")),(.c (.str "off")),(.lst [(.tup [(.v 8),(.tup [(.c (.str "face")),(.c (.str "on"))])])]),(.tup [(.lst []),(.lst [(.tup [(.c (.int 0)),(.c (.int 10007))])])])])]))]
noncomputable def Q0:List IS:=[(.asg (.nm 3) (.c (.str "abcdefghijklmnopqrstuvwxyz0123456789"))),(.asg (.nm 4) (.call 27 [(.v 0),(.c (.int 620)),(.c (.int 22))])),(.asg (.nm 5) (.sl (.v 2) none (some (.call 27 [(.v 0),(.c (.int 621)),(.c (.int 8))])))),(.asg (.nm 6) (.comp {N:=["_law_short","_law_sign"],kd:=[.cell,.local],gl:=[],df:=false} [5] (.nm 1) (.val (.sl (.v 3) (some (.v 4)) (some (.bin .add (.v 4) (.c (.int 15)))))) [] (.bin .add (.v 0) (.v 1)))),(.Fg (.cmp .eq (.call 27 [(.v 0),(.c (.int 622)),(.c (.int 2))]) (.c (.int 0))) [(.asg (.nm 6) (.Gu (.v 6)))] [])]
theorem t6:O0=Q0++Oi:=rfl
theorem t7 (n:Nat)(ns:List Int)(mk:Str){st:Str}(hs:st.length<=100)(hx:Sx st) :
  ∃ bs is:List Str,ae T (n+2) 42 [.lst false (ns.map .int),.str mk,.str st]=.ok (.tup [.lst true [],.tup [.str "salt",.str "off",.lst true [.tup [.lst true ((JK mk bs is).map Cn.d),.tup [.str "face",.str "on"]]],.tup [.lst true [],.lst true [.tup [.int 0,.int 10007]]]]])/\
   (∀ x∈bs,Gx x)/\(∀ x∈is,Gx x)/\bs.length<=9/\is.length<=10:=by
 have d1:=aH n ns 620 22 (by decide) (by decide) (by decide)
 have d2:=aH n ns 621 8 (by decide) (by decide) (by decide)
 have d3:=aH n ns 622 2 (by decide) (by decide) (by decide)
 have d4:=aH n ns 623 9 (by decide) (by decide) (by decide)
 have b2:=bZ ns 621 (m:=8) (by decide)
 have c2:=cA ns 621 (m:=8) (by decide)
 have b4:=bZ ns 623 (m:=9) (by decide)
 have c4:=cA ns 623 (m:=9) (by decide)
 have hl:=cN st b2
 have Mc:=hx.slice none (some (dr ns 621 8))
 generalize OC:Txt.slice st none (some (dr ns 621 8))=sh at *
 have hz:=D7 sg (fun c hc=>hc) (some (dr ns 620 22)) (some (dr ns 620 22+15))
 obtain⟨z,O8⟩:∃ z,Txt.slice (Str.ofString "abcdefghijklmnopqrstuvwxyz0123456789") (some (dr ns 620 22)) (some (dr ns 620 22+15))=z:=⟨_,rfl⟩
 have VZ:=cG (Str.ofString "abcdefghijklmnopqrstuvwxyz0123456789") (some (dr ns 620 22)) (some (dr ns 620 22+15))
 rw[O8,eO] at VZ
 unfold sg at hz
 rw[O8] at hz
 obtain⟨sm,es,ls,Oj⟩:=D4 (ae T (n+1)) (by omega) Mc z.cps.toList hz
 have hc:bD z=(z.cps.toList.map one).map .str:=Ev.dE z
 have lz:((z.cps.toList.map one).map D.str).length=z.length:=by rw[List.length_map,List.length_map,dw]
 have sl:=eO
 have key:∀ (o:Bool) (sm:List Str),sm.length<=36->(∀ x∈sm,Gx x)->∃ bs is:List Str,aG (ae T (n+1)) Oi [some (.lst false (ns.map .int)),some (.str mk),some (.str st),some (.str "abcdefghijklmnopqrstuvwxyz0123456789"),some (.int (dr ns 620 22)),some (.str sh),some (.lst o (sm.map .str)),none,none]=.ok (.rt (.tup [.lst true [],.tup [.str "salt",.str "off",.lst true [.tup [.lst true ((JK mk bs is).map Cn.d),.tup [.str "face",.str "on"]]],.tup [.lst true [],.lst true [.tup [.int 0,.int 10007]]]]]))/\
   (∀ x∈bs,Gx x)/\(∀ x∈is,Gx x)/\bs.length<=9/\is.length<=10:=by
  intro o sm Wr Oj
  generalize dr ns 623 9=ct at *
  have e1:bp (sm.map D.str) none (some ct)=(sm.take ct.toNat).map .str:=by rw[Ev.gr,Ev.gu _ b4]
  have e2:bp (sm.map D.str) (some ct) (some 15)=(bp sm (some ct) (some 15)).map .str:=Ev.gr ..
  have e3:bp ((bp sm (some ct) (some 15)).map D.str) none (some 9)=((bp sm (some ct) (some 15)).take 9).map .str:=by rw[Ev.gr,Ev.gu _ (by decide)];rfl
  have f1:=D5 (ae T (n+1)) (sm.take ct.toNat++[sh])
  rw[List.map_append,List.map_cons,List.map_nil] at f1
  have f2:=EN (ae T (n+1)) mk ((sm.take ct.toNat++[sh]).filter fun x=>!(x == Str.ofString ""))
  have m1:∀ x∈(sm.take ct.toNat++[sh]).filter (fun x=>!(x == Str.ofString "")),Gx x:=fun x hx=>by
   have hx:=(List.mem_filter.mp hx).1
   rcases List.mem_append.mp hx with hx|hx
   ·exact Oj x (List.mem_of_mem_take hx)
   ·rw[List.mem_singleton.mp hx];exact⟨by omega,Mc⟩
  have m2:∀ x∈(bp sm (some ct) (some 15)).take 9++[sh],Gx x:=fun x hx=>by
   rcases List.mem_append.mp hx with hx|hx
   ·exact Oj x (t4 (List.mem_of_mem_take hx))
   ·rw[List.mem_singleton.mp hx];exact⟨by omega,Mc⟩
  have l1:((sm.take ct.toNat++[sh]).filter (fun x=>!(x == Str.ofString ""))).length<=9:=by
   refine Nat.le_trans (List.length_filter_le ..) ?_
   rw[List.length_append,List.length_take,List.length_singleton]
   omega
  have l2:((bp sm (some ct) (some 15)).take 9++[sh]).length<=10:=by
   rw[List.length_append,List.length_take,List.length_singleton]
   omega
  refine⟨_,_,?_,m1,m2,l1,l2⟩
  have g1:(sm.map D.str).length=sm.length:=List.length_map ..
  have g2:((sm.take ct.toNat).map D.str).length<=36:=by rw[List.length_map,List.length_take];omega
  have g3:=t5 sm (some ct) (some 15)
  have g4:((bp sm (some ct) (some 15)).map D.str).length<=36:=by rw[List.length_map];omega
  have g5:(((bp sm (some ct) (some 15)).take 9).map D.str).length<=36:=by rw[List.length_map,List.length_take];omega
  generalize (sm.take ct.toNat++[sh]).filter (fun x=>!(x == Str.ofString ""))=bs at *
  generalize sm.take ct.toNat=s1 at *
  generalize (bp sm (some ct) (some 15)).take 9=s2 at *
  have Gg:=Ev.i7 bs
  have Ms:=Ev.i7 (s2++[sh])
  rw[List.map_append,List.map_cons,List.map_nil] at Ms
  have cd:∀ (m w:Str) (xs:List Str),Cn.d ⟨m,w,Kx xs⟩=.tup [.str m,.str w,.lst false (xs.map .str)]:=fun m w xs=>by
   unfold Cn.d
   rw[D6]
  unfold Oi JK
  by_cases hb:bs=[]
  ·rw[if_pos hb] at f2 ⊢
   rw[List.nil_append,List.map_cons,List.map_nil,cd,List.map_append,List.map_cons,List.map_nil]
   simp -implicitDefEqProofs (disch:=omega) only[E1,Nat.reduceBEq,Nat.reduceSub,Nat.reduceAdd,reduceIte,List.length_append,d4,e1,e2,e3,f1,f2,g1,g2,g4,g5,Gg,Ms]
  ·rw[if_neg hb] at f2 ⊢
   rw[List.cons_append,List.nil_append,List.map_cons,List.map_cons,List.map_nil,cd,cd,List.map_append,List.map_cons,List.map_nil]
   simp -implicitDefEqProofs (disch:=omega) only[E1,Nat.reduceBEq,Nat.reduceSub,Nat.reduceAdd,reduceIte,List.length_append,d4,e1,e2,e3,f1,f2,g1,g2,g4,g5,Gg,Ms]
 have g6:(sm.map D.str).length=sm.length:=List.length_map ..
 rw[dw] at ls
 cases q:(dr ns 622 2 == 0) with
 | false=>
  obtain⟨bs,is,e,h1,h2,h3,h4⟩:=key true sm (by omega) Oj
  refine⟨bs,is,?_,h1,h2,h3,h4⟩
  rw[Ev.go (show T 42=some JX from rfl) (show JX.np=3 from rfl) (show JX.G.N.length=9 from rfl) (show JX.body=O0 from rfl) rfl,t6]
  unfold Q0
  generalize Oi=TL at e ⊢
  simp -implicitDefEqProofs (disch:=omega) only[E1,Nat.reduceBEq,Nat.reduceSub,Nat.reduceAdd,reduceIte,d1,d2,d3,q,OC,O8,hc,es,lz,sl,e]
 | true=>
  have er:(sm.map D.str).reverse=(sm.reverse).map .str:=List.map_reverse.symm
  obtain⟨bs,is,e,h1,h2,h3,h4⟩:=key false sm.reverse (by rw[List.length_reverse];omega) fun x hx=>Oj x (List.mem_reverse.mp hx)
  refine⟨bs,is,?_,h1,h2,h3,h4⟩
  rw[Ev.go (show T 42=some JX from rfl) (show JX.np=3 from rfl) (show JX.G.N.length=9 from rfl) (show JX.body=O0 from rfl) rfl,t6]
  unfold Q0
  generalize Oi=TL at e ⊢
  simp -implicitDefEqProofs (disch:=omega) only[E1,Nat.reduceBEq,Nat.reduceSub,Nat.reduceAdd,reduceIte,d1,d2,d3,q,OC,O8,hc,es,lz,sl,er,e,show aE (.Gu (.v 6))=false from rfl,show vars (.Gu (.v 6))=[6] from rfl]
structure Ol (g s:D)(gs:List Gp)(rs:List Ru)(sw:D):Prop where
 eg:er g=.lst false (gs.map Gp.d)
 es:er s=sw
 lg:ao g=false
 ls:ao s=false
 H:Hd gs rs sw
 o:Ok (lk gs rs)
 gc:∀ c∈lk gs rs,Gc c
 pG:pl 8 (.lst false (gs.map Gp.d))=true
 pS:pl 8 sw=true
 G1:((Fu gs (au rs)).flatMap Cn.ts).length<=20
 ll:(Fu gs (au rs)).length<=1000
theorem vU:∀ rows:List (List Cn),E0 (rows.map aB)=rows.map aB:=fun rows=>by
 rw[aF,List.map_map]
 exact List.map_congr_left fun r _=>by
  show D.lst false (E0 (r.map Cn.d))=_
  rw[bY]
  rfl
theorem t9 (n:Nat)(ns:List Int)(m0 m1:Str){st:Str}(hs:st.length<=100)(JZ:Sx st)(c:Int)(hc:Cb c):∃ g s gs rs sw,ae T (n+6) 36 [.lst false (ns.map .int),.lst false [.str m0,.str m1],.str st,.int c]=.ok (.tup [g,s])/\Ol g s gs rs sw:=by
 obtain⟨mt,Fj,c0,c1,rows,cs,Fv,Fw,e4,Hg,g0,g1,r1,⟨r2,r4⟩,r3,l,r,x,HP,Tf,Q2,JN⟩:=vJ n ns m0 m1 hs JZ c hc
 have w:Dw c0 c1 rows cs l r x:=⟨g0,g1,r1,r2,r3,HP,Tf,Q2,JN⟩
 have o:=DQ w mt Fj Fv Fw Hg
 have P6:cs.length<=5:=by
  rw[HP,List.length_append,List.length_append]
  rw[List.length_append] at Tf
  have:x.toList.length<=1:=by cases x<;>simp
  omega
 have H:=hd2 mt Fj rows Fv Fw (by rw[Hg];omega) r2
 have hL:=vK w mt Fj
 have pG:pl 8 (.lst false ((HN mt Fj rows).map Gp.d))=true:=DT (fun c hc=>by
  rcases r1 c hc with rfl|rfl
  ·have:=g0.2;omega
  ·have:=g1.2;omega) (by omega) (by omega)
 have pS:pl 8 (Mf Fv Fw)=true:=DU (fun c hc=>by
  rw[Hg,HP] at hc
  rcases List.mem_append.mp hc with hc|hc
  ·rcases List.mem_append.mp hc with hc|hc
   ·have:=(Q2 c (List.mem_append_left _ hc)).2;omega
   ·rw[(JN c (by cases x with|none=>simp at hc|some y=>simp at hc;rw[hc])).2];simp
  ·have:=(Q2 c (List.mem_append_right _ hc)).2;omega) (by rw[Hg];omega)
 have eA:er (.lst true [.tup [.str mt,.lst false (rows.map aB)],.tup [.str Fj,.lst true []]])=.lst false ((HN mt Fj rows).map Gp.d):=by
  show D.lst false [D.tup [.str mt,.lst false (E0 (rows.map aB))],.tup [.str Fj,.lst false []]]=_
  rw[vU]
  rfl
 have eB:er (.tup [.str "salt",.str "off",.lst true [.tup [.lst true (Fv.map Cn.d),.tup [.str "face",.str "on"]],.tup [.lst true (Fw.map Cn.d),.tup [.str "lot"]]],cY])=Mf Fv Fw:=by
  show D.tup [.str "salt",.str "off",.lst false [.tup [.lst false (E0 (Fv.map Cn.d)),.tup [.str "face",.str "on"]],.tup [.lst false (E0 (Fw.map Cn.d)),.tup [.str "lot"]]],er cY]=_
  rw[bY,bY]
  rfl
 exact⟨_,_,HN mt Fj rows,Kv Fv Fw,Mf Fv Fw,e4,eA,eB,rfl,rfl,H,o,nu w mt Fj Fv Fw Hg,pG,pS,by rw[all2,Hg];exact hL.2,by rw[all2,Hg];omega⟩
theorem D8 (mk:Str)(ts:List Tn):io ⟨mk,Str.ofString "begins",ts⟩=false:=by
 have h:(Str.ofString "in" == Str.ofString "begins"||Str.ofString "out" == Str.ofString "begins")=false:=by decide +kernel
 exact h
theorem D9 (mk:Str)(ts:List Tn):io ⟨mk,Str.ofString "is",ts⟩=false:=by
 have h:(Str.ofString "in" == Str.ofString "is"||Str.ofString "out" == Str.ofString "is")=false:=by decide +kernel
 exact h
theorem yt {xs:List Str}:∀ t∈Kx xs,∃ x,t=.s x:=fun t ht=>by
 obtain⟨x,_,rfl⟩:=List.mem_map.mp ht
 exact⟨x,rfl⟩
theorem yu {xs:List Str}(h:∀ x∈xs,Gx x):∀ t∈Kx xs,Tg t:=fun t ht=>by
 obtain⟨x,hx,rfl⟩:=List.mem_map.mp ht
 exact h x hx
theorem Ea (mk:Str){bs is:List Str}(h1:∀ x∈bs,Gx x)(h2:∀ x∈is,Gx x):∀ c∈JK mk bs is,Gc c:=by
 intro c hc
 unfold JK at hc
 rcases List.mem_append.mp hc with hc|hc
 ·split at hc
  ·simp at hc
  ·rw[List.mem_singleton.mp hc]
   exact⟨D8 _ _,fun _=>yt,fun z=>absurd z n3.symm,fun z=>absurd z n4.symm,.inr .be,yu h1⟩
 ·rw[List.mem_singleton.mp hc]
  exact⟨D9 _ _,fun _=>yt,fun z=>absurd z n8,fun z=>absurd z n5,.inr .is,yu h2⟩
theorem jo:∀ cs:List Cn,(∀ c∈cs,io c=false)->Fu [] cs=cs
 | [],_=>rfl
 | c::cs,h=>by
  show HW [] c++Fu [] cs=_
  rw[jo cs fun d hd=>h d (List.mem_cons_of_mem _ hd)]
  unfold HW
  rw[h c List.mem_cons_self,if_neg Bool.false_ne_true]
  rfl
noncomputable def K9 (cs:List Cn):List Ru:=[⟨cs,.tup [.str "face",.str "on"]⟩]
noncomputable def Om (cs:List Cn):D:=.tup [.str "salt",.str "off",.lst false ((K9 cs).map Ru.d),.tup [.lst false [],.lst false [.tup [.int 0,.int 10007]]]]
theorem vV (cs:List Cn):au (K9 cs)=cs:=by
 show cs++[]=_
 rw[List.append_nil]
theorem oH (n:Nat)(ns:List Int)(mk:Str){st:Str}(hs:st.length<=100)(hx:Sx st):∃ g s gs rs sw,ae T (n+2) 42 [.lst false (ns.map .int),.str mk,.str st]=.ok (.tup [g,s])/\Ol g s gs rs sw:=by
 obtain⟨bs,is,e,h1,h2,h3,h4⟩:=t7 n ns mk hs hx
 have gc:=Ea mk h1 h2
 have fl:(JK mk bs is).length<=2/\((JK mk bs is).flatMap Cn.ts).length<=19:=by
  unfold JK
  have l1:(Kx bs).length=bs.length:=List.length_map ..
  have l2:(Kx is).length=is.length:=List.length_map ..
  split
  ·simp[l2];omega
  ·simp[l1,l2];omega
 have Q3:∀ c∈JK mk bs is,io c=false:=fun c hc=>(gc c hc).io
 have V0:∀ c∈JK mk bs is,c.ts.length < 1000:=fun c hc=>by
  have:=List.Sublist.length_le (List.sublist_flatten_of_mem (List.mem_map_of_mem (f:=Cn.ts) hc))
  rw[<- List.flatMap_def] at this
  omega
 generalize JK mk bs is=cs at *
 have Th:lk [] (K9 cs)=cs:=by
  unfold lk
  rw[vV]
  show cs.filter _++[]=_
  rw[List.append_nil]
  exact List.filter_eq_self.mpr fun c hc=>by rw[Q3 c hc];rfl
 have ro:∀ r∈K9 cs,er r.o=r.o:=fun r hr=>by
  rw[List.mem_singleton.mp hr];rfl
 have H:Hd [] (K9 cs) (Om cs):={
  ix:=rfl
  er:=by
   have h:=jc ro
   unfold Om
   show D.tup [.str "salt",.str "off",.lst false (E0 ((K9 cs).map Ru.d)),_]=_
   rw[h]
   rfl
  ro:=ro
  l1:=by rw[vV];omega
  l2:=by show List.length []<=100;simp}
 have pS:pl 8 (Om cs)=true:=by
  have h1:pl 5 (aB cs)=true:=jj 1 V0 (by omega)
  have h3:pl 6 (D.tup [aB cs,.tup [.str "face",.str "on"]])=true:=cZ (by rw[Fo,Fo,Fo,h1];rfl) (by simp)
  have h5:pl 7 (.lst false [D.tup [aB cs,.tup [.str "face",.str "on"]]])=true:=eQ (by rw[Fo,Fo,h3];rfl) (by simp)
  unfold Om
  refine cZ (n:=7) ?_ (by simp)
  show Fo 7 [.str "salt",.str "off",.lst false [D.tup [aB cs,.tup [.str "face",.str "on"]]],.tup [.lst false [],.lst false [.tup [.int 0,.int 10007]]]]=true
  rw[Fo,Fo,Fo,Fo,Fo,h5]
  rfl
 have o:Ok (lk [] (K9 cs)):=by
  rw[Th]
  exact⟨fun c hc=>(gc c hc).be,fun c hc=>(gc c hc).le,fun c hc=>(gc c hc).mo,by omega,by omega⟩
 refine⟨_,_,[],K9 cs,Om cs,e,rfl,?_,rfl,rfl,H,o,by rw[Th];exact gc,rfl,pS,?_,?_⟩
 ·show D.tup [.str "salt",.str "off",.lst false [.tup [.lst false (E0 (cs.map Cn.d)),.tup [.str "face",.str "on"]]],.tup [.lst false [],.lst false [.tup [.int 0,.int 10007]]]]=_
  rw[bY]
  rfl
 ·rw[vV,jo cs Q3];omega
 ·rw[vV,jo cs Q3];omega
theorem EO {d G S:D}(h:er d=.tup [G,S]):∃ g s,d=.tup [g,s]/\er g=G/\er s=S:=by
 cases d with
 | tup ds=>
  have h':D.tup (E0 ds)=.tup [G,S]:=h
  injection h' with h'
  match ds,h' with
  | [a,b],h'=>
   injection h' with h1 h2
   injection h2 with h2 _
   exact⟨a,b,rfl,h1,h2⟩
 | _=>cases h
theorem vW {g0 s0:D}{gs:List Gp}{rs:List Ru}{sw:D}(w:Ol g0 s0 gs rs sw)(mk:Str) :
  ae T 14 38 [.lst false ((Fu gs (au rs)).map Cn.d),.str mk]=.ok (.lst true (cL mk (Fu gs (au rs))))/\af (cL mk (Fu gs (au rs)))=true/\
  ∀ e∈cL mk (Fu gs (au rs)),∃ f,ae T 14 26 [.lst false (gs.map Gp.d),sw,.str mk,e]=.ok f/\er f=f/\er e=e/\ae T 14 43 [.lst false (cL mk (Fu gs (au rs))),e,f]=.ok (.bl true):=by
 have hm:=AB gs rs
 have hg:∀ c∈Fu gs (au rs),Gc c:=fun c hc=>w.gc c ((hm c).mpr hc)
 have G1:=w.G1
 have eA:=DK mk hm w.o fun c hc=>(w.gc c hc).wk
 have eB:=DL mk hm w.o fun c hc=>(w.gc c hc).wk
 have c:=DX mk (fun c hc=>(hg c hc).tg) G1
 have h1:=tw mk (Fu gs (au rs))
 have h2:=tD mk (Fu gs (au rs))
 have h3:=lO mk (Fu gs (au rs))
 refine⟨oD 13 mk (fun c hc=>(hg c hc).be) (by omega) (by omega) (by omega) (by omega),gA _ _ _,fun e he=>?_⟩
 exact vT 8 12 w.H w.o mk eA eB c he
theorem ua {g0 s0:D}{gs:List Gp}{rs:List Ru}{sw:D}(w:Ol g0 s0 gs rs sw)(a0 a1 a2 a3 a4:Option D){g s:D}(hg:er g=.lst false (gs.map Gp.d))(hs:er s=sw) :
  ∀ (ms:List Str) (o:Bool) (a7 a8 a9:Option D),∃ o' b7 b8 b9,forM (Ev.turn (ae T 14) (.nm 7) tO) (ms.map .str) [a0,a1,a2,a3,a4,some (.lst o ((Fu gs (au rs)).map Cn.d)),some (.tup [g,s]),a7,a8,a9]=.ok (.nx [a0,a1,a2,a3,a4,some (.lst o' ((Fu gs (au rs)).map Cn.d)),some (.tup [g,s]),b7,b8,b9])
 | [],o,a7,a8,a9=>⟨o,a7,a8,a9,rfl⟩
 | m::ms,o,a7,a8,a9=>by
  obtain⟨e1,lf,ok⟩:=vW w m
  have HP:E0 (cL m (Fu gs (au rs)))=cL m (Fu gs (au rs)):=aK lf
  obtain⟨b9,e2⟩:=tZ a0 a1 a2 a3 a4 (some (.lst false ((Fu gs (au rs)).map Cn.d))) m hg hs HP ok false (cL m (Fu gs (au rs))) a9 fun e he=>he
  obtain⟨o',b7,b8,V1,e3⟩:=ua w a0 a1 a2 a3 a4 hg hs ms false (some (.str m)) (some (.lst false (cL m (Fu gs (au rs))))) b9
  refine⟨o',b7,b8,V1,?_⟩
  have ek:=bY (Fu gs (au rs))
  have e4:Ev.turn (ae T 14) (.nm 7) tO (.str m) [a0,a1,a2,a3,a4,some (.lst o ((Fu gs (au rs)).map Cn.d)),some (.tup [g,s]),a7,a8,a9]=.ok (.nx [a0,a1,a2,a3,a4,some (.lst false ((Fu gs (au rs)).map Cn.d)),some (.tup [g,s]),some (.str m),some (.lst false (cL m (Fu gs (au rs)))),b9]):=by
   generalize (Fu gs (au rs)).map Cn.d=K at *
   generalize cL m (Fu gs (au rs))=cs at *
   unfold tO
   simp -implicitDefEqProofs (disch:=omega) only[E1,Nat.reduceBEq,Nat.reduceSub,Nat.reduceAdd,reduceIte,Ev.ag,e1,e2,ek,lf,HP]
  rw[List.map_cons,Ev.aW,e4,Ev.bc,Ev.bf,e3]
noncomputable def tL:List IS:=[(.asg (.nm 5) (.call 37 [(.v 3),(.v 4)])),(.asg (.nm 6) (.call 40 [(.tup [(.v 3),(.v 4)])])),(.Fp (.nm 7) (.val (.v 1)) tO),(.ret (.call 39 [(.v 6),(.tup [(.v 3),(.v 4)])]))]
noncomputable def fL:List IS:=[(.asg (.nm 1) (.call 28 [(.v 0),(.c (.int 0)),(.c (.int 2))])),(.asg (.nm 2) (.call 29 [(.v 0),(.c (.int 130))])),(.asg (.tp [(.nm 3),(.nm 4)]) (.call 36 [(.v 0),(.v 1),(.v 2),(.call 31 [(.v 0),(.c (.int 145))])])),(.Fg (.cmp .eq (.call 27 [(.v 0),(.c (.int 619)),(.c (.int 4))]) (.c (.int 0))) [(.asg (.tp [(.nm 3),(.nm 4)]) (.call 42 [(.v 0),(.idx (.v 1) (.c (.int 0))),(.v 2)]))] [])]
theorem AV:QO=fL++tL:=rfl
theorem nG {g0 s0:D}{gs:List Gp}{rs:List Ru}{sw:D}(w:Ol g0 s0 gs rs sw)(a0 a2:Option D)(o:Bool)(m0 m1:Str):aG (ae T 14) tL [a0,some (.lst o [.str m0,.str m1]),a2,some g0,some s0,none,none,none,none,none]=.ok (.rt (.bl true)):=by
 have hG:=kh 8 _ w.pG
 have hS:=kh 8 _ w.pS
 have pp:pl 9 (.tup [.lst false (gs.map Gp.d),sw])=true:=cZ (by rw[Fo,Fo,Fo,w.pG,w.pS];rfl) (by simp)
 have e5:=lI 13 w.H w.ll
 obtain⟨d,e6,hd⟩:=copy 9 5 pp
 obtain⟨g,s,rfl,hg,LQ⟩:=EO hd
 have ef:=same 9 5 pp
 have eA:=w.eg
 have eB:=w.es
 have lA:=w.lg
 have lB:=w.ls
 have eK:=bY (Fu gs (au rs))
 obtain⟨o',b7,b8,b9,el⟩:=ua w a0 (some (.lst false [.str m0,.str m1])) a2 (some (.lst false (gs.map Gp.d))) (some sw) hg LQ [m0,m1] true none none none
 rw[List.map_cons,List.map_cons,List.map_nil,Ev.aW] at el
 generalize Fu gs (au rs)=LK at *
 generalize D.lst false (gs.map Gp.d)=G at *
 unfold tL
 generalize tO=TO at el ⊢
 simp -implicitDefEqProofs (disch:=omega) only[E1,Nat.reduceBEq,Nat.reduceSub,Nat.reduceAdd,reduceIte,e5,e6,ef,eA,eB,lA,lB,eK,hG,hS,hg,LQ,el,ite_self]
theorem holds (ns:List Int)(hn:ns.length<=63):ae T 15 vq [.lst false (ns.map .int)]=.ok (.bl true):=by
 obtain⟨xs,e1,hl⟩:=ti 12 ns (k:=0) (by decide) (by decide) (mn:=2) (by decide) (by decide)
 match xs,hl with
 | [m0,m1],_=>
 obtain⟨st,e2,hs,hx⟩:=vG 12 ns (k:=130) (by decide) (by decide)
 obtain⟨c,e3,hc⟩:=oE 12 ns (k:=145) (by decide) (by decide)
 obtain⟨g1,s1,Ws,Wt,Wu,e4,w1⟩:=t9 8 ns m0 m1 hs hx c hc
 obtain⟨g2,s2,V2,V3,V4,e5,w2⟩:=oH 12 ns m0 hs hx
 have d:=aH 13 ns 619 4 (by decide) (by decide) (by decide)
 have e0:=Ev.lj ns
 have Ti:=w1.lg
 have Tj:=w1.ls
 have V5:=w2.lg
 have V6:=w2.ls
 have xm:bt (.lst false [.str m0,.str m1]) (.int 0)=.ok (.str m0):=rfl
 rw[List.map_cons,List.map_cons,List.map_nil] at e1
 rw[Ev.go (show T vq=some L9 from rfl) (show L9.np=1 from rfl) (show L9.G.N.length=10 from rfl) (show L9.body=QO from rfl) rfl,AV]
 unfold fL
 cases q:(dr ns 619 4 == 0) with
 | false=>
  have r:=nG w1 (some (.lst false (ns.map .int))) (some (.str st)) false m0 m1
  generalize tL=TL at r ⊢
  generalize List.map D.int ns=NS at *
  simp -implicitDefEqProofs (disch:=omega) only[E1,Nat.reduceBEq,Nat.reduceSub,Nat.reduceAdd,reduceIte,e1,e2,e3,e4,d,q,e0,Ti,Tj,r]
 | true=>
  have r:=nG w2 (some (.lst false (ns.map .int))) (some (.str st)) false m0 m1
  generalize tL=TL at r ⊢
  generalize List.map D.int ns=NS at *
  simp -implicitDefEqProofs (disch:=omega) only[E1,Nat.reduceBEq,Nat.reduceSub,Nat.reduceAdd,reduceIte,e1,e2,e3,e4,e5,d,q,e0,Ti,Tj,V5,V6,xm,r]
end Law
namespace PySem.W.Fast
theorem tw11693338717451993226:True:=⟨⟩
theorem tw12749037585440609904:True:=⟨⟩
theorem tw1148598823828408843:True:=⟨⟩
theorem tw17150441636666852503:True:=⟨⟩
theorem tw5496602061506798322:True:=⟨⟩
theorem tw10247676359408092949:True:=⟨⟩
theorem tw5325089459049927550:True:=⟨⟩
theorem tw1461449593702446270:True:=⟨⟩
theorem tw16444146610776964420:True:=⟨⟩
theorem tw13394546089387263289:True:=⟨⟩
theorem tw8100834214246448166:True:=⟨⟩
theorem tw14178391549241945635:True:=⟨⟩
theorem tw5741796995268709692:True:=⟨⟩
theorem tw18423592291495299505:True:=⟨⟩
theorem tw11326921727590637058:True:=⟨⟩
theorem tw17611770476895760125:True:=⟨⟩
theorem tw4091192031527069426:True:=⟨⟩
theorem tw17522242776598043297:True:=⟨⟩
theorem tw1963014884570253939:True:=⟨⟩
theorem tw2153704471265869004:True:=⟨⟩
theorem tw8221713540971387808:True:=⟨⟩
theorem tw1218694784966660462:True:=⟨⟩
theorem tw6448286319258977611:True:=⟨⟩
theorem tw2926002821865848646:True:=⟨⟩
theorem tw6125320857292821085:True:=⟨⟩
theorem tw12190588930185043216:True:=⟨⟩
theorem tw18181154030014039663:True:=⟨⟩
theorem tw15146063977028104579:True:=⟨⟩
theorem tw9316323275876885409:True:=⟨⟩
theorem tw6219609696990753342:True:=⟨⟩
theorem tw9572494074619475241:True:=⟨⟩
theorem tw11117975399927112524:True:=⟨⟩
theorem tw11952959936038564350:True:=⟨⟩
theorem tw13202692045992873040:True:=⟨⟩
theorem tw1809567553745952234:True:=⟨⟩
theorem tw14823571320434598734:True:=⟨⟩
theorem tw4549774505474471931:True:=⟨⟩
theorem tw17517778068556082094:True:=⟨⟩
theorem tw14458492350685584944:True:=⟨⟩
theorem tw3755962765231117973:True:=⟨⟩
theorem tw12712709476690101259:True:=⟨⟩
theorem tw1182772389252285581:True:=⟨⟩
theorem tw1066181203678233060:True:=⟨⟩
theorem tw17723633296983539959:True:=⟨⟩
theorem tw7348638679084285669:True:=⟨⟩
theorem tw4731158755537777913:True:=⟨⟩
theorem tw9654212177073723853:True:=⟨⟩
theorem tw3892506127250932990:True:=⟨⟩
theorem tw8049297018282787086:True:=⟨⟩
theorem tw12525109555320052881:True:=⟨⟩
theorem tw17764021794404172688:True:=⟨⟩
theorem tw15143868148314816104:True:=⟨⟩
theorem tw5037129718182668611:True:=⟨⟩
theorem tw5907411687531511870:True:=⟨⟩
theorem tw2018735413260802911:True:=⟨⟩
theorem tw12014099731569181903:True:=⟨⟩
theorem tw10702327145627800820:True:=⟨⟩
theorem tw12373584793672119667:True:=⟨⟩
theorem tw13284300803940245665:True:=⟨⟩
theorem tw14952985016409890379:True:=⟨⟩
theorem tw17804181959959731561:True:=⟨⟩
theorem tw7808208491404084156:True:=⟨⟩
theorem tw6660254322619651325:True:=⟨⟩
theorem tw12736535321548635730:True:=⟨⟩
theorem tw16342293603733020500:True:=⟨⟩
theorem tw17691139195638340557:True:=⟨⟩
theorem tw15621489112636004294:True:=⟨⟩
theorem tw6148975146904106165:True:=⟨⟩
theorem tw12102917989644652279:True:=⟨⟩
theorem tw995065741343392919:True:=⟨⟩
theorem tw14966243581212538277:True:=⟨⟩
theorem tw10000347194044960701:True:=⟨⟩
theorem tw11568876447664639030:True:=⟨⟩
theorem tw13805278535738527917:True:=⟨⟩
theorem tw17594545724486464107:True:=⟨⟩
theorem tw3152389273134235522:True:=⟨⟩
theorem tw16142779242536049305:True:=⟨⟩
theorem tw11584045548824196035:True:=⟨⟩
theorem tw16518014570579781197:True:=⟨⟩
theorem tw994304636198983715:True:=⟨⟩
theorem tw12562188753025833636:True:=⟨⟩
theorem tw12780592209052306661:True:=⟨⟩
theorem tw8792054925506086382:True:=⟨⟩
theorem tw14385415023146521394:True:=⟨⟩
theorem tw7200473322803737133:True:=⟨⟩
theorem tw3050892414075154559:True:=⟨⟩
theorem tw11267865417435355673:True:=⟨⟩
theorem tw11836174790663399469:True:=⟨⟩
theorem tw11573800620042665217:True:=⟨⟩
theorem tw2155711323298684792:True:=⟨⟩
theorem tw11623881706557852536:True:=⟨⟩
theorem tw16841709653587108993:True:=⟨⟩
theorem tw288105249151767431:True:=⟨⟩
theorem tw15689380173764259509:True:=⟨⟩
theorem tw8441109705550612362:True:=⟨⟩
theorem tw4019638548623745703:True:=⟨⟩
theorem tw16956431103410295993:True:=⟨⟩
theorem tw15242130385391742115:True:=⟨⟩
theorem tw2104308424968475952:True:=⟨⟩
theorem tw5074373532860854373:True:=⟨⟩
theorem tw16426215344481020970:True:=⟨⟩
theorem tw11180065688647260342:True:=⟨⟩
theorem tw4370215978645339619:True:=⟨⟩
theorem tw17908083089855379468:True:=⟨⟩
theorem tw13523733269069681262:True:=⟨⟩
theorem tw1076267925926402850:True:=⟨⟩
theorem tw16500361275029322248:True:=⟨⟩
theorem tw6952747765142278232:True:=⟨⟩
theorem tw11359129507357167787:True:=⟨⟩
theorem tw7088671497661156776:True:=⟨⟩
theorem tw16115820614631995912:True:=⟨⟩
theorem tw7011774883896205860:True:=⟨⟩
theorem tw9922697853727418046:True:=⟨⟩
theorem tw3005164146329297576:True:=⟨⟩
theorem tw140635499822755674:True:=⟨⟩
theorem tw15875116510528157222:True:=⟨⟩
theorem tw15738242947059410449:True:=⟨⟩
theorem tw12491184423846138184:True:=⟨⟩
theorem tw2658377852978351142:True:=⟨⟩
theorem tw1557293175493939845:True:=⟨⟩
theorem tw5981407982128785525:True:=⟨⟩
theorem tw15761002297811335606:True:=⟨⟩
theorem tw11775241750303998813:True:=⟨⟩
theorem tw16023094786277279432:True:=⟨⟩
theorem tw5307078456186305284:True:=⟨⟩
theorem tw16827329647466866940:True:=⟨⟩
theorem tw4775781492639787403:True:=⟨⟩
theorem tw6883889830050829880:True:=⟨⟩
theorem tw6194484910442546692:True:=⟨⟩
theorem tw8805559728185743032:True:=⟨⟩
theorem tw2066847301902465745:True:=⟨⟩
theorem tw2838831557567983009:True:=⟨⟩
theorem tw1634864509995190553:True:=⟨⟩
theorem tw7277464093029431405:True:=⟨⟩
theorem tw8120104187349399740:True:=⟨⟩
theorem tw10719129839719629920:True:=⟨⟩
theorem tw14131377023804618350:True:=⟨⟩
theorem tw17563838379466995581:True:=⟨⟩
theorem tw8222155585817923:True:=⟨⟩
theorem tw3581808634427099284:True:=⟨⟩
theorem tw1278247080978385800:True:=⟨⟩
theorem tw16077413423676386101:True:=⟨⟩
theorem tw11694085448197498037:True:=⟨⟩
theorem tw2030051406353634200:True:=⟨⟩
theorem tw13945726711559266750:True:=⟨⟩
end PySem.W.Fast
open PySem PySem.W PyProof.Rows
set_option maxRecDepth 100000 in
set_option maxHeartbeats 0 in
theorem PySem.Challenge.cw_flagroll_k45_a_thing_in_a_cell_holds : PySem.Challenge.rw_flagroll_k45_a_thing_in_a_cell.Holds := by
  w_on; o_law; k_head; (case hw => w_witness2)
  k_fill
  refine L2.qD (l := PySem.Challenge.rw_flagroll_k45_a_thing_in_a_cell) (T := Law.T) (n := 14) (f := Law.vq) (x := Law.vt) rfl rfl ⟨fun _ => rfl, by decide, by decide⟩ (fun w h Y => PySem.W.kIn_of Y) ?F Law.holds
  case F =>
    intro w mg fa h KX G hmg
    refine' Law.all_mk KX G hmg (Law.dfo Law.c19 rfl (fun _ _ _ _ _ _ => Law.ln2 fun _ _ => rfl) KX G ?a19 ?l19 ?e19 ?k19) (Law.dfo Law.c20 rfl (fun _ _ _ _ _ _ => Law.ln2 fun _ _ => rfl) KX G ?a20 ?l20 ?e20 ?k20) (Law.dfo Law.c22 rfl (fun _ _ _ _ _ _ => Law.ln4 fun _ _ _ _ => rfl) KX G ?a22 ?l22 ?e22 ?k22) (Law.dfo Law.c23 rfl (fun _ _ _ _ _ _ => Law.ln3 fun _ _ _ => rfl) KX G ?a23 ?l23 ?e23 ?k23) (Law.dfo Law.c24 rfl (fun _ _ _ _ _ _ => Law.ln3 fun _ _ _ => rfl) KX G ?a24 ?l24 ?e24 ?k24) (Law.dfo Law.c25 rfl (fun _ _ _ _ _ _ => Law.ln4 fun _ _ _ _ => rfl) KX G ?a25 ?l25 ?e25 ?k25) (Law.dfo Law.c26 rfl (fun _ _ _ _ _ _ => Law.ln4 fun _ _ _ _ => rfl) KX G ?a26 ?l26 ?e26 ?k26) (Law.dfo Law.c27 rfl (fun _ _ _ _ _ _ => Law.ln3 fun _ _ _ => rfl) KX G ?a27 ?l27 ?e27 ?k27) (Law.dfo Law.c28 rfl (fun _ _ _ _ _ _ => Law.ln3 fun _ _ _ => rfl) KX G ?a28 ?l28 ?e28 ?k28) (Law.dfo Law.c29 rfl (fun _ _ _ _ _ _ => Law.ln2 fun _ _ => rfl) KX G ?a29 ?l29 ?e29 ?k29) (Law.dfo Law.c30 rfl (fun _ _ _ _ _ _ => Law.ln3 fun _ _ _ => rfl) KX G ?a30 ?l30 ?e30 ?k30) (Law.dfo Law.c31 rfl (fun _ _ _ _ _ _ => Law.ln2 fun _ _ => rfl) KX G ?a31 ?l31 ?e31 ?k31) (Law.dfo Law.c32 rfl (fun _ _ _ _ _ _ => Law.ln3 fun _ _ _ => rfl) KX G ?a32 ?l32 ?e32 ?k32) (Law.dfo Law.c33 rfl (fun _ _ _ _ _ _ => Law.ln4 fun _ _ _ _ => rfl) KX G ?a33 ?l33 ?e33 ?k33) (Law.dfo Law.c34 rfl (fun _ _ _ _ _ _ => Law.ln6 fun _ _ _ _ _ _ => rfl) KX G ?a34 ?l34 ?e34 ?k34) (Law.dfo Law.c35 rfl (fun _ _ _ _ _ _ => Law.ln7 fun _ _ _ _ _ _ _ => rfl) KX G ?a35 ?l35 ?e35 ?k35) (Law.dfo Law.c36 rfl (fun _ _ _ _ _ _ => Law.ln4 fun _ _ _ _ => rfl) KX G ?a36 ?l36 ?e36 ?k36) (Law.dfo Law.c37 rfl (fun _ _ _ _ _ _ => Law.ln2 fun _ _ => rfl) KX G ?a37 ?l37 ?e37 ?k37) (Law.dfo Law.c38 rfl (fun _ _ _ _ _ _ => Law.ln2 fun _ _ => rfl) KX G ?a38 ?l38 ?e38 ?k38) (Law.dfo Law.c41 rfl (fun _ _ _ _ _ _ => Law.ln3 fun _ _ _ => rfl) KX G ?a41 ?l41 ?e41 ?k41) (Law.dfo Law.c39 rfl (fun _ _ _ _ _ _ => Law.ln2 fun _ _ => rfl) KX G ?a39 ?l39 ?e39 ?k39) (Law.dfo Law.c40 rfl (fun _ _ _ _ _ _ => Law.ln1 fun _ => rfl) KX G ?a40 ?l40 ?e40 ?k40) (Law.dfo Law.c42 rfl (fun _ _ _ _ _ _ => Law.ln3 fun _ _ _ => rfl) KX G ?a42 ?l42 ?e42 ?k42) (Law.dfo Law.c43 rfl (fun _ _ _ _ _ _ => Law.ln3 fun _ _ _ => rfl) KX G ?a43 ?l43 ?e43 ?k43) ?a44 ?l44 ?e44 ?k44 ?q21 ?z0 ?z1 ?z2 ?z3 ?z4 ?z5 ?z6 ?z7 ?z8 ?z9 ?z10 ?z11 ?z12 ?z13 ?z14 ?z15 ?z16 ?z17 ?z18
    (case a19 => k_is)
    (case l19 => k_is)
    (case e19 => k_is)
    (case k19 => k_is)
    (case a20 => k_is)
    (case l20 => k_is)
    (case e20 => k_is)
    (case k20 => k_is)
    (case a22 => k_is)
    (case l22 => k_is)
    (case e22 => k_is)
    (case k22 => k_is)
    (case a23 => k_is)
    (case l23 => k_is)
    (case e23 => k_is)
    (case k23 => k_is)
    (case a24 => k_is)
    (case l24 => k_is)
    (case e24 => k_is)
    (case k24 => k_is)
    (case a25 => k_is)
    (case l25 => k_is)
    (case e25 => k_is)
    (case k25 => k_is)
    (case a26 => k_is)
    (case l26 => k_is)
    (case e26 => k_is)
    (case k26 => k_is)
    (case a27 => k_is)
    (case l27 => k_is)
    (case e27 => k_is)
    (case k27 => k_is)
    (case a28 => k_is)
    (case l28 => k_is)
    (case e28 => k_is)
    (case k28 => k_is)
    (case a29 => k_is)
    (case l29 => k_is)
    (case e29 => k_is)
    (case k29 => k_is)
    (case a30 => k_is)
    (case l30 => k_is)
    (case e30 => k_is)
    (case k30 => k_is)
    (case a31 => k_is)
    (case l31 => k_is)
    (case e31 => k_is)
    (case k31 => k_is)
    (case a32 => k_is)
    (case l32 => k_is)
    (case e32 => k_is)
    (case k32 => k_is)
    (case a33 => k_is)
    (case l33 => k_is)
    (case e33 => k_is)
    (case k33 => k_is)
    (case a34 => k_is)
    (case l34 => k_is)
    (case e34 => k_is)
    (case k34 => k_is)
    (case a35 => k_is)
    (case l35 => k_is)
    (case e35 => k_is)
    (case k35 => k_is)
    (case a36 => k_is)
    (case l36 => k_is)
    (case e36 => k_is)
    (case k36 => k_is)
    (case a37 => k_is)
    (case l37 => k_is)
    (case e37 => k_is)
    (case k37 => k_is)
    (case a38 => k_is)
    (case l38 => k_is)
    (case e38 => k_is)
    (case k38 => k_is)
    (case a41 => k_is)
    (case l41 => k_is)
    (case e41 => k_is)
    (case k41 => k_is)
    (case a39 => k_is)
    (case l39 => k_is)
    (case e39 => k_is)
    (case k39 => k_is)
    (case a40 => k_is)
    (case l40 => k_is)
    (case e40 => k_is)
    (case k40 => k_is)
    (case a42 => k_is)
    (case l42 => k_is)
    (case e42 => k_is)
    (case k42 => k_is)
    (case a43 => k_is)
    (case l43 => k_is)
    (case e43 => k_is)
    (case k43 => k_is)
    (case a44 => k_is)
    (case l44 => k_is)
    (case e44 => k_is)
    (case k44 => k_is)
    (case q21 => k_is)
    (case z0 => k_is)
    (case z1 => k_is)
    (case z2 => k_is)
    (case z3 => k_is)
    (case z4 => k_is)
    (case z5 => k_is)
    (case z6 => k_is)
    (case z7 => k_is)
    (case z8 => k_is)
    (case z9 => k_is)
    (case z10 => k_is)
    (case z11 => k_is)
    (case z12 => k_is)
    (case z13 => k_is)
    (case z14 => k_is)
    (case z15 => k_is)
    (case z16 => k_is)
    (case z17 => k_is)
    (case z18 => k_is)
#print axioms PySem.Challenge.cw_flagroll_k45_a_thing_in_a_cell_holds
