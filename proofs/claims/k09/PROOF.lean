import PyProof.Rows.All
import Wide.All
import OpenK.AllK
import Wide.FinOn
import Lean
import PyProof.EqAt
import PyProof.EqKinds
import PyProof.TupleCall
import PyProof.NeKinds
import KE.KRevIter
import KE.KSortTup
import Wide.Txt2
import PyProof.FString4
import KE.KIntText
import PyProof.ZipIter
import PyProof.TupleIter
import PyProof.WalksMore
import PyProof.Rows.SortShell
import KE.KDictSum
import PyProof.Rows.SortStr
import PyProof.Rows.SetFrom
import PyProof.DictUpdate
import KE.KDictOf
import PyProof.AttrMissSeq
import KE.KIsAll
import PyProof.ExcArgsOwn
import PyProof.ExcAttrAll.ValueError
import OpenK.KDescr
import PyProof.StationsW
import OpenK.KOwn
import KE.KTryMore
import OpenK.KRaise
import PyProof.RulesDel
import PyProof.RulesAs
import PyProof.Rows.Catch
import PyProof.Rows.StrReprFit
import PyProof.NsCount
import PySem.Challenge.RW_flagroll_k09_shares_refused
set_option maxHeartbeats 8000000
set_option Elab.async false
set_option linter.all false
set_option maxRecDepth 100000
namespace L2
open PySem PySem.Spec PyProof.Rows
noncomputable abbrev Key:=Sum Int Str
noncomputable def fy:Key->Value->Bool
 | .inl k,v=>Value.isInt k v
 | .inr x,v=>Value.isStrOf x v
noncomputable def AY (w:World):Key->Int
 | .inl k=>hashInt k
 | .inr x=>hashStr w x
theorem aK:∀ {k:Key}{v:Value},fy k v=true->(∃ i t,k=Sum.inl i/\v=Value.int i t)∨(∃ x t,k=Sum.inr x/\v=Value.str x t)
 | .inl i,v,h=>by
  obtain⟨t,e⟩:=Value.isInt_shape (k:=i) (v:=v) h
  exact .inl ⟨i,t,rfl,e⟩
 | .inr x,v,h=>by
  obtain⟨t,e⟩:=Value.isStrOf_shape (x:=x) (v:=v) h
  exact .inr ⟨x,t,rfl,e⟩
theorem lG (i:Int)(t:Tok):fy (.inl i) (.int i t)=true:=by simp[fy,Value.isInt]
theorem lH (x:Str)(t:Tok):fy (.inr x) (.str x t)=true:=by simp[fy,Value.isStrOf]
theorem vf (a b:Int):decide ((Sum.inl a:Key)=Sum.inl b)=(a == b):=by
 by_cases e:a=b
 ·subst e;simp
 ·have h:¬ (Sum.inl a:Key)=Sum.inl b:=fun q=>e (Sum.inl.inj q)
  rw[decide_eq_false h]
  exact(beq_eq_false_iff_ne.mpr e).symm
theorem vg (a b:Str):decide ((Sum.inr a:Key)=Sum.inr b)=decide (a=b):=by
 by_cases e:a=b
 ·subst e;simp
 ·have h:¬ (Sum.inr a:Key)=Sum.inr b:=fun q=>e (Sum.inr.inj q)
  rw[decide_eq_false h,decide_eq_false e]
theorem vi (a:Int)(b:Str):decide ((Sum.inl a:Key)=Sum.inr b)=false:=decide_eq_false (fun q=>nomatch q)
theorem vm (a:Str)(b:Int):decide ((Sum.inr a:Key)=Sum.inl b)=false:=decide_eq_false (fun q=>nomatch q)
noncomputable def aF (prog:Program)(w:World):PySem.KeyKind prog w Key where
 is:=fy
 hash:=AY w
 inj:=fun v a b ha hb=>by
  rcases aK ha with ⟨i,t,rfl,rfl⟩|⟨x,t,rfl,rfl⟩
  ·rcases aK hb with ⟨j,u,rfl,e⟩|⟨y,u,rfl,e⟩
   ·injection e with e1 _;rw[e1]
   ·exact nomatch e
  ·rcases aK hb with ⟨j,u,rfl,e⟩|⟨y,u,rfl,e⟩
   ·exact nomatch e
   ·injection e with e1 _;rw[e1]
 byValue:=fun k v h=>by
  rcases aK h with ⟨i,t,rfl,rfl⟩|⟨x,t,rfl,rfl⟩<;>rfl
 pyHash:=fun hv h=>by
  rcases aK hv with ⟨i,t,rfl,rfl⟩|⟨x,t,rfl,rfl⟩
  ·exact wpAny_pyHash_int h
  ·exact wpAny_pyHash_str h
 eqBool:=fun hu hv h=>by
  rcases aK hu with ⟨i,t,rfl,rfl⟩|⟨x,t,rfl,rfl⟩
  ·rcases aK hv with ⟨j,u,rfl,rfl⟩|⟨y,u,rfl,rfl⟩
   ·rw[vf] at h;exact wpAny_eqBool_int h
   ·rw[vi] at h;exact SeqAt.EqAt.int_str i t y u _ _ _ _ h
  ·rcases aK hv with ⟨j,u,rfl,rfl⟩|⟨y,u,rfl,rfl⟩
   ·rw[vm] at h;exact SeqAt.EqAt.str_int x t j u _ _ _ _ h
   ·rw[vg] at h;exact wpAny_eqBool_str h
 «strs»:=fun k x t v h=>by
  rcases aK h with ⟨i,u,rfl,e⟩|⟨y,u,rfl,e⟩
  ·exact nomatch e
  ·injection e with e1 _
   subst e1
   cases v<;>rfl
theorem hJ (prog:Program)(w:World)(i:Int)(t:Tok):(aF prog w).is (.inl i) (.int i t)=true:=lG i t
theorem hU (prog:Program)(w:World)(x:Str)(t:Tok):(aF prog w).is (.inr x) (.str x t)=true:=lH x t
inductive V where
 | B5|bl (b:Bool)|int (i:Int)|str (x:Str)|Ic (b:Array UInt8)|Mb (b:UInt64)|ref (a:Addr)|ty (n:String)
 deriving DecidableEq
noncomputable def RelV:V->Value->Prop
 | .B5,u=>u=Value.none
 | .bl b,u=>u=Value.bool b
 | .int i,u=>∃ t,u=Value.int i t
 | .str x,u=>∃ t,u=Value.str x t
 | .Ic b,u=>∃ t,u=Value.bytes b t
 | .Mb b,u=>∃ t,u=Value.float b t
 | .ref a,u=>u=Value.ref a
 | .ty n,u=>u=Value.type n
abbrev Vals:List V->List Value->Prop:=Paired RelV
theorem Vals.length {xs:List V}{us:List Value}(r:Vals xs us):xs.length=us.length:=Paired.length r
theorem Vals.get:∀ {xs:List V}{us:List Value}{i:Nat}{x:V},Vals xs us->xs[i]? = some x->∃ u,us[i]? = some u/\RelV x u
 | _,_,_,_,.nil,e=>by simp at e
 | _,_,0,_,.cons r _,e=>by simp at e;subst e;exact⟨_,rfl,r⟩
 | _,_,i+1,x,.cons _ t,e=>by
  obtain⟨u,h1,h2⟩:=Vals.get (i:=i) (x:=x) t (by simpa using e)
  exact⟨u,by simpa using h1,h2⟩
theorem Vals.append:∀ {xs ys:List V}{us ws:List Value},Vals xs us->Vals ys ws->Vals (xs++ys) (us++ws)
 | _,_,_,_,.nil,s=>s
 | _,_,_,_,.cons r t,s=>.cons r (Vals.append t s)
theorem Vals.take:∀ {xs:List V}{us:List Value} (n:Nat),Vals xs us->Vals (xs.take n) (us.take n)
 | _,_,0,_=>.nil
 | _,_,_+1,.nil=>.nil
 | _,_,n+1,.cons r t=>.cons r (Vals.take n t)
theorem Vals.drop:∀ {xs:List V}{us:List Value} (n:Nat),Vals xs us->Vals (xs.drop n) (us.drop n)
 | _,_,0,r=>r
 | _,_,_+1,.nil=>.nil
 | _,_,n+1,.cons _ t=>Vals.drop n t
noncomputable def d6:Option V->Option Value->Prop
 | some v,some u=>RelV v u
 | none,none=>True
 | _,_=>False
def KV {κ:Type}:List (κ×V)->List (κ×Value)->Prop:=Paired fun (p:κ×V) (q:κ×Value)=>p.1=q.1/\RelV p.2 q.2
noncomputable def kV:Key->V
 | .inl i=>.int i
 | .inr x=>.str x
inductive HO where
 | lst (xs:List V)
 | tup (xs:List V)
 | dK (kvs:List (Key×V))|dT (kvs:List (List Key×V))
 | set (S:Int->Bool) (n:Nat)
 | ins (C dx:Addr) (fs:List (Str×V))
 | own (x:Addr)
 | xd (fs:List (Str×V))
 | met (f x:Addr)
 | FK (lo hi:Int)
 | B6 (o:Obj) (u:HO)
 | Hv (ps:Array Value)
 | ext (φ:Heap->Prop)
noncomputable abbrev Hp:=Addr->Option HO
noncomputable def upd (H:Hp)(a:Addr)(o:HO):Hp:=fun b=>if b=a then some o else H b
theorem av {H:Hp}{a:Addr}{o:HO}:upd H a o a=some o:=by unfold upd;rw[if_pos rfl]
theorem ai {H:Hp}{a b:Addr}{o:HO}(h:b≠a):upd H a o b=H b:=by unfold upd;rw[if_neg h]
theorem xR {H:Hp}{a b:Addr}{o u:HO}(h:H a=some o)(h':H b=some u)(d:o≠u):a≠b:=by
 intro e;subst e;rw[h] at h';exact d (Option.some.inj h')
theorem az {H:Hp}{a b:Addr}{o:HO}(h:H a=some o)(h':H b=none):a≠b:=by
 intro e;subst e;rw[h] at h';cases h'
section
variable (P:Program)(w:World)
noncomputable def aP (H:Hp)(h:Heap)(a:Addr):HO->Prop
 | .lst xs=>xs.length<=sizeLine/\∃ (its:List Value) (n:Nat),Vals xs its/\h.get? a=some {cls:=.type "list",data:=.seq its.toArray n}
 | .tup xs=>xs.length<=sizeLine/\∃ its:List Value,Vals xs its/\IsTup h a its.toArray
 | .dK kvs=>kvs.length<=sizeLine/\(a == sysModules)=false/\∃ vs,KV kvs vs/\h.DictOf (aF P w) a vs
 | .dT kvs=>kvs.length<=sizeLine/\(a == sysModules)=false/\∃ xs:List (List Key×Addr×Value),
   Paired (fun (p:List Key×V) (q:List Key×Addr×Value)=>p.1=q.1/\H q.2.1=some (.tup (p.1.map kV))/\RelV p.2 q.2.2) kvs xs/\
   ∃ o es ep,h.get? a=some o/\o.ExactDict/\o.data=.dict es ep/\es.toList=xs.map (entryOfKey (tupleKind (aF P w)))/\(xs.map (·.1)).Nodup
 | .set S n=>h.SetOf (intKind P w) a S n
 | .ins C dx fs=>H dx=some (.own a)/\fs.length<=1000/\dx≠a/\h.get? a=some (PySem.W.instObj C dx)/\
   ∃ mA,h.Ns1 dx mA/\(∀ f,d6 (fs.lookup f) (mA f))/\PySem.Within mA (fs.map (·.1))
 | .own _=>∃ o,h.get? a=some o
 | .xd fs=>∃ mA,h.Ns1 a mA/\∀ f,d6 (fs.lookup f) (mA f)
 | .FK lo hi=>∃ t u v,h.get? a=some {cls:=.type "range",data:=.fields #[.int lo t,.int hi u,.int 1 v]}
 | .B6 o u=>h.get? a=some o/\aP H h a u
 | .Hv ps=>h.get? a=some {cls:=.none,data:=.fields ps}
 | .met f x=>h.get? a=some (PySem.W.methodObj (.ref f) (.ref x))
 | .ext φ=>φ h/\(∃ o,h.get? a=some o)/\∀ h1 h2:Heap,φ h1->(∀ o,h1.get? a=some o->h2.get? a=some o)->φ h2
def Cm (H:Hp)(h:Heap):Prop:=∀ a o,H a=some o->aP P w H h a o
end
section
variable {P:Program}{w:World}{H H':Hp}{h h':Heap}{a:Addr}{o:HO}
theorem aP.lt (x:aP P w H h a o):a < h.objs.size:=by
 cases o with
 | lst xs=>obtain⟨_,_,_,_,e⟩:=x;exact Heap.lt_size e
 | tup xs=>obtain⟨_,_,_,p⟩:=x;exact p.lt
 | dK kvs=>obtain⟨_,_,_,_,o,_,_,e,_⟩:=x;exact Heap.lt_size e
 | dT kvs=>obtain⟨_,_,_,_,o,_,_,e,_⟩:=x;exact Heap.lt_size e
 | set S n=>obtain⟨o,_,_,_,e,_⟩:=x;exact Heap.lt_size e
 | ins C dx fs=>obtain⟨_,_,_,e,_⟩:=x;exact Heap.lt_size e
 | own y=>obtain⟨_,e⟩:=x;exact Heap.lt_size e
 | xd fs=>obtain⟨_,⟨_,_,_,e,_⟩,_⟩:=x;exact Heap.lt_size e
 | FK lo hi=>obtain⟨_,_,_,e⟩:=x;exact Heap.lt_size e
 | B6 ob u=>obtain⟨e,_⟩:=x;exact Heap.lt_size e
 | Hv ps=>exact Heap.lt_size (show h.get? a=some _ from x)
 | met f y=>exact Heap.lt_size (show h.get? a=some _ from x)
 | ext φ=>obtain⟨_,⟨_,e⟩,_⟩:=x;exact Heap.lt_size e
theorem Paired.Ie {α β:Type}{F G:α->β->Prop}:∀ {l₁:List α}{l₂:List β},Paired F l₁ l₂->(∀ a b,F a b->G a b)->Paired G l₁ l₂
 | _,_,.nil,_=>.nil
 | _,_,.cons r t,f=>.cons (f _ _ r) (Paired.Ie t f)
theorem aP.Dk (x:aP P w H h a o)(k:∀ b u,(b=a∨H b=some (.own a))->h.get? b=some u->h'.get? b=some u)
  (ho:∀ b,H b=some (.own a)->H' b=some (.own a)) (ht:∀ b xs,H b=some (.tup xs)->H' b=some (.tup xs)):aP P w H' h' a o:=by
 induction o with
 | lst xs=>obtain⟨z,its,n,r,e⟩:=x;exact⟨z,its,n,r,k _ _ (.inl rfl) e⟩
 | tup xs=>obtain⟨z,its,r,ob,e,c⟩:=x;exact⟨z,its,r,ob,k _ _ (.inl rfl) e,c⟩
 | dK kvs=>obtain⟨z,y,vs,r,ob,es,ep,e,c⟩:=x;exact⟨z,y,vs,r,ob,es,ep,k _ _ (.inl rfl) e,c⟩
 | dT kvs=>
  obtain⟨z,y,xs,r,ob,es,ep,e,c⟩:=x
  exact⟨z,y,xs,Paired.Ie r fun p q z=>⟨z.1,ht _ _ z.2.1,z.2.2⟩,ob,es,ep,k _ _ (.inl rfl) e,c⟩
 | set S n=>obtain⟨ob,es,ep,t,e,c⟩:=x;exact⟨ob,es,ep,t,k _ _ (.inl rfl) e,c⟩
 | ins C dx fs=>
  obtain⟨d,z,ne,e,mA,⟨od,es,ep,e2,c⟩,r⟩:=x
  exact⟨ho _ d,z,ne,k _ _ (.inl rfl) e,mA,⟨od,es,ep,k _ _ (.inr d) e2,c⟩,r⟩
 | own y=>obtain⟨ob,e⟩:=x;exact⟨ob,k _ _ (.inl rfl) e⟩
 | xd fs=>obtain⟨mA,⟨od,es,ep,e,c⟩,r⟩:=x;exact⟨mA,⟨od,es,ep,k _ _ (.inl rfl) e,c⟩,r⟩
 | FK lo hi=>obtain⟨t,u,v,e⟩:=x;exact⟨t,u,v,k _ _ (.inl rfl) e⟩
 | B6 ob u ih=>obtain⟨e,q⟩:=x;exact⟨k _ _ (.inl rfl) e,ih q⟩
 | Hv ps=>
  have e:h.get? a=some {cls:=.none,data:=.fields ps}:=x
  show h'.get? a=some {cls:=.none,data:=.fields ps}
  exact k a _ (.inl rfl) e
 | met f y=>
  have e:h.get? a=some (PySem.W.methodObj (.ref f) (.ref y)):=x
  show h'.get? a=some (PySem.W.methodObj (.ref f) (.ref y))
  exact k a _ (.inl rfl) e
 | ext φ=>obtain⟨p,⟨o,e⟩,st⟩:=x;exact⟨st _ _ p fun o q=>k _ _ (.inl rfl) q,⟨o,k _ _ (.inl rfl) e⟩,st⟩
theorem Cm.lt (x:Cm P w H h)(e:H a=some o):a < h.objs.size:=(x a o e).lt
theorem Cm.fresh (x:Cm P w H h)(e:h.objs.size<=a):H a=none:=by
 cases q:H a with
 | none=>rfl
 | some u=>exact absurd (Nat.lt_of_lt_of_le (x.lt q) e) (Nat.lt_irrefl _)
theorem Cm.kept (x:Cm P w H h)(k:∀ b u,h.get? b=some u->h'.get? b=some u):Cm P w H h':=fun a o e=>
 (x a o e).Dk (fun b u _ q=>k b u q) (fun _ q=>q) fun _ _ q=>q
theorem Cm.laid (x:Cm P w H h)(k:∀ b u,h.get? b=some u->h'.get? b=some u)(hp:h.objs.size<=a)(new:aP P w (upd H a o) h' a o):Cm P w (upd H a o) h':=fun b u e=>by
 have hn:=x.fresh hp
 by_cases hb:b=a
 ·subst hb;rw[av] at e;cases e;exact new
 ·rw[ai hb] at e
  exact(x b u e).Dk (fun c v _ q=>k c v q) (fun c q=>by rw[ai (az q hn)];exact q) fun c xs q=>by rw[ai (az q hn)];exact q
end
def Rd (H:Hp)(a:Addr)(u:HO):Prop:=H a=some u∨∃ o,H a=some (.B6 o u)
theorem Rd.ok {P:Program}{w:World}{H:Hp}{h:Heap}{a:Addr}{u:HO}(r:Rd H a u)(x:Cm P w H h):aP P w H h a u:=by
 rcases r with r|⟨o,r⟩
 ·exact x a u r
 ·obtain⟨_,q⟩:=x a _ r
  exact q
noncomputable def J1:Option HO->Prop
 | some (.lst _)=>True
 | some (.dK _)=>True
 | some (.dT _)=>True
 | some (.set _ _)=>True
 | some (.ins _ _ _)=>True
 | some (.ext _)=>True
 | _=>False
section
variable {P:Program}{w:World}{H:Hp}{h h':Heap}{x e:Addr}{o':HO}
theorem Cm.write (ok:Cm P w H h)(mu:J1 (H x))(he:e=x∨H e=some (.own x))(k:∀ b u,b≠e->h.get? b=some u->h'.get? b=some u)(Jv:∃ u,h'.get? e=some u)
  (new:aP P w (upd H x o') h' x o'):Cm P w (upd H x o') h':=fun b u q=>by
 have J2:∀ c y,H c=some (.own y)->c≠x:=fun c y r z=>by subst z;rw[r] at mu;exact mu
 have Mc:∀ c xs,H c=some (.tup xs)->c≠x:=fun c xs r z=>by subst z;rw[r] at mu;exact mu
 by_cases hb:b=x
 ·subst hb;rw[av] at q;cases q;exact new
 ·rw[ai hb] at q
  by_cases Ig:b=e
  ·have q':H b=some (.own x):=by
    rcases he with z|z
    ·exact absurd (Ig.trans z) hb
    ·rw[Ig];exact z
   rw[q] at q';cases q'
   obtain⟨v,hv⟩:=Jv
   exact⟨v,by rw[Ig];exact hv⟩
  ·refine(ok b u q).Dk (fun c v hc r=>k c v ?_ r) (fun c r=>by rw[ai (J2 c b r)];exact r) fun c xs r=>by rw[ai (Mc c xs r)];exact r
   rcases hc with rfl|hc
   ·exact Ig
   ·rintro rfl
    rcases he with z|z
    ·exact J2 c b hc z
    ·rw[hc] at z;cases z;exact hb rfl
end
structure Un (fs ex:List Addr)(H H':Hp)(h h':Heap):Prop where
 keep:∀ b o,h.get? b=some o->H b=none->b∉fs->b∉ex->h'.get? b=some o
 slot:∀ b o,h.get? b=some o->H b=none->b∈fs->b∉ex->∃ sl,h'.get? b=some {o with slots:=sl}
 free:∀ b o,h.get? b=some o->H b=none->b∉ex->H' b=none
 there:∀ b o,h.get? b=some o->b∉ex->∃ o',h'.get? b=some o'
 C2:∀ b xs,H b=some (.tup xs)->H' b=some (.tup xs)
 CJ:∀ b o u,H b=some (.B6 o u)->H' b=some (.B6 o u)
 DK:∀ b ps,H b=some (.Hv ps)->∃ more,H' b=some (.Hv (ps++more))
section
variable {fs Tt ex NY:List Addr}{H H1 H2:Hp}{h h1 h2 h':Heap}{a x e:Addr}{o:HO}
theorem Un.any (u:Un fs ex H H1 h h1){b:Addr}{ob:Obj}(q:h.get? b=some ob)(n:H b=none)(hx:b∉ex):∃ sl,h1.get? b=some {ob with slots:=sl}:=by
 by_cases hb:b∈fs
 ·exact u.slot b ob q n hb hx
 ·exact⟨ob.slots,u.keep b ob q n hb hx⟩
theorem Un.kept (k:∀ b u,h.get? b=some u->h'.get? b=some u):Un fs ex H H h h':=
 ⟨fun b ob q _ _ _=>k b ob q,fun b ob q _ _ _=>⟨ob.slots,k b ob q⟩,fun _ _ _ n _=>n,fun b ob q _=>⟨ob,k b ob q⟩,fun _ _ q=>q,fun _ _ _ q=>q,fun _ ps q=>⟨#[],by rw[q];simp⟩⟩
theorem Un.refl:Un fs ex H H h h:=Un.kept fun _ _ q=>q
theorem Un.laid (k:∀ b u,h.get? b=some u->h'.get? b=some u)(hp:h.objs.size<=a)(hn:H a=none):Un fs ex H (upd H a o) h h' where
 keep:=fun b u q _ _ _=>k b u q
 slot:=fun b u q _ _ _=>⟨u.slots,k b u q⟩
 free:=fun b u q n _=>by rw[ai (Nat.ne_of_lt (Nat.lt_of_lt_of_le (Heap.lt_size q) hp))];exact n
 there:=fun b u q _=>⟨u,k b u q⟩
 C2:=fun b xs q=>by rw[ai (az q hn)];exact q
 CJ:=fun b u xs q=>by rw[ai (az q hn)];exact q
 DK:=fun b ps q=>⟨#[],by rw[ai (az q hn),q];simp⟩
theorem Un.write (mu:J1 (H x))(he:e=x∨H e=some (.own x))(k:∀ b u,b≠e->h.get? b=some u->h'.get? b=some u)(Jv:∃ u,h'.get? e=some u):Un fs ex H (upd H x o) h h':=by
 have hx:∀ b,H b=none->b≠x:=fun b n z=>by subst z;rw[n] at mu;exact mu
 have hb:∀ b,H b=none->b≠e:=fun b n z=>by
  subst z
  rcases he with r|r
  ·exact hx b n r
  ·rw[n] at r;cases r
 have hm:∀ b u,H b=some u->¬ J1 (some u)->b≠x:=fun b u q nm z=>by subst z;rw[q] at mu;exact nm mu
 refine⟨fun b u q n _ _=>k b u (hb b n) q,fun b u q n _ _=>⟨u.slots,k b u (hb b n) q⟩,fun b u q n _=>by rw[ai (hx b n)];exact n,fun b u q _=>?_,
  fun b xs q=>by rw[ai (hm b _ q fun z=>z)];exact q,fun b u xs q=>by rw[ai (hm b _ q fun z=>z)];exact q,fun b ps q=>⟨#[],by rw[ai (hm b _ q fun z=>z),q];simp⟩⟩
 by_cases Ig:b=e
 ·subst Ig;exact Jv
 ·exact⟨u,k b u Ig q⟩
end
noncomputable def Ih (h:Heap)(H:Hp):List Addr:=(List.range h.objs.size).filter fun a=>(H a).isSome
noncomputable def gb (h:Heap)(H:Hp):Heap:=PySem.W.hideAll h (Ih h H)
theorem lI (h:Heap)(H:Hp):(gb h H).objs.size=h.objs.size:=PySem.W.hideAll_size _ _
theorem mG {h:Heap}{H:Hp}{b:Addr}{o:Obj}(e:h.get? b=some o)(n:H b=none):(gb h H).get? b=some o:=
 PySem.W.hideAll_get _ e fun hm=>by
  have q:(H b).isSome=true:=(List.mem_filter.mp hm).2
  rw[n] at q;simp at q
theorem qH {h:Heap}{H:Hp}{b:Addr}{o:Obj}(e:(gb h H).get? b=some o):h.get? b=some o/\H b=none:=by
 have e':h.get? b=some o:=PySem.W.of_hideAll (Ih h H) e
 refine⟨e',?_⟩
 cases q:H b with
 | none=>rfl
 | some x=>
  have hm:b∈Ih h H:=List.mem_filter.mpr ⟨List.mem_range.mpr (Heap.lt_size e'),by simp[q]⟩
  have z:(gb h H).get? b=none:=PySem.W.hideAll_none (Ih h H) hm
  rw[z] at e;cases e
structure Mod (K:PySem.W.Frag)(mg:Str->Option Value)(base:Heap):Prop where
 GF:K.In base
 glob:base.Ns mainGlobals mg
 blt:∃ mb,base.Ns builtinsNs mb/\∀ x:Str,x≠"__name__"->mb x=bootBuiltins x
 nolimit:base.NoLimit
structure Cx where
 prog:Program
 w:World
 K:PySem.W.Frag
 mg:Str->Option Value
 base:Heap
 A:Around
 N:List Str
 Ck:Shared
 Dt:Hp
 env:Env
 outer:List Env
 stack:List Env
 ex:List Addr
 fn:Str->Bool
 calm:Bool
 pn:List (Addr×Obj)
 xe:Value->Shared->Prop
noncomputable def CI (l:List Env):List Addr:=l.filterMap (·.frame)
noncomputable abbrev Cx.fs (X:Cx):List Addr:=CI X.outer
def J3 (sc:Scope)(x:Str):Prop:=sc.names.lookup x=some .local∨sc.names.lookup x=some .cell∨sc.names.lookup x=some .free
def Loc (sc:Scope)(x:Str):Prop:=sc.names.lookup x=some .local∨sc.names.lookup x=some .cell
def Look (env:Env)(h:Heap)(m:Str->Option Value)(x:Str)(u:Value):Prop:=
 (env.kindOf x=some .local/\m x=some u)∨((env.kindOf x=some .cell∨env.kindOf x=some .free)/\∃ c,env.cells.lookup x=some c/\h.IsCell c (some u))
structure Cx.Ok (X:Cx):Prop where
 mod:Mod X.K X.mg X.base
 kind:X.env.scope.kind=.function
 glob:X.env.globals=mainGlobals
 blt:X.env.builtins=builtinsNs
 above:X.Ck.heap.objs.size<=X.env.locals
 inj:∀ x y c,X.env.cells.lookup x=some c->X.env.cells.lookup y=some c->x=y
 has:∀ x,(X.env.kindOf x=some .cell∨X.env.kindOf x=some .free)->∃ c,X.env.cells.lookup x=some c
 Ii:∀ x c,X.fn x=true->X.env.cells.lookup x=some c->X.Ck.heap.objs.size<=c
 hd:X.calm=true->X.A.handled=none
 frames:X.A.frames=some X.stack
 BR:X.stack=X.outer∨(X.stack=X.env::X.outer/\X.env.frame=some X.env.locals)
 Jw:∀ b∈X.ex,b≠X.env.locals/\∀ x c,X.env.cells.lookup x=some c->c≠b
 bs:∀ b o,X.base.get? b=some o->X.Ck.heap.get? b=some o/\X.Dt b=none
 Fw:X.base.objs.size<=X.Ck.heap.objs.size
 ET:∀ b o,X.base.get? b=some o->b∉X.ex
 EU:∀ b∈X.ex,b∉X.fs
 CO:X.Ck.heap.FunFrames X.base X.outer
 D7:∀ b∈X.fs,X.Dt b=none
structure Inv (X:Cx)(pins:List (Addr×Obj))(σ:List (Option V))(H:Hp)(s:Shared):Prop where
 ok:X.Ok
 os:s.os=X.Ck.os
 bare:AllBare s.gens
 base:Un X.fs X.ex X.Dt H X.Ck.heap s.heap
 loc:∃ m,s.heap.Ns X.env.locals m/\∀ (i:Nat) (x:Str) (v:V),X.N[i]? = some x->σ[i]? = some (some v)->J3 X.env.scope x->∃ u,RelV v u/\Look X.env s.heap m x u
 cell:∀ x c,X.env.cells.lookup x=some c->∃ v,s.heap.IsCell c v
 free:H X.env.locals=none
 CB:∀ x c,X.env.cells.lookup x=some c->H c=none
 pin:∀ p∈X.pn++pins,s.heap.get? p.1=some p.2/\H p.1=none/\p.1≠X.env.locals/\p.1∉X.fs/\∀ v,p.2.data≠.cell v
 BY:Cm X.prog X.w H s.heap
 len:σ.length=X.N.length
section
variable {X:Cx}{pins:List (Addr×Obj)}{σ:List (Option V)}{H H':Hp}{s:Shared}{h':Heap}
theorem Cx.Ok.Md (ok:X.Ok){b:Addr}{o:Obj}(e:X.base.get? b=some o):b∉X.fs:=fun hb=>by
 have:=(ok.CO.mem hb).1
 rw[e] at this;cases this
theorem Inv.bs (I:Inv X pins σ H s):∀ b o,X.base.get? b=some o->s.heap.get? b=some o/\H b=none:=fun b o e=>
 ⟨I.base.keep b o (I.ok.bs b o e).1 (I.ok.bs b o e).2 (I.ok.Md e) (I.ok.ET b o e),I.base.free b o (I.ok.bs b o e).1 (I.ok.bs b o e).2 (I.ok.ET b o e)⟩
theorem Inv.bk (I:Inv X pins σ H s):∀ b o,X.base.get? b=some o->s.heap.get? b=some o:=fun b o e=>(I.bs b o e).1
theorem Inv.mod (I:Inv X pins σ H s):Mod X.K X.mg X.base:=I.ok.mod
theorem Inv.Eo (I:Inv X pins σ H s):X.K.In s.heap:=I.ok.mod.GF.keeps I.bk
theorem Inv.lt (I:Inv X pins σ H s):X.env.locals < s.heap.objs.size:=let ⟨_,hn,_⟩:=I.loc;hn.lt
theorem Inv.sz (I:Inv X pins σ H s):X.Ck.heap.objs.size<=s.heap.objs.size:=Nat.le_trans I.ok.above (Nat.le_of_lt I.lt)
theorem Inv.Me (I:Inv X pins σ H s){a:Addr}(h:s.heap.objs.size<=a):a∉X.fs:=fun hb=>by
 obtain⟨_,o,ho,_⟩:=I.ok.CO.mem hb
 exact absurd (Nat.lt_of_lt_of_le (Heap.lt_size ho) (Nat.le_trans I.sz h)) (Nat.lt_irrefl _)
theorem Inv.F0 (I:Inv X pins σ H s):∀ x c,X.env.cells.lookup x=some c->c≠X.env.locals:=fun x c e z=>by
 obtain⟨v,o,ho,hd⟩:=I.cell x c e
 obtain⟨m,⟨o',es,ep,DA,Qa,_⟩,_⟩:=I.loc
 rw[z,DA] at ho;cases ho;rw[Qa] at hd;cases hd
theorem Inv.CO (I:Inv X pins σ H s):s.heap.FunFrames X.base X.outer:=by
 have all:∀ (l:List Env),(∀ b∈CI l,b∈X.fs)->X.Ck.heap.FunFrames X.base l->s.heap.FunFrames X.base l:=by
  intro l
  induction l with
  | nil=>intro _ _;trivial
  | cons env r ih=>
   intro hs hl
   obtain⟨hk,⟨L,o,hf,hn,ho,hd⟩,hr⟩:=hl
   have hL:L∈X.fs:=hs L (by unfold CI;rw[List.filterMap_cons,hf];exact List.mem_cons_self)
   obtain⟨sl,e⟩:=I.base.slot L o ho (I.ok.D7 L hL) hL fun z=>I.ok.EU L z hL
   exact⟨hk,⟨L,_,hf,hn,e,hd⟩,ih (fun b hb=>hs b (by unfold CI;rw[List.filterMap_cons,hf];exact List.mem_cons_of_mem _ hb)) hr⟩
 exact all X.outer (fun _ hb=>hb) I.ok.CO
theorem Inv.stack (I:Inv X pins σ H s):s.heap.FunFrames X.base X.stack:=by
 rcases I.ok.BR with e|⟨e,hf⟩
 ·rw[e];exact I.CO
 ·rw[e]
  obtain⟨m,hn,_⟩:=I.loc
  refine .cons (by rw[I.ok.kind];decide) hf hn ?_ I.CO
  exact Heap.get?_none_of_le (Nat.le_trans I.ok.Fw I.ok.above)
theorem Inv.EV (I:Inv X pins σ H s):∀ b∈CI X.stack,b∈X.env.locals::X.fs:=fun b hb=>by
 rcases I.ok.BR with e|⟨e,hf⟩
 ·rw[e] at hb;exact List.mem_cons_of_mem _ hb
 ·rw[e] at hb
  unfold CI at hb
  rw[List.filterMap_cons,hf] at hb
  exact hb
theorem Inv.D8 (I:Inv X pins σ H s):∀ b∈CI X.stack,H b=none:=fun b hb=>by
 rcases List.mem_cons.mp (I.EV b hb) with e|hb
 ·rw[e];exact I.free
 ·obtain⟨_,o,ho,_⟩:=I.ok.CO.mem hb
  exact I.base.free b o ho (I.ok.D7 b hb) fun z=>I.ok.EU b z hb
theorem Inv.step {g':Array GenState}{t':Nat}{d':Drawn}{ch:List Addr}(I:Inv X pins σ H s)
  (FL:∀ b∈ch,(b∈X.ex∨X.Ck.heap.objs.size<=b)/\b≠X.env.locals/\(∀ x c,X.env.cells.lookup x=some c->c≠b)/\∀ p∈X.pn++pins,p.1≠b)
  (keep:∀ b o,b≠X.env.locals->b∉X.fs->b∉ch->s.heap.get? b=some o->H b=none->h'.get? b=some o)
  (slot:∀ b o,b≠X.env.locals->b∈X.fs->b∉ch->s.heap.get? b=some o->H b=none->∃ sl,h'.get? b=some {o with slots:=sl}) (free:∀ b o,b∉ch->s.heap.get? b=some o->H b=none->H' b=none)
  (there:∀ b o,b∉ch->s.heap.get? b=some o->∃ o',h'.get? b=some o')
  (C2:∀ b xs,H b=some (.tup xs)->H' b=some (.tup xs)) (CJ:∀ b o u,H b=some (.B6 o u)->H' b=some (.B6 o u)) (DK:∀ b ps,H b=some (.Hv ps)->∃ more,H' b=some (.Hv (ps++more)))
  (ns:∀ m,s.heap.Ns X.env.locals m->h'.Ns X.env.locals m) (BY:Cm X.prog X.w H' h') (hg:AllBare g') :
  Inv X pins σ H' {s with heap:=h',gens:=g',drawn:=d',toks:=t'}:=by
 have NZ:∀ b o,X.Ck.heap.get? b=some o->b≠X.env.locals:=fun b o e=>Nat.ne_of_lt (Nat.lt_of_lt_of_le (Heap.lt_size e) I.ok.above)
 have Lo:∀ b o,X.Ck.heap.get? b=some o->b∉X.ex->b∉ch:=fun b o e hx hb=>by
  rcases (FL b hb).1 with z|z
  ·exact hx z
  ·exact absurd (Nat.lt_of_lt_of_le (Heap.lt_size e) z) (Nat.lt_irrefl _)
 have cellK:∀ x c,X.env.cells.lookup x=some c->∀ v,s.heap.IsCell c v->h'.IsCell c v:=fun x c e v ⟨o,ho,hd⟩=>by
  have J4:c∉ch:=fun z=>(FL c z).2.2.1 x c e rfl
  by_cases hc:c∈X.fs
  ·obtain⟨sl,q⟩:=slot c o (I.F0 x c e) hc J4 ho (I.CB x c e)
   exact⟨_,q,hd⟩
  ·exact⟨o,keep c o (I.F0 x c e) hc J4 ho (I.CB x c e),hd⟩
 refine⟨I.ok,I.os,hg,⟨fun b o e n hb hx=>?_,fun b o e n hb hx=>?_,fun b o e n hx=>?_,fun b o e hx=>?_,fun b xs e=>C2 b xs (I.base.C2 b xs e),fun b o xs e=>CJ b o xs (I.base.CJ b o xs e),fun b ps e=>?_⟩,?_,fun x c e=>?_,?_,fun x c e=>?_,fun p hp=>?_,BY,I.len⟩
 ·exact keep b o (NZ b o e) hb (Lo b o e hx) (I.base.keep b o e n hb hx) (I.base.free b o e n hx)
 ·obtain⟨sl,e1⟩:=I.base.slot b o e n hb hx
  obtain⟨Hw,e2⟩:=slot b _ (NZ b o e) hb (Lo b o e hx) e1 (I.base.free b o e n hx)
  exact⟨Hw,e2⟩
 ·obtain⟨o',e1⟩:=I.base.there b o e hx
  exact free b o' (Lo b o e hx) e1 (I.base.free b o e n hx)
 ·obtain⟨o',e1⟩:=I.base.there b o e hx
  exact there b o' (Lo b o e hx) e1
 ·obtain⟨m1,e1⟩:=I.base.DK b ps e
  obtain⟨m2,e2⟩:=DK b _ e1
  exact⟨m1++m2,by rw[e2,Array.append_assoc]⟩
 ·obtain⟨m,hn,hl⟩:=I.loc
  refine⟨m,ns m hn,fun i x v e1 e2 e3=>?_⟩
  obtain⟨u,r,l⟩:=hl i x v e1 e2 e3
  refine⟨u,r,?_⟩
  rcases l with l|⟨k,c,e,z⟩
  ·exact .inl l
  ·exact .inr ⟨k,c,e,cellK x c e _ z⟩
 ·obtain⟨v,z⟩:=I.cell x c e
  exact⟨v,cellK x c e v z⟩
 ·obtain⟨m,⟨o,_,_,ho,_⟩,_⟩:=I.loc
  exact free _ o (fun z=>(FL _ z).2.1 rfl) ho I.free
 ·obtain⟨v,o,ho,hd⟩:=I.cell x c e
  exact free c o (fun z=>(FL c z).2.2.1 x c e rfl) ho (I.CB x c e)
 ·obtain⟨e,n,ne,nf,d⟩:=I.pin p hp
  have J4:p.1∉ch:=fun z=>(FL p.1 z).2.2.2 p hp rfl
  exact⟨keep p.1 p.2 ne nf J4 e n,free p.1 p.2 J4 e n,ne,nf,d⟩
theorem Inv.un {t':Nat}(I:Inv X pins σ H s)(u:Un X.fs [] H H' s.heap h')(BY:Cm X.prog X.w H' h'):Inv X pins σ H' {s with heap:=h',toks:=t'}:=by
 obtain⟨m,⟨o,es,ep,ho,r⟩,_⟩:=id I.loc
 obtain⟨sl,hL⟩:=u.any ho I.free (by simp)
 exact I.step (g':=s.gens) (d':=s.drawn) (ch:=[]) (fun _ z=>nomatch z) (fun b o _ hb _ e n=>u.keep b o e n hb (by simp)) (fun b o _ hb _ e n=>u.slot b o e n hb (by simp)) (fun b o _ e n=>u.free b o e n (by simp)) (fun b o _ e=>u.there b o e (by simp)) u.C2 u.CJ u.DK (fun m' hm=>by
  obtain⟨o',DV,Mf,DA,r'⟩:=hm
  rw[ho] at DA;cases DA
  exact⟨_,DV,Mf,hL,r'⟩) BY I.bare
theorem Inv.call {g':Array GenState}{t':Nat}{d':Drawn}{ch:List Addr}(I:Inv X pins σ H s)(u:Un (CI X.stack) ch H H' s.heap h')(BY:Cm X.prog X.w H' h')(hg:AllBare g')
  (FL:∀ b∈ch,(b∈X.ex∨X.Ck.heap.objs.size<=b)/\b≠X.env.locals/\(∀ x c,X.env.cells.lookup x=some c->c≠b)/\∀ p∈X.pn++pins,p.1≠b) :
  Inv X pins σ H' {s with heap:=h',gens:=g',drawn:=d',toks:=t'}:=by
 obtain⟨m,⟨o,es,ep,ho,r⟩,_⟩:=id I.loc
 obtain⟨sl,hL⟩:=u.any ho I.free fun z=>(FL _ z).2.1 rfl
 exact I.step (ch:=ch) FL (fun b o hL hb hc e n=>u.keep b o e n (fun z=>(List.mem_cons.mp (I.EV b z)).elim hL hb) hc) (fun b o _ _ hc e n=>u.any e n hc) (fun b o hc e n=>u.free b o e n hc) (fun b o hc e=>u.there b o e hc) u.C2 u.CJ u.DK (fun m' hm=>by
  obtain⟨o',DV,Mf,DA,r'⟩:=hm
  rw[ho] at DA;cases DA
  exact⟨_,DV,Mf,hL,r'⟩) BY hg
theorem Inv.turned {t':Nat}{it:Addr}(I:Inv X pins σ H s)(k:∀ b o,b≠it->s.heap.get? b=some o->h'.get? b=some o)(hn:H it=none)(hL:it≠X.env.locals)
  (h1:it∈X.ex∨X.Ck.heap.objs.size<=it) (h2:∀ x c,X.env.cells.lookup x=some c->c≠it) (h3:∀ p∈X.pn++pins,p.1≠it):Inv X pins σ H {s with heap:=h',toks:=t'}:=by
 have Hx:∀ b u,H b=some u->b≠it:=fun b u e z=>by rw[z,hn] at e;cases e
 refine I.step (g':=s.gens) (d':=s.drawn) (ch:=[it]) (fun b hb=>?_) (fun b o _ _ hc e _=>k b o (fun z=>hc (by simp[z])) e) (fun b o _ _ hc e _=>⟨o.slots,k b o (fun z=>hc (by simp[z])) e⟩) (fun _ _ _ _ n=>n)
  (fun b o hc e=>⟨o,k b o (fun z=>hc (by simp[z])) e⟩) (fun _ _ e=>e) (fun _ _ _ e=>e) (fun b ps e=>⟨#[],by rw[e];simp⟩) (fun m hm=>?_) (fun b u e=>?_) I.bare
 ·have e:b=it:=by simpa using hb
  subst e
  exact⟨h1,hL,h2,h3⟩
 ·obtain⟨o,es,ep,ho,r⟩:=hm
  exact⟨o,es,ep,k _ o (Ne.symm hL) ho,r⟩
 ·refine(I.BY b u e).Dk (fun c v hc q=>k c v ?_ q) (fun _ q=>q) fun _ _ q=>q
  rcases hc with z|z
  ·rw[z];exact Hx b u e
  ·exact Hx c _ z
theorem Inv.tok (I:Inv X pins σ H s)(t:Nat):Inv X pins σ H {s with toks:=t}:=I.un (h':=s.heap) (t':=t) Un.refl I.BY
theorem Inv.kept {t':Nat}(I:Inv X pins σ H s)(k:∀ b u,s.heap.get? b=some u->h'.get? b=some u):Inv X pins σ H {s with heap:=h',toks:=t'}:=I.un (Un.kept k) (I.BY.kept k)
theorem Inv.laid {a:Addr}{o:HO}{t':Nat}(I:Inv X pins σ H s)(k:∀ b u,s.heap.get? b=some u->h'.get? b=some u)(hp:s.heap.objs.size<=a)(new:aP X.prog X.w (upd H a o) h' a o) :
  Inv X pins σ (upd H a o) {s with heap:=h',toks:=t'}:=I.un (Un.laid k hp (I.BY.fresh hp)) (I.BY.laid k hp new)
theorem Inv.write {x e:Addr}{o:HO}{t':Nat}(I:Inv X pins σ H s)(mu:J1 (H x))(he:e=x∨H e=some (.own x))(k:∀ b u,b≠e->s.heap.get? b=some u->h'.get? b=some u)(Jv:∃ u,h'.get? e=some u)
  (new:aP X.prog X.w (upd H x o) h' x o):Inv X pins σ (upd H x o) {s with heap:=h',toks:=t'}:=I.un (Un.write mu he k Jv) (I.BY.write mu he k Jv new)
theorem Inv.E8 {E9:List (Addr×Obj)}(I:Inv X pins σ H s)(h:∀ p∈E9,s.heap.get? p.1=some p.2/\H p.1=none/\p.1≠X.env.locals/\p.1∉X.fs/\∀ v,p.2.data≠.cell v):Inv X E9 σ H s:=
 ⟨I.ok,I.os,I.bare,I.base,I.loc,I.cell,I.free,I.CB,fun p hp=>(List.mem_append.mp hp).elim (fun z=>I.pin p (List.mem_append_left _ z)) (h p),I.BY,I.len⟩
theorem ez {N:List Str}(hN:N.Nodup){i j:Nat}{x:Str}(a:N[i]? = some x)(b:N[j]? = some x):i=j:=by
 obtain⟨h1,e1⟩:=List.getElem?_eq_some_iff.mp a
 obtain⟨h2,e2⟩:=List.getElem?_eq_some_iff.mp b
 exact(List.getElem_inj hN).mp (e1.trans e2.symm)
theorem fA {M:Model}{A:Around}{E:Value->Shared->Prop}{i:Nat}{x:Str}{v:V}{u:Value}{Q:Unit->Shared->Prop}(I:Inv X pins σ H s)(hN:X.N.Nodup)(hi:X.N[i]? = some x)(hx:Loc X.env.scope x)(r:RelV v u)
  (h:∀ s',Inv X pins (σ.set i (some v)) H s'->(∃ a,Heap.SameBut a s.heap s'.heap/\(a=X.env.locals∨X.env.cells.lookup x=some a))->Q () s') (hf:X.fn x=true∨X.env.scope.names.lookup x=some .local:=by first|exact .inl rfl|exact .inr rfl|assumption):wpAny M A (storeName X.env x u) Q E s:=by
 obtain⟨m,hn,hl⟩:=id I.loc
 have EW:(X.env.scope.kind == .class||(X.env.scope.kind == .module&&X.env.locals != X.env.globals))=false:=by rw[I.ok.kind];rfl
 have GV:i < σ.length:=by rw[I.len];exact(List.getElem?_eq_some_iff.mp hi).1
 have F0:=I.F0
 have tracked:∀ {a:Addr}{h':Heap},(∃ o,s.heap.get? a=some o/\H a=none)->Heap.SameBut a s.heap h'->Cm X.prog X.w H h':=fun {a h'} ha hs b ob e=>by
  obtain⟨_,_,Fb⟩:=ha
  refine(I.BY b ob e).Dk (fun c w' hc q=>(hs.2 c ?_).trans q) (fun _ q=>q) fun _ _ q=>q
  rintro rfl
  rcases hc with rfl|hc
  ·rw[Fb] at e;cases e
  ·rw[Fb] at hc;cases hc
 rcases hx with hk|hk
 ·refine wpAny_storeName_local hk hn (fun h' DZ hs=>?_) EW
  obtain⟨oL,_,_,N0,_⟩:=id hn
  refine h _ ⟨I.ok,I.os,I.bare,⟨fun b o e n hb hx=>?_,fun b o e n hb hx=>?_,I.base.free,fun b o e hx=>?_,I.base.C2,I.base.CJ,I.base.DK⟩,⟨_,DZ,fun j y v' e1 e2 e3=>?_⟩,fun y c e=>?_,I.free,I.CB,fun p hp=>?_,tracked ⟨oL,N0,I.free⟩ hs,by simpa using I.len⟩ ⟨_,hs,.inl rfl⟩
  ·exact(hs.2 b (Nat.ne_of_lt (Nat.lt_of_lt_of_le (Heap.lt_size e) I.ok.above))).trans (I.base.keep b o e n hb hx)
  ·obtain⟨sl,e1⟩:=I.base.slot b o e n hb hx
   exact⟨sl,(hs.2 b (Nat.ne_of_lt (Nat.lt_of_lt_of_le (Heap.lt_size e) I.ok.above))).trans e1⟩
  ·obtain⟨o',e1⟩:=I.base.there b o e hx
   exact⟨o',(hs.2 b (Nat.ne_of_lt (Nat.lt_of_lt_of_le (Heap.lt_size e) I.ok.above))).trans e1⟩
  ·by_cases hj:j=i
   ·subst hj
    rw[hi] at e1;cases e1
    rw[List.getElem?_set_self GV] at e2
    cases e2
    exact⟨u,r,.inl ⟨hk,by simp⟩⟩
   ·rw[List.getElem?_set_ne (Ne.symm hj)] at e2
    obtain⟨u',r',q⟩:=hl j y v' e1 e2 e3
    refine⟨u',r',?_⟩
    rcases q with ⟨k,e⟩|⟨k,c,e,z⟩
    ·refine .inl ⟨k,?_⟩
     have:y≠x:=fun e=>hj (ez hN e1 (e ▸ hi))
     simp[this,e]
    ·exact .inr ⟨k,c,e,z.sameBut hs (F0 y c e)⟩
  ·obtain⟨w',z⟩:=I.cell y c e
   exact⟨w',z.sameBut hs (F0 y c e)⟩
  ·obtain⟨e,n,ne,nf,d⟩:=I.pin p hp
   exact⟨(hs.2 p.1 ne).trans e,n,ne,nf,d⟩
 ·have Fx:X.fn x=true:=by
   rcases hf with z|z
   ·exact z
   ·rw[z] at hk;cases hk
  obtain⟨c,hc⟩:=I.ok.has x (.inl hk)
  obtain⟨w',z⟩:=I.cell x c hc
  refine wpAny_storeName_cell I.ok.kind hk hc z (fun h' Ep hs=>?_)
  obtain⟨oc,N1,Mg⟩:=id z
  refine h {s with heap:=h'} ⟨I.ok,I.os,I.bare,⟨fun b o e n hb hx=>?_,fun b o e n hb hx=>?_,I.base.free,fun b o e hx=>?_,I.base.C2,I.base.CJ,I.base.DK⟩,⟨m,hn.sameBut hs (Ne.symm (F0 x c hc)),fun j y v' e1 e2 e3=>?_⟩,fun y c' e=>?_,I.free,I.CB,fun p hp=>?_,tracked ⟨oc,N1,I.CB x c hc⟩ hs,by simpa using I.len⟩ ⟨c,hs,.inr hc⟩
  ·exact(hs.2 b (Nat.ne_of_lt (Nat.lt_of_lt_of_le (Heap.lt_size e) (I.ok.Ii x c Fx hc)))).trans (I.base.keep b o e n hb hx)
  ·obtain⟨sl,e1⟩:=I.base.slot b o e n hb hx
   exact⟨sl,(hs.2 b (Nat.ne_of_lt (Nat.lt_of_lt_of_le (Heap.lt_size e) (I.ok.Ii x c Fx hc)))).trans e1⟩
  ·obtain⟨o',e1⟩:=I.base.there b o e hx
   exact⟨o',(hs.2 b (Nat.ne_of_lt (Nat.lt_of_lt_of_le (Heap.lt_size e) (I.ok.Ii x c Fx hc)))).trans e1⟩
  ·by_cases hj:j=i
   ·subst hj
    rw[hi] at e1;cases e1
    rw[List.getElem?_set_self GV] at e2
    cases e2
    exact⟨u,r,.inr ⟨.inl hk,c,hc,Ep⟩⟩
   ·rw[List.getElem?_set_ne (Ne.symm hj)] at e2
    obtain⟨u',r',q⟩:=hl j y v' e1 e2 e3
    refine⟨u',r',?_⟩
    rcases q with q|⟨k,c',e,z'⟩
    ·exact .inl q
    ·refine .inr ⟨k,c',e,z'.sameBut hs ?_⟩
     rintro rfl
     exact hj (ez hN e1 (I.ok.inj _ _ _ e hc ▸ hi))
  ·by_cases Lp:c'=c
   ·subst Lp;exact⟨_,Ep⟩
   ·obtain⟨w2,z2⟩:=I.cell y c' e
    exact⟨w2,z2.sameBut hs Lp⟩
  ·obtain⟨e,n,ne,nf,d⟩:=I.pin p hp
   refine⟨(hs.2 p.1 ?_).trans e,n,ne,nf,d⟩
   intro q
   rw[q,N1] at e
   have q':oc=p.2:=Option.some.inj e
   exact d w' (by rw[<- q'];exact Mg)
theorem cJ {M:Model}{A:Around}{E:Value->Shared->Prop}{i:Nat}{x:Str}{v:V}{u:Value}{Q:Unit->Shared->Prop}(I:Inv X pins σ H s)(hN:X.N.Nodup)(hi:X.N[i]? = some x)(hx:Loc X.env.scope x)(r:RelV v u)
  (h:∀ s',Inv X pins (σ.set i (some v)) H s'->Q () s') (hf:X.fn x=true∨X.env.scope.names.lookup x=some .local:=by first|exact .inl rfl|exact .inr rfl|assumption):wpAny M A (storeName X.env x u) Q E s:=
 fA I hN hi hx r (fun s' I' _=>h s' I') hf
theorem Inv.F3 {s':Shared}{ch:List Addr}(I:Inv X pins σ H s)(ho:s'.os=s.os)(u:Un (CI X.stack) ch H H' s.heap s'.heap)(BY:Cm X.prog X.w H' s'.heap)(hg:AllBare s'.gens)
  (FL:∀ b∈ch,(b∈X.ex∨X.Ck.heap.objs.size<=b)/\b≠X.env.locals/\(∀ x c,X.env.cells.lookup x=some c->c≠b)/\∀ p∈X.pn++pins,p.1≠b):Inv X pins σ H' s':=by
 obtain⟨h',g',d',t',o'⟩:=s'
 have e:o'=s.os:=ho
 subst e
 exact I.call (g':=g') (t':=t') (d':=d') u BY hg FL
end
noncomputable abbrev XK:=Value->Option Addr->Hp->Prop
noncomputable abbrev St:=List (Option V)
noncomputable abbrev VK:=V->Hp->Prop
noncomputable abbrev TE:=St->Hp->VK->Prop
noncomputable abbrev TT:=St->Hp->(Bool->Hp->Prop)->Prop
noncomputable abbrev TA:=St->Hp->(List V->Hp->Prop)->Prop
structure Ends where
 nx:St->Hp->Prop
 rt:VK
 bk:St->Hp->Prop:=fun _ _=>False
 ct:St->Hp->Prop:=fun _ _=>False
noncomputable abbrev TS:=Ends->St->Hp->Prop
def EP (X:Cx)(pins:List (Addr×Obj))(σ:St)(Q:VK)(u:Value)(s':Shared):Prop:=∃ v H',Inv X pins σ H' s'/\RelV v u/\Q v H'
def TP (X:Cx)(pins:List (Addr×Obj))(σ:St)(Q:Bool->Hp->Prop)(b:Bool)(s':Shared):Prop:=∃ H',Inv X pins σ H' s'/\Q b H'
def AP (X:Cx)(pins:List (Addr×Obj))(σ:St)(Q:List V->Hp->Prop)(us:List Value)(s':Shared):Prop:=∃ vs H',Inv X pins σ H' s'/\Vals vs us/\Q vs H'
def SP (X:Cx)(pins:List (Addr×Obj))(D:Ends)(f:Flow)(s':Shared):Prop:=
 match f with
 | .next=>∃ B4 H',Inv X pins B4 H' s'/\D.nx B4 H'
 | .brk=>∃ B4 H',Inv X pins B4 H' s'/\D.bk B4 H'
 | .cont=>∃ B4 H',Inv X pins B4 H' s'/\D.ct B4 H'
 | .ret u=>∃ v B4 H',Inv X pins B4 H' s'/\RelV v u/\D.rt v H'
def PE (X:Cx)(e:Expr)(t:TE):Prop:=
 ∀ (pins:List (Addr×Obj)) (s:Shared) (σ:St) (H:Hp) (Q:VK),Inv X pins σ H s->t σ H Q->wpAny (model X.prog X.w) X.A (eval e X.env) (EP X pins σ Q) X.xe s
def PT (X:Cx)(e:Expr)(t:TT):Prop:=
 ∀ (pins:List (Addr×Obj)) (s:Shared) (σ:St) (H:Hp) (Q:Bool->Hp->Prop),Inv X pins σ H s->t σ H Q->wpAny (model X.prog X.w) X.A (isTrue e X.env (eval e X.env)) (TP X pins σ Q) X.xe s
def PW (X:Cx)(e:Expr)(t:TT):Prop:=
 ∀ (whole:Sem Value) (pins:List (Addr×Obj)) (s:Shared) (σ:St) (H:Hp) (Q:Bool->Hp->Prop),Inv X pins σ H s->t σ H Q->wpAny (model X.prog X.w) X.A (isTrue e X.env whole) (TP X pins σ Q) X.xe s
theorem PW.pt {X:Cx}{e:Expr}{t:TT}(h:PW X e t):PT X e t:=h _
def PA (X:Cx)(es:List Expr)(t:TA):Prop:=
 ∀ (pos:Pos) (pins:List (Addr×Obj)) (s:Shared) (σ:St) (H:Hp) (Q:List V->Hp->Prop),Inv X pins σ H s->t σ H Q->wpAny (model X.prog X.w) X.A (spliced (backTo pos (starEach es X.env))) (AP X pins σ Q) X.xe s
def PS (X:Cx)(st:Stmt)(t:TS):Prop:=
 ∀ (pins:List (Addr×Obj)) (s:Shared) (σ:St) (H:Hp) (D:Ends),Inv X pins σ H s->t D σ H->wpAny (model X.prog X.w) X.A (exec st X.env) (SP X pins D) X.xe s
def Ey (X:Cx)(st:List Stmt)(t:TS):Prop:=
 ∀ (pins:List (Addr×Obj)) (s:Shared) (σ:St) (H:Hp) (D:Ends),Inv X pins σ H s->t D σ H->wpAny (model X.prog X.w) X.A (execs st X.env) (SP X pins D) X.xe s
theorem B7 {α:Type}{t:Sem α}{Q Q':α->Shared->Prop}{M:Model}{A:Around}{E:Value->Shared->Prop}{s:Shared}(h:wpAny M A t Q E s)(hQ:∀ a s,Q a s->Q' a s):wpAny M A t Q' E s:=wpAny_mono h hQ fun _ _ x=>x
section
variable {X:Cx}
def qI (i:Nat):TE:=fun σ H Q=>∃ v,σ[i]? = some (some v)/\Q v H
def tC (v:V):TE:=fun _ H Q=>Q v H
theorem mH {i:Nat}{x:Str}{pos:Pos}(hN:X.N[i]? = some x)(hv:J3 X.env.scope x)(hd:(x == ("__debug__" : Str))=false:=by decide) (F4:(x == ("__classdict__" : Str))=false:=by decide):PE X (.Name x pos) (qI i):=by
 intro pins s σ H Q I h
 obtain⟨v,e,h⟩:=h
 obtain⟨m,hn,hl⟩:=I.loc
 obtain⟨u,r,l⟩:=hl i x v hN e hv
 have fin:EP X pins σ Q u s:=⟨v,H,I,r,h⟩
 rcases l with ⟨hk,hm⟩|⟨hk,c,hc,Hy⟩
 ·exact wpAny_Name (wpAny_loadName_local I.ok.kind hk hn hm fin) hd
 ·rcases hk with hk|hk
  ·exact wpAny_Name (wpAny_loadName_cell I.ok.kind hk hc Hy fin) hd
  ·exact wpAny_Name (wpAny_loadName_free I.ok.kind hk hc Hy fin F4) hd
theorem vn {i j pos}:PE X (.Constant (.int i) j pos) (tC (.int i)):=fun _ _ _ H _ I h=>wpAny_Constant_int ⟨.int i,H,I.tok _,⟨_,rfl⟩,h⟩
theorem xS {b j pos}:PE X (.Constant (.bool b) j pos) (tC (.bl b)):=fun _ _ _ H _ I h=>Constant_bool ⟨.bl b,H,I,rfl,h⟩
theorem vp {j pos}:PE X (.Constant .none j pos) (tC .B5):=fun _ _ _ H _ I h=>Constant_none ⟨.B5,H,I,rfl,h⟩
theorem eA {x j pos}:PE X (.Constant (.str x) j pos) (tC (.str x)):=fun _ _ _ H _ I h=>Calls.Constant_str ⟨.str x,H,I.tok _,⟨_,rfl⟩,h⟩
def Gl (X:Cx)(x:Str):Prop:=X.env.kindOf x=some .globalImplicit
theorem bO {E:Value->Shared->Prop}{pins:List (Addr×Obj)}{s:Shared}{σ:St}{H:Hp}{x:Str}{u:Value}{pos:Pos}{Q:Value->Shared->Prop}(I:Inv X pins σ H s)(hg:Gl X x)(hm:X.mg x=some u)(h:Q u s)
  (hd:(x == ("__debug__" : Str))=false:=by decide):wpAny (model X.prog X.w) X.A (eval (.Name x pos) X.env) Q E s:=
 Calls.Name_function_global I.ok.kind hg (Calls.loadGlobal_global (by rw[I.ok.glob];exact I.mod.glob.keeps I.bk) hm h) hd
theorem cL {E:Value->Shared->Prop}{pins:List (Addr×Obj)}{s:Shared}{σ:St}{H:Hp}{x:Str}{u:Value}{pos:Pos}{Q:Value->Shared->Prop}(I:Inv X pins σ H s)(hg:Gl X x)(hm:X.mg x=none)(hv:bootBuiltins x=some u)(h:Q u s)
  (hn:x≠"__name__":=by decide) (hd:(x == ("__debug__" : Str))=false:=by decide):wpAny (model X.prog X.w) X.A (eval (.Name x pos) X.env) Q E s:=by
 obtain⟨mb,h1,h2⟩:=I.mod.blt
 exact Calls.Name_function_global I.ok.kind hg (Calls.loadGlobal_builtin (by rw[I.ok.glob];exact I.mod.glob.keeps I.bk) hm (by rw[I.ok.blt];exact h1.keeps I.bk) ((h2 x hn).trans hv) h) hd
theorem jL {x:Str}{v:V}{u:Value}{pos:Pos}(hg:Gl X x)(hm:X.mg x=some u)(r:RelV v u)(hd:(x == ("__debug__" : Str))=false:=by decide):PE X (.Name x pos) (tC v):=
 fun _ _ _ H _ I h=>bO I hg hm ⟨v,H,I,r,h⟩ hd
theorem qJ {x:Str}{v:V}{u:Value}{pos:Pos}(hg:Gl X x)(hm:X.mg x=none)(hv:bootBuiltins x=some u)(r:RelV v u)(hn:x≠"__name__":=by decide) (hd:(x == ("__debug__" : Str))=false:=by decide):PE X (.Name x pos) (tC v):=
 fun _ _ _ H _ I h=>cL I hg hm hv ⟨v,H,I,r,h⟩ hn hd
variable {a b:Expr}{ta tb:TE}{pos:Pos}
def PC (X:Cx)(op:CmpOp)(a b:Expr)(t:TE):Prop:=
 ∀ (pins:List (Addr×Obj)) (s:Shared) (σ:St) (H:Hp) (Q:VK),Inv X pins σ H s->t σ H Q->
  wpAny (model X.prog X.w) X.A (eval a X.env) (fun v BZ=>wpAny (model X.prog X.w) X.A (eval b X.env) (fun u DB=>wpAny (model X.prog X.w) X.A (compareOp op v u) (EP X pins σ Q) X.xe DB) X.xe BZ) X.xe s
def tB (t:TE):TT:=fun σ H Q=>t σ H fun x H1=>∃ c,x=.bl c/\Q c H1
theorem mI {op:CmpOp}{t:TE}(h:PC X op a b t)(h1:behindInMarks op b=false:=by first|exact F5 _ (by decide) (by decide)|rfl):PE X (.Compare a [op] [b] pos) t:=fun pins s σ H Q I hw=>wpAny_Compare1 (h pins s σ H Q I hw) h1
theorem mJ {op:CmpOp}{t:TE}(h:PC X op a b t)(h1:behindInMarks op b=false:=by first|exact F5 _ (by decide) (by decide)|rfl):PT X (.Compare a [op] [b] pos) (tB t):=by
 intro pins s σ H Q I hw
 refine wpAny_isTrue_Compare1 (B7 (h pins s σ H _ I hw) fun v s1 h1=>B7 h1 fun u s2 h2=>B7 h2 fun c s3 ⟨x,H1,I1,r1,q1⟩=>?_) h1
 obtain⟨d,rfl,q⟩:=q1
 cases r1
 exact wpAny_truthy_bool ⟨H1,I1,q⟩
variable {tA Lq:TT}{rest:List Expr}
def xT (t u:TT):TT:=fun σ H Q=>t σ H fun c H1=>if c=true then u σ H1 Q else Q false H1
def Qb (t u:TT):TT:=fun σ H Q=>t σ H fun c H1=>if c=true then Q true H1 else u σ H1 Q
def AZ (t:TT):TT:=fun σ H Q=>t σ H fun c H1=>Q (!c) H1
theorem qK (ha:PT X a tA):PW X (.BoolOp .And [a] pos) tA:=by
 intro wh pins s σ H Q I h
 refine isTrue_and (B7 (ha pins s σ H Q I h) fun c s1 e=>?_)
 cases c with
 | true=>exact isTrue_and_nil e
 | false=>exact e
theorem vq (ha:PT X a tA):PW X (.BoolOp .Or [a] pos) tA:=by
 intro wh pins s σ H Q I h
 refine isTrue_or (B7 (ha pins s σ H Q I h) fun c s1 e=>?_)
 cases c with
 | false=>exact isTrue_or_nil e
 | true=>exact e
theorem vt (ha:PT X a tA)(hb:PW X (.BoolOp .And (b::rest) pos) Lq):PW X (.BoolOp .And (a::b::rest) pos) (xT tA Lq):=by
 intro wh pins s σ H Q I h
 refine isTrue_and (B7 (ha pins s σ H _ I h) fun c s1 ⟨H1,I1,q1⟩=>?_)
 cases c with
 | true=>exact hb wh pins s1 σ H1 Q I1 q1
 | false=>exact⟨H1,I1,q1⟩
theorem xU (ha:PT X a tA)(hb:PW X (.BoolOp .Or (b::rest) pos) Lq):PW X (.BoolOp .Or (a::b::rest) pos) (Qb tA Lq):=by
 intro wh pins s σ H Q I h
 refine isTrue_or (B7 (ha pins s σ H _ I h) fun c s1 ⟨H1,I1,q1⟩=>?_)
 cases c with
 | true=>exact⟨H1,I1,q1⟩
 | false=>exact hb wh pins s1 σ H1 Q I1 q1
theorem vw (ha:PT X a tA):PT X (.UnaryOp .Not a pos) (AZ tA):=by
 intro pins s σ H Q I h
 exact isTrue_not (ha pins s σ H (fun c H1=>Q (!c) H1) I h)
theorem mK {op}{t:TE}(h:PE X a t):PE X (.BoolOp op [a] pos) t:=fun pins s σ H Q I hw=>BoolOp_one (h pins s σ H Q I hw)
end
def Dd (K:PySem.W.Frag)(H:Hp)(a:Addr)(xs:List V):Prop:=
 Rd H a (.lst xs)∨
  ∃ (o:Obj) (its:Array Value) (n:Nat),K.lookup a=some o/\o.cls=.type "list"/\o.dict=none/\o.data=.seq its n/\its.size<=sizeLine/\Vals xs its.toList
def De (K:PySem.W.Frag)(H:Hp)(a:Addr)(xs:List V):Prop:=
 Rd H a (.tup xs)∨
  ∃ (o:Obj) (its:Array Value) (n:Nat),K.lookup a=some o/\o.cls=.type "tuple"/\o.data=.seq its n/\its.size<=sizeLine/\Vals xs its.toList
noncomputable def A2:Value->Option V
 | .none=>some .B5
 | .bool b=>some (.bl b)
 | .int i _=>some (.int i)
 | .str x _=>some (.str x)
 | .bytes b _=>some (.Ic b)
 | .float b _=>some (.Mb b)
 | .ref a=>some (.ref a)
 | .type n=>some (.ty n)
 | _=>none
theorem RelV.abs {x:V}{u:Value}(r:RelV x u):A2 u=some x:=by
 cases x with
 | B5=>cases r;rfl
 | bl _=>cases r;rfl
 | int _=>obtain⟨t,rfl⟩:=r;rfl
 | str _=>obtain⟨t,rfl⟩:=r;rfl
 | Ic _=>obtain⟨t,rfl⟩:=r;rfl
 | Mb _=>obtain⟨t,rfl⟩:=r;rfl
 | ref _=>cases r;rfl
 | ty _=>cases r;rfl
theorem RelV.inj {x y:V}{u:Value}(r:RelV x u)(q:RelV y u):x=y:=Option.some.inj (r.abs.symm.trans q.abs)
theorem Vals.inj:∀ {xs ys:List V}{us:List Value},Vals xs us->Vals ys us->xs=ys
 | _,_,_,.nil,.nil=>rfl
 | _,_,_,.cons r t,.cons r' t'=>by rw[r.inj r',Vals.inj t t']
section
variable {X:Cx}{pins:List (Addr×Obj)}{σ:St}{H:Hp}{s:Shared}{a:Addr}{xs ys:List V}
theorem De.of {K:PySem.W.Frag}(h:H a=some (.tup xs)):De K H a xs:=.inl (.inl h)
theorem Inv.list (I:Inv X pins σ H s)(h:Dd X.K H a xs):∃ its:List Value,Vals xs its/\PlainL s.heap a its.toArray/\xs.length<=sizeLine:=by
 rcases h with h|⟨o,its,n,hk,hc,hd,hs,hz,r⟩
 ·obtain⟨z,its,n,r,e⟩:=h.ok I.BY
  exact⟨its,r,⟨_,n,e,rfl,rfl,rfl⟩,z⟩
 ·refine⟨its.toList,r,⟨o,n,I.Eo a o hk,hc,hd,by simpa using hs⟩,?_⟩
  have e:=r.length
  simp only[Array.length_toList] at e
  omega
theorem Inv.tuple (I:Inv X pins σ H s)(h:De X.K H a xs):∃ its:List Value,Vals xs its/\IsTup s.heap a its.toArray/\xs.length<=sizeLine:=by
 rcases h with h|⟨o,its,n,hk,hc,hs,hz,r⟩
 ·obtain⟨z,its,r,p⟩:=h.ok I.BY
  exact⟨its,r,p,z⟩
 ·refine⟨its.toList,r,⟨o,I.Eo a o hk,hc,n,by simpa using hs⟩,?_⟩
  have e:=r.length
  simp only[Array.length_toList] at e
  omega
theorem Inv.CK (I:Inv X pins σ H s)(h:Dd X.K H a xs)(h':Dd X.K H a ys):xs=ys:=by
 obtain⟨its,r,⟨o,n,e,_,_,d⟩,_⟩:=I.list h
 obtain⟨its',r',⟨o',n',e',_,_,d'⟩,_⟩:=I.list h'
 rw[e] at e';cases e'
 rw[d] at d'
 injection d' with d1 _
 have:its=its':=by simpa using congrArg Array.toList d1
 subst this
 exact r.inj r'
theorem Inv.Du (I:Inv X pins σ H s)(h:De X.K H a xs)(h':De X.K H a ys):xs=ys:=by
 obtain⟨its,r,⟨o,e,_,n,d⟩,_⟩:=I.tuple h
 obtain⟨its',r',⟨o',e',_,n',d'⟩,_⟩:=I.tuple h'
 rw[e] at e';cases e'
 rw[d] at d'
 injection d' with d1 _
 have:its=its':=by simpa using congrArg Array.toList d1
 subst this
 exact r.inj r'
end
noncomputable abbrev Cx.DL (X:Cx)(E:Value->Shared->Prop):Cx:={X with xe:=E}
noncomputable abbrev Cx.CF (X:Cx):Cx:=X.DL fun _ _=>False
theorem Cx.Ok.DL {X:Cx}(ok:X.Ok)(E:Value->Shared->Prop):(X.DL E).Ok:=
 ⟨ok.mod,ok.kind,ok.glob,ok.blt,ok.above,ok.inj,ok.has,ok.Ii,ok.hd,ok.frames,ok.BR,ok.Jw,ok.bs,ok.Fw,ok.ET,ok.EU,ok.CO,ok.D7⟩
theorem Cx.Ok.CP {X:Cx}{E:Value->Shared->Prop}(ok:(X.DL E).Ok):X.Ok:=
 ⟨ok.mod,ok.kind,ok.glob,ok.blt,ok.above,ok.inj,ok.has,ok.Ii,ok.hd,ok.frames,ok.BR,ok.Jw,ok.bs,ok.Fw,ok.ET,ok.EU,ok.CO,ok.D7⟩
section
variable {X:Cx}{pins:List (Addr×Obj)}{σ:St}{H:Hp}{s:Shared}{E:Value->Shared->Prop}
theorem Inv.DL (I:Inv X pins σ H s)(E:Value->Shared->Prop):Inv (X.DL E) pins σ H s:=⟨I.ok.DL E,I.os,I.bare,I.base,I.loc,I.cell,I.free,I.CB,I.pin,I.BY,I.len⟩
theorem Inv.CP (I:Inv (X.DL E) pins σ H s):Inv X pins σ H s:=⟨I.ok.CP,I.os,I.bare,I.base,I.loc,I.cell,I.free,I.CB,I.pin,I.BY,I.len⟩
end
section
variable {X:Cx}{st:Stmt}{rest:List Stmt}{t u:TS}{e:Expr}{te:TE}{pos:Pos}
def mL:TS:=fun D σ H=>D.nx σ H
def A3 (t u:TS):TS:=fun D σ H=>t {D with nx:=u D} σ H
theorem gc:Ey X [] mL:=fun _ _ σ H _ I h=>wpAny_execs_nil ⟨σ,H,I,h⟩
theorem dt (h1:PS X st t)(h2:Ey X rest u):Ey X (st::rest) (A3 t u):=by
 intro pins s σ H D I h
 refine wpAny_execs_cons (B7 (h1 pins s σ H {D with nx:=u D} I h) fun f s1 q=>?_)
 cases f with
 | next=>
  obtain⟨B4,H',I',q⟩:=q
  exact h2 pins s1 B4 H' D I' q
 | ret v=>exact q
 | brk=>exact q
 | cont=>exact q
def vx:TS:=fun D σ H=>D.bk σ H
def xV:TS:=fun D σ H=>D.ct σ H
theorem qL:PS X (.Pass pos) mL:=fun _ _ σ H _ I h=>wpAny_Pass ⟨σ,H,I,h⟩
theorem mM:PS X (.Break pos) vx:=fun _ _ σ H _ I h=>wpAny_Break ⟨σ,H,I,h⟩
theorem hW:PS X (.Continue pos) xV:=fun _ _ σ H _ I h=>wpAny_Continue ⟨σ,H,I,h⟩
theorem Inv.quiet {pins:List (Addr×Obj)}{σ:St}{H:Hp}{s:Shared}(I:Inv X pins σ H s):interactive X.env=false:=by simp[interactive,I.ok.kind]
theorem vy {x j pos pos'}:PS X (.Expr (.Constant (.str x) j pos) pos') mL:=fun _ s σ H _ I h=>wpAny_Expr (Calls.Constant_str (show SP X _ _ .next {s with toks:=s.toks+1} from ⟨σ,H,I.tok _,h⟩)) I.quiet
def xW (te:TE):TS:=fun D σ H=>te σ H fun _ H1=>D.nx σ H1
theorem gf (he:PE X e te)(hs:swapsWith e none pos.line X.env=pure false:=by rfl):PS X (.Expr e pos) (xW te):=by
 intro pins s σ H D I h
 exact wpAny_Expr_any (B7 (he pins s σ H _ I h) fun v s1 ⟨x,H1,I1,r1,q1⟩=>⟨σ,H1,I1,q1⟩) I.quiet hs
def A4 (te:TE):TS:=fun D σ H=>te σ H D.rt
theorem mO (he:PE X e te):PS X (.Return (some e) pos) (A4 te):=by
 intro pins s σ H D I h
 exact wpAny_Return_some (B7 (he pins s σ H _ I h) fun v s1 ⟨x,H1,I1,r1,q1⟩=>⟨x,σ,H1,I1,r1,q1⟩)
def xX:TS:=fun D _ H=>D.rt .B5 H
theorem qM:PS X (.Return none pos) xX:=fun _ _ σ H _ I h=>wpAny_Return_none ⟨.B5,σ,H,I,rfl,h⟩
def A5 (c:TT)(t u:TS):TS:=fun D σ H=>c σ H fun b H1=>if b=true then t D σ H1 else u D σ H1
theorem xY {c:Expr}{a b:List Stmt}{tc:TT}(hc:PT X c tc)(ha:Ey X a t)(hb:Ey X b u):PS X (.If c a b pos) (A5 tc t u):=by
 intro pins s σ H D I h
 refine wpAny_If (B7 (hc pins s σ H _ I h) fun d s1 ⟨H1,I1,q1⟩=>?_)
 cases d with
 | true=>exact ha pins s1 σ H1 D I1 q1
 | false=>exact hb pins s1 σ H1 D I1 q1
def vz:TS:=fun _ _ _=>False
theorem mP:PS X st vz:=fun _ _ _ _ _ _ h=>h.elim
end
noncomputable abbrev TG:=V->St->Hp->(St->Hp->Prop)->Prop
noncomputable abbrev Hz:=List V->St->Hp->(St->Hp->Prop)->Prop
def PG (X:Cx)(target:Expr)(t:TG):Prop:=
 ∀ (pins:List (Addr×Obj)) (s:Shared) (σ:St) (H:Hp) (v:V) (u:Value) (Q:St->Hp->Prop),Inv X pins σ H s->RelV v u->t v σ H Q->
  wpAny (model X.prog X.w) X.A (assign target X.env u) (fun _ s'=>∃ B4 H',Inv X pins B4 H' s'/\Q B4 H') X.xe s
def J6 (X:Cx)(ts:List Expr)(t:Hz):Prop:=
 ∀ (pins:List (Addr×Obj)) (s:Shared) (σ:St) (H:Hp) (vs:List V) (us:List Value) (Q:St->Hp->Prop),Inv X pins σ H s->Vals vs us->t vs σ H Q->
  wpAny (model X.prog X.w) X.A (assignInOrder ((assignEach ts X.env).map (·.2)) us) (fun _ s'=>∃ B4 H',Inv X pins B4 H' s'/\Q B4 H') X.xe s
section
variable {X:Cx}{pos:Pos}
def mQ (i:Nat):TG:=fun v σ H Q=>Q (σ.set i (some v)) H
theorem qN {i:Nat}{x:Str}(hN:X.N.Nodup)(hi:X.N[i]? = some x)(hx:Loc X.env.scope x)(hf:X.fn x=true∨X.env.scope.names.lookup x=some .local:=by first|exact .inl rfl|exact .inr rfl|assumption):PG X (.Name x pos) (mQ i):=by
 intro pins s σ H v u Q I r h
 exact wpAny_assign_Name (cJ I hN hi hx r (fun s' I'=>⟨_,H,I',h⟩) hf)
def xZ:Hz:=fun vs σ H Q=>vs=[]/\Q σ H
def sR (t:TG)(u:Hz):Hz:=fun vs σ H Q=>∃ v r,vs=v::r/\t v σ H fun B4 H'=>u r B4 H' Q
theorem qO:J6 X [] xZ:=by
 intro pins s σ H vs us Q I r h
 obtain⟨e,h⟩:=h
 subst e
 cases r
 exact assignInOrder_nil ⟨σ,H,I,h⟩
theorem mR {e:Expr}{es:List Expr}{t:TG}{u:Hz}(h1:PG X e t)(h2:J6 X es u)
  (hs:(assignEach (e::es) X.env).map (·.2)=assign e X.env::(assignEach es X.env).map (·.2):=by rfl):J6 X (e::es) (sR t u):=by
 intro pins s σ H vs us Q I r h
 obtain⟨v,vr,e1,h⟩:=h
 subst e1
 cases r with
 | cons r rr=>
  rw[hs]
  refine assignInOrder_cons (B7 (h1 pins s σ H _ _ _ I r h) fun _ s1 ⟨N2,H1,I1,q1⟩=>?_)
  exact h2 pins s1 N2 H1 _ _ Q I1 rr q1
def vA (te:TE)(g:TG):TS:=fun D σ H=>te σ H fun x H1=>g x σ H1 D.nx
theorem vB {tg e:Expr}{te:TE}{g:TG}(he:PE X e te)(hg:PG X tg g)(hs:swapsWithSole [tg] e pos.line X.env=pure false:=by rfl)(hw:swappedStores [tg] e X.env=pure none:=by rfl)
  (h1:(assignEach [tg] X.env).map (·.2)=[assign tg X.env]:=by rfl):PS X (.Assign [tg] e pos) (vA te g):=by
 intro pins s σ H D I h
 refine wpAny_Assign_stores (B7 (he pins s σ H _ I h) fun v s1 ⟨x,H1,I1,r1,q1⟩=>?_) hs hw
 rw[h1]
 exact B7 (hg pins s1 σ H1 x v _ I1 r1 q1) fun _ s2 q=>q
theorem iZ {i:Nat}{x:Str}{e:Expr}{te:TE}{pos':Pos}(hN:X.N.Nodup)(hi:X.N[i]? = some x)(hx:Loc X.env.scope x)(he:PE X e te)(hs:swapsWith e (some (.Name x pos')) pos.line X.env=pure false:=by rfl)(hf:X.fn x=true∨X.env.scope.names.lookup x=some .local:=by first|exact .inl rfl|exact .inr rfl|assumption) :
  PS X (.Assign [.Name x pos'] e pos) (vA te (mQ i)):=by
 intro pins s σ H D I h
 refine wpAny_Assign_Name (B7 (he pins s σ H _ I h) fun v s1 ⟨y,H1,I1,r1,q1⟩=>?_) hs
 exact cJ I1 hN hi hx r1 (fun s2 I2=>⟨_,H1,I2,q1⟩) hf
end
structure It where
 go:Nat->Hp->Prop
 GW:Nat->Hp->V->Hp->Prop
 stop:Nat->Hp->Prop
def cW (X:Cx)(pins:List (Addr×Obj))(H:Hp)(b:Addr):Prop:=
 H b=none/\b≠X.env.locals/\b∉X.fs/\(b∈X.ex∨X.Ck.heap.objs.size<=b)/\(∀ x c,X.env.cells.lookup x=some c->c≠b)/\∀ p∈X.pn++pins,p.1≠b
theorem Inv.Fy {X:Cx}{pins:List (Addr×Obj)}{σ:St}{H H':Hp}{s:Shared}{b:Addr}(I:Inv X pins σ H s)(hb:s.heap.objs.size<=b)(hn:H' b=none):cW X pins H' b:=by
 refine⟨hn,Nat.ne_of_gt (Nat.lt_of_lt_of_le I.lt hb),I.Me hb,.inr (Nat.le_trans I.sz hb),fun x c e z=>?_,fun p hp z=>?_⟩
 ·obtain⟨v,q⟩:=I.cell x c e
  exact absurd (Nat.lt_of_lt_of_le q.lt (by rw[z];exact hb)) (Nat.lt_irrefl _)
 ·exact absurd (Nat.lt_of_lt_of_le (Heap.lt_size (I.pin p hp).1) (by rw[z];exact hb)) (Nat.lt_irrefl _)
structure Turn (P:Program)(w:World)(K:PySem.W.Frag)(tg:Expr)(J:It)(fp:List Addr)(it:Addr)(tn:Nat->Heap->Prop):Prop where
 mem:it∈fp
 obj:∀ i h,tn i h->∀ b∈fp,∃ o,h.get? b=some o/\∀ v,o.data≠.cell v
 keep:∀ i h h',tn i h->(∀ b∈fp,∀ o,h.get? b=some o->h'.get? b=some o)->tn i h'
 item:∀ (X:Cx),X.prog=P->X.w=w->X.K=K->X.calm=true->∀ (i:Nat) (pins:List (Addr×Obj)) (s:Shared) (σ:St) (H:Hp) (E:Value->Shared->Prop),Inv X pins σ H s->(∀ b∈fp,cW X pins H b)->tn i s.heap->J.go i H->
  wpAny (model P w) X.A (pyNext (.ref it)) (fun r s1=>∃ u,r=some u/\
   wpAny (model P w) X.A (letOwnedTupleGo tg (.ref it) u) (fun _ s2=>∃ x H',Inv X pins σ H' s2/\RelV x u/\J.GW i H x H'/\tn (i+1) s2.heap/\∀ b∈fp,H' b=none) E s1) E s
 done:∀ (X:Cx),X.prog=P->X.w=w->X.K=K->X.calm=true->∀ (i:Nat) (pins:List (Addr×Obj)) (s:Shared) (σ:St) (H:Hp) (E:Value->Shared->Prop),Inv X pins σ H s->(∀ b∈fp,cW X pins H b)->tn i s.heap->J.stop i H->
  wpAny (model P w) X.A (pyNext (.ref it)) (fun r s1=>r=none/\Inv X pins σ H s1) E s
 self:∀ (A:Around) (i:Nat) (s:Shared) (Q:Value->Shared->Prop) (E:Value->Shared->Prop),tn i s.heap->Q (.ref it) s->wpAny (model P w) A (pyIter (.ref it)) Q E s
noncomputable abbrev TI:=St->Hp->(It->Hp->Prop)->Prop
def Jx (X:Cx)(pins:List (Addr×Obj))(σ:St)(tg:Expr)(R:It->Hp->Prop)(Lr:Value)(s2:Shared):Prop:=
 ∃ (it:Addr) (fp:List Addr) (tn:Nat->Heap->Prop) (J:It) (H':Hp),Lr=.ref it/\Inv X pins σ H' s2/\Turn X.prog X.w X.K tg J fp it tn/\tn 0 s2.heap/\(∀ b∈fp,cW X pins H' b)/\R J H'
def PI (X:Cx)(tg iter:Expr)(wi:TI):Prop:=
 ∀ (pins:List (Addr×Obj)) (s:Shared) (σ:St) (H:Hp) (R:It->Hp->Prop),Inv X pins σ H s->wi σ H R->
  wpAny (model X.prog X.w) X.A (eval iter X.env) (fun v s1=>wpAny (model X.prog X.w) X.A (pyIter v) (Jx X pins σ tg R) X.xe s1) X.xe s
theorem jM {M : Model}{A : Around}{E : Value -> Shared -> Prop}{s : Shared}{tg : Expr}{it : Addr}{u : Value}{o : Obj}{n : String}{vs : Array Value}{Q : Unit -> Shared -> Prop}(ho : s.heap.get? it = some o)(hc : o.cls = .type n)(hd : o.data = .fields vs)
    (hn : ["enumerate", "zip", "dict_itemiterator", "dict_reverseitemiterator", "odict_iterator", "itertools.zip_longest", "itertools.pairwise"].contains n = false) (hQ : Q () s) : wpAny M A (letOwnedTupleGo tg (.ref it) u) Q E s := by
  unfold letOwnedTupleGo
  cases tg <;> first
    | exact wpAny_pure hQ
    | (cases u <;> first
        | exact wpAny_pure hQ
        | (refine wpAny_bind (wpAny_load ho ?_)
           rw [hc, hd]
           show wpAny M A (if (["enumerate", "zip", "dict_itemiterator", "dict_reverseitemiterator", "odict_iterator", "itertools.zip_longest", "itertools.pairwise"].contains n&&vs[0]? == some (rawInt _)) = true then _ else _) Q E s
           rw [if_neg (by intro h; rw [hn, Bool.false_and] at h; cases h)]
           exact wpAny_pure hQ))
noncomputable def Lu (K:PySem.W.Frag)(a:Addr):It:=
 ⟨fun i H=>∃ xs x,Dd K H a xs/\xs[i]? = some x,fun i H x H'=>H'=H/\∀ xs,Dd K H a xs->xs[i]? = some x,fun i H=>∃ xs,Dd K H a xs/\xs.length<=i⟩
noncomputable def Mh (K:PySem.W.Frag)(a:Addr):It:=
 ⟨fun i H=>∃ xs x,De K H a xs/\xs[i]? = some x,fun i H x H'=>H'=H/\∀ xs,De K H a xs->xs[i]? = some x,fun i H=>∃ xs,De K H a xs/\xs.length<=i⟩
noncomputable def J7 (lo:Int)(n:Nat):It:=⟨fun i _=>i < n,fun i H x H'=>H'=H/\x=.int (lo+i),fun i _=>n<=i⟩
theorem lJ {P:Program}{w:World}{K:PySem.W.Frag}{tg:Expr}(a it:Addr):Turn P w K tg (Lu K a) [it] it (fun i h=>h.IsListIter it a i) where
 mem:=by simp
 obj:=fun i h st b hb=>by
  have e:b=it:=by simpa using hb
  subst e
  obtain⟨o,e,c,d⟩:=st
  exact⟨o,e,fun v z=>by rw[d] at z;cases z⟩
 keep:=fun i h h' st k=>st.at fun o e=>k it (by simp) o e
 item:=by
  intro X hP hw hK hc i pins s σ H E I hf st hg
  subst hP hw hK
  obtain⟨xs,x,hq,hx⟩:=hg
  obtain⟨its,rv,p,hz⟩:=I.list hq
  obtain⟨u,hu,ru⟩:=rv.get hx
  obtain⟨f0,f1,f2,f3,f4,f5⟩:=hf it (by simp)
  refine wpAny_pyNext_list_item st p.isList (x:=u) (by simpa using hu) fun h' Ez sb=>?_
  have I1:Inv X pins σ H {s with heap:=h'}:=I.turned (t':=s.toks) (fun b o hb e=>(sb.2 b hb).trans e) f0 f1 f3 f4 f5
  obtain⟨o,e,c,d⟩:=id Ez
  exact⟨u,rfl,jM (s:={s with heap:=h'}) e c d (by decide) ⟨x,H,I1,ru,⟨rfl,fun ys hy=>by rw[I.CK hy hq];exact hx⟩,Ez,fun b hb=>(hf b hb).1⟩⟩
 done:=by
  intro X hP hw hK hc i pins s σ H E I hf st hg
  subst hP hw hK
  obtain⟨xs,hq,hx⟩:=hg
  obtain⟨its,rv,p,hz⟩:=I.list hq
  obtain⟨f0,f1,f2,f3,f4,f5⟩:=hf it (by simp)
  have hl:=rv.length
  exact wpAny_pyNext_list_end (I.ok.hd hc) st p.isList (by simp;omega) fun h' eb=>⟨rfl,I.turned (t':=s.toks) (fun b o hb e=>eb b o hb e) f0 f1 f3 f4 f5⟩
 self:=fun _ _ _ _ _ st h=>wpAny_pyIter_listiter st h
theorem i0 {P:Program}{w:World}{K:PySem.W.Frag}{tg:Expr}(a it:Addr):Turn P w K tg (Mh K a) [it] it (fun i h=>h.IsTupleIter it a i) where
 mem:=by simp
 obj:=fun i h st b hb=>by
  have e:b=it:=by simpa using hb
  subst e
  obtain⟨o,e,c,d⟩:=st
  exact⟨o,e,fun v z=>by rw[d] at z;cases z⟩
 keep:=fun i h h' st k=>st.at fun o e=>k it (by simp) o e
 item:=by
  intro X hP hw hK hc i pins s σ H E I hf st hg
  subst hP hw hK
  obtain⟨xs,x,hq,hx⟩:=hg
  obtain⟨its,rv,p,hz⟩:=I.tuple hq
  obtain⟨u,hu,ru⟩:=rv.get hx
  obtain⟨f0,f1,f2,f3,f4,f5⟩:=hf it (by simp)
  refine wpAny_pyNext_tuple_item st (show s.heap.IsTuple a its.toArray from p) (x:=u) (by simpa using hu) fun h' Ez sb=>?_
  have I1:Inv X pins σ H {s with heap:=h'}:=I.turned (t':=s.toks) (fun b o hb e=>(sb.2 b hb).trans e) f0 f1 f3 f4 f5
  obtain⟨o,e,c,d⟩:=id Ez
  exact⟨u,rfl,jM (s:={s with heap:=h'}) e c d (by decide) ⟨x,H,I1,ru,⟨rfl,fun ys hy=>by rw[I.Du hy hq];exact hx⟩,Ez,fun b hb=>(hf b hb).1⟩⟩
 done:=by
  intro X hP hw hK hc i pins s σ H E I hf st hg
  subst hP hw hK
  obtain⟨xs,hq,hx⟩:=hg
  obtain⟨its,rv,p,hz⟩:=I.tuple hq
  obtain⟨f0,f1,f2,f3,f4,f5⟩:=hf it (by simp)
  have hl:=rv.length
  exact wpAny_pyNext_tuple_end (I.ok.hd hc) st (show s.heap.IsTuple a its.toArray from p) (by simp;omega) fun h' eb=>⟨rfl,I.turned (t':=s.toks) (fun b o hb e=>eb b o hb e) f0 f1 f3 f4 f5⟩
 self:=fun _ _ _ _ _ st h=>wpAny_pyIter_tupleiter st h
theorem i8 {P:Program}{w:World}{K:PySem.W.Frag}{tg:Expr}(it:Addr)(lo:Int)(n:Nat):Turn P w K tg (J7 lo n) [it] it (fun i h=>IsRangeIter h it (lo+(i:Nat)*1) ((n:Int) - (i:Nat)) 1) where
 mem:=by simp
 obj:=fun i h st b hb=>by
  have e:b=it:=by simpa using hb
  subst e
  exact⟨_,st,fun v z=>by
   have z':Data.fields _=Data.cell v:=z
   cases z'⟩
 keep:=fun i h h' st k=>k it (by simp) _ st
 item:=by
  intro X hP hw hK hc i pins s σ H E I hf st hg
  subst hP hw hK
  obtain⟨f0,f1,f2,f3,f4,f5⟩:=hf it (by simp)
  have W:=Walks.range (prog:=X.prog) (w:=X.w) (I.ok.hd hc) it lo 1 n
  refine W.item i s _ _ hg st fun v h' tk hv Ez kk=>?_
  obtain⟨t,rfl⟩:=hv
  have I1:Inv X pins σ H {s with heap:=h',toks:=tk}:=I.turned (fun b o hb e=>kk b o (by simpa using hb) e) f0 f1 f3 f4 f5
  refine⟨_,rfl,jM (s:={s with heap:=h',toks:=tk}) (n:="range_iterator") Ez rfl rfl (by decide) ⟨.int (lo+i),H,I1,⟨t,?_⟩,⟨rfl,rfl⟩,Ez,fun b hb=>(hf b hb).1⟩⟩
  rw[Int.mul_one]
 done:=by
  intro X hP hw hK hc i pins s σ H E I hf st hg
  subst hP hw hK
  obtain⟨f0,f1,f2,f3,f4,f5⟩:=hf it (by simp)
  exact wpAny_pyNext_range_end (I.ok.hd hc) st (by have:n<=i:=hg;omega) fun h' eb=>⟨rfl,I.turned (t':=s.toks) (fun b o hb e=>eb b o hb e) f0 f1 f3 f4 f5⟩
 self:=fun _ _ _ _ _ st h=>wpAny_pyIter_rangeiter st h
section
variable {X:Cx}{tg:Expr}
theorem mS {pins:List (Addr×Obj)}{σ:St}{H:Hp}{s:Shared}{R:It->Hp->Prop}{E:Value->Shared->Prop}{lo hi:Int}{t u v:Tok}{tk:Nat}(I:Inv X pins σ H s)(h1 : -(2 ^ 62)<=lo)(h2:lo < 2 ^ 62)(h3 : -(2 ^ 62)<=hi)(h4:hi < 2 ^ 62)
  (q:R (J7 lo (hi - lo).toNat) H):wpAny (model X.prog X.w) X.A (pyIter (.ref s.heap.objs.size)) (Jx X pins σ tg R) E {s with heap:=s.heap.push {cls:=.type "range",data:=.fields #[.int lo t,.int hi u,.int 1 v]},toks:=tk}:=by
 refine wpAny_pyIter_range (IsRange.new ..) (small_one h1 h2 h3 h4) ?_
 have I1:Inv X pins σ H {s with heap:=s.heap.push {cls:=.type "range",data:=.fields #[.int lo t,.int hi u,.int 1 v]},toks:=tk}:=I.kept fun b o e=>Heap.get?_push_of_some _ e
 refine⟨(s.heap.push {cls:=.type "range",data:=.fields #[.int lo t,.int hi u,.int 1 v]}).objs.size,[(s.heap.push {cls:=.type "range",data:=.fields #[.int lo t,.int hi u,.int 1 v]}).objs.size],_,_,H,rfl,
  I1.kept (t':=tk) fun b o e=>Heap.get?_push_of_some _ e,i8 _ lo (hi - lo).toNat,?_,fun b hb=>?_,q⟩
 ·have e1:lo+((0:Nat):Int)*1=lo:=by simp
  have e2:(((hi - lo).toNat:Nat):Int) - ((0:Nat):Int)=Builtin.Range.rangeSize lo hi 1:=by rw[rangeSize_one];split<;>omega
  show IsRangeIter _ _ (lo+((0:Nat):Int)*1) ((((hi - lo).toNat:Nat):Int) - ((0:Nat):Int)) 1
  rw[e1,e2]
  exact Heap.get?_push_size _ rfl
 ·have e:b=(s.heap.push {cls:=.type "range",data:=.fields #[.int lo t,.int hi u,.int 1 v]}).objs.size:=by simpa using hb
  subst e
  exact I1.Fy (Nat.le_refl _) (I1.BY.fresh (Nat.le_refl _))
def x3 (ta:TA):TI:=fun σ H R=>ta σ H fun vs H1=>∃ j:Int,vs=[.int j]/\-(2 ^ 62)<=j/\j < 2 ^ 62/\R (J7 0 j.toNat) H1
theorem fB {a:Expr}{ta:TA}{p pos:Pos}(hg:Gl X "range") (hm:X.mg "range" = none) (ha:PA X [a] ta) (hs:starEach [a] X.env=[(false,eval a X.env)]:=by rfl):PI X tg (.Call (.Name "range" p) [a] [] pos) (x3 ta):=by
 intro pins s σ H R I h
 refine Call_ (cL I hg hm boot_range (PyProof.Rows.callWith_type1 (B7 (ha pos pins s σ H _ I h) fun us s1 ⟨vs,H1,I1,r1,q1⟩=>?_) hs rfl))
 obtain⟨j,e,q1,q2,q⟩:=q1
 subst e
 cases r1 with
 | cons r rr=>
  cases rr
  obtain⟨t,rfl⟩:=r
  exact call_range_1 (mS I1 (by omega) (by omega) q1 q2 (by simpa using q))
def A6 (wi:TI)(g:TG)(tb:TS):TS:=fun D σ H=>wi σ H fun J H1=>∃ W:Nat->Nat->St->Hp->Prop,(∃ m,W 0 m σ H1)/\∀ i m σ H,W i m σ H->
 (J.stop i H/\D.nx σ H)∨(J.go i H/\∃ N:St->Hp->Prop,(∀ B4 H',N B4 H'->∃ m',m' < m/\W (i+1) m' B4 H')/\∀ x H',J.GW i H x H'->g x σ H' fun EA H2=>tb {D with nx:=N,ct:=N,bk:=D.nx} EA H2)
noncomputable def dI (fp:List Addr)(h:Heap):List (Addr×Obj):=fp.filterMap fun b=>(h.get? b).map fun o=>(b,o)
theorem cu {fp:List Addr}{h:Heap}{b:Addr}{o:Obj}(hb:b∈fp)(e:h.get? b=some o):(b,o)∈dI fp h:=List.mem_filterMap.mpr ⟨b,hb,by rw[e];rfl⟩
theorem lK {fp:List Addr}{h:Heap}{p:Addr×Obj}(hp:p∈dI fp h):p.1∈fp/\h.get? p.1=some p.2:=by
 obtain⟨b,hb,e⟩:=List.mem_filterMap.mp hp
 cases q:h.get? b with
 | none=>rw[q] at e;cases e
 | some o=>
  rw[q] at e
  have e':(b,o)=p:=Option.some.inj e
  subst e'
  exact⟨hb,q⟩
theorem Inv.pinned {pins:List (Addr×Obj)}{σ:St}{H:Hp}{s:Shared}{fp:List Addr}(I:Inv X pins σ H s)(hf:∀ b∈fp,cW X pins H b)(ho:∀ b∈fp,∃ o,s.heap.get? b=some o/\∀ v,o.data≠.cell v):Inv X (pins++dI fp s.heap) σ H s:=
 I.E8 fun p hp=>(List.mem_append.mp hp).elim (fun z=>I.pin p (List.mem_append_right _ z)) fun z=>by
  obtain⟨hb,e⟩:=lK z
  obtain⟨f0,f1,f2,_⟩:=hf p.1 hb
  obtain⟨o,e',d⟩:=ho p.1 hb
  rw[e] at e';cases e'
  exact⟨e,f0,f1,f2,d⟩
theorem Inv.Dl {pins pl:List (Addr×Obj)}{σ:St}{H:Hp}{s:Shared}(I:Inv X (pins++pl) σ H s):Inv X pins σ H s:=I.E8 fun p hp=>I.pin p (List.mem_append_right _ (List.mem_append_left _ hp))
theorem mT {iter:Expr}{body:List Stmt}{wi:TI}{g:TG}{tb:TS}{pos:Pos}(hp:PassesOwn (model X.prog X.w) X.A X.env X.xe)(hc:X.calm=true)(hi:PI X tg iter wi)(hg:PG X tg g)(hb:Ey X body tb)
  (hs:∀ x,foldedSetIterable iter X.env x=pure x:=by intro _;rfl):PS X (.For tg iter body [] pos) (A6 wi g tb):=by
 intro pins s σ H D I h
 refine wpAny_For (B7 (hi pins s σ H _ I h) fun v s1 h1=>B7 h1 fun Lr s2 h2=>?_) hs
 obtain⟨it,fp,tn,J,H2,e,I2,T,FN,f2,W,⟨m0,w0⟩,turn⟩:=h2
 subst e
 -- Mi stays true of Ij Ik objects through Ij loop
 have EX:∀ {H':Hp},(∀ b∈fp,H' b=none)->∀ b∈fp,cW X pins H' b:=fun hn b hb=>⟨hn b hb,(f2 b hb).2⟩
 refine codeAny_forLoop_any (fun n s'=>∃ i B4 H',Inv X pins B4 H' s'/\tn i s'.heap/\(∀ b∈fp,H' b=none)/\W i n B4 H') ?_ m0 ⟨0,σ,H2,I2,FN,fun b hb=>(f2 b hb).1,w0⟩
 rintro n s3 ⟨i,J8,H3,I3,N3,N4,w3⟩
 rcases turn i n J8 H3 w3 with ⟨stop,qn⟩|⟨go,N,hN,step⟩
 ·refine wpAny_passesOwn hp (B7 (T.done X rfl rfl rfl hc i pins s3 J8 H3 X.xe I3 (EX N4) N3 stop) fun r s4 ⟨hr,I4⟩=>?_)
  subst hr
  exact wpAny_execs_nil ⟨J8,H3,I4,qn⟩
 ·refine wpAny_passesOwn hp (B7 (T.item X rfl rfl rfl hc i pins s3 J8 H3 X.xe I3 (EX N4) N3 go) fun r s4 ⟨u,hr,h4⟩=>?_)
  subst hr
  refine wpAny_passesOwn hp (B7 h4 fun _ s5 ⟨x,H5,I5,r5,y5,J9,Mj⟩=>?_)
  have Qc:=I5.pinned (EX Mj) (T.obj _ _ J9)
  refine wpAny_passesOwn hp (B7 (hg _ s5 J8 H5 x u _ Qc r5 (step x H5 y5)) fun _ s6 ⟨Il,H6,I6,q6⟩=>?_)
  refine wpAny_passesOwn hp (B7 (hb _ s6 Il H6 _ I6 q6) fun f s7 q7=>?_)
  have again:∀ {F6:St}{H7:Hp},Inv X (pins++dI fp s5.heap) F6 H7 s7->N F6 H7->∃ m,m < n/\∃ i B4 H',Inv X pins B4 H' s7/\tn i s7.heap/\(∀ b∈fp,H' b=none)/\W i m B4 H':=fun {F6 H7} I7 n7=>by
   obtain⟨m',hm,w7⟩:=hN F6 H7 n7
   refine⟨m',hm,i+1,F6,H7,I7.Dl,T.keep _ _ _ J9 fun b hb o e=>(I7.pin (b,o) (List.mem_append_right _ (List.mem_append_right _ (cu hb e)))).1,fun b hb=>?_,w7⟩
   obtain⟨o,e,d⟩:=T.obj _ _ J9 b hb
   exact(I7.pin (b,o) (List.mem_append_right _ (List.mem_append_right _ (cu hb e)))).2.1
  cases f with
  | next=>obtain⟨F6,H7,I7,n7⟩:=q7;exact again I7 n7
  | cont=>obtain⟨F6,H7,I7,n7⟩:=q7;exact again I7 n7
  | brk=>obtain⟨F6,H7,I7,q7⟩:=q7;exact⟨F6,H7,I7.Dl,q7⟩
  | ret v=>obtain⟨x7,F6,H7,I7,r7,q7⟩:=q7;exact⟨x7,F6,H7,I7.Dl,r7,q7⟩
end
noncomputable abbrev R2:=V->V->Hp->VK->Prop
def EM (X:Cx)(f:Value->Value->Sem Value)(r:R2):Prop:=
 ∀ (pins:List (Addr×Obj)) (s:Shared) (σ:St) (H:Hp) (x y:V) (v u:Value) (Q:VK),Inv X pins σ H s->RelV x v->RelV y u->r x y H Q->
  wpAny (model X.prog X.w) X.A (f v u) (EP X pins σ Q) X.xe s
def Mk (X:Cx)(f:Value->Sem Value)(r:V->Hp->VK->Prop):Prop:=
 ∀ (pins:List (Addr×Obj)) (s:Shared) (σ:St) (H:Hp) (x:V) (v:Value) (Q:VK),Inv X pins σ H s->RelV x v->r x H Q->
  wpAny (model X.prog X.w) X.A (f v) (EP X pins σ Q) X.xe s
def bW (X:Cx)(f:Value)(r:List V->Hp->VK->Prop):Prop:=
 ∀ (pins:List (Addr×Obj)) (s:Shared) (σ:St) (H:Hp) (xs:List V) (us:List Value) (Q:VK),Inv X pins σ H s->Vals xs us->r xs H Q->
  wpAny (model X.prog X.w) X.A (call f us) (EP X pins σ Q) X.xe s
def A7 (X:Cx)(r:V->Hp->(Bool->Hp->Prop)->Prop):Prop:=
 ∀ (pins:List (Addr×Obj)) (s:Shared) (σ:St) (H:Hp) (x:V) (v:Value) (Q:Bool->Hp->Prop),Inv X pins σ H s->RelV x v->r x H Q->
  wpAny (model X.prog X.w) X.A (truthy v) (TP X pins σ Q) X.xe s
def Lv (r:R2)(ta tb:TE):TE:=fun σ H Q=>ta σ H fun x H1=>tb σ H1 fun y H2=>r x y H2 Q
def Qd (r:V->Hp->VK->Prop)(ta:TE):TE:=fun σ H Q=>ta σ H fun x H1=>r x H1 Q
noncomputable def rI (C:Int->Int->Prop)(g:Int->Int->V):R2:=fun x y H Q=>∃ i j,x=.int i/\y=.int j/\C i j/\Q (g i j) H
noncomputable def Ml (g:Int->Int->V):R2:=fun x y H Q=>∃ i j,x=.int i/\y=.int j/\Q (g i j) H
def rU (g:Int->V):V->Hp->VK->Prop:=fun x H Q=>∃ i,x=.int i/\Q (g i) H
section
variable {X:Cx}{a b c:Expr}{ta tb tc:TE}{pos:Pos}
theorem vC (ha:PE X a ta)(hb:PE X b tb){pins:List (Addr×Obj)}{s:Shared}{σ:St}{H:Hp}{R:V->V->Hp->Prop}(I:Inv X pins σ H s)
  (h:ta σ H fun x H1=>tb σ H1 fun y H2=>R x y H2) {Q:Value->Shared->Prop}{f:Value->Value->Sem Value}
  (hf:∀ v u s2 x y H2,Inv X pins σ H2 s2->RelV x v->RelV y u->R x y H2->wpAny (model X.prog X.w) X.A (f v u) Q X.xe s2) :
  wpAny (model X.prog X.w) X.A (eval a X.env) (fun v BZ=>wpAny (model X.prog X.w) X.A (eval b X.env) (fun u DB=>wpAny (model X.prog X.w) X.A (f v u) Q X.xe DB) X.xe BZ) X.xe s:=by
 refine B7 (ha pins s σ H _ I h) fun v s1 ⟨x,H1,I1,r1,q1⟩=>?_
 refine B7 (hb pins s1 σ H1 _ I1 q1) fun u s2 ⟨y,H2,I2,r2,q2⟩=>?_
 exact hf v u s2 x y H2 I2 r1 r2 q2
theorem sS {op:Operator}{r:R2}(ho:EM X (binaryOp op) r)(ha:PE X a ta)(hb:PE X b tb):PE X (.BinOp a op b pos) (Lv r ta tb):=by
 intro pins s σ H Q I h
 exact wpAny_BinOp (vC ha hb I h fun v u s2 x y H2 I2 rx ry q=>ho pins s2 σ H2 x y v u Q I2 rx ry q)
theorem ya {op:UnaryOp}{r:V->Hp->VK->Prop}(ho:Mk X (unaryOp op) r)(ha:PE X a ta):PE X (.UnaryOp op a pos) (Qd r ta):=by
 intro pins s σ H Q I h
 exact UnaryOp_ (B7 (ha pins s σ H _ I h) fun v s1 ⟨x,H1,I1,r1,q1⟩=>ho pins s1 σ H1 x v Q I1 r1 q1)
theorem Lw {f:Value->Value->Sem Value}{C:Int->Int->Prop}{g:Int->Int->Int}
  (rule:∀ (i j:Int) (t u:Tok) (s:Shared) (Q:Value->Shared->Prop) (E:Value->Shared->Prop),C i j->Q (.int (g i j) s.toks) {s with toks:=s.toks+1}->wpAny (model X.prog X.w) X.A (f (.int i t) (.int j u)) Q E s) :
  EM X f (rI C fun i j=>.int (g i j)):=by
 intro pins s σ H x y v u Q I rx ry h
 obtain⟨i,j,rfl,rfl,hc,q⟩:=h
 obtain⟨t,rfl⟩:=rx
 obtain⟨t',rfl⟩:=ry
 exact rule i j t t' s _ _ hc ⟨.int (g i j),H,I.tok _,⟨_,rfl⟩,q⟩
theorem yb {f:Value->Value->Sem Value}{g:Int->Int->Int}
  (rule:∀ (i j:Int) (t u:Tok) (s:Shared) (Q:Value->Shared->Prop) (E:Value->Shared->Prop),Q (.int (g i j) s.toks) {s with toks:=s.toks+1}->wpAny (model X.prog X.w) X.A (f (.int i t) (.int j u)) Q E s) :
  EM X f (Ml fun i j=>.int (g i j)):=by
 intro pins s σ H x y v u Q I rx ry h
 obtain⟨i,j,rfl,rfl,q⟩:=h
 obtain⟨t,rfl⟩:=rx
 obtain⟨t',rfl⟩:=ry
 exact rule i j t t' s _ _ ⟨.int (g i j),H,I.tok _,⟨_,rfl⟩,q⟩
def A8 (i j:Int):Prop:=0 < j/\j < 1073741824
def A9 (i j:Int):Prop:=0<=j/\j<=1000000/\i.natAbs < 2 ^ 64
def vD (i j:Int):Prop:=(-(2 ^ 64) < i/\i < 2 ^ 64)∨(-(2 ^ 64) < j/\j < 2 ^ 64)
theorem vD.ok {i j:Int}(h:vD i j):IntMulOk i j:=by
 rcases h with ⟨h1,h2⟩|⟨h1,h2⟩
 ·exact .of_left (intBits_le_64 h1 h2)
 ·exact .of_right (intBits_le_64 h1 h2)
theorem vE:EM X (binaryOp .Add) (Ml fun i j=>.int (i+j)):=yb fun _ _ _ _ _ _ _ q=>add_int q
theorem vF:EM X (binaryOp .Sub) (Ml fun i j=>.int (i - j)):=yb fun _ _ _ _ _ _ _ q=>sub_int q
theorem vG:EM X (binaryOp .Mult) (rI vD fun i j=>.int (i*j)):=Lw fun _ _ _ _ _ _ _ hc q=>mul_int q hc.ok
theorem qP:EM X (binaryOp .FloorDiv) (rI A8 fun i j=>.int (i / j)):=Lw fun i j _ _ _ _ _ hc q=>by
 have h1:(0:Int) < j:=hc.1
 have h2:j < 1073741824:=hc.2
 exact floordiv_int (by omega) (by rw[Int.fdiv_eq_ediv_of_nonneg i (by omega)];exact q) (.inl (PyProof.noPylong_small (by omega)))
theorem vH:EM X (binaryOp .Mod) (rI (fun _ j=>0 < j) fun i j=>.int (i % j)):=Lw fun i j _ _ _ _ _ hc q=>by
 have h1:(0:Int) < j:=hc
 exact mod_int' (by omega) (by rw[Int.fmod_eq_emod_of_nonneg i (by omega)];exact q)
theorem vI:EM X (binaryOp .Pow) (rI A9 fun i j=>.int (i ^ j.toNat)):=Lw fun _ _ _ _ _ _ _ hc q=>pow_int_small hc.1 hc.2.1 hc.2.2 q
theorem Qe {f:Value->Sem Value}{g:Int->Int}
  (rule:∀ (i:Int) (t:Tok) (s:Shared) (Q:Value->Shared->Prop) (E:Value->Shared->Prop),Q (.int (g i) s.toks) {s with toks:=s.toks+1}->wpAny (model X.prog X.w) X.A (f (.int i t)) Q E s) :
  Mk X f (rU fun i=>.int (g i)):=by
 intro pins s σ H x v Q I rx h
 obtain⟨i,rfl,q⟩:=h
 obtain⟨t,rfl⟩:=rx
 exact rule i t s _ _ ⟨.int (g i),H,I.tok _,⟨_,rfl⟩,q⟩
theorem vJ:Mk X (unaryOp .USub) (rU fun i=>.int (-i)):=Qe fun _ _ _ _ _ q=>neg_int q
end
section
variable {X:Cx}{a b c:Expr}{ta tb tc:TE}{pos:Pos}
theorem qQ {op:CmpOp}{r:R2}(ho:EM X (compareOp op) r)(ha:PE X a ta)(hb:PE X b tb)(hm:behindInMarks op b=false):PE X (.Compare a [op] [b] pos) (Lv r ta tb):=by
 intro pins s σ H Q I h
 exact wpAny_Compare1 (vC ha hb I h fun v u s2 x y H2 I2 rx ry q=>ho pins s2 σ H2 x y v u Q I2 rx ry q) hm
def yd (t:TE):TT:=fun σ H Q=>t σ H fun x H'=>∃ k,x=.bl k/\Q k H'
theorem qR {op:CmpOp}{r:R2}(ho:EM X (compareOp op) r)(ha:PE X a ta)(hb:PE X b tb)(hm:behindInMarks op b=false):PT X (.Compare a [op] [b] pos) (yd (Lv r ta tb)):=by
 intro pins s σ H Q I h
 refine wpAny_isTrue_Compare1 (B7 (ha pins s σ H _ I h) fun v s1 ⟨x,H1,I1,r1,q1⟩=>B7 (hb pins s1 σ H1 _ I1 q1) fun u s2 ⟨y,H2,I2,r2,q2⟩=>
  B7 (ho pins s2 σ H2 x y v u _ I2 r1 r2 q2) fun c s3 ⟨z,H3,I3,r3,k,e,q3⟩=>?_) hm
 subst e
 cases r3
 exact wpAny_truthy_bool ⟨H3,I3,q3⟩
def Ba (K:PySem.W.Frag)(x:V)(H:Hp)(k:Bool):Prop:=
 match x with
 | .B5=>k=false
 | .bl b=>k=b
 | .int i=>k=(i != 0)
 | .str y=>y.length<=sizeLine/\k=((y.length:Int) != 0)
 | .Ic y=>y.size<=sizeLine/\k=((y.size:Int) != 0)
 | .ref p=>(∃ xs,Dd K H p xs/\k = !xs.isEmpty)∨(∃ xs,De K H p xs/\k = !xs.isEmpty)∨∃ kvs,H p=some (.dK kvs)/\k = !kvs.isEmpty
 | _=>False
theorem i9 {κ:Type}{kvs:List (κ×V)}{vs:List (κ×Value)}(r:KV kvs vs):(!vs.isEmpty) = !kvs.isEmpty:=by
 cases r<;>rfl
theorem eB {xs:List V}{its:List Value}(r:Vals xs its):(!its.toArray.isEmpty) = !xs.isEmpty:=by
 cases r<;>simp
theorem eC:(sizeLine:Nat) < 2 ^ 63:=by rw[sizeLine_eq];decide
theorem vK:A7 X (fun x H Q=>∃ k,Ba X.K x H k/\Q k H):=by
 intro pins s σ H x v Q I rx h
 obtain⟨k,e,q⟩:=h
 have hl:=eC
 have hs:sizeLine=16777216:=sizeLine_eq
 cases x with
 | B5=>
  cases rx
  have e':k=false:=e
  subst e'
  exact truthy_none ⟨H,I,q⟩
 | bl b=>
  cases rx
  have e':k=b:=e
  subst e'
  exact wpAny_truthy_bool ⟨H,I,q⟩
 | int i=>
  obtain⟨t,rfl⟩:=rx
  have e':k=(i != 0):=e
  subst e'
  exact PySem.P.truthy_int ⟨H,I,q⟩
 | str y=>
  obtain⟨t,rfl⟩:=rx
  obtain⟨hy,e'⟩:y.length<=sizeLine/\k=((y.length:Int) != 0):=e
  subst e'
  exact PySem.P.truthy_str (by omega) ⟨H,I.tok _,q⟩
 | Ic y=>
  obtain⟨t,rfl⟩:=rx
  obtain⟨hy,e'⟩:y.size<=sizeLine/\k=((y.size:Int) != 0):=e
  subst e'
  exact PySem.W.truthy_bytes (by omega) ⟨H,I.tok _,q⟩
 | ref p=>
  cases rx
  have e':(∃ xs,Dd X.K H p xs/\k = !xs.isEmpty)∨(∃ xs,De X.K H p xs/\k = !xs.isEmpty)∨∃ kvs,H p=some (.dK kvs)/\k = !kvs.isEmpty:=e
  rcases e' with ⟨xs,hx,e'⟩|⟨xs,hx,e'⟩|⟨kvs,hx,e'⟩
  ·subst e'
   obtain⟨its,r,pl,hz⟩:=I.list hx
   have hlen:=r.length
   exact wpAny_truthy_list pl.isList (by simp only[List.size_toArray];omega) ⟨H,I.tok _,by rw[eB r];exact q⟩
  ·subst e'
   obtain⟨its,r,pl,hz⟩:=I.tuple hx
   have hlen:=r.length
   exact truthy_tuple pl (by simp only[List.size_toArray];omega) ⟨H,I.tok _,by rw[eB r];exact q⟩
  ·subst e'
   obtain⟨hz,hS,vs,r,m⟩:kvs.length<=sizeLine/\(p == sysModules)=false/\∃ vs,KV kvs vs/\s.heap.DictOf (aF X.prog X.w) p vs:=I.BY p _ hx
   have hlen:kvs.length=vs.length:=Paired.length r
   exact wpAny_truthy_dict hS m (by omega) ⟨H,I.tok _,by rw[i9 r];exact q⟩
 | _=>exact(show False from e).elim
theorem ja:EM X (binaryOp .Add) (fun x y H Q=>∃ i j,x=.str i/\y=.str j/\i.length+j.length<=sizeLine/\Q (.str (i++j)) H):=by
 intro pins s σ H x y v u Q I rx ry h
 obtain⟨i,j,rfl,rfl,hz,q⟩:=h
 obtain⟨t,rfl⟩:=rx
 obtain⟨t',rfl⟩:=ry
 exact add_str (fun t' tk=>⟨.str (i++j),H,I.tok _,⟨_,rfl⟩,q⟩) hz
theorem vals1 {x:V}{us:List Value}(r:Vals [x] us):∃ u,us=[u]/\RelV x u:=by
 cases r with
 | cons r1 r2=>cases r2;exact⟨_,rfl,r1⟩
theorem vals2 {x y:V}{us:List Value}(r:Vals [x,y] us):∃ u w',us=[u,w']/\RelV x u/\RelV y w':=by
 cases r with
 | cons r1 r2=>
  cases r2 with
  | cons r3 r4=>cases r4;exact⟨_,_,rfl,r1,r3⟩
theorem lL (hc:X.calm=true):bW X (.builtin "max") (fun xs H Q=>∃ i j,xs=[.int i,.int j]/\Q (.int (if j > i then j else i)) H):=by
 intro pins s σ H xs us Q I r h
 obtain⟨i,j,rfl,q⟩:=h
 obtain⟨u,w',rfl,⟨t,rfl⟩,⟨t',rfl⟩⟩:=vals2 r
 refine max_two_ints (I.ok.hd hc) fun h' tk k=>⟨_,H,I.kept k,?_,q⟩
 by_cases hj:j > i
 ·rw[if_pos hj,if_pos hj];exact⟨_,rfl⟩
 ·rw[if_neg hj,if_neg hj];exact⟨_,rfl⟩
theorem lM (hc:X.calm=true):bW X (.builtin "min") (fun xs H Q=>∃ i j,xs=[.int i,.int j]/\Q (.int (if j < i then j else i)) H):=by
 intro pins s σ H xs us Q I r h
 obtain⟨i,j,rfl,q⟩:=h
 obtain⟨u,w',rfl,⟨t,rfl⟩,⟨t',rfl⟩⟩:=vals2 r
 refine min_two_ints (I.ok.hd hc) fun h' tk k=>⟨_,H,I.kept k,?_,q⟩
 by_cases hj:j < i
 ·rw[if_pos hj,if_pos hj];exact⟨_,rfl⟩
 ·rw[if_neg hj,if_neg hj];exact⟨_,rfl⟩
def Bb (K:PySem.W.Frag)(x:V)(H:Hp)(n:Nat):Prop:=
 match x with
 | .str y=>y.length<=sizeLine/\n=y.length
 | .Ic y=>y.size<=sizeLine/\n=y.size
 | .ref p=>(∃ xs,Dd K H p xs/\n=xs.length)∨∃ xs,De K H p xs/\n=xs.length
 | _=>False
theorem C3:bW X (.builtin "len") (fun xs H Q=>∃ x n,xs=[x]/\Bb X.K x H n/\Q (.int n) H):=by
 intro pins s σ H xs us Q I r h
 obtain⟨x,n,rfl,e,q⟩:=h
 obtain⟨u,rfl,rx⟩:=vals1 r
 have hl:=eC
 have hs:sizeLine=16777216:=sizeLine_eq
 cases x with
 | str y=>
  obtain⟨t,rfl⟩:=rx
  obtain⟨hy,e'⟩:y.length<=sizeLine/\n=y.length:=e
  subst e'
  exact len_str (by omega) ⟨.int _,H,I.tok _,⟨_,rfl⟩,q⟩
 | Ic y=>
  obtain⟨t,rfl⟩:=rx
  obtain⟨hy,e'⟩:y.size<=sizeLine/\n=y.size:=e
  subst e'
  exact PySem.W.len_bytes (by omega) ⟨.int _,H,I.tok _,⟨_,rfl⟩,q⟩
 | ref p=>
  cases rx
  have e':(∃ xs,Dd X.K H p xs/\n=xs.length)∨∃ xs,De X.K H p xs/\n=xs.length:=e
  rcases e' with ⟨xs,hx,e'⟩|⟨xs,hx,e'⟩
  ·subst e'
   obtain⟨its,r',pl,hz⟩:=I.list hx
   have hlen:=r'.length
   exact Calls.call_len_list pl.isList (by simp only[List.size_toArray];omega) ⟨.int xs.length,H,I.tok _,⟨_,by simp only[List.size_toArray];rw[hlen]⟩,q⟩
  ·subst e'
   obtain⟨its,r',pl,hz⟩:=I.tuple hx
   have hlen:=r'.length
   exact len_tuple pl (by simp only[List.size_toArray];omega) ⟨.int xs.length,H,I.tok _,⟨_,by simp only[List.size_toArray];rw[hlen]⟩,q⟩
 | _=>exact(show False from e).elim
end
theorem d6.some_of {v:V}{o:Option Value}(r:d6 (some v) o):∃ u,o=some u/\RelV v u:=by
 cases o with
 | none=>exact(show False from r).elim
 | some u=>exact⟨u,rfl,r⟩
structure CW (k:Nat)(A:Around):Prop where
 hd:k < 1000->A.handled=none
 dp:A.depth+3*(k % 1000)+5 < recursionLimit
 un:A.units+16*(k % 1000)+200 < cLine
theorem CW.deeper {k:Nat}{A:Around}(r:CW (k+1) A)(env:Env)(hk:k % 1000≠999):CW k (A.deeper env):=
 ⟨fun z=>r.hd (by omega),by have:=r.dp;show A.depth+1+3*(k % 1000)+5 < _;omega,by have:=r.un;show A.units+3+16*(k % 1000)+200 < _;omega⟩
theorem CW.depth {k:Nat}{A:Around}(r:CW k A):A.depth < recursionLimit:=by have:=r.dp;omega
def mU:TA:=fun _ H Q=>Q [] H
def eD (ta:TE)(tr:TA):TA:=fun σ H Q=>ta σ H fun x H1=>tr σ H1 fun xs H2=>Q (x::xs) H2
section
variable {X:Cx}{e:Expr}{es:List Expr}{te:TE}{t:TA}{pos:Pos}
theorem bG:PA X [] mU:=fun _ _ _ _ H Q I h=>Calls.spliced_nil ⟨[],H,I,.nil,h⟩
theorem aL (ha:PE X e te)(hr:PA X es t)(hs:starEach (e::es) X.env=(false,eval e X.env)::starEach es X.env:=by rfl):PA X (e::es) (eD te t):=by
 intro pos pins s σ H Q I h
 rw[hs]
 show wpAny _ _ (spliced ((false,eval e X.env)::backTo pos (starEach es X.env))) _ _ s
 refine Calls.spliced_cons (B7 (ha pins s σ H _ I h) fun u s1 ⟨x,H1,I1,r1,q1⟩=>?_)
 exact B7 (hr pos pins s1 σ H1 _ I1 q1) fun us s2 ⟨xs,H2,I2,r2,q2⟩=>⟨x::xs,H2,I2,.cons r1 r2,q2⟩
def Bc (t:TA):TE:=fun σ H Q=>t σ H fun xs H1=>xs.length<=sizeLine/\∀ p,H1 p=none->Q (.ref p) (upd H1 p (.tup xs))
def Bd (t:TA):TE:=fun σ H Q=>t σ H fun xs H1=>xs.length<=sizeLine/\∀ p,H1 p=none->Q (.ref p) (upd H1 p (.lst xs))
theorem jb {x1}(h:PA X es t):PE X (.Tuple es x1 pos) (Bc t):=by
 intro pins s σ H Q I hq
 refine wpAny_Tuple_spliced (B7 (h pos pins s σ H _ I hq) fun us s1 ⟨xs,H1,I1,r,z,q⟩=>⟨by rw[<- r.length];exact z,?_⟩)
 have hf:H1 s1.heap.objs.size=none:=I1.BY.fresh (Nat.le_refl _)
 refine⟨.ref s1.heap.objs.size,upd H1 s1.heap.objs.size (.tup xs),I1.laid (t':=s1.toks) (fun b u e=>Heap.get?_push_of_some _ e) (Nat.le_refl _) ?_,rfl,q _ hf⟩
 exact⟨z,us,r,⟨_,Heap.get?_push_size _ rfl,rfl,_,rfl⟩⟩
theorem mV (h:PA X es t):PE X (.List es pos) (Bd t):=by
 intro pins s σ H Q I hq
 refine wpAny_List_spliced (B7 (h pos pins s σ H _ I hq) fun us s1 ⟨xs,H1,I1,r,z,q⟩=>⟨by rw[<- r.length];exact z,?_⟩)
 have hf:H1 s1.heap.objs.size=none:=I1.BY.fresh (Nat.le_refl _)
 refine⟨.ref s1.heap.objs.size,upd H1 s1.heap.objs.size (.lst xs),I1.laid (t':=s1.toks) (fun b u e=>Heap.get?_push_of_some _ e) (Nat.le_refl _) ?_,rfl,q _ hf⟩
 exact⟨z,us,0,r,Heap.get?_push_size _ rfl⟩
end
noncomputable abbrev Sp:=List V->Hp->VK->XK->Prop
noncomputable abbrev C6:=List Env->Hp->Shared->XK->Value->Shared->Prop
structure EY (P:Program)(w:World)(K:PySem.W.Frag)(mg:Str->Option Value)(base:Heap)(A:Around)(outer:List Env)(s:Shared)(H:Hp):Prop where
 frames:A.frames=some outer
 mod:Mod K mg base
 bs:∀ b o,base.get? b=some o->s.heap.get? b=some o/\H b=none
 Fw:base.objs.size<=s.heap.objs.size
 CO:s.heap.FunFrames base outer
 D7:∀ b∈CI outer,H b=none
 BY:Cm P w H s.heap
 bare:AllBare s.gens
def CE (outer:List Env)(P:Program)(w:World)(H:Hp)(s:Shared)(Q:VK)(u:Value)(s':Shared):Prop:=
 ∃ v H',s'.os=s.os/\AllBare s'.gens/\Un (CI outer) [] H H' s.heap s'.heap/\Cm P w H' s'.heap/\RelV v u/\Q v H'
def CR (CX:C6)(outer:List Env)(P:Program)(w:World)(H:Hp)(s:Shared)(Q:VK)(E:XK)(r:Result)(s':Shared):Prop:=
 match r with
 | .ok (.ret u)=>CE outer P w H s Q u s'
 | .ok _=>False
 | .error e=>CX outer H s E e s'
structure Df (P:Program)(w:World)(K:PySem.W.Frag)(mg:Str->Option Value)(base:Heap)(CX:C6)(k:Nat)(f:Addr)(fd:FuncData)(ps:List Str)(sp:Sp):Prop where
 len:∀ vs H Q E,sp vs H Q E->vs.length=ps.length
 run:∀ (A:Around) (outer:List Env) (s:Shared) (H:Hp) (args:Args) (us:List Value) (vs:List V) (Q:VK) (E:XK),CW k A->EY P w K mg base A outer s H->BindsTo s fd args (ps.zip us)->Vals vs us->sp vs H Q E->
  codeAny (model P w) A (.call (.ref f) args) (CR CX outer P w H s Q E) s
section
variable {X:Cx}{pins:List (Addr×Obj)}{σ:St}{H:Hp}{s s':Shared}
theorem Inv.Dv (I:Inv X pins σ H s):EY X.prog X.w X.K X.mg X.base X.A X.stack s H:=
 ⟨I.ok.frames,I.ok.mod,I.bs,Nat.le_trans I.ok.Fw I.sz,I.stack,I.D8,I.BY,I.bare⟩
theorem Inv.after {Q:VK}{u:Value}(I:Inv X pins σ H s)(h:CE X.stack X.prog X.w H s Q u s'):EP X pins σ Q u s':=by
 obtain⟨v,H',os,bare,un,BY,r,q⟩:=h
 obtain⟨hh,g,d,t,J'⟩:=s'
 obtain rfl:J'=s.os:=os
 exact⟨v,H',I.call (h':=hh) (g':=g) (d':=d) (t':=t) (ch:=[]) un BY bare (fun b z=>absurd z (by simp)),r,q⟩
end
def Binds (K:PySem.W.Frag)(fd:FuncData)(ps:List Str)(ds:List Value):Prop:=
 ∀ (s:Shared) (us:List Value),K.In s.heap->(us++ds).length=ps.length->BindsTo s fd ⟨us,[]⟩ (ps.zip (us++ds))
theorem Binds.all {K:PySem.W.Frag}{fd:FuncData}{ps:List Str}(h:∀ us:List Value,us.length=ps.length->bindArgs fd ⟨us,[]⟩=pure (ps.zip us)):Binds K fd ps []:=fun s us _ hl=>by
 rw[List.append_nil] at hl ⊢
 exact .of_eq (h us hl)
def Passes (CX:C6)(X:Cx)(E:XK):Prop:=∀ (pins:List (Addr×Obj)) (σ:St) (H:Hp) (s:Shared) (e:Value) (s':Shared),Inv X pins σ H s->CX X.stack H s E e s'->X.xe e s'
structure D9 (N P:List Str)(sc:Scope):Prop where
 kind:sc.kind=.function
 co:sc.isCoroutine=false
 gen:sc.isGenerator=false
 nd:N.Nodup
 pre:N.take P.length=P
 par:∀ x∈P,sc.names.lookup x=some .local∨sc.names.lookup x=some .cell
 Im:∀ y∈sc.names,y.2≠.free
theorem fC {kindOf:Str->Option NameKind}{x:Str}:∀ {binds:List (Str×Value)}{m:Str->Option Value},(∀ v,(x,v)∉binds)->bindL kindOf binds m x=m x
 | [],_,_=>rfl
 | (n,v)::r,m,h=>by
  unfold bindL
  rw[fC fun w hw=>h w (List.mem_cons_of_mem _ hw)]
  split
  ·have:x≠n:=by rintro rfl;exact h v List.mem_cons_self
   simp[this]
  ·rfl
theorem fD {kindOf:Str->Option NameKind}{x:Str}:∀ {binds:List (Str×Value)}{m:Str->Option Value},(∀ v,(x,v)∉binds)->bindC kindOf binds m x=m x
 | [],_,_=>rfl
 | (n,v)::r,m,h=>by
  unfold bindC
  rw[fD fun w hw=>h w (List.mem_cons_of_mem _ hw)]
  split
  ·rfl
  ·have:x≠n:=by rintro rfl;exact h v List.mem_cons_self
   simp[this]
theorem fE {kindOf:Str->Option NameKind}{x:Str}{v:Value}:∀ {P:List Str}{vs:List Value}{i:Nat}{m:Str->Option Value},P.Nodup->P[i]? = some x->vs[i]? = some v->kindOf x=some .local->
  bindL kindOf (P.zip vs) m x=some v
 | [],_,_,_,_,h,_,_=>by simp at h
 | _::_,[],_,_,_,_,h,_=>by simp at h
 | p::P,w::vs,0,m,nd,h1,h2,hk=>by
  simp at h1 h2;subst h1;subst h2
  show bindL kindOf ((p,w)::P.zip vs) m p=_
  unfold bindL
  rw[fC fun v hv=>(List.nodup_cons.mp nd).1 (List.of_mem_zip hv).1,if_pos hk]
  simp
 | p::P,w::vs,i+1,m,nd,h1,h2,hk=>by
  show bindL kindOf ((p,w)::P.zip vs) m x=_
  unfold bindL
  exact fE (i:=i) (List.nodup_cons.mp nd).2 (by simpa using h1) (by simpa using h2) hk
theorem fF {kindOf:Str->Option NameKind}{x:Str}{v:Value}:∀ {P:List Str}{vs:List Value}{i:Nat}{m:Str->Option Value},P.Nodup->P[i]? = some x->vs[i]? = some v->kindOf x≠some .local->
  bindC kindOf (P.zip vs) m x=some v
 | [],_,_,_,_,h,_,_=>by simp at h
 | _::_,[],_,_,_,_,h,_=>by simp at h
 | p::P,w::vs,0,m,nd,h1,h2,hk=>by
  simp at h1 h2;subst h1;subst h2
  show bindC kindOf ((p,w)::P.zip vs) m p=_
  unfold bindC
  rw[fD fun v hv=>(List.nodup_cons.mp nd).1 (List.of_mem_zip hv).1,if_neg hk]
  simp
 | p::P,w::vs,i+1,m,nd,h1,h2,hk=>by
  show bindC kindOf ((p,w)::P.zip vs) m x=_
  unfold bindC
  exact fF (i:=i) (List.nodup_cons.mp nd).2 (by simpa using h1) (by simpa using h2) hk
noncomputable def start (N:List Str)(vs:List V):St:=vs.map some++List.replicate (N.length - vs.length) none
noncomputable def cw (CX:C6)(P:Program)(w:World)(K:PySem.W.Frag)(mg:Str->Option Value)(base:Heap)(N:List Str)(qual:Str)(scope:Scope)(f:Addr)(cd:Value)(A:Around)(outer:List Env)(s:Shared)(H:Hp)(E:XK):Cx where
 prog:=P
 w:=w
 K:=K
 mg:=mg
 base:=base
 A:=A.deeper (envOfC qual scope s.heap.objs.size f cd)
 N:=N
 Ck:=s
 Dt:=H
 env:=envOfC qual scope s.heap.objs.size f cd
 outer:=outer
 stack:=envOfC qual scope s.heap.objs.size f cd::outer
 ex:=[]
 calm:=A.handled.isNone
 fn:=fun _=>true
 pn:=[]
 xe:=fun e s'=>wpAny (model P w) (A.deeper (envOfC qual scope s.heap.objs.size f cd)) (leaving (envOfC qual scope s.heap.objs.size f cd) e) (fun _ Fd=>CX outer H s E e Fd) (fun e' Fd=>CX outer H s E e' Fd) s'
theorem ia {sc:Scope}{n:Nat}{x:Str}(h:sc.names.lookup x=some .cell):∃ c,(cellsFrom n sc.names []).lookup x=some c:=by
 have q:=PySem.W.cellsFrom_some sc.names n [] (.inl h)
 exact Option.isSome_iff_exists.mp q
theorem lN {CX:C6}{P:Program}{w:World}{K:PySem.W.Frag}{mg:Str->Option Value}{base:Heap}{N ps:List Str}{qual:Str}{scope:Scope}{f:Addr}{cd:Value}{A:Around}{outer:List Env}{s s1:Shared}{H:Hp}{E:XK}{us:List Value}{vs:List V}
  (S:D9 N ps scope) (e0:EY P w K mg base A outer s H) (hl:vs.length=ps.length) (r:Vals vs us)
  (x:InCallC s s.heap.objs.size (bindL (envOfC qual scope s.heap.objs.size f cd).kindOf (ps.zip us) fun _=>none) (cellsFrom (s.heap.objs.size+1) scope.names []) (bindC (envOfC qual scope s.heap.objs.size f cd).kindOf (ps.zip us) fun _=>none) s1) :
  Inv (cw CX P w K mg base N qual scope f cd A outer s H E) [] (start N vs) H s1:=by
 have F7:ps.length<=N.length:=by have:=congrArg List.length S.pre;rw[List.length_take] at this;omega
 obtain⟨h1,tk,rfl,hk⟩:=x.done
 have Ka:∀ b:Addr,b∉(cw CX P w K mg base N qual scope f cd A outer s H E).ex:=fun b z=>absurd (show b∈([]:List Addr) from z) (by simp)
 refine⟨⟨e0.mod,S.kind,rfl,rfl,Nat.le_refl _,fun y z c h1 h2=>?_,fun y hy=>?_,fun y c _ h=>?_,fun h=>Option.isNone_iff_eq_none.mp h,Around.frames_deeper e0.frames,.inr ⟨rfl,rfl⟩,fun b z=>absurd z (Ka b),e0.bs,e0.Fw,fun b _ _=>Ka b,fun b z=>absurd z (Ka b),e0.CO,e0.D7⟩,
  rfl,e0.bare,Un.kept hk,⟨_,x.toInCall.ns,fun i y v h1 h2 h3=>?_⟩,fun y c h=>⟨_,x.cell y c h⟩,e0.BY.fresh (Nat.le_refl _),fun y c h=>?_,fun p hp=>absurd (show p∈([]:List (Addr×Obj)) from hp) (by simp),e0.BY.kept hk,?_⟩
 ·exact name_of_addr x.apart (PySem.mem_of_lookup h1) (PySem.mem_of_lookup h2)
 ·have hy:scope.names.lookup y=some .cell∨scope.names.lookup y=some .free:=hy
  rcases hy with hy|hy
  ·exact ia hy
  ·exact absurd rfl (S.Im _ (PySem.mem_of_lookup hy))
 ·exact Nat.le_of_lt (x.above y c (PySem.mem_of_lookup h))
 ·have hi:i < vs.length:=by
   unfold start at h2
   by_cases hi:i < vs.length
   ·exact hi
   ·rw[List.getElem?_append_right (by simpa using hi)] at h2
    rw[List.getElem?_replicate] at h2
    split at h2<;>cases h2
  have ha:vs[i]? = some v:=by
   unfold start at h2
   rw[List.getElem?_append_left (by simpa using hi),List.getElem?_map] at h2
   cases e:vs[i]? with
   | none=>rw[e] at h2;cases h2
   | some a=>rw[e] at h2;cases h2;rfl
  obtain⟨u,hu,rv⟩:=r.get ha
  have hp:ps[i]? = some y:=by
   rw[<- S.pre,List.getElem?_take_of_lt (by omega)];exact h1
  have N5:ps.Nodup:=by rw[<- S.pre];exact S.nd.sublist (List.take_sublist _ _)
  refine⟨u,rv,?_⟩
  rcases S.par y (List.mem_of_getElem? hp) with k|k
  ·exact .inl ⟨k,fE N5 hp hu k⟩
  ·obtain⟨c,e⟩:=ia (n:=s.heap.objs.size+1) k
   refine .inr ⟨.inl k,c,e,?_⟩
   have q:=x.cell y c e
   rw[fF N5 hp hu (by show scope.names.lookup y≠_;rw[k];decide)] at q
   exact q
 ·exact e0.BY.fresh (Nat.le_of_lt (x.above y c (PySem.mem_of_lookup h)))
 ·unfold start
  show _=N.length
  rw[List.length_append,List.length_map,List.length_replicate]
  omega
theorem sT {CX:C6}{P:Program}{w:World}{K:PySem.W.Frag}{mg:Str->Option Value}{base:Heap}{k:Nat}{f:Addr}{name qual:Str}{params:Arguments}{body:List Stmt}{scope:Scope}{dV kV doc pm DM ct oc:Value}{an od:Option Addr}
  {GX:Array (Option Value)}{N ps:List Str}{sp:Sp} (lk:K.lookup f=some ⟨oc,od,.func (PySem.W.fnOf name qual params body scope dV kV doc pm an DM ct),GX⟩) (F4:PySem.W.codeIn K DM qual=true) (S:D9 N ps scope)
  (Qf:k % 1000≠999) (len:∀ vs H Q E,sp vs H Q E->vs.length=ps.length)
  (F9:∀ (A:Around) (outer:List Env) (s:Shared) (H:Hp) (vs:List V) (Q:VK) (E:XK),CW k (A.deeper (envOfC qual scope s.heap.objs.size f DM))->sp vs H Q E->
   ∃ t,Ey (cw CX P w K mg base N qual scope f DM A outer s H E) body t/\t {nx:=fun _ H'=>Q .B5 H',rt:=Q} (start N vs) H) :
  Df P w K mg base CX (k+1) f (PySem.W.fnOf name qual params body scope dV kV doc pm an DM ct) ps sp:=by
 refine⟨len,fun A outer s H args us vs Q E hr e0 hb r Er=>?_⟩
 have hl:=len _ _ _ _ Er
 have KX:K.In s.heap:=e0.mod.GF.keeps fun b o e=>(e0.bs b o e).1
 have lim:s.heap.NoLimit:=e0.mod.nolimit.keeps fun b o e=>(e0.bs b o e).1
 have Kb:∀ y∈ps.zip us,scope.names.lookup y.1=some .local∨(scope.names.lookup y.1=some .cell/\((cellsFrom (s.heap.objs.size+1) scope.names []).lookup y.1).isSome=true):=fun ⟨n,v⟩ hy=>by
  rcases S.par n (List.of_mem_zip hy).1 with q|q
  ·exact .inl q
  ·exact .inr ⟨q,PySem.W.cellsFrom_some _ _ _ (.inl q)⟩
 refine codeAny_call_function hr.depth (KX _ _ lk) rfl S.co S.gen rfl (PySem.W.codeRec_of KX F4) (hb _ _ _ _ ?_)
 refine wpAny_newFunctionEnv_cells S.kind Kb fun env he s1 x=>?_
 subst he
 refine⟨lim.keeps x.toInCall.keep,codeAny_func ?_⟩
 obtain⟨t,ht,hq⟩:=F9 A outer s H vs Q E (hr.deeper _ Qf) Er
 have I:Inv (cw CX P w K mg base N qual scope f DM A outer s H E) [] (start N vs) H s1:=lN S e0 hl r x
 refine wpAny_mono (ht [] s1 (start N vs) H _ I hq) (fun fl s' hs=>?_) fun e s' hs=>hs
 have fin:∀ {B4:St}{H':Hp}{v:V}{u:Value},Inv (cw CX P w K mg base N qual scope f DM A outer s H E) [] B4 H' s'->RelV v u->Q v H'->CE outer P w H s Q u s':=
  fun {B4 H' v u} J rv q=>⟨v,H',J.os,J.bare,J.base,J.BY,rv,q⟩
 cases fl with
 | ret u=>
  obtain⟨v,B4,H',J,rv,q⟩:=hs
  exact fin J rv q
 | next=>
  obtain⟨B4,H',J,q⟩:=hs
  exact fin (v:=V.B5) (u:=Value.none) J rfl q
 | brk=>
  obtain⟨_,_,_,q⟩:=hs
  exact False.elim q
 | cont=>
  obtain⟨_,_,_,q⟩:=hs
  exact False.elim q
section
variable {X:Cx}{x:Str}{p pos:Pos}{e:Expr}{es:List Expr}{t:TA}{id T:String}{r:List V->Hp->VK->Prop}
def Mm (r:List V->Hp->VK->Prop)(t:TA):TE:=fun σ H Q=>t σ H fun vs H1=>r vs H1 Q
theorem eE (hc:bW X (.builtin id) r)(hg:Gl X x)(hm:X.mg x=none)(hv:bootBuiltins x=some (.builtin id))(ha:PA X (e::es) t)(hn:x≠"__name__":=by decide) (Mn:(x == ("__debug__" : Str))=false:=by decide)
  (he:starEach (e::es) X.env=(false,eval e X.env)::starEach es X.env:=by rfl) (F7:(backTo pos (starEach es X.env)).any (·.1)=false:=by rfl):PE X (.Call (.Name x p) (e::es) [] pos) (Mm r t):=by
 intro pins s σ H Q I h
 refine wpAny_Call_Name_kw (cL I hg hm hv ?_ hn Mn)
 exact PyProof.Rows.callWith_builtin1 (B7 (ha pos pins s σ H _ I h) fun us s1 ⟨vs,H1,I1,r1,q1⟩=>hc pins s1 σ H1 vs us Q I1 r1 q1) he F7
theorem dJ (hc:bW X (.type T) r)(hg:Gl X x)(hm:X.mg x=none)(hv:bootBuiltins x=some (.type T))(ha:PA X (e::es) t)(hn:x≠"__name__":=by decide) (Mn:(x == ("__debug__" : Str))=false:=by decide)
  (he:starEach (e::es) X.env=(false,eval e X.env)::starEach es X.env:=by rfl) (F7:(backTo pos (starEach es X.env)).any (·.1)=false:=by rfl):PE X (.Call (.Name x p) (e::es) [] pos) (Mm r t):=by
 intro pins s σ H Q I h
 refine wpAny_Call_Name_kw (cL I hg hm hv ?_ hn Mn)
 exact PyProof.Rows.callWith_type1 (B7 (ha pos pins s σ H _ I h) fun us s1 ⟨vs,H1,I1,r1,q1⟩=>hc pins s1 σ H1 vs us Q I1 r1 q1) he F7
end
end L2
namespace HT
open PySem PyProof.Rows
section
variable {prog:Program}{w:World}{A:Around}{E:Value->Shared->Prop}{s:Shared}
noncomputable def Es (n d:Nat):Option Int->Nat
 | none=>d
 | some v=>if v < 0 then (v+(n:Int)).toNat else min v.toNat n
end
end HT
namespace L2
open PySem PySem.Spec PyProof.Rows
noncomputable abbrev TO:=St->Hp->(Option Int->Hp->Prop)->Prop
def PO (X:Cx)(e:Option Expr)(t:TO):Prop:=
 ∀ (pins:List (Addr×Obj)) (s:Shared) (σ:St) (H:Hp) (Q:Option Int->Hp->Prop),Inv X pins σ H s->t σ H Q->
  wpAny (model X.prog X.w) X.A (evalPart e X.env) (fun u s'=>∃ o H',Inv X pins σ H' s'/\IsPart u o/\Q o H') X.xe s
noncomputable def qS:TO:=fun _ H Q=>Q none H
noncomputable def yf (t:TE):TO:=fun σ H Q=>t σ H fun x H1=>∃ i,x=.int i/\Q (some i) H1
theorem intsAre_of {ns:List Int}:∀ {us:List Value},Vals (ns.map V.int) us->IntsAre us ns:=by
 induction ns with
 | nil=>intro us r;rw[List.map_nil] at r;cases r;exact .nil
 | cons n ns ih=>
  intro us r
  rw[List.map_cons] at r
  cases r with
  | cons r1 r2=>
   obtain⟨t,e⟩:=r1
   subst e
   exact .cons n t (ih r2)
section
variable {X:Cx}{e:Expr}{te:TE}{lo hi:Option Expr}{tl th:TO}{pos p2:Pos}
theorem qT:PO X none qS:=by
 intro pins s σ H Q I h
 rw[evalPart_none]
 exact wpAny_pure ⟨none,H,I,.none,h⟩
theorem qU (h:PE X e te):PO X (some e) (yf te):=by
 intro pins s σ H Q I hw
 rw[evalPart_some]
 refine B7 (h pins s σ H _ I hw) fun u s1 ⟨x,H1,I1,r1,q1⟩=>?_
 obtain⟨i,rfl,q⟩:=q1
 obtain⟨t,rfl⟩:=r1
 exact⟨some i,H1,I1,.int i t,q⟩
def Lx (X:Cx)(r:V->Option Int->Option Int->Hp->VK->Prop):Prop:=
 ∀ (pins:List (Addr×Obj)) (s:Shared) (σ:St) (H:Hp) (x:V) (v vl vu:Value) (lo hi:Option Int) (sl:Addr) (Q:VK),Inv X pins σ H s->RelV x v->s.heap.IsSliceOf sl vl vu .none->IsPart vl lo->IsPart vu hi->r x lo hi H Q->
  ∃ T id,typeLookup (.type T) "__getitem__" = pure (some (.builtin id))/\s.TypeIs v T/\wpAny (model X.prog X.w) X.A (getItem v (.ref sl)) (EP X pins σ Q) X.xe s
def Qg (r:V->Option Int->Option Int->Hp->VK->Prop)(te:TE)(tl th:TO):TE:=fun σ H Q=>te σ H fun x H1=>tl σ H1 fun l H2=>th σ H2 fun u H3=>r x l u H3 Q
theorem ib {r:V->Option Int->Option Int->Hp->VK->Prop}(hr:Lx X r)(he:PE X e te)(hl:PO X lo tl)(hu:PO X hi th):PE X (.Subscript e (.Slice lo hi none p2) pos) (Qg r te tl th):=by
 intro pins s σ H Q I h
 refine Subscript_ (B7 (he pins s σ H _ I h) fun v s1 ⟨x,H1,I1,r1,q1⟩=>?_)
 refine wpAny_Slice (B7 (hl pins s1 σ H1 _ I1 q1) fun vl s2 ⟨l,H2,I2,pl,q2⟩=>B7 (hu pins s2 σ H2 _ I2 q2) fun vu s3 ⟨u,H3,I3,pu,q3⟩=>?_)
 rw[evalPart_none]
 refine wpAny_pure ?_
 have I4:Inv X pins σ H3 {s3 with heap:=s3.heap.push {cls:=.type "slice",data:=.fields #[vl,vu,.none]}}:=I3.kept (t':=s3.toks) fun b ob q=>Heap.get?_push_of_some _ q
 obtain⟨T,id,hT,ht,hg⟩:=hr pins {s3 with heap:=s3.heap.push {cls:=.type "slice",data:=.fields #[vl,vu,.none]}} σ H3 x v vl vu l u s3.heap.objs.size Q I4 r1 (Heap.IsSliceOf.new ..) pl pu q3
 show wpAny (model X.prog X.w) X.A (subscriptTail e (.Slice lo hi none p2) v (.ref s3.heap.objs.size)) (EP X pins σ Q) X.xe {s3 with heap:=s3.heap.push {cls:=.type "slice",data:=.fields #[vl,vu,.none]}}
 exact tail_any (ops:=[.ref s3.heap.objs.size,v]) ht hT hg (by with_unfolding_all rfl)
noncomputable def lO (xs:List V)(lo hi:Option Int):List V:=(xs.drop (HT.Es xs.length 0 lo)).take (HT.Es xs.length xs.length hi - HT.Es xs.length 0 lo)
theorem ic (xs:List V)(lo hi:Option Int):(lO xs lo hi).length<=xs.length:=by
 unfold lO
 rw[List.length_take,List.length_drop]
 omega
end
noncomputable def GY (n:Nat)(i:Int):Option Nat:=if 0<=i then (if i < n then some i.toNat else none) else if -(n:Int)<=i then some (i+n).toNat else none
noncomputable def Dw {α:Type}(xs:List α)(i:Int):Option α:=(GY xs.length i).bind fun j=>xs[j]?
theorem qV {n:Nat}{i:Int}{j:Nat}(h:GY n i=some j):seqIndex? i n=some j/\j < n/\-(n:Int)<=i/\i < n:=by
 unfold GY at h
 by_cases h0:0<=i
 ·rw[if_pos h0] at h
  by_cases h1:i < n
  ·rw[if_pos h1] at h
   have e:i.toNat=j:=Option.some.inj h
   exact⟨by rw[seqIndex_of h0 h1,e],by omega,by omega,h1⟩
  ·rw[if_neg h1] at h;cases h
 ·rw[if_neg h0] at h
  by_cases h1 : -(n:Int)<=i
  ·rw[if_pos h1] at h
   have e:(i+n).toNat=j:=Option.some.inj h
   exact⟨by rw[seqIndex_neg (by omega) h1,e],by omega,h1,by omega⟩
  ·rw[if_neg h1] at h;cases h
theorem gh {α:Type}{xs:List α}{i:Int}{v:α}(h:Dw xs i=some v):∃ j,seqIndex? i xs.length=some j/\xs[j]? = some v/\j < xs.length/\-(xs.length:Int)<=i/\i < xs.length:=by
 unfold Dw at h
 cases e:GY xs.length i with
 | none=>rw[e] at h;cases h
 | some j=>
  rw[e] at h
  obtain⟨h1,h2,h3,h4⟩:=qV e
  exact⟨j,h1,h,h2,h3,h4⟩
def qW (b:Expr):Prop:=∀ o i,subscripted b false o i=operate [o,i] (getItem o i)
def GG (X:Cx)(r:R2):Prop:=
 ∀ (value slice:Expr) (pins:List (Addr×Obj)) (s:Shared) (σ:St) (H:Hp) (x y:V) (v u:Value) (Q:VK),Inv X pins σ H s->RelV x v->RelV y u->r x y H Q->
  subscripted slice false v u=operate [v,u] (getItem v u)->wpAny (model X.prog X.w) X.A (subscriptTail value slice v u) (EP X pins σ Q) X.xe s
def N6 (X:Cx)(id:String)(r:V->List V->Hp->VK->Prop):Prop:=
 ∀ (pins:List (Addr×Obj)) (s:Shared) (σ:St) (H:Hp) (x:V) (xs:List V) (v:Value) (us:List Value) (Q:VK),Inv X pins σ H s->RelV x v->Vals xs us->r x xs H Q->
  wpAny (model X.prog X.w) X.A (call (.builtin id) (v::us)) (EP X pins σ Q) X.xe s
section
variable {X:Cx}{a b:Expr}{ta tb:TE}{pos:Pos}
theorem GG.or {r r':R2}(h:GG X r)(h':GG X r'):GG X (fun x y H Q=>r x y H Q∨r' x y H Q):=by
 intro value slice pins s σ H x y v u Q I rx ry q hs
 rcases q with q|q
 ·exact h value slice pins s σ H x y v u Q I rx ry q hs
 ·exact h' value slice pins s σ H x y v u Q I rx ry q hs
theorem yg {r:R2}(hr:GG X r)(ha:PE X a ta)(hb:PE X b tb)(hs:qW b):PE X (.Subscript a b pos) (Lv r ta tb):=by
 intro pins s σ H Q I h
 exact Subscript_ (vC ha hb I h fun v u s2 x y H2 I2 rx ry q=>hr a b pins s2 σ H2 x y v u Q I2 rx ry q (hs _ _))
noncomputable def yh (K:PySem.W.Frag):R2:=fun x y H Q=>∃ p xs i v,x=.ref p/\y=.int i/\Dd K H p xs/\Dw xs i=some v/\Q v H
noncomputable def yi (K:PySem.W.Frag):R2:=fun x y H Q=>∃ p xs i v,x=.ref p/\y=.int i/\De K H p xs/\Dw xs i=some v/\Q v H
noncomputable def yj:R2:=fun x y H Q=>∃ z i c,x=.str z/\y=.int i/\z.length<=sizeLine/\Dw z.cps.toList i=some c/\Q (.str ⟨#[c]⟩) H
theorem qX:GG X (yh X.K):=by
 intro value slice pins s σ H x y v u Q I rx ry h hs
 obtain⟨p,xs,i,z,rfl,rfl,hq,he,q⟩:=h
 cases rx
 obtain⟨t,rfl⟩:=ry
 obtain⟨its,r,pl,hz⟩:=I.list hq
 obtain⟨j,h1,h2,h3,h4,h5⟩:=gh he
 obtain⟨w,ew,Ga⟩:=r.get h2
 have hl:=r.length
 have hn:=eC
 have fin:EP X pins σ Q w s:=⟨z,H,I,Ga,q⟩
 by_cases h0:0<=i
 ·have hj:i.toNat=j:=by
   rw[seqIndex_of h0 h5] at h1
   exact Option.some.inj h1
  exact item_listR pl.isList h0 (by omega) (by rw[hj];simpa using ew) fin hs
 ·have hj:(i+(its.toArray.size:Int)).toNat=j:=by
   rw[seqIndex_neg (by omega) h4] at h1
   rw[List.size_toArray,<- hl]
   exact Option.some.inj h1
  exact subscriptTail_builtinR (x:=w) pl.isList.typeIs slot_list_getitem.lookup
   (wpAny_getItem_list_neg (Q:=fun r s'=>r=w/\EP X pins σ Q r s') pl.isList (by omega) (by rw[List.size_toArray]<;>omega) (by omega) (by rw[hj];simpa using ew) ⟨rfl,fin⟩) hs
theorem vL:GG X (yi X.K):=by
 intro value slice pins s σ H x y v u Q I rx ry h hs
 obtain⟨p,xs,i,z,rfl,rfl,hq,he,q⟩:=h
 cases rx
 obtain⟨t,rfl⟩:=ry
 obtain⟨its,r,pl,hz⟩:=I.tuple hq
 obtain⟨j,h1,h2,h3,h4,h5⟩:=gh he
 obtain⟨w,ew,Ga⟩:=r.get h2
 have hl:=r.length
 have hn:=eC
 have fin:EP X pins σ Q w s:=⟨z,H,I,Ga,q⟩
 exact subscriptTail_builtinR (x:=w) pl.typeIs slot_tuple_getitem.lookup
  (getItem_tuple (j:=j) (Q:=fun r s'=>r=w/\EP X pins σ Q r s') pl (by omega) (by omega) (by rw[List.size_toArray,<- hl];exact h1) (by simpa using ew) ⟨rfl,fin⟩) hs
theorem vM:GG X yj:=by
 intro value slice pins s σ H x y v u Q I rx ry h hs
 obtain⟨z,i,c,rfl,rfl,hz,he,q⟩:=h
 obtain⟨t,rfl⟩:=rx
 obtain⟨t',rfl⟩:=ry
 obtain⟨j,h1,h2,h3,h4,h5⟩:=gh he
 have hl:z.cps.toList.length=z.length:=by simp[Str.length]
 rw[hl] at h1 h4 h5
 have hn:=eC
 exact tail_any (typeIs_str s z t) slot_str_getitem.lookup (getItem_str (c:=c) (by
  have e1:decide (i < -(2 ^ 63:Int))=false:=decide_eq_false (by omega)
  have e2:decide (i >= 2 ^ 63)=false:=decide_eq_false (by omega)
  rw[e1,e2,Bool.or_false]) (by rw[h1];simpa using h2) ⟨.str ⟨#[c]⟩,H,I.tok _,⟨_,rfl⟩,q⟩) hs
noncomputable def Qh (K:PySem.W.Frag):R2:=fun x y H Q=>yh K x y H Q∨yi K x y H Q∨yj x y H Q
theorem vN:GG X (Qh X.K):=qX.or (vL.or vM)
theorem gk (lo hi:Option Int)(n:Nat):(sliceBounds lo hi none n).1=((HT.Es n 0 lo:Nat):Int)/\(sliceBounds lo hi none n).2.1=((HT.Es n n hi:Nat):Int)/\(sliceBounds lo hi none n).2.2=1:=by
 refine⟨?_,?_,rfl⟩
 ·cases lo with
  | none=>simp[sliceBounds,HT.Es]
  | some i=>
   simp only[sliceBounds,HT.Es,Option.getD_none,show (1:Int) > 0 by decide,if_true]
   by_cases h:i < 0
   ·simp only[h,if_true]<;>omega
   ·simp only[h,if_false]<;>omega
 ·cases hi with
  | none=>simp[sliceBounds,HT.Es]
  | some i=>
   simp only[sliceBounds,HT.Es,Option.getD_none,show (1:Int) > 0 by decide,if_true]
   by_cases h:i < 0
   ·simp only[h,if_true]<;>omega
   ·simp only[h,if_false]<;>omega
theorem ft (its:List Value)(lo hi:Option Int):slicePick its.toArray lo hi none=((its.drop (HT.Es its.length 0 lo)).take (HT.Es its.length its.length hi - HT.Es its.length 0 lo)).toArray:=by
 obtain⟨h1,h2,h3⟩:=gk lo hi its.toArray.size
 unfold slicePick
 rw[h1,h2,h3]
 simp only[sliceRange_one,pick_run,List.size_toArray]<;>rfl
def Be (K:PySem.W.Frag):V->Option Int->Option Int->Hp->VK->Prop:=fun x lo hi H Q=>∃ a xs,x=.ref a/\Dd K H a xs/\∀ p,H p=none->Q (.ref p) (upd H p (.lst (lO xs lo hi)))
theorem jN:Lx X (Be X.K):=by
 intro pins s σ H x v vl vu lo hi sl Q I rx hs pl pu h
 obtain⟨a,xs,rfl,hx,q⟩:=h
 cases rx
 obtain⟨its,r,ht,hz⟩:=I.list hx
 have hlen:=r.length
 refine⟨"list",_,slot_list_getitem.lookup,ht.isList.typeIs,?_⟩
 refine wpAny_getItem_list_slice ht.isList hs pl pu .none (by simp) ?_ (by rw[List.size_toArray]<;>omega)
 rw[ft,<- hlen]
 refine⟨.ref s.heap.objs.size,_,I.laid (t':=s.toks) (o:=.lst (lO xs lo hi)) (fun b ob q=>Heap.get?_push_of_some _ q) (Nat.le_refl _) ?_,rfl,q _ (I.BY.fresh (Nat.le_refl _))⟩
 exact⟨Nat.le_trans (ic xs lo hi) hz,_,0,(r.drop (HT.Es xs.length 0 lo)).take (HT.Es xs.length xs.length hi - HT.Es xs.length 0 lo),Heap.get?_push_size _ rfl⟩
theorem cy:bW X (.type "list") (fun xs H Q=>∃ p ys,xs=[.ref p]/\(Dd X.K H p ys∨De X.K H p ys)/\∀ l,H l=none->Q (.ref l) (upd H l (.lst ys))):=by
 intro pins s σ H xs us Q I r h
 obtain⟨p,ys,rfl,hq,q⟩:=h
 obtain⟨u,rfl,rx⟩:=vals1 r
 cases rx
 have fin:∀ (its:List Value),Vals ys its->ys.length<=sizeLine->∀ (h':Heap) (c':Nat),(∀ b o',s.heap.get? b=some o'->h'.get? b=some o')->
   h'.get? s.heap.objs.size=some {cls:=.type "list",dict:=none,data:=.seq its.toArray c',slots:=#[]}->EP X pins σ Q (.ref s.heap.objs.size) {s with heap:=h'}:=fun its r' hz h' c' kp e=>
  ⟨.ref s.heap.objs.size,_,I.laid (t':=s.toks) kp (Nat.le_refl _) (show aP X.prog X.w _ h' _ (.lst ys) from ⟨hz,its,c',r',e⟩),rfl,q _ (I.BY.fresh (Nat.le_refl _))⟩
 rcases hq with hq|hq
 ·obtain⟨its,r',pl,hz⟩:=I.list hq
  have hlen:=r'.length
  obtain⟨o,ho,hc,n,hd⟩:=pl.isList
  exact call_list_seq p (.inl rfl) ho hc hd (fun h' c' kp e=>fin its r' hz h' c' kp e) (by simp only[List.size_toArray]<;>omega)
 ·obtain⟨its,r',pl,hz⟩:=I.tuple hq
  have hlen:=r'.length
  obtain⟨o,ho,hc,n,hd⟩:=pl
  exact call_list_seq p (.inr rfl) ho hc hd (fun h' c' kp e=>fin its r' hz h' c' kp e) (by simp only[List.size_toArray]<;>omega)
def N7 (K:PySem.W.Frag)(T:String)(x:V)(H:Hp):Prop:=match x with
 | .str _=>T = "str"
 | .int _=>T = "int"
 | .ref p=>(T = "list"/\∃ xs,Dd K H p xs)∨(T = "tuple"/\∃ o,K.lookup p=some o/\o.cls=.type "tuple"/\o.dict=none)∨
   (T = "dict"/\((∃ kvs,H p=some (.dK kvs))∨∃ kvs,H p=some (.dT kvs)))∨(T = "set"/\∃ S n,H p=some (.set S n))
 | _=>False
theorem vO {pins:List (Addr×Obj)}{σ:St}{H:Hp}{s:Shared}{T:String}{x:V}{v:Value}(I:Inv X pins σ H s)(r:RelV x v)(ty:N7 X.K T x H) :
  s.TypeIs v T/\∀ a,v=.ref a->∃ ob,s.heap.get? a=some ob/\ob.dict=none:=by
 cases x with
 | str z=>
  obtain⟨t,rfl⟩:=r
  cases (show T = "str" from ty)
  exact⟨typeIs_str s z t,fun _ e=>nomatch e⟩
 | int i=>
  obtain⟨t,rfl⟩:=r
  cases (show T = "int" from ty)
  exact⟨typeIs_int s i t,fun _ e=>nomatch e⟩
 | ref p=>
  cases r
  rcases ty with ⟨rfl,xs,hq⟩|⟨rfl,o,hk,hc,hd⟩|⟨rfl,hk⟩|⟨rfl,S,n,hk⟩
  ·obtain⟨its,_,pl,_⟩:=I.list hq
   refine⟨pl.isList.typeIs,fun a e=>?_⟩
   cases e
   obtain⟨o,n,e,c,hd,_⟩:=pl
   exact⟨o,e,hd⟩
  ·refine⟨⟨o,I.Eo p o hk,hc⟩,fun a e=>?_⟩
   cases e
   exact⟨o,I.Eo _ o hk,hd⟩
  ·have z:∃ o,s.heap.get? p=some o/\o.ExactDict:=by
    rcases hk with ⟨kvs,hk⟩|⟨kvs,hk⟩
    ·obtain⟨_,_,_,_,o,_,_,e,ex,_⟩:=I.BY p _ hk
     exact⟨o,e,ex⟩
    ·obtain⟨_,_,_,_,o,_,_,e,ex,_⟩:=I.BY p _ hk
     exact⟨o,e,ex⟩
   obtain⟨o,e,ex⟩:=z
   refine⟨⟨o,e,ex.1⟩,fun a e2=>?_⟩
   cases e2
   exact⟨o,e,ex.2.1⟩
  ·obtain⟨o,_,_,_,e,ex,_⟩:=I.BY p _ hk
   refine⟨⟨o,e,ex.1⟩,fun a e2=>?_⟩
   cases e2
   exact⟨o,e,ex.2.1⟩
 | _=>exact False.elim ty
def N8 (K:PySem.W.Frag)(T:String)(r:V->List V->Hp->VK->Prop)(to:TE)(t:TA):TE:=fun σ H Q=>to σ H fun x H1=>N7 K T x H1/\t σ H1 fun xs H2=>r x xs H2 Q
variable {o e:Expr}{es:List Expr}{to:TE}{t:TA}{name:Str}{apos BQ:Pos}{T id:String}{r:V->List V->Hp->VK->Prop}
theorem jO (pa:PlainAttrs T)(slot:Slot T name id)(Jy:typeOf (.builtin id)=pure (.type "method_descriptor")) (hm:N6 X id r) (ho:PE X o to) (ha:PA X (e::es) t)
  (Dm:attributeBase o name X.env (eval o X.env)=eval o X.env:=by rfl)
  (EB:((backTo BQ (starEach (e::es) X.env)).all (fun x=>!x.1)&&(backToKw BQ (keywordEach [] X.env)).all (fun x=>x.1.isSome)
  &&decide ((e::es).length+([]:List Keyword).length+(if ([]:List Keyword).isEmpty then 0 else 1) < 30))=true:=by rfl)
  (EC:(apos.endLine == BQ.line)=true:=by rfl) (hs:starEach (e::es) X.env=(false,eval e X.env)::starEach es X.env:=by rfl) (Io:(backTo BQ (starEach es X.env)).any (·.1)=false:=by rfl) :
  PE X (.Call (.Attribute o name apos) (e::es) [] BQ) (N8 X.K T r to t):=by
 intro pins s σ H Q I h
 refine wpAny_Call_method_late Dm EB EC rfl (B7 (ho pins s σ H _ I h) fun v s1 ⟨x,H1,I1,r1,ty,q1⟩=>?_)
 obtain⟨h1,h2⟩:=vO I1 r1 ty
 refine⟨T,id,pa,slot,Jy,h1,h2,?_⟩
 have hA:=ha BQ pins s1 σ H1 _ I1 q1
 rw[hs] at hA ⊢
 refine Calls.callWith_builtin (by show (false||(backTo BQ (starEach es X.env)).any (·.1))=false;rw[Io]<;>rfl) (Calls.evalArgs_plain ?_)
 exact B7 hA fun us s2 ⟨vs,H2,I2,r2,q2⟩=>hm pins s2 σ H2 x vs v us Q I2 r1 r2 q2
end
def N9 (X:Cx)(id:String)(r:V->List V->Hp->VK->Prop):Prop:=
 ∀ (pins:List (Addr×Obj)) (s:Shared) (σ:St) (H:Hp) (x:V) (xs:List V) (v:Value) (us:List Value) (Q:VK),Inv X pins σ H s->RelV x v->Vals xs us->r x xs H Q->
  wpAny (model X.prog X.w) X.A (call (.builtin id) (v::us)) (EP X pins σ Q) X.xe s
theorem Vals.one:∀ {x:V}{us:List Value},Vals [x] us->∃ u,us=[u]/\RelV x u
 | _,_,.cons r .nil=>⟨_,rfl,r⟩
section
variable {X:Cx}{pins:List (Addr×Obj)}{σ:St}{H:Hp}{s:Shared}{l b:Addr}{xs ys zs:List V}
theorem Inv.Ea {its its':List Value}{n:Nat}{f:Array Value->Array Value}{t':Nat}(I:Inv X pins σ H s)(hH:H l=some (.lst xs))
  (e:s.heap.get? l=some {cls:=.type "list",data:=.seq its.toArray n}) (hf:f its.toArray=its'.toArray) (hv:Vals ys its') (hz:ys.length<=sizeLine) :
  Inv X pins σ (upd H l (.lst ys)) {s with heap:=s.heap.update l (Obj.mapSeq f),toks:=t'}:=by
 have q:=PySem.IsL.update e f
 rw[hf] at q
 refine I.write (x:=l) (e:=l) (by rw[hH];exact trivial) (.inl rfl) (fun b' u hb hu=>(Heap.get?_update_other s.heap (Obj.mapSeq f) (Ne.symm hb)).trans hu) ⟨_,q⟩ ?_
 exact⟨hz,its',_,hv,q⟩
theorem Inv.Kc {its:List Value}{t':Nat}(I:Inv X pins σ H s)(hv:Vals ys its)(hz:ys.length<=sizeLine) :
  Inv X pins σ (upd H s.heap.objs.size (.lst ys)) {s with heap:=s.heap.push {cls:=.type "list",data:=.seq its.toArray},toks:=t'}:=
 I.laid (fun _ _ q=>Heap.get?_push_of_some _ q) (Nat.le_refl _) ⟨hz,its,0,hv,Heap.get?_push_size _ rfl⟩
theorem Inv.fresh (I:Inv X pins σ H s):H s.heap.objs.size=none:=I.BY.fresh (Nat.le_refl _)
theorem Inv.Mo (I:Inv X pins σ H s)(hH:H l=some (.lst xs)):xs.length<=sizeLine/\∃ (its:List Value) (n:Nat),Vals xs its/\xs.length=its.length/\s.heap.get? l=some {cls:=.type "list",data:=.seq its.toArray n}:=by
 obtain⟨z,its,n,r,e⟩:=I.BY l _ hH
 exact⟨z,its,n,r,r.length,e⟩
end
section
variable {X:Cx}
def qY:V->List V->Hp->VK->Prop:=fun x vs H Q=>∃ l xs y,x=.ref l/\vs=[y]/\H l=some (.lst xs)/\xs.length < sizeLine/\Q .B5 (upd H l (.lst (xs++[y])))
theorem fG:N9 X "list.append" qY:=by
 intro pins s σ H x vs v us Q I rx rv h
 obtain⟨l,xs,y,rfl,rfl,hH,hz,q⟩:=h
 cases rx
 obtain⟨u,rfl,ru⟩:=rv.one
 obtain⟨z,its,n,r,hl,e⟩:=I.Mo hH
 refine call_meets F.slot_list_append ⟨_,e,rfl⟩ F.entry_list_append (F.args_list_append_2 _ _) (PySem.list_append l its.toArray n u (by rw[List.size_toArray];omega)) ⟨e,?_⟩
 refine⟨.B5,_,I.Ea (its':=its++[u]) hH e (by simp) (r.append (.cons ru .nil)) ?_,rfl,q⟩
 rw[List.length_append,List.length_singleton]
 omega
end
end L2
namespace Att
open PySem PySem.W PySem.Calls PyProof.Rows
theorem d7 {P:Params}{h:Heap}:∀ (ns:List Int) (vs:List Value),WellAll P h vs (ns.map WData.int)->IntsAre vs ns:=by
 intro ns
 induction ns with
 | nil=>
  intro vs w
  rw[List.map_nil] at w
  cases w
  exact .nil
 | cons n ns ih=>
  intro vs w
  rw[List.map_cons] at w
  cases w with
  | cons a b=>
   cases a
   exact .cons _ _ (ih _ b)
theorem lP {l:OpenLaw}{n:Nat}(hn:l.most=some n){P:Params}{h:Heap}{args:List WData}{vals:List Value}
  (GZ:l.row.toRowW.claim.pre args=true) (Mp:WellAll P h vals args) :
  ∃ a vs ns,vals=[Value.ref a]/\args=[WData.list (ns.map WData.int)]/\h.get? a=some {cls:=.type "list",data:=.seq vs.toArray}/\IntsAre vs ns/\ns.length<=n:=by
 have Qi:WShape.hasAll [] args [.list .int]=true:=(pre_splitW GZ).1
 have hc:l.pre.holds [] {args:=args} = true:=(pre_splitW GZ).2
 obtain⟨d,r,rfl,h1,h2⟩:=hasAllW_cons Qi
 obtain rfl:=hasAllW_nil h2
 obtain⟨xs,rfl,h3⟩:=hasW_list h1
 obtain⟨ns,rfl⟩:=items_int h3
 have hlen:ns.length<=n:=by
  unfold OpenLaw.pre at hc
  have h4:(WTm.not (.lt (.lit (.int (n:Int))) (.len (.arg 0)))).holds [] {args:=[.list (ns.map .int)]} = true:=by
   have h4:=(holds_andW hc).1
   rw[hn] at h4
   exact h4
  have h5:=condW_of h4 (w_not (w_lt w_lit (w_len_list (w_arg rfl))))
  rw[List.length_map] at h5
  refine Nat.le_of_not_lt fun q=>?_
  have q':(n:Int) < ((ns.length:Nat):Int):=by omega
  first
   | (rw[decide_eq_true q'] at h5;exact absurd h5 (by decide))
   | (simp at h5;omega)
 cases Mp with
 | cons w1 w2=>
  cases w2
  cases w1 with
  | list ho Gb=>exact⟨_,_,ns,rfl,rfl,ho,d7 ns _ Gb,hlen⟩
theorem lQ (l:OpenLaw)(args:List WData):l.row.toRowW.claim.post args (.bool true) args=true:=
 postW_of (r:=l.row.toRowW) (X:=(true == true))
  (show WShape.has [] (.bool true) .bool=true by first|rfl|decide|simp[WShape.has,WShape.arms,WShape.armsAll])
  (show (WTm.eq .res (.lit (.bool true))).value [] {args:=args,res:=some (.bool true),after:=args} = some (.bool (true == true)) from w_eq_bool (w_res rfl) w_lit) rfl
theorem ED {l:OpenLaw}{n:Nat}{q:Program}{loose:List Str}{XP:(Str->Option Value)->Heap->Prop}{YP:World->Heap->Prop}{d:DefRec}
  (hn:l.most=some n) (Ke:d.params.defaults=[])
  (call:∀ (w:World) (Ck BZ:Shared) (mg mb:Str->Option Value) (fa:Addr) (o:Obj) (pm cd doc:Value) (a:Addr) (vs:List Value) (ns:List Int),
   Ground q loose [] XP w Ck mg mb BZ.heap->YP w BZ.heap->
   BZ.heap.get? fa=some o->o.data=.func (docDef d.name d.params d.body d.scope pm cd doc)->BZ.heap.CodeRec cd d.name->mg d.name=some (.ref fa)->
   BZ.heap.get? a=some {cls:=.type "list",data:=.seq vs.toArray}->IntsAre vs ns->ns.length<=n->BZ.gens = #[]->
   codeAny (model l.prog w) callerA (.call (.ref fa) ⟨[.ref a],[]⟩) (fun r s'=>r=.ok (.ret (.bool true))/\OldK BZ.heap s'.heap/\s'.os=BZ.os/\AllBare s'.gens) BZ) :
  WalkO q loose XP YP l.row.toRowW d [] (fun f vs=>PySem.call f vs):=by
 intro w Ck BZ mg mb G Y fa o pm cd doc dV kV ho hd F4 hD hmg hg args vals as GZ Qj Tu Mp Tv
 obtain rfl:dV=.none:=Dflts.none hD Ke
 obtain rfl:kV=.none:=Dflts.noKw hD
 obtain⟨a,vs,ns,rfl,rfl,Ip,hints,hlen⟩:=lP hn GZ Mp
 refine enter_call (codeAny_mono (call w Ck BZ mg mb fa o pm cd doc a vs ns G Y ho (fd_plain hd) F4 hmg Ip hints hlen hg) fun r s' hq=>?_)
 obtain⟨rfl,h2,h3,h4⟩:=hq
 exact⟨.inl ⟨.bool true,.bool true,[],rfl,fun _=>rfl,.bool true,lQ l _,fun _=>⟨List.Pairwise.nil,fun _ hm=>(nomatch hm)⟩⟩,h2,h3,h4⟩
end Att
namespace L2
open PySem PySem.Spec PyProof.Rows
def KL (K:PySem.W.Frag)(a:Addr)(xs:List V):Prop:=
 ∃ (its:List Value) (n:Nat),K.lookup a=some {cls:=.type "list",data:=.seq its.toArray n}/\its.length<=sizeLine/\Vals xs its
def Ls (K:PySem.W.Frag)(H:Hp)(a:Addr)(xs:List V):Prop:=Rd H a (.lst xs)∨KL K a xs
theorem fH:∀ {vs:List Value}{ns:List Int},IntsAre vs ns->Vals (ns.map V.int) vs
 | _,_,.nil=>.nil
 | _,_,.cons n t h=>.cons ⟨t,rfl⟩ (fH h)
def vP (H:Hp):Prop:=∀ b,H b=none∨∃ o xs,H b=some (.B6 o (.lst xs))
theorem mW {P:Program}{w:World}{K:PySem.W.Frag}{mg mb:Str->Option Value}{CX:C6}{k:Nat}{fa a:Addr}{fd:FuncData}{x:Str}{sp:Sp}{BZ:Shared}{vs:List Value}{ns:List Int}
  (KX:K.In BZ.heap) (Iq:BZ.heap.Ns mainGlobals mg) (hb:BZ.heap.Ns builtinsNs mb) (Qk:∀ x:Str,x≠"__name__"->mb x=bootBuiltins x) (Mq:BZ.heap.NoLimit) (hg:BZ.gens = #[])
  (ha:BZ.heap.get? a=some {cls:=.type "list",data:=.seq vs.toArray}) (hi:IntsAre vs ns) (hl:ns.length<=sizeLine) (hr:CW k callerA)
  (F:∀ base:Heap,K.In base->base.Ns mainGlobals mg->Df P w K mg base CX k fa fd [x] sp) (Kf:∀ (s:Shared) (u:Value),BindsTo s fd ⟨[u],[]⟩ [(x,u)])
  (Er:∀ H:Hp,vP H->Ls K H a (ns.map V.int)->sp [.ref a] H (fun v _=>v=.bl true) fun _ _ _=>False)
  (Mr:∀ H e s',CX [] H BZ (fun _ _ _=>False) e s'->False) :
  codeAny (model P w) callerA (.call (.ref fa) ⟨[.ref a],[]⟩) (fun r s'=>r=.ok (.ret (.bool true))/\OldK BZ.heap s'.heap/\s'.os=BZ.os/\AllBare s'.gens) BZ:=by
 have rv:=fH hi
 have Ms:=hi.length
 -- from an abstract heap in N' nothing but Ij Ir may be tracked
 have core:∀ H:Hp,vP H->Ls K H a (ns.map V.int)->Cm P w H BZ.heap->(∀ b,H b≠none->b=a)->(H a≠none->K.lookup a=none)->
   codeAny (model P w) callerA (.call (.ref fa) ⟨[.ref a],[]⟩) (fun r s'=>r=.ok (.ret (.bool true))/\OldK BZ.heap s'.heap/\s'.os=BZ.os/\AllBare s'.gens) BZ:=by
  intro H hO hS BY hA hK
  have Fe:∀ {b:Addr}{o:Obj},BZ.heap.get? b=some o->H b=none->(gb BZ.heap H).get? b=some o:=fun e n=>mG e n
  have Ka:∀ {b:Addr}{o:Obj}{es:Array DictEntry}{ep:Nat},BZ.heap.get? b=some o->o.data=.dict es ep->H b=none:=fun {b o es ep} e d=>by
   cases q:H b with
   | none=>rfl
   | some u=>
    have e':b=a:=hA b (by rw[q];simp)
    subst e'
    rw[ha] at e;cases e
    have d':Data.seq vs.toArray _=Data.dict es ep:=d
    cases d'
  have Ly:∀ {b:Addr}{m:Str->Option Value},BZ.heap.Ns b m->(gb BZ.heap H).Ns b m:=fun {b m} ⟨o,es,ep,e,d,r⟩=>⟨o,es,ep,Fe e (Ka e d),d,r⟩
  have Oa:K.In (gb BZ.heap H):=fun b o e=>Fe (KX b o e) (by
   cases q:H b with
   | none=>rfl
   | some u=>
    have e':b=a:=hA b (by rw[q];simp)
    subst e'
    rw[hK (by rw[q];simp)] at e;cases e)
  have hM:Mod K mg (gb BZ.heap H):=⟨Oa,Ly Iq,⟨mb,Ly hb,Qk⟩,let ⟨mc,h1,h2⟩:=Mq;⟨mc,Ly h1,h2⟩⟩
  have e0:EY P w K mg (gb BZ.heap H) callerA [] BZ H:=⟨rfl,hM,fun b o e=>qH e,Nat.le_of_eq (lI _ _),trivial,fun b hb=>absurd (show b∈([]:List Addr) from hb) (by simp),BY,.of_eq hg⟩
  refine codeAny_mono ((F _ Oa (Ly Iq)).run callerA [] BZ H ⟨[.ref a],[]⟩ [.ref a] [.ref a] _ _ hr e0 (Kf BZ (.ref a)) (.cons rfl .nil) (Er H hO hS)) fun r s' h=>?_
  cases r with
  | error e=>exact(Mr H e s' h).elim
  | ok fl=>
   cases fl with
   | next=>exact False.elim h
   | brk=>exact False.elim h
   | cont=>exact False.elim h
   | ret u=>
    obtain⟨v,H',os,bare,un,Mu,r',q⟩:=h
    have q':v=.bl true:=q
    subst q'
    obtain rfl:u=Value.bool true:=r'
    refine⟨rfl,OldK.of_keep fun b o e=>?_,os,bare⟩
    cases q:H b with
    | none=>exact un.keep b o e q (by intro z;exact absurd (show b∈([]:List Addr) from z) (by simp)) (by simp)
    | some u=>
     rcases hO b with z|⟨ob,xs,z⟩
     ·rw[q] at z;cases z
     ·have z2:=un.CJ b ob _ z
      obtain⟨e1,_⟩:=BY b _ z
      obtain⟨e2,_⟩:=Mu b _ z2
      rw[e] at e1;cases e1
      exact e2
 cases hk:K.lookup a with
 | some o=>
  -- Ij Ir is one of Ij Kg own objects
  have e:=KX a o hk
  rw[ha] at e
  cases e
  refine core (fun _=>none) (fun _=>.inl rfl) (.inr ⟨vs,_,hk,by rw[Ms];exact hl,rv⟩) (fun b u z=>by have z':(none:Option HO)=some u:=z;cases z') (fun b z=>absurd rfl z) fun z=>absurd rfl z
 | none=>
  refine core (fun b=>if b=a then some (.B6 {cls:=.type "list",data:=.seq vs.toArray} (.lst (ns.map V.int))) else none) (fun b=>?_) (.inl (.inr ⟨{cls:=.type "list",data:=.seq vs.toArray},if_pos rfl⟩)) (fun b u z=>?_) (fun b z=>?_) fun _=>hk
  ·by_cases hb:b=a
   ·exact .inr ⟨_,_,if_pos hb⟩
   ·exact .inl (if_neg hb)
  ·by_cases hb:b=a
   ·have z':=(if_pos hb).symm.trans z
    cases z'
    subst hb
    exact⟨ha,by rw[List.length_map];exact hl,vs,_,rv,ha⟩
   ·have z':=(if_neg hb).symm.trans z
    cases z'
  ·by_cases hb:b=a
   ·exact hb
   ·exact absurd (if_neg hb) z
theorem qZ {l:PySem.W.OpenLaw}{n k:Nat}{q:Program}{loose:List Str}{XP:(Str->Option Value)->Heap->Prop}{YP:World->Heap->Prop}{d:DefRec}{K:Params->PySem.W.Frag}{CX:World->C6}{sp:World->Sp}{x:Str}
  (hn:l.most=some n) (Lz:n<=sizeLine) (Ke:d.params.defaults=[]) (hr:CW k callerA)
  (hY:∀ (w:World) (h:Heap),YP w h->(K w.params).In h)
  (F:∀ (w:World) (mg:Str->Option Value) (fa:Addr) (h:Heap),(K w.params).In h->h.Ns mainGlobals mg->mg d.name=some (.ref fa)->
   ∃ fd:FuncData,(∀ (s:Shared) (u:Value),BindsTo s fd ⟨[u],[]⟩ [(x,u)])/\
    ∀ base:Heap,(K w.params).In base->base.Ns mainGlobals mg->Df l.prog w (K w.params) mg base (CX w) k fa fd [x] (sp w))
  (Er:∀ (w:World) (H:Hp) (a:Addr) (ns:List Int),ns.length<=n->vP H->Ls (K w.params) H a (ns.map V.int)->sp w [.ref a] H (fun v _=>v=.bl true) fun _ _ _=>False)
  (Mr:∀ (w:World) (H:Hp) (s:Shared) (e:Value) (s':Shared),CX w [] H s (fun _ _ _=>False) e s'->False) :
  PySem.W.WalkO q loose XP YP l.row.toRowW d [] (fun f vs=>PySem.call f vs):=by
 refine Att.ED hn Ke fun w Ck BZ mg mb fa o pm cd doc a vs ns G Y ho hd F4 hmg Ip hints hlen hg=>?_
 have KX:=hY w _ Y
 obtain⟨fd,hb,hF⟩:=F w mg fa _ KX G.T.g hmg
 exact mW KX G.T.g G.T.b G.T.builtins G.T.nolimit hg Ip hints (Nat.le_trans hlen Lz) hr hF hb (fun H hO hS=>Er w H a ns hlen hO hS) fun H e s'=>Mr w H BZ e s'
noncomputable def bD (s:Stmt):Arguments:=match s with
 | .FunctionDef _ a _ _ _ _ _ _ _ _=>a
 | _=>{posonlyargs:=[],args:=[],vararg:=none,kwonlyargs:=[],kw_defaults:=[],kwarg:=none,defaults:=[]}
noncomputable def aM (s:Stmt):List Stmt:=match s with
 | .FunctionDef _ _ b _ _ _ _ _ _ _=>b
 | _=>[]
noncomputable def ax (s:Stmt):Scope:=match s with
 | .FunctionDef _ _ _ _ _ _ sc _ _ _=>sc
 | _=>{kind:=.function,names:=[],isGenerator:=false,isCoroutine:=false}
structure HA (K:PySem.W.Frag)(x qual:Str)(st:Stmt)(f:Addr)(fd:FuncData):Prop where
 ex:∃ (oc:Value) (od:Option Addr) (kV doc pm:Value) (an:Option Addr) (DM ct:Value) (GX:Array (Option Value)),
  fd=PySem.W.fnOf x qual (bD st) (aM st) (ax st) .none kV doc pm an DM ct/\K.lookup f=some ⟨oc,od,.func fd,GX⟩/\PySem.W.codeIn K DM qual=true
 kp:PySem.W.keepIn K (.ref f)=true
section
variable {P:Program}{w:World}{K:PySem.W.Frag}{mg:Str->Option Value}{base:Heap}
theorem HA.binds {x qual:Str}{st:Stmt}{f:Addr}{fd:FuncData}{ps:List Str}(F:HA K x qual st f fd)
  (h:∀ (kV doc pm:Value) (an:Option Addr) (DM ct:Value) (us:List Value),us.length=ps.length->bindArgs (PySem.W.fnOf x qual (bD st) (aM st) (ax st) .none kV doc pm an DM ct) ⟨us,[]⟩=pure (ps.zip us)):Binds K fd ps []:=by
 obtain⟨oc,od,kV,doc,pm,an,DM,ct,GX,rfl,lk,F4⟩:=F.ex
 exact .all (h kV doc pm an DM ct)
theorem eF {x qual:Str}{st:Stmt}{f:Addr}{oc:Value}{od an:Option Addr}{GX:Array (Option Value)}{kV doc pm DM ct:Value}(l:K.lookup f=some ⟨oc,od,.func (PySem.W.fnOf x qual (bD st) (aM st) (ax st) .none kV doc pm an DM ct),GX⟩)
  (c:PySem.W.codeIn K DM qual=true) (k:PySem.W.keepIn K (.ref f)=true):HA K x qual st f (PySem.W.fnOf x qual (bD st) (aM st) (ax st) .none kV doc pm an DM ct):=⟨⟨oc,od,kV,doc,pm,an,DM,ct,GX,rfl,l,c⟩,k⟩
end
def au (H H':Hp):Prop:=∀ b o,H b=some o->H' b=some o
theorem au.refl (H:Hp):au H H:=fun _ _ h=>h
theorem au.trans {H H1 H2:Hp}(a:au H H1)(b:au H1 H2):au H H2:=fun c o h=>b c o (a c o h)
theorem au.free {H H':Hp}(e:au H H'){l:Addr}(h:H' l=Option.none):H l=Option.none:=by
 cases q:H l with
 | none=>rfl
 | some o=>
  rw[e l o q] at h
  cases h
theorem au.seq {K:PySem.W.Frag}{H H':Hp}{a:Addr}{xs:List V}(e:au H H')(h:Dd K H a xs):Dd K H' a xs:=by
 rcases h with (h|⟨o,h⟩)|h
 ·exact .inl (.inl (e _ _ h))
 ·exact .inl (.inr ⟨o,e _ _ h⟩)
 ·exact .inr h
theorem ay {X:Cx}{e:Expr}{t t':TE}(h:PE X e t)(m:∀ σ H Q,t' σ H Q->t σ H Q):PE X e t':=fun pins s σ H Q I q=>h pins s σ H Q I (m σ H Q q)
theorem dM {X:Cx}{e:Expr}{t t':TT}(h:PT X e t)(m:∀ σ H Q,t' σ H Q->t σ H Q):PT X e t':=fun pins s σ H Q I q=>h pins s σ H Q I (m σ H Q q)
theorem gm {X:Cx}{e:List Expr}{t t':TA}(h:PA X e t)(m:∀ σ H Q,t' σ H Q->t σ H Q):PA X e t':=fun pos pins s σ H Q I q=>h pos pins s σ H Q I (m σ H Q q)
theorem aR {X:Cx}{e:Stmt}{t t':TS}(h:PS X e t)(m:∀ D σ H,t' D σ H->t D σ H):PS X e t':=fun pins s σ H D I q=>h pins s σ H D I (m D σ H q)
theorem cR {X:Cx}{e:List Stmt}{t t':TS}(h:Ey X e t)(m:∀ D σ H,t' D σ H->t D σ H):Ey X e t':=fun pins s σ H D I q=>h pins s σ H D I (m D σ H q)
theorem jc {X:Cx}{tg e:Expr}{t t':TI}(h:PI X tg e t)(m:∀ σ H Q,t' σ H Q->t σ H Q):PI X tg e t':=fun pins s σ H Q I q=>h pins s σ H Q I (m σ H Q q)
def Ff (X:Cx)(scope:Scope)(cl:List (Str×Addr))(N:List Str)(C:Addr)(s3:Shared)(H3:Hp)(fp:List Addr)(xe:Value->Shared->Prop:=fun _ _=>False):Cx:=
 {X with N:=N,Ck:=s3,Dt:=H3,env:=compEnvC scope cl C X.env,outer:=X.stack,ex:=fp,fn:=fun _=>false,pn:=[],xe:=xe}
structure Dx (X:Cx)(scope:Scope)(cl:List (Str×Addr))(Fr:List (Str×Nat))(Tg:List Str):Prop where
 Kh:closureFor scope X.env=pure cl
 kind:scope.kind=.function
 Eb:∀ y∈scope.names,y.2≠.cell
 loc:∀ y∈scope.names,y.2=.local->scope.names.lookup y.1=some .local
 sub:∀ x c,cl.lookup x=some c->X.env.cells.lookup x=some c
 has:∀ x,((relabel scope X.env).names.lookup x=some .cell∨(relabel scope X.env).names.lookup x=some .free)->∃ c,cl.lookup x=some c
 out:∀ p∈Fr,X.N[p.2]? = some p.1/\(X.env.kindOf p.1=some .cell∨X.env.kindOf p.1=some .free)/\((relabel scope X.env).names.lookup p.1=some .cell∨(relabel scope X.env).names.lookup p.1=some .free)
noncomputable def stC (Fr:List (Str×Nat))(Tg:List Str)(σ:St):St:=Fr.map (fun p=>(σ[p.2]?).join)++List.replicate Tg.length none
section
variable {X:Cx}{scope:Scope}{cl:List (Str×Addr)}{Fr:List (Str×Nat)}{Tg:List Str}{pins:List (Addr×Obj)}{σ:St}{H3:Hp}{s3:Shared}{fp:List Addr}
theorem vQ (S:Dx X scope cl Fr Tg)(I:Inv X pins σ H3 s3)(hf:∀ b∈fp,cW X pins H3 b)(Mv:∀ b∈fp,b < s3.heap.objs.size)(N:List Str)(xe:Value->Shared->Prop):(Ff X scope cl N s3.heap.objs.size s3 H3 fp xe).Ok where
 mod:=I.ok.mod
 kind:=S.kind
 glob:=I.ok.glob
 blt:=I.ok.blt
 above:=Nat.le_refl _
 inj:=fun x y c h1 h2=>I.ok.inj x y c (S.sub x c h1) (S.sub y c h2)
 has:=fun x h=>S.has x h
 Ii:=fun x c h _=>absurd (show false=true from h) (by decide)
 hd:=I.ok.hd
 frames:=I.ok.frames
 BR:=.inl rfl
 Jw:=fun b hb=>⟨Nat.ne_of_lt (Mv b hb),fun x c e z=>(hf b hb).2.2.2.2.1 x c (S.sub x c e) z⟩
 bs:=I.bs
 Fw:=Nat.le_trans I.ok.Fw I.sz
 ET:=fun b o e hb=>by
  rcases (hf b hb).2.2.2.1 with z|z
  ·exact I.ok.ET b o e z
  ·exact absurd (Nat.lt_of_lt_of_le (Heap.lt_size e) (Nat.le_trans I.ok.Fw z)) (Nat.lt_irrefl _)
 EU:=fun b hb z=>by
  rcases List.mem_cons.mp (I.EV b z) with z|z
  ·exact(hf b hb).2.1 z
  ·exact(hf b hb).2.2.1 z
 CO:=I.stack
 D7:=I.D8
theorem lT (S:Dx X scope cl Fr Tg)(I:Inv X pins σ H3 s3)(hf:∀ b∈fp,cW X pins H3 b)(Mv:∀ b∈fp,b < s3.heap.objs.size){h':Heap}{tk:Nat}
  (Iq:h'.Ns s3.heap.objs.size (fun _=>none)) (hk:∀ b o,s3.heap.get? b=some o->h'.get? b=some o) (xe:Value->Shared->Prop) :
  Inv (Ff X scope cl (Fr.map (·.1)++Tg) s3.heap.objs.size s3 H3 fp xe) [] (stC Fr Tg σ) H3 {s3 with heap:=h',toks:=tk} where
 ok:=vQ S I hf Mv _ _
 os:=rfl
 bare:=I.bare
 base:=Un.kept hk
 loc:=by
  refine⟨_,Iq,fun i x v e1 e2 e3=>?_⟩
  have hi:i < Fr.length:=by
   by_cases hi:i < Fr.length
   ·exact hi
   ·unfold stC at e2
    rw[List.getElem?_append_right (by simpa using hi),List.getElem?_replicate] at e2
    split at e2<;>cases e2
  have LA:(Fr.map (·.1))[i]? = some x:=by
   rw[<- e1]
   exact(List.getElem?_append_left (by simpa using hi)).symm
  have CU:(Fr.map (fun p=>(σ[p.2]?).join))[i]? = some (some v):=by
   rw[<- e2]
   exact(List.getElem?_append_left (by simpa using hi)).symm
  rw[List.getElem?_map] at LA CU
  obtain⟨p,hp,rfl⟩:=Option.map_eq_some_iff.mp LA
  rw[hp] at CU
  have G0:(σ[p.2]?).join=some v:=Option.some.inj CU
  have e4:σ[p.2]? = some (some v):=by
   cases q:σ[p.2]? with
   | none=>rw[q] at G0;cases G0
   | some y=>rw[q] at G0;rw[show y=some v from G0]
  obtain⟨o1,o2,o3⟩:=S.out p (List.mem_of_getElem? hp)
  obtain⟨m,hn,hl⟩:=I.loc
  have hv:J3 X.env.scope p.1:=by
   rcases o2 with o2|o2
   ·exact .inr (.inl o2)
   ·exact .inr (.inr o2)
  obtain⟨u,r,l⟩:=hl p.2 p.1 v o1 e4 hv
  refine⟨u,r,.inr ⟨o3,?_⟩⟩
  obtain⟨c,hc⟩:=S.has p.1 o3
  refine⟨c,hc,?_⟩
  have Ep:=S.sub _ _ hc
  rcases l with ⟨k,_⟩|⟨_,c2,h2,z⟩
  ·rcases o2 with o2|o2<;>(rw[k] at o2;cases o2)
  ·rw[Ep] at h2;cases h2
   obtain⟨o,ho,hd⟩:=z
   exact⟨o,hk _ _ ho,hd⟩
 cell:=fun x c e=>by
  obtain⟨v,o,ho,hd⟩:=I.cell x c (S.sub x c e)
  exact⟨v,o,hk _ _ ho,hd⟩
 free:=I.BY.fresh (Nat.le_refl _)
 CB:=fun x c e=>I.CB x c (S.sub x c e)
 pin:=fun p hp=>absurd (show p∈([]:List (Addr×Obj)) from hp) (by simp)
 BY:=I.BY.kept hk
 len:=by
  unfold stC
  show _=(Fr.map (·.1)++Tg).length
  simp
end
def G1 (X:Cx)(ifs:List Expr)(t:TT):Prop:=
 ∀ (pins:List (Addr×Obj)) (s:Shared) (σ:St) (H:Hp) (Q:Bool->Hp->Prop),Inv X pins σ H s->t σ H Q->
  wpAny (model X.prog X.w) X.A (forIn ifs true fun c r=>if r=true then do let ok <- isTrue c X.env (eval c X.env);pure (ForInStep.yield ok) else pure (ForInStep.yield r)) (TP X pins σ Q) X.xe s
theorem dY {M:Model}{A:Around}{E:Value->Shared->Prop}{s:Shared}{env:Env}{Q:Bool->Shared->Prop}(h:Q false s):∀ ifs:List Expr,
  wpAny M A (forIn ifs false fun c r=>if r=true then do let ok <- isTrue c env (eval c env);pure (ForInStep.yield ok) else pure (ForInStep.yield r)) Q E s
 | []=>by
  rw[List.forIn_nil]
  exact wpAny_pure h
 | c::cs=>by
  rw[List.forIn_cons]
  rw[if_neg Bool.false_ne_true]
  exact wpAny_bind (wpAny_pure (dY h cs))
theorem ra {X:Cx}:G1 X [] (fun _ H Q=>Q true H):=fun pins s σ H Q I q=>by
 rw[List.forIn_nil]
 exact wpAny_pure ⟨H,I,q⟩
theorem mX {X:Cx}{c:Expr}{cs:List Expr}{t u:TT}(hc:PT X c t)(hr:G1 X cs u):G1 X (c::cs) (xT t u):=fun pins s σ H Q I q=>by
 rw[List.forIn_cons,if_pos rfl]
 refine wpAny_bind (wpAny_bind (B7 (hc pins s σ H _ I q) fun b s1 ⟨H1,I1,q1⟩=>wpAny_pure ?_))
 cases b with
 | true=>exact hr pins s1 σ H1 Q I1 q1
 | false=>exact dY ⟨H1,I1,q1⟩ cs
def mY (wi:TI)(start:St->St)(g:TG)(tt:TT)(te:TE):TE:=fun σ H Q=>wi σ H fun J H1=>∀ D,H1 D=none->∃ W:Nat->Nat->St->Hp->Prop,(∃ m,W 0 m (start σ) (upd H1 D (.lst [])))/\
 ∀ i m B4 H',W i m B4 H'->(J.stop i H'/\Q (.ref D) H')∨(J.go i H'/\∀ x H2,J.GW i H' x H2->g x B4 H2 fun EA H3=>tt EA H3 fun b H4=>
  if b=true then te EA H4 fun v H5=>∃ ys,H5 D=some (.lst ys)/\ys.length < sizeLine/\∃ m',m' < m/\W (i+1) m' EA (upd H5 D (.lst (ys++[v])))
  else ∃ m',m' < m/\W (i+1) m' EA H4)
section
variable {X:Cx}{scope:Scope}{cl:List (Str×Addr)}{Fr:List (Str×Nat)}{Tg:List Str}{elt tg iter:Expr}{ifs:List Expr}{wi:TI}{g:TG}{tt:TT}{te:TE}{pos:Pos}
theorem gn (scope:Scope)(pos:Pos)(it acc:Value)(env:Env) :
  compTurn (.ListComp elt [⟨tg,iter,ifs,0⟩] scope pos) 0 it acc env=(do
   standAt iter.pos
   match <- pyNext it with
   | none=>pure (.done .next)
   | some v=>
    letOwnedTupleGo tg it v
    assign tg env v
    let ok <- forIn ifs true fun c r=>if r=true then do let ok <- isTrue c env (eval c env);pure (ForInStep.yield ok) else pure (ForInStep.yield r)
    if ok=true then
     (do let _ <- call (.builtin "list.append") [acc,<- eval elt env])
    again (.compLoop (.ListComp elt [⟨tg,iter,ifs,0⟩] scope pos) 0 it acc env)):=by rfl
theorem eG {XE:Addr->Shared->Hp->List Addr->Value->Shared->Prop}(hc:X.calm=true)(S:Dx X scope cl Fr Tg)
  (hg:∀ C s H fp,PG (Ff X scope cl (Fr.map (·.1)++Tg) C s H fp (XE C s H fp)) tg g) (ht:∀ C s H fp,G1 (Ff X scope cl (Fr.map (·.1)++Tg) C s H fp (XE C s H fp)) ifs tt)
  (he:∀ C s H fp,PE (Ff X scope cl (Fr.map (·.1)++Tg) C s H fp (XE C s H fp)) elt te)
  {pins:List (Addr×Obj)}{σ:St}{H2:Hp}{s2:Shared}{it:Addr}{fp:List Addr}{tn:Nat->Heap->Prop}{J:It}{Q:VK} (I2:Inv X pins σ H2 s2) (T:Turn X.prog X.w X.K tg J fp it tn) (FN:tn 0 s2.heap)
  (f2:∀ b∈fp,cW X pins H2 b)
  (q:∀ D,H2 D=none->∃ W:Nat->Nat->St->Hp->Prop,(∃ m,W 0 m (stC Fr Tg σ) (upd H2 D (.lst [])))/\
   ∀ i m B4 H',W i m B4 H'->(J.stop i H'/\Q (.ref D) H')∨(J.go i H'/\∀ x H2,J.GW i H' x H2->g x B4 H2 fun EA H3=>tt EA H3 fun b H4=>
    if b=true then te EA H4 fun v H5=>∃ ys,H5 D=some (.lst ys)/\ys.length < sizeLine/\∃ m',m' < m/\W (i+1) m' EA (upd H5 D (.lst (ys++[v])))
    else ∃ m',m' < m/\W (i+1) m' EA H4))
  {E:Value->Shared->Prop}{RR:Value->Env->Result->Shared->Prop}
  (hR:∀ D C s' H',(∃ m,s'.heap.Ns C m)->Inv X pins σ H' s'->cW X pins H' C->Q (.ref D) H'->∀ V:Env,V.locals=C->V.frame=X.env.frame->RR (.ref D) V (.ok .next) s')
  (hX:∀ D C s3 H3,(∀ s5 G2 H5,Inv (Ff X scope cl (Fr.map (·.1)++Tg) C s3 H3 fp (XE C s3 H3 fp)) [] G2 H5 s5->(∃ m,s5.heap.Ns C m)/\Inv X pins σ H5 s5/\cW X pins H5 C)->∀ e s',XE C s3 H3 fp e s'->
   notedBy (model X.prog X.w) X.A (compEnvC scope cl C X.env) (fun x Fd=>∀ V:Env,V.locals=C->V.frame=X.env.frame->RR (.ref D) V (.error x) Fd) e s') :
  wpAny (model X.prog X.w) X.A (newList []) (fun acc EE=>wpAny (model X.prog X.w) X.A (newFunctionEnv scope X.env.globals cl [] X.env.qual none .none (some X.env)) (fun Ki Mw=>
   codeAny (model X.prog X.w) X.A (.compStart (.ListComp elt [⟨tg,iter,ifs,0⟩] scope pos) 0 (.ref it) acc {Ki with scope:=relabel scope X.env}) (RR acc Ki) Mw) E EE) E s2:=by
 have Ql:∀ b∈fp,b < s2.heap.objs.size:=fun b hb=>by
  obtain⟨o,e,_⟩:=T.obj _ _ FN b hb
  exact Heap.lt_size e
 -- Ij HB
 refine wpAny_newObj_type ?_
 have I3:Inv X pins σ (upd H2 s2.heap.objs.size (.lst [])) {s2 with heap:=s2.heap.push {cls:=.type "list",data:=.seq ([]:List Value).toArray},toks:=s2.toks}:=I2.Kc (ys:=[]) (its:=[]) .nil (Nat.zero_le _)
 generalize hD:s2.heap.objs.size=D at I3 ⊢
 have Qm:H2 D=none:=by rw[<- hD];exact I2.fresh
 generalize Ob:({s2 with heap:=s2.heap.push {cls:=.type "list",data:=.seq ([]:List Value).toArray},toks:=s2.toks}:Shared)=s3 at I3
 have k3:∀ b o,s2.heap.get? b=some o->s3.heap.get? b=some o:=fun b o e=>by rw[<- Ob];exact Heap.get?_push_of_some _ e
 have Qn:s3.heap.objs.size=D+1:=by rw[<- Ob,<- hD];exact Heap.size_push ..
 have Kj:∀ b∈fp,b < D:=fun b hb=>by rw[<- hD];exact Ql b hb
 have Mx:∀ b∈fp,b < s3.heap.objs.size:=fun b hb=>by rw[Qn];exact Nat.lt_succ_of_lt (Kj b hb)
 have f3:∀ b∈fp,cW X pins (upd H2 D (.lst [])) b:=fun b hb=>by
  obtain⟨a1,a2⟩:=f2 b hb
  refine⟨?_,a2⟩
  rw[ai (Nat.ne_of_lt (Kj b hb))]
  exact a1
 obtain⟨W,⟨m0,w0⟩,turn⟩:=q D Qm
 refine wpAny_newFunctionEnv S.Eb (by intro y hy;simp at hy) (fun h4 Iq Iu=>codeAny_mono (R:=fun r s'=>∀ V:Env,V.locals=s3.heap.objs.size->V.frame=X.env.frame->RR (.ref D) V r s') ?_ fun r s' z=>z _ rfl rfl) S.kind
 have k4:∀ b o,s3.heap.get? b=some o->h4.get? b=some o:=fun b o e=>
  Iu.extBut b o (Nat.ne_of_lt (Heap.lt_size e)) (Heap.get?_push_of_some _ e)
 have Oc:tn 0 h4:=T.keep _ _ _ FN fun b hb o e=>k4 b o (k3 b o e)
 have I4:=lT (fp:=fp) (h':=h4) (tk:=s3.toks+([]:List (Str×Value)).length) S I3 f3 Mx (by simpa using Iq) k4 (XE s3.heap.objs.size s3 (upd H2 D (.lst [])) fp)
 generalize hC:s3.heap.objs.size=C at I4 Iq Iu ⊢
 have My:=hX D C s3 (upd H2 D (.lst []))
 generalize hZ:XE C s3 (upd H2 D (.lst [])) fp=Z at I4 My
 generalize hY:Ff X scope cl (Fr.map (·.1)++Tg) C s3 (upd H2 D (.lst [])) fp Z=Y at I4 My
 have yP:Y.prog=X.prog:=by rw[<- hY];rfl
 have yw:Y.w=X.w:=by rw[<- hY];rfl
 have yK:Y.K=X.K:=by rw[<- hY];rfl
 have yA:Y.A=X.A:=by rw[<- hY];rfl
 have yc:Y.calm=true:=by rw[<- hY];exact hc
 have yx:Y.xe=Z:=by rw[<- hY];rfl
 have ye:Y.env=compEnvC scope cl C X.env:=by rw[<- hY];rfl
 have Kl:Y.ex=fp:=by rw[<- hY];rfl
 have Qo:Y.pn=[]:=by rw[<- hY];rfl
 have Qp:Y.fs=CI X.stack:=by rw[<- hY];rfl
 have yH:Y.Dt=upd H2 D (.lst []):=by rw[<- hY];rfl
 have HC:Y.Ck=s3:=by rw[<- hY];rfl
 have Qq:PG Y tg g:=by rw[<- hY,<- hZ];exact hg _ _ _ _
 have Et:G1 Y ifs tt:=by rw[<- hY,<- hZ];exact ht _ _ _ _
 have Qr:PE Y elt te:=by rw[<- hY,<- hZ];exact he _ _ _ _
 have EX:∀ {H':Hp},(∀ b∈fp,H' b=none)->∀ b∈fp,cW Y [] H' b:=fun hn b hb=>by
  have Mz:=I4.ok
  refine⟨hn b hb,(Mz.Jw b (by rw[Kl];exact hb)).1,Mz.EU b (by rw[Kl];exact hb),.inl (by rw[Kl];exact hb),(Mz.Jw b (by rw[Kl];exact hb)).2,fun p hp=>absurd hp (by rw[Qo];simp)⟩
 have Qs:∀ b∈fp,(upd H2 D (.lst [])) b=none:=fun b hb=>(f3 b hb).1
 -- back to Ij frame
 have back:∀ (s5:Shared) (G2:St) (H5:Hp),Inv Y [] G2 H5 s5->(∃ m,s5.heap.Ns C m)/\Inv X pins σ H5 s5/\cW X pins H5 C:=by
  intro s5 G2 H5 I5
  have MA:∃ m,s5.heap.Ns C m:=by
   obtain⟨m,hn,_⟩:=I5.loc
   rw[ye] at hn
   exact⟨m,hn⟩
  have Qt:Un (CI X.stack) fp (upd H2 D (.lst [])) H5 s3.heap s5.heap:=by
   have u:=I5.base
   rw[Qp,Kl,yH,HC] at u
   exact u
  have Qu:s5.os=s3.os:=by have:=I5.os;rw[HC] at this;exact this
  have MB:Cm X.prog X.w H5 s5.heap:=by have:=I5.BY;rw[yP,yw] at this;exact this
  have FL:∀ b∈fp,(b∈X.ex∨X.Ck.heap.objs.size<=b)/\b≠X.env.locals/\(∀ x c,X.env.cells.lookup x=some c->c≠b)/\∀ p∈X.pn++pins,p.1≠b:=fun b hb=>by
   obtain⟨_,a1,_,a3,a4,a5⟩:=f3 b hb
   exact⟨a3,a1,a4,a5⟩
  have Km:H5 C=none:=by
   have:=I5.free
   rw[ye] at this
   exact this
  exact⟨MA,I3.F3 Qu Qt MB I5.bare FL,I3.Fy (Nat.le_of_eq hC) Km⟩
 have nz:∀ {α:Type}{t:Sem α}{Q:α->Shared->Prop}{s:Shared},wpAny (model X.prog X.w) X.A t Q Z s->wpAny (model X.prog X.w) X.A t Q (notedBy (model X.prog X.w) X.A (compEnvC scope cl C X.env) fun x Fd=>∀ V:Env,V.locals=C->V.frame=X.env.frame->RR (.ref D) V (.error x) Fd) s:=fun h=>wpAny_mono h (fun _ _ z=>z) fun e s' z=>My back e s' z
 have loop:∀ (s5:Shared) (G2:St) (H5:Hp) (i m:Nat),Inv Y [] G2 H5 s5->tn i s5.heap->(∀ b∈fp,H5 b=none)->W i m G2 H5->
   codeAny (model X.prog X.w) X.A (.compLoop (.ListComp elt [⟨tg,iter,ifs,0⟩] scope pos) 0 (.ref it) (.ref D) (compEnvC scope cl C X.env)) (fun r s'=>∀ V:Env,V.locals=C->V.frame=X.env.frame->RR (.ref D) V r s') s5:=by
  intro s5 G2 H5 i m I5 J9 Mj w5
  refine codeAny_loop rfl (fun n s'=>∃ i B4 H',Inv Y [] B4 H' s'/\tn i s'.heap/\(∀ b∈fp,H' b=none)/\W i n B4 H') ?_ m ⟨i,G2,H5,I5,J9,Mj,w5⟩
  rintro n s6 ⟨i,Il,H6,I6,Od,Oe,w6⟩
  show wpAny _ X.A ((compTurn (.ListComp elt [⟨tg,iter,ifs,0⟩] scope pos) 0 (.ref it) (.ref D) (compEnvC scope cl C X.env)).onRaise (fun x=>do noteFrame x (compEnvC scope cl C X.env);theTreesLotGoes x)) _ _ s6
  refine wpAny_noted ?_
  rw[gn]
  refine wpAny_bind (wpAny_standAt (wpAny_bind ?_))
  have nx:∀ {α:Type}{t:Sem α}{Q:α->Shared->Prop}{E':Value->Shared->Prop}{s:Shared},wpAny (model X.prog X.w) X.A t Q (fun _ _=>False) s->wpAny (model X.prog X.w) X.A t Q E' s:=fun h=>wpAny_mono h (fun _ _ z=>z) fun _ _ z=>z.elim
  rcases turn i n Il H6 w6 with ⟨stop,qn⟩|⟨go,step⟩
  ·have h:=T.done Y yP yw yK yc i [] s6 Il H6 (fun _ _=>False) I6 (EX Oe) Od stop
   rw[yA] at h
   refine nx (B7 h fun r s7 ⟨hr,I7⟩=>?_)
   subst hr
   refine wpAny_pure ?_
   obtain⟨b1,b2,b3⟩:=back s7 Il H6 I7
   exact hR D C s7 H6 b1 b2 b3 qn
  ·have h:=T.item Y yP yw yK yc i [] s6 Il H6 (fun _ _=>False) I6 (EX Oe) Od go
   rw[yA] at h
   refine nx (B7 h fun r s7 ⟨u,hr,h7⟩=>?_)
   subst hr
   refine wpAny_bind (nx (B7 h7 fun _ s8 ⟨x,H8,I8,r8,y8,MC,Qv⟩=>?_))
   have Qw:=I8.pinned (EX Qv) (T.obj _ _ MC)
   have h9:=Qq _ s8 Il H8 x u _ Qw r8 (step x H8 y8)
   rw[yP,yw,yA,yx,ye] at h9
   refine wpAny_bind (nz (B7 h9 fun _ s9 ⟨MD,H9,I9,q9⟩=>?_))
   have HD:=Et _ s9 MD H9 _ I9 q9
   rw[yP,yw,yA,yx,ye] at HD
   refine wpAny_bind (nz (B7 HD fun ok Qx ⟨Qy,Of,Fg⟩=>?_))
   have again:∀ {B4:St}{H':Hp}{s':Shared},Inv Y ([]++dI fp s8.heap) B4 H' s'->(∃ m',m' < n/\W (i+1) m' B4 H')->∃ m,m < n/\∃ i B4 H',Inv Y [] B4 H' s'/\tn i s'.heap/\(∀ b∈fp,H' b=none)/\W i m B4 H':=fun {B4 H' s'} I' ⟨m',hm,w'⟩=>by
    refine⟨m',hm,i+1,B4,H',I'.Dl,T.keep _ _ _ MC fun b hb o e=>(I'.pin (b,o) (List.mem_append_right _ (List.mem_append_right _ (cu hb e)))).1,fun b hb=>?_,w'⟩
    obtain⟨o,e,d⟩:=T.obj _ _ MC b hb
    exact(I'.pin (b,o) (List.mem_append_right _ (List.mem_append_right _ (cu hb e)))).2.1
   cases ok with
   | false=>
    rw[if_neg Bool.false_ne_true] at Fg
    refine wpAny_bind (wpAny_pure (wpAny_pure ⟨rfl,again Of Fg⟩))
   | true=>
    rw[if_pos rfl] at Fg
    have Jz:=Qr _ Qx MD Qy _ Of Fg
    rw[yP,yw,yA,yx,ye] at Jz
    refine wpAny_bind (wpAny_bind (nz (B7 Jz fun y Qz ⟨v,Og,QA,QB,ys,ey,zy,G3⟩=>?_)))
    have Ko:=fG (X:=Y) ([]++dI fp s8.heap) Qz MD Og (.ref D) [v] (.ref D) [y] (fun v' H'=>v'=.B5/\H'=upd Og D (.lst (ys++[v]))) QA rfl (.cons QB .nil) ⟨D,ys,v,rfl,rfl,ey,zy,rfl,rfl⟩
    rw[yP,yw,yA,yx] at Ko
    refine wpAny_bind (nz (B7 Ko fun z Tw ⟨Tx,Tz,QC,TB,TC,ME⟩=>?_))
    subst ME
    exact wpAny_pure (wpAny_pure ⟨rfl,again QC G3⟩)
 have start:=loop {s3 with heap:=h4,toks:=s3.toks+([]:List (Str×Value)).length} (stC Fr Tg σ) (upd H2 D (.lst [])) 0 m0 I4 Oc Qs w0
 have e5:∀ (s':Shared),s' = {s3 with heap:=h4,toks:=s3.toks+([]:List (Str×Value)).length}->codeAny (model X.prog X.w) X.A (.compLoop (.ListComp elt [⟨tg,iter,ifs,0⟩] scope pos) 0 (.ref it) (.ref D) (compEnvC scope cl C X.env)) (fun r s'=>∀ V:Env,V.locals=C->V.frame=X.env.frame->RR (.ref D) V r s') s':=by
  rintro _ rfl
  exact start
 exact codeAny_compStart_list (e5 _ rfl) (T.self _ _ _ _ _ Oc (e5 _ rfl))
theorem jP (hc:X.calm=true)(S:Dx X scope cl Fr Tg)(hi:PI X tg iter wi)
  (hg:∀ C s H fp,PG (Ff X scope cl (Fr.map (·.1)++Tg) C s H fp) tg g) (ht:∀ C s H fp,G1 (Ff X scope cl (Fr.map (·.1)++Tg) C s H fp) ifs tt)
  (he:∀ C s H fp,PE (Ff X scope cl (Fr.map (·.1)++Tg) C s H fp) elt te) (hs:∀ x,foldedSetIterable iter X.env x=pure x:=by intro _;rfl) :
  PE X (.ListComp elt [⟨tg,iter,ifs,0⟩] scope pos) (mY wi (stC Fr Tg) g tt te):=by
 intro pins s σ H Q I h
 rw[eval_ListComp]
 refine wpAny_comprehension_free (use:=none) rfl hs S.Kh S.kind S.loc (B7 (hi pins s σ H _ I h) fun xv s1 h1=>B7 h1 fun Lr s2 h2=>?_)
 obtain⟨it,fp,tn,J,H2,rfl,I2,T,FN,f2,q⟩:=h2
 refine eG (XE:=fun _ _ _ _ _ _=>False) (RR:=fun acc V=>compPost (model X.prog X.w) X.A X.xe none (EP X pins σ Q) acc V.locals) hc S hg ht he I2 T FN f2 q ?_ fun _ _ _ _ _ _ _ z=>z.elim
 intro D C s' H' ⟨m,hn⟩ I' F' q' V hV _
 subst hV
 obtain⟨f0,f1,f2,f3,f4,f5⟩:=F'
 exact⟨m,hn,fun h' sb=>⟨.ref D,H',I'.turned (t':=s'.toks) (fun b o hb e=>(sb.2 b hb).trans e) f0 f1 f3 f4 f5,rfl,q'⟩⟩
theorem rb {y:Str}{py spos:Pos}{i:Nat}(hc:X.calm=true)(hN:X.N.Nodup)(QD:X.N[i]? = some y)(hy:X.env.kindOf y=some .local)(S:Dx X scope cl Fr Tg)(hi:PI X tg iter wi)
  (hg:∀ C s H fp,PG (Ff X scope cl (Fr.map (·.1)++Tg) C s H fp) tg g) (ht:∀ C s H fp,G1 (Ff X scope cl (Fr.map (·.1)++Tg) C s H fp) ifs tt)
  (he:∀ C s H fp,PE (Ff X scope cl (Fr.map (·.1)++Tg) C s H fp) elt te)
  (Kp:swapsWith (.ListComp elt [⟨tg,iter,ifs,0⟩] scope pos) (some (.Name y py)) spos.line X.env=pure true) (hs:∀ x,foldedSetIterable iter X.env x=pure x:=by intro _;rfl) :
  PS X (.Assign [.Name y py] (.ListComp elt [⟨tg,iter,ifs,0⟩] scope pos) spos) (fun D σ H=>mY wi (stC Fr Tg) g tt te σ H fun v H'=>D.nx (σ.set i (some v)) H'):=by
 intro pins s σ H D I h
 rw[exec_Assign_Name_used _ _ _ _ Kp]
 refine wpAny_bind (wpAny_standAt (wpAny_bind ?_))
 show wpAny _ X.A (do let _ <- comprehension (.ListComp elt [⟨tg,iter,ifs,0⟩] scope pos) scope X.env _ (newList []) false (eval iter X.env) (some (assign (.Name y py) X.env))) _ _ s
 refine wpAny_bind (B7 (wpAny_comprehension_free (use:=some (assign (.Name y py) X.env)) (Q:=fun _ s'=>SP X pins D .next s') rfl hs S.Kh S.kind S.loc
  (B7 (hi pins s σ H _ I h) fun xv s1 h1=>B7 h1 fun Lr s2 h2=>?_)) fun _ s' hq=>wpAny_pure (wpAny_pure hq))
 obtain⟨it,fp,tn,J,H2,rfl,I2,T,FN,f2,q⟩:=h2
 refine eG (Q:=fun v H'=>D.nx (σ.set i (some v)) H') (XE:=fun _ _ _ _ _ _=>False) (RR:=fun acc V=>compPost (model X.prog X.w) X.A X.xe (some (assign (.Name y py) X.env)) (fun _ s'=>SP X pins D .next s') acc V.locals) hc S hg ht he I2 T FN f2 q ?_ fun _ _ _ _ _ _ _ z=>z.elim
 intro D' C s' H' ⟨m,hn⟩ I' F' q' V hV _
 subst hV
 obtain⟨f0,f1,f2,f3,f4,f5⟩:=F'
 show wpAny _ X.A (assign (.Name y py) X.env (.ref D')) _ _ _
 refine wpAny_assign_Name (fA I' hN QD (.inl hy) (show RelV (.ref D') (.ref D') from rfl) (fun Fd QE ⟨a,sb,ha⟩=>?_) (.inr hy))
 have QF:V.locals≠a:=by
  rcases ha with rfl|ha
  ·exact f1
  ·exact fun z=>f4 y a ha z.symm
 refine⟨m,hn.sameBut sb QF,fun h' QG=>⟨_,H',QE.turned (t':=Fd.toks) (fun b o hb e=>(QG.2 b hb).trans e) f0 f1 f3 f4 f5,q'⟩⟩
end
open PySem.SeqAt
section
variable {X:Cx}
theorem ig {x:Str}{n:Int}(h0 : -16000<=n)(h1:n<=16000)(hx:x.length<=1000):MulOk x n:=by
 refine⟨?_,fun hn _=>?_,fun hn _=>?_⟩
 ·rw[Bool.or_eq_false_iff]
  exact⟨decide_eq_false (by omega),decide_eq_false (by omega)⟩
 ·have:(1000:Int)<=(2 ^ 63 - 1) / n:=Int.le_ediv_of_mul_le (by omega) (by omega)
  omega
 ·have:x.length*n.toNat<=1000*16000:=Nat.mul_le_mul hx (by omega)
  unfold Builtin.Str.tooLong
  exact decide_eq_false (by rw[sizeLine_eq];omega)
theorem jd:EM X (binaryOp .Mult) (fun x y H Q=>∃ i j,x=.str i/\y=.int j/\-16000<=j/\j<=16000/\i.length<=1000/\Q (.str (Txt.mul i j)) H):=by
 intro pins s σ H x y v u Q I rx ry h
 obtain⟨i,j,rfl,rfl,h0,h1,hz,q⟩:=h
 obtain⟨t,rfl⟩:=rx
 obtain⟨t',rfl⟩:=ry
 exact SB.mul (ig h0 h1 hz) fun t' tk=>⟨.str (Txt.mul i j),H,I.tok _,⟨_,rfl⟩,q⟩
noncomputable def c9 (z:Str):List V:=z.cps.toList.map fun c=>.str ⟨#[c]⟩
theorem jf {z:Str}{Gd:Array Value}(G4:ItemsOf (SignAt z) Gd z.cps.size):Vals (c9 z) Gd.toList:=by
 have hl:Gd.toList.length=z.cps.toList.length:=by rw[Array.length_toList,Array.length_toList,G4.1]
 have key:∀ (cs:List Nat) (vs:List Value),vs.length=cs.length->(∀ (i:Nat) (v:Value),vs[i]? = some v->∃ c u,cs[i]? = some c/\v=Value.str ⟨#[c]⟩ u)->Vals (cs.map fun c=>V.str ⟨#[c]⟩) vs:=by
  intro cs
  induction cs with
  | nil=>
   intro vs hl _
   cases vs with
   | nil=>exact .nil
   | cons _ _=>cases hl
  | cons c cs ih=>
   intro vs hl hv
   cases vs with
   | nil=>cases hl
   | cons v vs=>
    obtain⟨c',u,e1,e2⟩:=hv 0 v rfl
    have LA:c=c':=by simpa using e1
    subst LA e2
    exact .cons ⟨u,rfl⟩ (ih vs (by simpa using hl) fun i w hw=>by simpa using hv (i+1) w (by simpa using hw))
 refine key _ _ hl fun i v hv=>?_
 obtain⟨c,u,e1,e2⟩:=G4.2 i v (by rw[<- Array.getElem?_toList];exact hv)
 exact⟨c,u,by rw[Array.getElem?_toList];exact e1,e2⟩
theorem cZ (hc:X.calm=true):bW X (.type "list") (fun xs H Q=>∃ z:Str,xs=[.str z]/\z.length<=sizeLine/\∀ l,H l=none->Q (.ref l) (upd H l (.lst (c9 z)))):=by
 intro pins s σ H xs us Q I r h
 obtain⟨z,rfl,hz,q⟩:=h
 obtain⟨u,rfl,t,rfl⟩:=vals1 r
 refine call_list_str (show X.A.handled=none from I.ok.hd hc) z t (fun h' tk Gd c' kp e G4=>?_) hz
 have rv:=jf G4
 exact⟨.ref _,_,I.laid (t':=tk) kp (Nat.le_refl _) (show aP X.prog X.w _ h' _ (.lst (c9 z)) from ⟨by unfold c9;simpa[Str.length] using hz,Gd.toList,c',rv,by simpa using e⟩),rfl,q _ (I.BY.fresh (Nat.le_refl _))⟩
end
open PySem.W
section
variable {κ:Type} [DecidableEq κ]
noncomputable def cX (kvs:List (κ×V))(k:κ):Option V:=(kvs.find? fun kv=>decide (kv.1=k)).map (·.2)
noncomputable def putK (kvs:List (κ×V))(k:κ)(v:V):List (κ×V):=
 if (kvs.any fun kv=>decide (kv.1=k))=true then kvs.map (fun kv=>if kv.1=k then (kv.1,v) else kv) else kvs++[(k,v)]
theorem eI {p:κ×V}{r:List (κ×V)}{k:κ}(e:p.1=k):cX (p::r) k=some p.2:=by simp[cX,List.find?_cons,e]
theorem eJ {p:κ×V}{r:List (κ×V)}{k:κ}(e:¬ p.1=k):cX (p::r) k=cX r k:=by simp[cX,List.find?_cons,e]
theorem ij (k:κ):∀ kvs:List (κ×V),(kvs.any fun kv=>decide (kv.1=k))=(cX kvs k).isSome
 | []=>rfl
 | p::r=>by
  rw[List.any_cons]
  by_cases e:p.1=k
  ·simp only[eI e,decide_eq_true e,Bool.true_or,Option.isSome_some]
  ·rw[eJ e,decide_eq_false e,Bool.false_or];exact ij k r
theorem cM (kvs:List (κ×V))(k:κ)(v:V):(putK kvs k v).length<=kvs.length+1:=by
 unfold putK
 split
 ·rw[List.length_map];omega
 ·rw[List.length_append,List.length_cons,List.length_nil];omega
theorem d6.CL {o:Option V}{u:Option Value}(r:d6 o u):o.isSome=u.isSome:=by
 cases o with
 | none=>cases u with
  | none=>rfl
  | some _=>exact(show False from r).elim
 | some _=>cases u with
  | none=>exact(show False from r).elim
  | some _=>rfl
theorem d6.getD {o:Option V}{u:Option Value}{d:V}{d':Value}(r:d6 o u)(rd:RelV d d'):RelV (o.getD d) (u.getD d'):=by
 cases o with
 | none=>cases u with
  | none=>exact rd
  | some _=>exact(show False from r).elim
 | some _=>cases u with
  | none=>exact(show False from r).elim
  | some _=>exact r
theorem KV.val {kvs:List (κ×V)}{vs:List (κ×Value)}(r:KV kvs vs)(k:κ):d6 (cX kvs k) (valueAt vs k):=by
 unfold KV at r
 induction r with
 | nil=>exact True.intro
 | @cons p q ps qs h t ih=>
  obtain⟨h1,h2⟩:=h
  by_cases e:p.1=k
  ·have e':q.1=k:=h1.symm.trans e
   have b:valueAt (q::qs) k=some q.2:=by simp[valueAt,List.find?_cons,e']
   rw[eI e,b];exact h2
  ·have e':¬ q.1=k:=fun z=>e (h1.trans z)
   have b:valueAt (q::qs) k=valueAt qs k:=by simp[valueAt,List.find?_cons,e']
   rw[eJ e,b];exact ih
theorem KV.any {kvs:List (κ×V)}{vs:List (κ×Value)}(r:KV kvs vs)(k:κ):(kvs.any fun kv=>decide (kv.1=k))=vs.any fun kv=>decide (kv.1=k):=by
 unfold KV at r
 induction r with
 | nil=>rfl
 | cons h t ih=>rw[List.any_cons,List.any_cons,ih,h.1]
theorem KV.Iw {kvs:List (κ×V)}{vs:List (κ×Value)}(r:KV kvs vs)(k:κ){y:V}{u:Value}(ry:RelV y u) :
  KV (kvs.map fun kv=>if kv.1=k then (kv.1,y) else kv) (vs.map fun kv=>if kv.1=k then (kv.1,u) else kv):=by
 unfold KV at r ⊢
 induction r with
 | nil=>exact .nil
 | @cons p q ps qs h t ih=>
  rw[List.map_cons,List.map_cons]
  refine .cons ?_ ih
  obtain⟨h1,h2⟩:=h
  by_cases e:p.1=k
  ·rw[if_pos e,if_pos (h1.symm.trans e)];exact⟨h1,ry⟩
  ·rw[if_neg e,if_neg (fun z=>e (h1.trans z))];exact⟨h1,h2⟩
theorem KV.put {kvs:List (κ×V)}{vs:List (κ×Value)}(r:KV kvs vs)(k:κ){y:V}{u:Value}(ry:RelV y u):KV (putK kvs k y) (stored vs k u):=by
 unfold putK stored
 rw[r.any k]
 by_cases e:(vs.any fun kv=>decide (kv.1=k))=true
 ·rw[if_pos e,if_pos e];exact r.Iw k ry
 ·rw[if_neg e,if_neg e];exact Paired.snoc r ⟨rfl,ry⟩
theorem KV.length {kvs:List (κ×V)}{vs:List (κ×Value)}(r:KV kvs vs):kvs.length=vs.length:=Paired.length r
end
theorem eK {P:Program}{w:World}{k:Key}{u:Value}(r:RelV (kV k) u):(aF P w).is k u=true:=by
 cases k with
 | inl i=>obtain⟨t,e⟩:=(show ∃ t,u=Value.int i t from r);subst e;exact hJ P w i t
 | inr x=>obtain⟨t,e⟩:=(show ∃ t,u=Value.str x t from r);subst e;exact hU P w x t
theorem fI {P:Program}{w:World}:∀ {ks:List Key}{us:List Value},Vals (ks.map kV) us->ItemsAre (aF P w) ks us
 | [],_,r=>by rw[List.map_nil] at r;cases r;exact .nil
 | k::ks,_,r=>by
  rw[List.map_cons] at r
  cases r with
  | cons h t=>exact .cons (eK h) (fI t)
abbrev KT (H:Hp):List (List Key×V)->List (List Key×Addr×Value)->Prop:=Paired fun p q=>p.1=q.1/\H q.2.1=some (.tup (p.1.map kV))/\RelV p.2 q.2.2
theorem KT.val {H:Hp}{kvs:List (List Key×V)}{xs:List (List Key×Addr×Value)}(r:KT H kvs xs)(k:List Key):d6 (cX kvs k) ((atKey xs k).map (·.2)):=by
 induction r with
 | nil=>exact True.intro
 | @cons p q ps qs h t ih=>
  obtain⟨h1,_,h2⟩:=h
  by_cases e:p.1=k
  ·have e':q.1=k:=h1.symm.trans e
   have b:atKey (q::qs) k=some q.2:=by simp[atKey,List.find?_cons,e']
   rw[eI e,b];exact h2
  ·have e':¬ q.1=k:=fun z=>e (h1.trans z)
   have b:atKey (q::qs) k=atKey qs k:=by simp[atKey,List.find?_cons,e']
   rw[eJ e,b];exact ih
theorem KT.Iw {H:Hp}{kvs:List (List Key×V)}{xs:List (List Key×Addr×Value)}(r:KT H kvs xs)(k:List Key){y:V}{u:Value}(ry:RelV y u) :
  KT H (kvs.map fun kv=>if kv.1=k then (kv.1,y) else kv) (xs.map (putAt k u)):=by
 induction r with
 | nil=>exact .nil
 | @cons p q ps qs h t ih=>
  rw[List.map_cons,List.map_cons]
  refine .cons ?_ ih
  obtain⟨h1,h2,h3⟩:=h
  unfold putAt
  by_cases e:p.1=k
  ·rw[if_pos e,if_pos (h1.symm.trans e)];exact⟨h1,h2,ry⟩
  ·rw[if_neg e,if_neg (fun z=>e (h1.trans z))];exact⟨h1,h2,h3⟩
theorem KT.put {H:Hp}{kvs:List (List Key×V)}{xs:List (List Key×Addr×Value)}(r:KT H kvs xs)(k:List Key){b:Addr}{y:V}{u:Value}(hb:H b=some (.tup (k.map kV)))(ry:RelV y u) :
  KT H (putK kvs k y) (storedH xs k b u):=by
 have e:(kvs.any fun kv=>decide (kv.1=k))=(atKey xs k).isSome:=by
  rw[ij,(r.val k).CL,Option.isSome_map]
 unfold putK storedH
 rw[e]
 by_cases q:(atKey xs k).isSome=true
 ·rw[if_pos q,if_pos q];exact r.Iw k ry
 ·rw[if_neg q,if_neg q];exact Paired.snoc r ⟨rfl,hb,ry⟩
theorem KT.keeps {H H':Hp}{kvs:List (List Key×V)}{xs:List (List Key×Addr×Value)}(r:KT H kvs xs)(ht:∀ b ys,H b=some (.tup ys)->H' b=some (.tup ys)):KT H' kvs xs:=
 Paired.Ie r fun _ _ z=>⟨z.1,ht _ _ z.2.1,z.2.2⟩
section
variable {P:Program}{w:World}{H:Hp}{h:Heap}{a:Addr}
theorem sU {u:HO}(ok:Cm P w H h)(e:Rd H a u):aP P w H h a u:=e.ok ok
theorem c5 {kvs:List (Key×V)}(ok:Cm P w H h)(e:Rd H a (.dK kvs)):kvs.length<=sizeLine/\(a == sysModules)=false/\∃ vs,KV kvs vs/\h.DictOf (aF P w) a vs:=
 show aP P w H h a (.dK kvs) from sU ok e
theorem sV {kvs:List (Key×V)}(ok:Cm P w H h)(e:H a=some (.dK kvs)):kvs.length<=sizeLine/\(a == sysModules)=false/\∃ vs,KV kvs vs/\h.DictOf (aF P w) a vs:=c5 ok (.inl e)
theorem dN {ks:List Key}(ok:Cm P w H h)(e:H a=some (.tup (ks.map kV))):(tupleKind (aF P w)).is h ks a:=by
 obtain⟨_,its,r,o,h1,h2,n,h3⟩:=(show aP P w H h a (.tup (ks.map kV)) from ok a _ e)
 exact⟨o,its.toArray,n,h1,h2,h3,by simpa using fI r⟩
theorem eM {kvs:List (List Key×V)}(ok:Cm P w H h)(e:Rd H a (.dT kvs)):kvs.length<=sizeLine/\(a == sysModules)=false/\
  ∃ xs,KT H kvs xs/\h.DictOfH (tupleKind (aF P w)) a xs:=by
 obtain⟨z,y,xs,r,o,es,ep,h1,h2,h3,h4,h5⟩:=(show aP P w H h a (.dT kvs) from sU ok e)
 refine⟨z,y,xs,r,o,es,ep,h1,h2,h3,h4,fun x hx=>?_,h5⟩
 have all:∀ {l:List (List Key×V)}{m:List (List Key×Addr×Value)},KT H l m->∀ x∈m,(tupleKind (aF P w)).is h x.1 x.2.1:=by
  intro l m q
  induction q with
  | nil=>intro x hx;exact nomatch hx
  | @cons p q ps qs hq t ih=>
   intro x hx
   rcases List.mem_cons.mp hx with e|hx
   ·subst e
    exact dN ok (by rw[<- hq.1];exact hq.2.1)
   ·exact ih x hx
 exact all r x hx
theorem yk {kvs:List (List Key×V)}(ok:Cm P w H h)(e:H a=some (.dT kvs)):kvs.length<=sizeLine/\(a == sysModules)=false/\
  ∃ xs,KT H kvs xs/\h.DictOfH (tupleKind (aF P w)) a xs:=eM ok (.inl e)
end
def eN (H:Hp)(a:Addr)(y:V)(r:Option V):Prop:=
 (∃ kvs k,Rd H a (.dK kvs)/\y=kV k/\r=cX kvs k)∨∃ kvs k b,Rd H a (.dT kvs)/\y=.ref b/\H b=some (.tup (k.map kV))/\r=cX kvs k
def yl (H:Hp)(a:Addr)(y v:V)(H':Hp):Prop:=
 (∃ kvs k,H a=some (.dK kvs)/\y=kV k/\kvs.length < sizeLine/\H'=upd H a (.dK (putK kvs k v)))∨
 ∃ kvs k b,H a=some (.dT kvs)/\y=.ref b/\H b=some (.tup (k.map kV))/\kvs.length < sizeLine/\H'=upd H a (.dT (putK kvs k v))
section
variable {X:Cx}{pins:List (Addr×Obj)}{σ:St}{H:Hp}{s:Shared}{a:Addr}{y v:V}{u r:Value}{o:Option V}{A:Around}{E:Value->Shared->Prop}
theorem Inv.big (I:Inv X pins σ H s):sysModules < s.heap.objs.size:=by
 have h:mainGlobals < s.heap.objs.size:=(I.mod.glob.keeps I.bk).lt
 exact Nat.lt_trans (by decide) h
theorem lU {Q:Value->Shared->Prop}(hu:A.units+1 < cLine)(I:Inv X pins σ H s)(g:eN H a y (some v))(ry:RelV y u)(h:∀ w' s',Inv X pins σ H s'->RelV v w'->Q w' s') :
  wpAny (model X.prog X.w) A (getItem (.ref a) u) Q E s:=by
 rcases g with ⟨kvs,k,e,ey,l⟩|⟨kvs,k,b,e,ey,eb,l⟩
 ·subst ey
  obtain⟨z,hd,vs,rel,dd⟩:=c5 I.BY e
  obtain⟨w',hw,Ga⟩:=d6.some_of (v:=v) (o:=valueAt vs k) (by rw[l];exact rel.val k)
  exact wpAny_getItem_of (eK ry) dd.mapOf hw (h w' _ (I.tok _) Ga)
 ·subst ey
  cases (show u=Value.ref b from ry)
  obtain⟨z,hd,xs,rel,dd⟩:=eM I.BY e
  obtain⟨w',hw,Ga⟩:=d6.some_of (v:=v) (o:=(atKey xs k).map (·.2)) (by rw[l];exact rel.val k)
  obtain⟨p,hp,QH⟩:=Option.map_eq_some_iff.mp hw
  refine wpAny_getItem_heap (tupleKind_room_in1 hu) (dN I.BY eb) dd hp ?_
  rw[QH]
  exact h w' _ (I.tok _) Ga
theorem Bf {Q:Value->Shared->Prop}(hu:A.units+1 < cLine)(I:Inv X pins σ H s)(g:eN H a y o)(ry:RelV y u)(h:∀ s',Inv X pins σ H s'->Q (.bool o.isSome) s') :
  wpAny (model X.prog X.w) A (compareOp .In u (.ref a)) Q E s:=by
 rcases g with ⟨kvs,k,e,ey,l⟩|⟨kvs,k,b,e,ey,eb,l⟩
 ·subst ey
  obtain⟨z,hd,vs,rel,dd⟩:=c5 I.BY e
  refine wpAny_in_of (eK ry) hd dd.mapOf ?_
  rw[<- (rel.val k).CL,<- l]
  exact h _ (I.tok _)
 ·subst ey
  cases (show u=Value.ref b from ry)
  obtain⟨z,hd,xs,rel,dd⟩:=eM I.BY e
  refine wpAny_in_heap (tupleKind_room_in1 hu) (dN I.BY eb) hd dd ?_
  have q:=(rel.val k).CL
  rw[Option.isSome_map] at q
  rw[<- q,<- l]
  exact h _ (I.tok _)
theorem rf {Q:Value->Shared->Prop}(hu:A.units+1 < cLine)(I:Inv X pins σ H s)(g:eN H a y o)(ry:RelV y u)(h:∀ s',Inv X pins σ H s'->Q (.bool (!o.isSome)) s') :
  wpAny (model X.prog X.w) A (compareOp .NotIn u (.ref a)) Q E s:=by
 rcases g with ⟨kvs,k,e,ey,l⟩|⟨kvs,k,b,e,ey,eb,l⟩
 ·subst ey
  obtain⟨z,hd,vs,rel,dd⟩:=c5 I.BY e
  refine wpAny_notIn_of (eK ry) hd dd.mapOf ?_
  rw[<- (rel.val k).CL,<- l]
  exact h _ (I.tok _)
 ·subst ey
  cases (show u=Value.ref b from ry)
  obtain⟨z,hd,xs,rel,dd⟩:=eM I.BY e
  refine wpAny_notIn_heap (tupleKind_room_in1 hu) (dN I.BY eb) hd dd ?_
  have q:=(rel.val k).CL
  rw[Option.isSome_map] at q
  rw[<- q,<- l]
  exact h _ (I.tok _)
theorem gp {h':Heap}{t':Nat}{ob:HO}(I:Inv X pins σ H s)(mu:J1 (H a))(hs:Heap.SameBut a s.heap h')(he:∃ q,h'.get? a=some q)(new:aP X.prog X.w (upd H a ob) h' a ob) :
  Inv X pins σ (upd H a ob) {s with heap:=h',toks:=t'}:=
 I.write (x:=a) (e:=a) mu (.inl rfl) (fun b q hb z=>(hs.2 b hb).trans z) he new
theorem jg {P:Program}{w:World}{H':Hp}{h':Heap}{kvs:List (Key×V)}{vs:List (Key×Value)}(z:kvs.length<=sizeLine)(hd:(a == sysModules)=false)(rel:KV kvs vs)(dd:h'.DictOf (aF P w) a vs) :
  aP P w H' h' a (.dK kvs):=⟨z,hd,vs,rel,dd⟩
theorem lV {H':Hp}{Q:Unit->Shared->Prop}(hu:A.units+1 < cLine)(I:Inv X pins σ H s)(g:yl H a y v H')(ry:RelV y u)(rv:RelV v r)(h:∀ s',Inv X pins σ H' s'->Q () s') :
  wpAny (model X.prog X.w) A (setItem (.ref a) u r) Q E s:=by
 rcases g with ⟨kvs,k,e,ey,l,eH⟩|⟨kvs,k,b,e,ey,eb,l,eH⟩
 ·subst ey eH
  obtain⟨z,hd,vs,rel,dd⟩:=sV I.BY e
  have hz:vs.length<=sizeLine:=by rw[<- rel.length];exact z
  have hl:(putK kvs k v).length<=sizeLine:=by have:=cM kvs k v;omega
  refine wpAny_setItem_pairs (hsz:=hz) (eK ry) dd fun h' LB hs=>h _ ?_
  have he:∃ q,h'.get? a=some q:=let ⟨q,_,_,hq,_⟩:=LB;⟨q,hq⟩
  exact gp I (by rw[e];exact True.intro) hs he (jg hl hd (rel.put k rv) LB)
 ·subst ey eH
  cases (show u=Value.ref b from ry)
  obtain⟨z,hd,xs,rel,dd⟩:=yk I.BY e
  have hz:xs.length<=sizeLine:=by rw[<- Paired.length rel];exact z
  have hl:(putK kvs k v).length<=sizeLine:=by have:=cM kvs k v;omega
  refine wpAny_setItem_heap (hsz:=hz) (tupleKind_room_in1 hu) (dN I.BY eb) dd fun h' LB hs=>h _ ?_
  obtain⟨q,es,ep,hq,h2,h3,h4,_,h5⟩:=LB
  refine gp I (by rw[e];exact True.intro) hs ⟨q,hq⟩ ⟨hl,hd,_,(rel.put k eb rv).keeps fun c ys ec=>?_,q,es,ep,hq,h2,h3,h4,h5⟩
  rw[ai (xR ec e (fun z=>nomatch z))]
  exact ec
end
def ym (i:Expr):Prop:=∀ ov iv,subscripted i false ov iv=operate [ov,iv] (getItem ov iv)
theorem rg {prog:Program}{w:World}{A:Around}{E:Value->Shared->Prop}{s:Shared}{env:Env}{value slice:Expr}{pos:Pos}{T id:String}{Q:Value->Shared->Prop}
  (hl:typeLookup (.type T) "__getitem__" = pure (some (.builtin id))) (hs:ym slice)
  (h:wpAny (model prog w) A (eval value env) (fun o BZ=>wpAny (model prog w) A (eval slice env) (fun i DB=>DB.TypeIs o T/\wpAny (model prog w) A (getItem o i) Q E DB) E BZ) E s) :
  wpAny (model prog w) A (eval (.Subscript value slice pos) env) Q E s:=by
 refine Subscript_ (wpAny_mono h (fun o BZ G5=>wpAny_mono G5 (fun i DB EZ=>?_) fun _ _ x=>x) fun _ _ x=>x)
 obtain⟨hT,EZ⟩:=EZ
 unfold subscriptTail
 refine wpAny_bind ?_
 rw[getitemInPython_of_ne hT.not_modules]
 refine wpAny_bind (wpAny_specialOf hT hl ?_)
 have fin:wpAny (model prog w) A (subscripted slice false o i) (fun r EE=>wpAny (model prog w) A (letTemporaryGo value o r >>= fun _=>pure r) Q E EE) E DB:=by
  rw[hs o i]
  exact wpAny_operating (wpAny_mono EZ (fun r EE MF=>wpAny_bind (wpAny_letTemporaryGo (wpAny_pure MF))) fun _ _ x=>x)
 first
  | exact wpAny_pure (wpAny_bind fin)
  | exact wpAny_bind (wpAny_pure (wpAny_bind fin))
  | exact wpAny_bind fin
theorem ik {X:Cx}{pins:List (Addr×Obj)}{σ:St}{H:Hp}{s:Shared}{a:Addr}{y:V}{o:Option V}(I:Inv X pins σ H s)(g:eN H a y o):s.TypeIs (.ref a) "dict":=by
 rcases g with ⟨kvs,k,e,_,_⟩|⟨kvs,k,b,e,_,_,_⟩
 ·obtain⟨_,_,vs,_,dd⟩:=c5 I.BY e
  exact dd.typeIs
 ·obtain⟨_,_,xs,_,dd⟩:=eM I.BY e
  exact dd.typeIs
def yn (td ty:TE):TE:=fun σ H Q=>td σ H fun x H1=>ty σ H1 fun y H2=>∃ a v,x=.ref a/\eN H2 a y (some v)/\Q v H2
def Bg (ty td:TE):TE:=fun σ H Q=>ty σ H fun y H1=>td σ H1 fun x H2=>∃ a o,x=.ref a/\eN H2 a y o/\Q (.bl o.isSome) H2
def rh (ty td:TE):TE:=fun σ H Q=>ty σ H fun y H1=>td σ H1 fun x H2=>∃ a o,x=.ref a/\eN H2 a y o/\Q (.bl (!o.isSome)) H2
def yo (td ty tv:TE):TS:=fun D σ H=>tv σ H fun v H1=>td σ H1 fun x H2=>ty σ H2 fun y H3=>∃ a H4,x=.ref a/\yl H3 a y v H4/\D.nx σ H4
section
variable {X:Cx}{o i e value:Expr}{pos pos' Kr:Pos}{td ty tv:TE}
theorem ri (hu:X.A.units+1 < cLine)(ho:PE X o td)(hi:PE X i ty)(hs:ym i):PE X (.Subscript o i pos) (yn td ty):=by
 intro pins s σ H Q I h
 refine rg PySem.F.slot_dict_getitem.lookup hs (B7 (ho pins s σ H _ I h) fun u s1 ⟨x,H1,I1,rx,q1⟩=>B7 (hi pins s1 σ H1 _ I1 q1) fun iv s2 ⟨y,H2,I2,ry,a,v,ex,g,q2⟩=>?_)
 subst ex
 obtain rfl:u=Value.ref a:=rx
 exact⟨ik I2 g,lU hu I2 g ry fun w' s3 I3 Ga=>⟨v,H2,I3,Ga,q2⟩⟩
theorem mZ (hu:X.A.units+1 < cLine)(hi:PE X i ty)(ho:PE X o td):PC X .In i o (Bg ty td):=by
 intro pins s σ H Q I h
 refine B7 (hi pins s σ H _ I h) fun iv s1 ⟨y,H1,I1,ry,q1⟩=>B7 (ho pins s1 σ H1 _ I1 q1) fun u s2 ⟨x,H2,I2,rx,a,ov,ex,g,q2⟩=>?_
 subst ex
 obtain rfl:u=Value.ref a:=rx
 exact Bf hu I2 g ry fun s3 I3=>⟨.bl ov.isSome,H2,I3,rfl,q2⟩
theorem fJ (hu:X.A.units+1 < cLine)(hi:PE X i ty)(ho:PE X o td):PC X .NotIn i o (rh ty td):=by
 intro pins s σ H Q I h
 refine B7 (hi pins s σ H _ I h) fun iv s1 ⟨y,H1,I1,ry,q1⟩=>B7 (ho pins s1 σ H1 _ I1 q1) fun u s2 ⟨x,H2,I2,rx,a,ov,ex,g,q2⟩=>?_
 subst ex
 obtain rfl:u=Value.ref a:=rx
 exact rf hu I2 g ry fun s3 I3=>⟨.bl (!ov.isSome),H2,I3,rfl,q2⟩
theorem rj (hu:X.A.units+1 < cLine)(ho:PE X o td)(hi:PE X i ty)(hv:PE X value tv)(hs:swapsWith value (some (.Subscript o i pos')) pos.line X.env=pure false) :
  PS X (.Assign [.Subscript o i pos'] value pos) (yo td ty tv):=by
 intro pins s σ H D I h
 refine wpAny_Assign_Subscript (B7 (hv pins s σ H _ I h) fun r s1 ⟨v,H1,I1,rv,q1⟩=>B7 (ho pins s1 σ H1 _ I1 q1) fun u s2 ⟨x,H2,I2,rx,q2⟩=>B7 (hi pins s2 σ H2 _ I2 q2) fun iv s3 ⟨y,H3,I3,ry,a,H4,ex,g,q3⟩=>?_) hs
 subst ex
 obtain rfl:u=Value.ref a:=rx
 exact lV hu I3 g ry rv fun s4 I4=>⟨σ,H4,I4,q3⟩
end
theorem m4 {P:Program}{w:World}{H:Hp}(h:Heap)(hb:sysModules < h.objs.size):aP P w H (h.push {cls:=.type "dict",data:=.dict #[]}) h.objs.size (.dK []):=
 ⟨Nat.zero_le _,beq_eq_false_iff_ne.mpr (Ne.symm (Nat.ne_of_lt hb)),[],.nil,Heap.DictOf.new h⟩
def vR:TE:=fun _ H Q=>∀ p,H p=none->Q (.ref p) (upd H p (.dK []))
section
variable {X:Cx}{pos:Pos}
theorem il:PE X (.Dict [] [] pos) vR:=fun pins s σ H Q I h=>
 wpAny_Dict_empty ⟨.ref s.heap.objs.size,_,I.laid (a:=s.heap.objs.size) (o:=.dK []) (t':=s.toks) (fun _ _ q=>Heap.get?_push_of_some _ q) (Nat.le_refl _) (m4 s.heap I.big),rfl,h _ (I.BY.fresh (Nat.le_refl _))⟩
end
noncomputable def bL (kvs more:List (Key×V)):List (Key×V):=more.foldl (fun acc kv=>putK acc kv.1 kv.2) kvs
theorem KV.merge:∀ {more:List (Key×V)}{rs:List (Key×Value)}{kvs:List (Key×V)}{vs:List (Key×Value)},KV more rs->KV kvs vs->KV (bL kvs more) (merged vs rs):=by
 intro more rs kvs vs r
 unfold KV at r
 induction r generalizing kvs vs with
 | nil=>intro q;exact q
 | @cons p q ps qs h t ih=>
  intro r0
  have e:KV (putK kvs p.1 p.2) (stored vs q.1 q.2):=by
   have:=r0.put p.1 h.2
   rw[<- h.1];exact this
  exact ih e
theorem bU:∀ (more kvs:List (Key×V)),(bL kvs more).length<=kvs.length+more.length
 | [],kvs=>by show kvs.length<=kvs.length+0;omega
 | p::r,kvs=>by
  have h1:=bU r (putK kvs p.1 p.2)
  have h2:=cM kvs p.1 p.2
  show (bL (putK kvs p.1 p.2) r).length<=_
  rw[List.length_cons];omega
structure M2 (X:Cx)(o:Expr)(m:Str)(apos:Pos)(e f:Expr)(BQ:Pos):Prop where
 base:attributeBase o m X.env (eval o X.env)=eval o X.env
 Iy:((backTo BQ (starEach [e,f] X.env)).all (fun x=>!x.1)&&(backToKw BQ (keywordEach [] X.env)).all (fun x=>x.1.isSome)
 &&decide (([e,f]:List Expr).length+([]:List Keyword).length+(if ([]:List Keyword).isEmpty then 0 else 1) < 30))=true
 line:(apos.endLine == BQ.line)=true
 trees:backTo BQ (starEach [e,f] X.env)=[(false,eval e X.env),(false,eval f X.env)]
def MG (H:Hp)(a:Addr):Prop:=(∃ kvs,Rd H a (.dK kvs))∨∃ kvs,Rd H a (.dT kvs)
theorem jh {X:Cx}{pins:List (Addr×Obj)}{σ:St}{H:Hp}{s:Shared}{a:Addr}(I:Inv X pins σ H s)(d:MG H a) :
  s.TypeIs (.ref a) "dict"/\(∀ b,Value.ref a=.ref b->∃ ob,s.heap.get? b=some ob/\ob.dict=none)/\(a == sysModules)=false:=by
 rcases d with ⟨kvs,e⟩|⟨kvs,e⟩
 ·obtain⟨_,hd,vs,_,dd⟩:=c5 I.BY e
  refine⟨dd.typeIs,fun b q=>?_,hd⟩
  cases q
  obtain⟨ob,_,_,h1,h2,_⟩:=dd
  exact⟨ob,h1,h2.2.1⟩
 ·obtain⟨_,hd,xs,_,dd⟩:=eM I.BY e
  refine⟨dd.typeIs,fun b q=>?_,hd⟩
  cases q
  obtain⟨ob,_,_,h1,h2,_⟩:=dd
  exact⟨ob,h1,h2.2.1⟩
section
variable {X:Cx}{pins:List (Addr×Obj)}{σ:St}{H:Hp}{s:Shared}{a:Addr}{y d:V}{u r:Value}{o:Option V}{A:Around}{E:Value->Shared->Prop}
theorem vS {Q:Value->Shared->Prop}(hu:A.units+1 < cLine)(I:Inv X pins σ H s)(g:eN H a y o)(ry:RelV y u)(rd:RelV d r)(h:∀ w' s',Inv X pins σ H s'->RelV (o.getD d) w'->Q w' s') :
  wpAny (model X.prog X.w) A (call (.builtin "dict.get") [.ref a,u,r]) Q E s:=by
 rcases g with ⟨kvs,k,e,ey,l⟩|⟨kvs,k,b,e,ey,eb,l⟩
 ·subst ey
  obtain⟨z,hd,vs,rel,dd⟩:=c5 I.BY e
  refine call_meetsIn PySem.F.slot_dict_get dd.typeIs PySem.F.entry_dict_get (PySem.F.args_dict_get_3 _ _ _) (meets_dict_get_default (aF X.prog X.w) a (eK ry) hd r) ⟨_,dd.mapOf,h _ _ (I.tok _) ?_⟩
  rw[l]
  exact(rel.val k).getD rd
 ·subst ey
  cases (show u=Value.ref b from ry)
  obtain⟨z,hd,xs,rel,dd⟩:=eM I.BY e
  refine call_meetsIn PySem.F.slot_dict_get dd.typeIs PySem.F.entry_dict_get (PySem.F.args_dict_get_3 _ _ _) (meetsH_dict_get_default (tupleKind (aF X.prog X.w)) a b hd r) ⟨tupleKind_room_in1 hu,k,xs,dN I.BY eb,dd,h _ _ (I.tok _) ?_⟩
  rw[l]
  exact(rel.val k).getD rd
end
def vT (td ty tx:TE):TE:=fun σ H Q=>td σ H fun x H1=>∃ a,x=.ref a/\MG H1 a/\ty σ H1 fun y H2=>tx σ H2 fun z H3=>∃ o,eN H3 a y o/\Q (o.getD z) H3
section
variable {X:Cx}{o e f:Expr}{apos BQ:Pos}{td ty tx:TE}
theorem m7 (hu:X.A.units+1 < cLine)(ho:PE X o td)(he:PE X e ty)(hf:PE X f tx)(m:M2 X o "get" apos e f BQ):PE X (.Call (.Attribute o "get" apos) [e,f] [] BQ) (vT td ty tx):=by
 intro pins s σ H Q I h
 refine wpAny_Call_method m.base m.Iy m.line PySem.F.plainAttrs_dict PySem.F.slot_dict_get PySem.F.type_dict_get (B7 (ho pins s σ H _ I h) fun u s1 ⟨x,H1,I1,rx,a,ex,d,q1⟩=>?_)
 subst ex
 obtain rfl:u=Value.ref a:=rx
 obtain⟨t1,t2,_⟩:=jh I1 d
 refine⟨t1,t2,?_⟩
 rw[m.trees]
 refine Calls.callWith_builtin rfl (Calls.evalArgs_plain (Calls.spliced_cons (B7 (he pins s1 σ H1 _ I1 q1) fun iv s2 ⟨y,H2,I2,ry,q2⟩=>
  Calls.spliced_cons (B7 (hf pins s2 σ H2 _ I2 q2) fun fv s3 ⟨z,H3,I3,rz,ov,g,q3⟩=>Calls.spliced_nil ?_))))
 exact vS hu I3 g ry rz fun w' s4 I4 Ga=>⟨_,H3,I4,Ga,q3⟩
end
open PySem.Builtin PySem.Builtin.Str
section
variable {X:Cx}
theorem rl {x:Str}{e:Expr}{j:Nat}{p q pos:Pos}{t:TE}(hx:x.length<=1000)(h:PE X e t) :
  PE X (.JoinedStr [.Constant (.str x) j p,.FormattedValue e 114 none q] pos) (fun σ H Q=>t σ H fun v H'=>∃ z,v=.str z/\x.length+(reprText z).length<=sizeLine/\Q (.str (x++reprText z)) H'):=by
 intro pins s σ H Q I hq
 have hs:sizeLine=16777216:=sizeLine_eq
 refine JoinedStr_many (joinParts_cons (B7 (eA (X:=X) (x:=x) (j:=j) (pos:=p) pins s σ H (fun v H'=>v=.str x/\H'=H) I ⟨rfl,rfl⟩) fun v s1 ⟨y,H1,I1,r1,e1,e2⟩=>?_))
 subst e1 e2
 obtain⟨t1,rfl⟩:=r1
 have ex:Str.empty++x=x:=Str.empty_append x
 refine⟨by rw[ex];omega,?_⟩
 rw[ex]
 refine joinParts_cons (wpAny_FormattedValue_repr (B7 (h pins s1 σ _ _ I1 hq) fun v s2 ⟨y,H2,I2,r2,z,e2,hz,q2⟩=>?_))
 subst e2
 obtain⟨t2,rfl⟩:=r2
 refine pyReprObj_str ?_ (by omega)
 refine formatField_str (fun t' tk=>⟨by rw[strLen_append];exact hz,?_⟩) (by omega)
 exact joinParts_nil ⟨.str _,H2,(I2.tok _).tok _,⟨_,rfl⟩,q2⟩ (by rw[strLen_append];exact hz)
theorem rn {x w:Str}{e:Expr}{j j':Nat}{p q r pos:Pos}{t:TE}(hx:x.length<=1000)(h:PE X e t) :
  PE X (.JoinedStr [.Constant (.str x) j p,.FormattedValue e 114 none q,.Constant (.str w) j' r] pos) (fun σ H Q=>t σ H fun v H'=>∃ z,v=.str z/\x.length+(reprText z).length+w.length<=sizeLine/\Q (.str (x++reprText z++w)) H'):=by
 intro pins s σ H Q I hq
 have hs:sizeLine=16777216:=sizeLine_eq
 refine JoinedStr_many (joinParts_cons (B7 (eA (X:=X) (x:=x) (j:=j) (pos:=p) pins s σ H (fun v H'=>v=.str x/\H'=H) I ⟨rfl,rfl⟩) fun v s1 ⟨y,H1,I1,r1,e1,e2⟩=>?_))
 subst e1 e2
 obtain⟨t1,rfl⟩:=r1
 have ex:Str.empty++x=x:=Str.empty_append x
 refine⟨by rw[ex];omega,?_⟩
 rw[ex]
 refine joinParts_cons (wpAny_FormattedValue_repr (B7 (h pins s1 σ _ _ I1 hq) fun v s2 ⟨y,H2,I2,r2,z,e2,hz,q2⟩=>?_))
 subst e2
 obtain⟨t2,rfl⟩:=r2
 refine pyReprObj_str ?_ (by omega)
 refine formatField_str (fun t' tk=>⟨by rw[strLen_append];omega,?_⟩) (by omega)
 refine joinParts_cons (B7 (eA (X:=X) (x:=w) (j:=j') (pos:=r) pins _ σ H2 (fun v H'=>v=.str w/\H'=H2) ((I2.tok _).tok _) ⟨rfl,rfl⟩) fun v s3 ⟨y,H3,I3,r3,e3,e4⟩=>?_)
 subst e3 e4
 obtain⟨t3,rfl⟩:=r3
 refine⟨by rw[strLen_append,strLen_append];omega,?_⟩
 exact joinParts_nil ⟨.str _,_,I3.tok _,⟨_,rfl⟩,q2⟩ (by rw[strLen_append,strLen_append];omega)
end
end L2
namespace L2.Zp
open PySem
inductive Kq where
 | l|t
def Sq (k:Kq)(h:Heap)(a:Addr)(xs:Array Value):Prop:=match k with
 | .l=>h.IsList a xs
 | .t=>h.IsTuple a xs
def It (k:Kq)(h:Heap)(i a:Addr)(n:Nat):Prop:=match k with
 | .l=>h.IsListIter i a n
 | .t=>h.IsTupleIter i a n
theorem Sq.to {k:Kq}{h h':Heap}{a:Addr}{xs:Array Value}(q:Sq k h a xs)(e:∀ o,h.get? a=some o->h'.get? a=some o):Sq k h' a xs:=by
 cases k with
 | l=>obtain⟨o,ho,r⟩:=q;exact⟨o,e o ho,r⟩
 | t=>obtain⟨o,ho,r⟩:=q;exact⟨o,e o ho,r⟩
theorem It.to {k:Kq}{h h':Heap}{i a:Addr}{n:Nat}(q:It k h i a n)(e:∀ o,h.get? i=some o->h'.get? i=some o):It k h' i a n:=by
 cases k with
 | l=>obtain⟨o,ho,r⟩:=q;exact⟨o,e o ho,r⟩
 | t=>obtain⟨o,ho,r⟩:=q;exact⟨o,e o ho,r⟩
theorem It.lt {k:Kq}{h:Heap}{i a:Addr}{n:Nat}(q:It k h i a n):i < h.objs.size:=by
 cases k with
 | l=>obtain⟨o,ho,_⟩:=q;exact Heap.lt_size ho
 | t=>obtain⟨o,ho,_⟩:=q;exact Heap.lt_size ho
section
variable {prog:Program}{w:World}{A:Around}{E:Value->Shared->Prop}{s:Shared}
theorem ng {i a:Addr}{n:Nat}{xs:Array Value}{x:Value}{Q:Value->Shared->Prop}(c:s.heap.IsTupleIter i a n)(q:s.heap.IsTuple a xs)(hx:xs[n]? = some x)
  (k:∀ h',h'.IsTupleIter i a (n+1)->Heap.SameBut i s.heap h'->Q x {s with heap:=h'}):wpAny (model prog w) A (Builtin.SmallTypes.nextOf (.ref i)) Q E s:=by
 have ty:=c.typeIs
 obtain⟨oi,gi,ci,di⟩:=c
 obtain⟨oa,ga,_,na,da⟩:=q
 unfold Builtin.SmallTypes.nextOf
 refine wpAny_bind (wpAny_callSpecial?_slot (name:=Str.ofString "__next__") ty F.slot_tuple_iterator_next (wpAny_call_entry F.slot_tuple_iterator_next ty F.entry_tuple_iterator_next ?_ (F.args_tuple_iterator_next_1 _)))
 show wpAny _ _ (field (.ref i) 0 >>= _) _ _ s
 refine wpAny_bind (wpAny_field gi di (x:=.ref a) rfl ?_)
 show wpAny _ _ (if (Value.ref a == Value.none)=true then _ else _) _ _ s
 rw[if_neg (by intro z;cases z)]
 show wpAny _ _ (field (.ref i) 1 >>= _) _ _ s
 refine wpAny_bind (wpAny_field gi di (x:=.int n 0) rfl ?_)
 show wpAny _ _ (seqItems? (.ref a) >>= _) _ _ s
 refine wpAny_bind (wpAny_seqItems ga da ?_)
 simp only[Int.toNat_natCast,hx]
 refine wpAny_bind (wpAny_setField gi di (by simp) (wpAny_pure ⟨x,rfl,wpAny_pure (k _ ⟨_,Heap.get?_update_self _ gi (Obj.isFreed_of_fields (Obj.data_mapFields di _)),(Obj.cls_mapFields ..).trans ci,?_⟩ (Heap.SameBut.update ..))⟩))
 rw[Obj.data_mapFields di]
 simp[rawInt]
theorem rp {i a:Addr}{n:Nat}{xs:Array Value}{Q:Value->Shared->Prop}(hh:A.handled=none)(c:s.heap.IsTupleIter i a n)(q:s.heap.IsTuple a xs)(hx:xs[n]? = none)
  (k:∀ h' e,Heap.ExtBut i s.heap h'->(∃ o,h'.get? e=some o/\o.cls=.type "StopIteration")->E (.ref e) {s with heap:=h'}):wpAny (model prog w) A (Builtin.SmallTypes.nextOf (.ref i)) Q E s:=by
 have ty:=c.typeIs
 obtain⟨oi,gi,ci,di⟩:=c
 obtain⟨oa,ga,_,na,da⟩:=q
 unfold Builtin.SmallTypes.nextOf
 refine wpAny_bind (wpAny_callSpecial?_slot (name:=Str.ofString "__next__") ty F.slot_tuple_iterator_next (wpAny_call_entry F.slot_tuple_iterator_next ty F.entry_tuple_iterator_next ?_ (F.args_tuple_iterator_next_1 _)))
 show wpAny _ _ (field (.ref i) 0 >>= _) _ _ s
 refine wpAny_bind (wpAny_field gi di (x:=.ref a) rfl ?_)
 show wpAny _ _ (if (Value.ref a == Value.none)=true then _ else _) _ _ s
 rw[if_neg (by intro z;cases z)]
 show wpAny _ _ (field (.ref i) 1 >>= _) _ _ s
 refine wpAny_bind (wpAny_field gi di (x:=.int n 0) rfl ?_)
 show wpAny _ _ (seqItems? (.ref a) >>= _) _ _ s
 refine wpAny_bind (wpAny_seqItems ga da ?_)
 simp only[Int.toNat_natCast,hx]
 refine wpAny_bind (wpAny_rule (wpAny_bind (wpAny_setField gi di (by simp) (wpAny_bind ?_))))
 simp only[newExc,newTuple]
 refine wpAny_bind (wpAny_newObj_type (wpAny_bind (m:=firstArgMember _ _) (wpAny_of_eq (a:=Value.none) (by first|rfl|(simp only[firstArgMember];rfl)) (wpAny_newObj_type ?_ (by size_fits)))) (by size_fits))
 simp only[raiseNew]
 refine wpAny_bind (wpAny_handled ?_)
 first|rw[show A.in1.handled=none from hh]|rw[hh]
 exact wpAny_bind (wpAny_pure (wpAny_throw (k _ _ (((Heap.SameBut.update ..).extBut.push _).push _) ⟨_,Heap.get?_push_size _ rfl,rfl⟩)))
theorem gq {k:Kq}{i a:Addr}{n:Nat}{xs:Array Value}{x:Value}{Q:Value->Shared->Prop}(c:It k s.heap i a n)(q:Sq k s.heap a xs)(hx:xs[n]? = some x)
  (f:∀ h',It k h' i a (n+1)->Heap.SameBut i s.heap h'->Q x {s with heap:=h'}):wpAny (model prog w) A (Builtin.SmallTypes.nextOf (.ref i)) Q E s:=by
 cases k with
 | l=>exact wpAny_nextOf_list_item c q hx f
 | t=>exact ng c q hx f
theorem nh {k:Kq}{i a:Addr}{n:Nat}{xs:Array Value}{Q:Value->Shared->Prop}(hh:A.handled=none)(c:It k s.heap i a n)(q:Sq k s.heap a xs)(hx:xs[n]? = none)
  (f:∀ h' e,Heap.ExtBut i s.heap h'->(∃ o,h'.get? e=some o/\o.cls=.type "StopIteration")->E (.ref e) {s with heap:=h'}):wpAny (model prog w) A (Builtin.SmallTypes.nextOf (.ref i)) Q E s:=by
 cases k with
 | l=>exact wpAny_nextOf_list_end hh c q hx f
 | t=>exact rp hh c q hx f
end
section
variable {prog:Program}{w:World}{A:Around}{E:Value->Shared->Prop}{s:Shared}
def Kept (z TO i j:Addr)(h h':Heap):Prop:=∀ c o,c≠z->c≠TO->c≠i->c≠j->h.get? c=some o->h'.get? c=some o
theorem lW {p q:Kq}{z TI TO i j l m:Addr}{n n':Nat}{xs ys:Array Value}{x y a b:Value}{Q:Value->Shared->Prop}(D:ZipApart z TI TO i j l m)(hz:IsZip s.heap z TI TO .none)(hI:IsPair s.heap TI (.ref i) (.ref j))(hO:IsPair s.heap TO a b)
  (ci:It p s.heap i l n) (cj:It q s.heap j m n') (sl:Sq p s.heap l xs) (sm:Sq q s.heap m ys) (hx:xs[n]? = some x) (hy:ys[n']? = some y)
  (k:∀ h',IsZip h' z TI TO (rawInt s.heap.objs.size)->IsPair h' TO x y->It p h' i l (n+1)->It q h' j m (n' + 1)->IsPair h' s.heap.objs.size x y->h'.objs.size=s.heap.objs.size+1->Kept z TO i j s.heap h'->Q (.ref s.heap.objs.size) {s with heap:=h'}) :
  wpAny (model prog w) A (Builtin.«zip.__next__» ⟨[.ref z],[]⟩) (fun fin s'=>∃ v,fin=.done (.ret v)/\Q v s') E s:=by
 show wpAny _ _ (field (.ref z) 2 >>= _) _ _ _
 refine wpAny_bind (wpAny_field hz rfl (x:=.bool false) rfl ?_)
 show wpAny _ _ (field (.ref z) 3 >>= _) _ _ _
 refine wpAny_bind (wpAny_field hz rfl (x:=.ref TI) rfl (wpAny_bind (wpAny_seqItems hI rfl ?_)))
 show wpAny _ _ (Builtin.SmallTypes.ownedTupleIsFree (.ref z) >>= _) _ _ _
 refine wpAny_bind ?_
 unfold Builtin.SmallTypes.ownedTupleIsFree
 refine wpAny_bind (wpAny_field hz rfl (x:=.none) rfl (wpAny_pure ?_))
 simp only[if_true]
 refine wpAny_bind (wpAny_rule (wpAny_bind (wpAny_field hz rfl (x:=.ref TO) rfl (wpAny_bind (wpAny_setField_rec hz (by simp) fun h1 z1 e1=>?_)))))
 have LC:IsZip h1 z TI TO .ellipsis:=z1
 refine wpAny_bind ?_
 simp only[List.zipIdx_cons,List.zipIdx_nil,List.forIn_cons,List.forIn_nil]
 refine wpAny_bind (wpAny_bind (wpAny_onRaise ?_))
 show wpAny _ _ (Builtin.SmallTypes.nextOf (.ref i) >>= _) _ _ _
 refine wpAny_bind (gq (ci.to fun o e=>e1.extBut _ _ D.i1z e) (sl.to fun o e=>e1.extBut _ _ D.l1z e) hx fun h2 Oh e2=>wpAny_pure ?_)
 have O2:IsPair h2 TO a b:=e2.extBut _ _ D.TOi1 (e1.extBut _ _ D.TOz hO)
 refine wpAny_bind (wpAny_seqItems O2 rfl (wpAny_bind (wpAny_updateSeq_pair O2 fun h3 O3 e3=>?_)))
 have QI:IsPair h3 TO x b:=O3
 refine wpAny_bind (wpAny_letGo (wpAny_pure (wpAny_bind (wpAny_bind (wpAny_onRaise ?_)))))
 show wpAny _ _ (Builtin.SmallTypes.nextOf (.ref j) >>= _) _ _ _
 refine wpAny_bind (gq (cj.to fun o e=>e3.extBut _ _ D.TOi2.symm (e2.extBut _ _ D.i12.symm (e1.extBut _ _ D.i2z e))) (sm.to fun o e=>e3.extBut _ _ D.l2TO (e2.extBut _ _ D.l2i1 (e1.extBut _ _ D.l2z e))) hy fun h4 QJ e4=>wpAny_pure ?_)
 have O4:IsPair h4 TO x b:=e4.extBut _ _ D.TOi2 QI
 refine wpAny_bind (wpAny_seqItems O4 rfl (wpAny_bind (wpAny_updateSeq_pair O4 fun h5 O5 e5=>?_)))
 have Oi:IsPair h5 TO x y:=O5
 refine wpAny_bind (wpAny_letGo (wpAny_pure (wpAny_pure (wpAny_bind (wpAny_seqItems Oi rfl (wpAny_bind (wpAny_newTuple ?_)))))))
 have sz:h5.objs.size=s.heap.objs.size:=by rw[e5.1,e4.1,e3.1,e2.1,e1.1]
 have z5:IsZip h5 z TI TO .ellipsis:=e5.extBut _ _ D.TOz.symm (e4.extBut _ _ D.i2z.symm (e3.extBut _ _ D.TOz.symm (e2.extBut _ _ D.i1z.symm LC)))
 have k5:Kept z TO i j s.heap h5:=fun c o c1 c2 c3 c4 e=>e5.extBut _ _ c2 (e4.extBut _ _ c4 (e3.extBut _ _ c2 (e2.extBut _ _ c3 (e1.extBut _ _ c1 e))))
 have QK:It p h5 i l (n+1):=Oh.to fun o e=>e5.extBut _ _ D.TOi1.symm (e4.extBut _ _ D.i12 (e3.extBut _ _ D.TOi1.symm e))
 have QL:It q h5 j m (n' + 1):=QJ.to fun o e=>e5.extBut _ _ D.TOi2.symm e
 have lz:z < h5.objs.size:=Heap.lt_size z5
 show wpAny _ _ (Builtin.SmallTypes.ownedTupleHandOut (.ref z) (.ref h5.objs.size) >>= _) _ _ _
 refine wpAny_bind ?_
 unfold Builtin.SmallTypes.ownedTupleHandOut
 have z6:IsZip (h5.push {cls:=.type "tuple",data:=.seq #[x,y]}) z TI TO .ellipsis:=Heap.get?_push_of_some _ z5
 refine wpAny_bind (wpAny_setField_rec z6 (by simp) fun h7 z7 e7=>wpAny_setField_rec (show IsZip h7 z TI TO (rawInt h5.objs.size) from z7) (by simp) fun h8 z8 e8=>?_)
 have Oj:IsZip h8 z TI TO (rawInt h5.objs.size):=z8
 have up:∀ c o,c≠z->h5.get? c=some o->h8.get? c=some o:=fun c o c1 e=>e8.extBut _ _ c1 (e7.extBut _ _ c1 (Heap.get?_push_of_some _ e))
 have t8:IsPair h8 h5.objs.size x y:=e8.extBut _ _ (Nat.ne_of_gt lz) (e7.extBut _ _ (Nat.ne_of_gt lz) (Heap.get?_push_size _ rfl))
 have s8:h8.objs.size=h5.objs.size+1:=by rw[e8.1,e7.1,Heap.size_push]
 rw[sz] at Oj t8 s8
 refine wpAny_pure ⟨_,rfl,?_⟩
 show Q (.ref h5.objs.size) _
 rw[sz]
 exact k h8 Oj (up _ _ D.TOz Oi) (QK.to fun o e=>up _ o D.i1z e) (QL.to fun o e=>up _ o D.i2z e) t8 s8 fun c o c1 c2 c3 c4 e=>up c o c1 (k5 c o c1 c2 c3 c4 e)
theorem lX {p q:Kq}{z TI TO i j l m:Addr}{n n':Nat}{xs ys:Array Value}{a b:Value}{Q:PySem.Fin->Shared->Prop}(hh:A.handled=none)(D:ZipApart z TI TO i j l m)(hz:IsZip s.heap z TI TO .none)(hI:IsPair s.heap TI (.ref i) (.ref j))(hO:IsPair s.heap TO a b)
  (ci:It p s.heap i l n) (cj:It q s.heap j m n') (sl:Sq p s.heap l xs) (sm:Sq q s.heap m ys) (Iz:xs[n]? = none∨ys[n']? = none)
  (k:∀ h' e,Kept z TO i j s.heap h'->(∃ o,h'.get? e=some o/\o.cls=.type "StopIteration")->E (.ref e) {s with heap:=h'}) :
  wpAny (model prog w) A (Builtin.«zip.__next__» ⟨[.ref z],[]⟩) Q E s:=by
 show wpAny _ _ (field (.ref z) 2 >>= _) _ _ _
 refine wpAny_bind (wpAny_field hz rfl (x:=.bool false) rfl ?_)
 show wpAny _ _ (field (.ref z) 3 >>= _) _ _ _
 refine wpAny_bind (wpAny_field hz rfl (x:=.ref TI) rfl (wpAny_bind (wpAny_seqItems hI rfl ?_)))
 show wpAny _ _ (Builtin.SmallTypes.ownedTupleIsFree (.ref z) >>= _) _ _ _
 refine wpAny_bind ?_
 unfold Builtin.SmallTypes.ownedTupleIsFree
 refine wpAny_bind (wpAny_field hz rfl (x:=.none) rfl (wpAny_pure ?_))
 simp only[if_true]
 refine wpAny_bind (wpAny_rule (wpAny_bind (wpAny_field hz rfl (x:=.ref TO) rfl (wpAny_bind (wpAny_setField_rec hz (by simp) fun h1 z1 e1=>?_)))))
 have LC:IsZip h1 z TI TO .ellipsis:=z1
 refine wpAny_bind ?_
 simp only[List.zipIdx_cons,List.zipIdx_nil,List.forIn_cons,List.forIn_nil]
 refine wpAny_bind (wpAny_bind (wpAny_onRaise ?_))
 show wpAny _ _ (Builtin.SmallTypes.nextOf (.ref i) >>= _) _ _ _
 cases hx:xs[n]? with
 | none=>
  refine wpAny_bind (nh hh (ci.to fun o e=>e1.extBut _ _ D.i1z e) (sl.to fun o e=>e1.extBut _ _ D.l1z e) hx fun h2 e e2 he=>?_)
  obtain⟨oe,g,c⟩:=he
  have z2:IsZip h2 z TI TO .ellipsis:=e2 _ _ D.i1z.symm LC
  have ne:e≠z:=fun v=>by rw[v,z2] at g;cases g;simp at c
  exact wpAny_setField_rec z2 (by simp) fun h3 _ e3=>k h3 e (fun d o c1 _ c3 _ v=>e3.extBut _ _ c1 (e2 _ _ c3 (e1.extBut _ _ c1 v))) ⟨oe,e3.extBut _ _ ne g,c⟩
 | some x=>
  have hy:ys[n']? = none:=by
   rcases Iz with v|v
   ·rw[hx] at v;cases v
   ·exact v
  refine wpAny_bind (gq (ci.to fun o e=>e1.extBut _ _ D.i1z e) (sl.to fun o e=>e1.extBut _ _ D.l1z e) hx fun h2 Oh e2=>wpAny_pure ?_)
  have O2:IsPair h2 TO a b:=e2.extBut _ _ D.TOi1 (e1.extBut _ _ D.TOz hO)
  refine wpAny_bind (wpAny_seqItems O2 rfl (wpAny_bind (wpAny_updateSeq_pair O2 fun h3 O3 e3=>wpAny_bind (wpAny_letGo (wpAny_pure (wpAny_bind (wpAny_bind (wpAny_onRaise ?_))))))))
  show wpAny _ _ (Builtin.SmallTypes.nextOf (.ref j) >>= _) _ _ _
  refine wpAny_bind (nh hh (cj.to fun o e=>e3.extBut _ _ D.TOi2.symm (e2.extBut _ _ D.i12.symm (e1.extBut _ _ D.i2z e))) (sm.to fun o e=>e3.extBut _ _ D.l2TO (e2.extBut _ _ D.l2i1 (e1.extBut _ _ D.l2z e))) hy fun h4 e e4 he=>?_)
  obtain⟨oe,g,c⟩:=he
  have z4:IsZip h4 z TI TO .ellipsis:=e4 _ _ D.i2z.symm (e3.extBut _ _ D.TOz.symm (e2.extBut _ _ D.i1z.symm LC))
  have ne:e≠z:=fun v=>by rw[v,z4] at g;cases g;simp at c
  exact wpAny_setField_rec z4 (by simp) fun h5 _ e5=>k h5 e (fun d o c1 c2 c3 c4 v=>e5.extBut _ _ c1 (e4 _ _ c4 (e3.extBut _ _ c2 (e2.extBut _ _ c3 (e1.extBut _ _ c1 v))))) ⟨oe,e5.extBut _ _ ne g,c⟩
end
noncomputable def JA:Kq->Addr->Obj
 | .l,a=>{cls:=.type "list_iterator",data:=.fields #[.ref a,.int 0 0]}
 | .t,a=>{cls:=.type "tuple_iterator",data:=.fields #[.ref a,.int 0 0]}
noncomputable def Hi (p:Kq)(h:Heap)(l:Addr):Heap:=h.push (JA p l)
noncomputable def Hj (p q:Kq)(h:Heap)(l m:Addr):Heap:=(Hi p h l).push (JA q m)
noncomputable def HI (p q:Kq)(h:Heap)(l m:Addr):Heap:=(Hj p q h l m).push {cls:=.type "tuple",data:=.seq #[.ref h.objs.size,.ref (Hi p h l).objs.size]}
noncomputable def HO (p q:Kq)(h:Heap)(l m:Addr):Heap:=(HI p q h l m).push {cls:=.type "tuple",data:=.seq #[.none,.none]}
noncomputable def HZ (p q:Kq)(h:Heap)(l m:Addr):Heap:=(HO p q h l m).push {cls:=.type "zip",data:=.fields #[.none,.bool false,.bool false,.ref (Hj p q h l m).objs.size,.ref (HI p q h l m).objs.size]}
theorem vU (l m:Addr)(xs ys:Array Value):Meets (Builtin.«zip.__new__» ⟨[.type "zip",.ref l,.ref m],[]⟩) (fun _ R s=>Sq .l s.heap l xs/\Sq .l s.heap m ys/\R (.ok (.ret (.ref (HO .l .l s.heap l m).objs.size))) {s with heap:=HZ .l .l s.heap l m}):=
 .of_wp fun prog w A R s h=>by
  obtain⟨hp,g,d,tk,os⟩:=s
  obtain⟨q1,q2,h⟩:=h
  have sub:=sub_zip
  have a1:Heap.IsList (Shared.heap ⟨hp,g,d,tk,os⟩) l xs:=q1
  have a2:Heap.IsList (Shared.heap ⟨hp.push {cls:=.type "list_iterator",data:=.fields #[.ref l,.int 0 0]},g,d,tk,os⟩) m ys:=Heap.IsList.push (show hp.IsList m ys from q2) _
  wp_walk using wpAny_pyIter_list a1,wpAny_pyIter_list a2
  exact⟨_,rfl,h⟩
theorem vV (l m:Addr)(xs ys:Array Value):Meets (Builtin.«zip.__new__» ⟨[.type "zip",.ref l,.ref m],[]⟩) (fun _ R s=>Sq .l s.heap l xs/\Sq .t s.heap m ys/\R (.ok (.ret (.ref (HO .l .t s.heap l m).objs.size))) {s with heap:=HZ .l .t s.heap l m}):=
 .of_wp fun prog w A R s h=>by
  obtain⟨hp,g,d,tk,os⟩:=s
  obtain⟨q1,q2,h⟩:=h
  have sub:=sub_zip
  have a1:Heap.IsList (Shared.heap ⟨hp,g,d,tk,os⟩) l xs:=q1
  have a2:Heap.IsTuple (Shared.heap ⟨hp.push {cls:=.type "list_iterator",data:=.fields #[.ref l,.int 0 0]},g,d,tk,os⟩) m ys:=Heap.IsTuple.push (show hp.IsTuple m ys from q2) _
  wp_walk using wpAny_pyIter_list a1,wpAny_pyIter_tuple a2
  exact⟨_,rfl,h⟩
theorem vW (l m:Addr)(xs ys:Array Value):Meets (Builtin.«zip.__new__» ⟨[.type "zip",.ref l,.ref m],[]⟩) (fun _ R s=>Sq .t s.heap l xs/\Sq .l s.heap m ys/\R (.ok (.ret (.ref (HO .t .l s.heap l m).objs.size))) {s with heap:=HZ .t .l s.heap l m}):=
 .of_wp fun prog w A R s h=>by
  obtain⟨hp,g,d,tk,os⟩:=s
  obtain⟨q1,q2,h⟩:=h
  have sub:=sub_zip
  have a1:Heap.IsTuple (Shared.heap ⟨hp,g,d,tk,os⟩) l xs:=q1
  have a2:Heap.IsList (Shared.heap ⟨hp.push {cls:=.type "tuple_iterator",data:=.fields #[.ref l,.int 0 0]},g,d,tk,os⟩) m ys:=Heap.IsList.push (show hp.IsList m ys from q2) _
  wp_walk using wpAny_pyIter_tuple a1,wpAny_pyIter_list a2
  exact⟨_,rfl,h⟩
theorem vX (l m:Addr)(xs ys:Array Value):Meets (Builtin.«zip.__new__» ⟨[.type "zip",.ref l,.ref m],[]⟩) (fun _ R s=>Sq .t s.heap l xs/\Sq .t s.heap m ys/\R (.ok (.ret (.ref (HO .t .t s.heap l m).objs.size))) {s with heap:=HZ .t .t s.heap l m}):=
 .of_wp fun prog w A R s h=>by
  obtain⟨hp,g,d,tk,os⟩:=s
  obtain⟨q1,q2,h⟩:=h
  have sub:=sub_zip
  have a1:Heap.IsTuple (Shared.heap ⟨hp,g,d,tk,os⟩) l xs:=q1
  have a2:Heap.IsTuple (Shared.heap ⟨hp.push {cls:=.type "tuple_iterator",data:=.fields #[.ref l,.int 0 0]},g,d,tk,os⟩) m ys:=Heap.IsTuple.push (show hp.IsTuple m ys from q2) _
  wp_walk using wpAny_pyIter_tuple a1,wpAny_pyIter_tuple a2
  exact⟨_,rfl,h⟩
theorem vY (p q:Kq)(l m:Addr)(xs ys:Array Value):Meets (Builtin.«zip.__new__» ⟨[.type "zip",.ref l,.ref m],[]⟩) (fun _ R s=>Sq p s.heap l xs/\Sq q s.heap m ys/\R (.ok (.ret (.ref (HO p q s.heap l m).objs.size))) {s with heap:=HZ p q s.heap l m}):=by
 cases p<;>cases q
 ·exact vU l m xs ys
 ·exact vV l m xs ys
 ·exact vW l m xs ys
 ·exact vX l m xs ys
theorem ni {k:Kq}{h h':Heap}{i a:Addr}(e:h'.get? i=some (JA k a)):It k h' i a 0:=by
 cases k with
 | l=>exact⟨_,e,rfl,rfl⟩
 | t=>exact⟨_,e,rfl,rfl⟩
theorem ip (k:Kq)(a:Addr):(JA k a).isFreed=false:=by cases k<;>rfl
section
variable {prog:Program}{w:World}{A:Around}{E:Value->Shared->Prop}{s:Shared}
theorem Ge {p q:Kq}{l m:Addr}{xs ys:Array Value}{Q:Value->Shared->Prop}(h1:Sq p s.heap l xs)(h2:Sq q s.heap m ys)
  (k:∀ h',IsZip h' (s.heap.objs.size+4) (s.heap.objs.size+2) (s.heap.objs.size+3) .none->IsPair h' (s.heap.objs.size+2) (.ref s.heap.objs.size) (.ref (s.heap.objs.size+1))->IsPair h' (s.heap.objs.size+3) .none .none->
   It p h' s.heap.objs.size l 0->It q h' (s.heap.objs.size+1) m 0->h'.objs.size=s.heap.objs.size+5->(∀ c o,s.heap.get? c=some o->h'.get? c=some o)->Q (.ref (s.heap.objs.size+4)) {s with heap:=h'}) :
  wpAny (model prog w) A (call (.type "zip") [.ref l,.ref m]) Q E s:=by
 refine callType_new F.called_zip (by decide) (F.typeCall_zip_2 _ _) (F.newCall_zip_2 _ _) (fun obj=>F.args_object_init_3 obj _ _) F.entry_zip_new (vY p q l m xs ys) ⟨h1,h2,?_⟩
 have n1:(Hi p s.heap l).objs.size=s.heap.objs.size+1:=Heap.size_push ..
 have n2:(Hj p q s.heap l m).objs.size=s.heap.objs.size+2:=(Heap.size_push ..).trans (by rw[n1])
 have n3:(HI p q s.heap l m).objs.size=s.heap.objs.size+3:=(Heap.size_push ..).trans (by rw[n2])
 have n4:(HO p q s.heap l m).objs.size=s.heap.objs.size+4:=(Heap.size_push ..).trans (by rw[n3])
 have n5:(HZ p q s.heap l m).objs.size=s.heap.objs.size+5:=(Heap.size_push ..).trans (by rw[n4])
 have Ol:∀ c o,(HO p q s.heap l m).get? c=some o->(HZ p q s.heap l m).get? c=some o:=fun c o e=>Heap.get?_push_of_some _ e
 have Om:∀ c o,(HI p q s.heap l m).get? c=some o->(HZ p q s.heap l m).get? c=some o:=fun c o e=>Ol c o (Heap.get?_push_of_some _ e)
 have Oo:∀ c o,(Hj p q s.heap l m).get? c=some o->(HZ p q s.heap l m).get? c=some o:=fun c o e=>Om c o (Heap.get?_push_of_some _ e)
 have Oq:∀ c o,(Hi p s.heap l).get? c=some o->(HZ p q s.heap l m).get? c=some o:=fun c o e=>Oo c o (Heap.get?_push_of_some _ e)
 have g5:(HZ p q s.heap l m).get? (HO p q s.heap l m).objs.size=some _:=Heap.get?_push_size _ rfl
 have g4:(HZ p q s.heap l m).get? (HI p q s.heap l m).objs.size=some {cls:=.type "tuple",data:=.seq #[.none,.none]}:=Ol _ _ (Heap.get?_push_size _ rfl)
 have g3:(HZ p q s.heap l m).get? (Hj p q s.heap l m).objs.size=some {cls:=.type "tuple",data:=.seq #[.ref s.heap.objs.size,.ref (Hi p s.heap l).objs.size]}:=Om _ _ (Heap.get?_push_size _ rfl)
 have g2:(HZ p q s.heap l m).get? (Hi p s.heap l).objs.size=some (JA q m):=Oo _ _ (Heap.get?_push_size _ (ip q m))
 have g1:(HZ p q s.heap l m).get? s.heap.objs.size=some (JA p l):=Oq _ _ (Heap.get?_push_size _ (ip p l))
 rw[n2,n3,n4] at g5
 rw[n3] at g4
 rw[n1,n2] at g3
 rw[n1] at g2
 show _/\_
 rw[n4]
 exact⟨⟨_,g5,rfl⟩,k _ g5 g3 g4 (ni (h:=s.heap) g1) (ni (h:=s.heap) g2) n5 fun c o e=>Oq c o (Heap.get?_push_of_some _ e)⟩
end
section
variable {prog:Program}{w:World}{A:Around}{E:Value->Shared->Prop}{s:Shared}
theorem G6 {p q:Kq}{z TI TO i j l m:Addr}{n n':Nat}{xs ys:Array Value}{x y a b:Value}{Q:Option Value->Shared->Prop}(D:ZipApart z TI TO i j l m)(hz:IsZip s.heap z TI TO .none)(hI:IsPair s.heap TI (.ref i) (.ref j))(hO:IsPair s.heap TO a b)
  (ci:It p s.heap i l n) (cj:It q s.heap j m n') (sl:Sq p s.heap l xs) (sm:Sq q s.heap m ys) (hx:xs[n]? = some x) (hy:ys[n']? = some y)
  (k:∀ h',IsZip h' z TI TO (rawInt s.heap.objs.size)->IsPair h' TO x y->It p h' i l (n+1)->It q h' j m (n' + 1)->IsPair h' s.heap.objs.size x y->h'.objs.size=s.heap.objs.size+1->Kept z TO i j s.heap h'->Q (some (.ref s.heap.objs.size)) {s with heap:=h'}) :
  wpAny (model prog w) A (pyNext (.ref z)) Q E s:=by
 have ty:s.TypeIs (.ref z) "zip":=⟨_,hz,rfl⟩
 unfold pyNext
 refine wpAny_bind (wpAny_attempt (wpAny_callSpecial?_slot (name:=Str.ofString "__next__") ty F.slot_zip_next (wpAny_call_entry F.slot_zip_next ty F.entry_zip_next ?_ (F.args_zip_next_1 _))))
 exact lW D hz hI hO ci cj sl sm hx hy fun h' a1 a2 a3 a4 a5 a6 a7=>wpAny_pure (k h' a1 a2 a3 a4 a5 a6 a7)
theorem G7 {p q:Kq}{z TI TO i j l m:Addr}{n n':Nat}{xs ys:Array Value}{a b:Value}{Q:Option Value->Shared->Prop}(hh:A.handled=none)(D:ZipApart z TI TO i j l m)(hz:IsZip s.heap z TI TO .none)(hI:IsPair s.heap TI (.ref i) (.ref j))(hO:IsPair s.heap TO a b)
  (ci:It p s.heap i l n) (cj:It q s.heap j m n') (sl:Sq p s.heap l xs) (sm:Sq q s.heap m ys) (Iz:xs[n]? = none∨ys[n']? = none)
  (k:∀ h',Kept z TO i j s.heap h'->Q none {s with heap:=h'}):wpAny (model prog w) A (pyNext (.ref z)) Q E s:=by
 have ty:s.TypeIs (.ref z) "zip":=⟨_,hz,rfl⟩
 unfold pyNext
 refine wpAny_bind (wpAny_attempt (wpAny_callSpecial?_slot (name:=Str.ofString "__next__") ty F.slot_zip_next (wpAny_call_entry F.slot_zip_next ty F.entry_zip_next (lX hh D hz hI hO ci cj sl sm Iz fun h' e hk he=>?_) (F.args_zip_next_1 _))))
 obtain⟨o,g,c⟩:=he
 exact wpAny_bind (wpAny_isInstance (T:="StopIteration") (b:=true) ⟨o,g,c⟩ isSubtype_stop (wpAny_pure (k _ hk)))
end
end L2.Zp
namespace L2
open PySem PySem.Spec PyProof.Rows
def FO (K:PySem.W.Frag)(H:Hp)(k:Zp.Kq)(a:Addr)(xs:List V):Prop:=match k with
 | .l=>Dd K H a xs
 | .t=>De K H a xs
section
variable {X:Cx}{pins:List (Addr×Obj)}{σ:St}{H:Hp}{s:Shared}{h':Heap}{k:Zp.Kq}{a:Addr}{xs ys:List V}
theorem Inv.JB (I:Inv X pins σ H s)(h:FO X.K H k a xs):∃ its:List Value,Vals xs its/\Zp.Sq k s.heap a its.toArray:=by
 cases k with
 | l=>obtain⟨its,rv,p,hz⟩:=I.list h;exact⟨its,rv,p.isList⟩
 | t=>obtain⟨its,rv,p,hz⟩:=I.tuple h;exact⟨its,rv,p⟩
theorem Inv.Fh (I:Inv X pins σ H s)(h:FO X.K H k a xs)(h':FO X.K H k a ys):xs=ys:=by
 cases k with
 | l=>exact I.CK h h'
 | t=>exact I.Du h h'
theorem Inv.turns {t':Nat}{ch:List Addr}(I:Inv X pins σ H s)(k:∀ b o,b∉ch->s.heap.get? b=some o->h'.get? b=some o)(hf:∀ b∈ch,cW X pins H b):Inv X pins σ H {s with heap:=h',toks:=t'}:=by
 have Hx:∀ b u,H b=some u->b∉ch:=fun b u e z=>by rw[(hf b z).1] at e;cases e
 refine I.step (g':=s.gens) (d':=s.drawn) (ch:=ch) (fun b hb=>?_) (fun b o _ _ hc e _=>k b o hc e) (fun b o _ _ hc e _=>⟨o.slots,k b o hc e⟩) (fun _ _ _ _ n=>n)
  (fun b o hc e=>⟨o,k b o hc e⟩) (fun _ _ e=>e) (fun _ _ _ e=>e) (fun b ps e=>⟨#[],by rw[e];simp⟩) (fun m hm=>?_) (fun b u e=>?_) I.bare
 ·obtain⟨f0,f1,f2,f3,f4,f5⟩:=hf b hb
  exact⟨f3,f1,f4,f5⟩
 ·obtain⟨o,es,ep,ho,r⟩:=hm
  exact⟨o,es,ep,k _ o (fun z=>(hf _ z).2.1 rfl) ho,r⟩
 ·refine(I.BY b u e).Dk (fun c v hc q=>k c v ?_ q) (fun _ q=>q) fun _ _ q=>q
  rcases hc with z|z
  ·rw[z];exact Hx b u e
  ·exact Hx c _ z
theorem Inv.IA {t':Nat}{ch:List Addr}{T:Addr}{ho:HO}(I:Inv X pins σ H s)(k:∀ b o,b∉ch->s.heap.get? b=some o->h'.get? b=some o)(hf:∀ b∈ch,cW X pins H b)(hp:s.heap.objs.size<=T)(new:aP X.prog X.w (upd H T ho) h' T ho):Inv X pins σ (upd H T ho) {s with heap:=h',toks:=t'}:=by
 have Hx:∀ b u,H b=some u->b∉ch:=fun b u e z=>by rw[(hf b z).1] at e;cases e
 have hn:H T=none:=I.BY.fresh hp
 refine I.step (g':=s.gens) (d':=s.drawn) (ch:=ch) (fun b hb=>?_) (fun b o _ _ hc e _=>k b o hc e) (fun b o _ _ hc e _=>⟨o.slots,k b o hc e⟩) (fun b o _ e n=>by rw[ai (Nat.ne_of_lt (Nat.lt_of_lt_of_le (Heap.lt_size e) hp))];exact n)
  (fun b o hc e=>⟨o,k b o hc e⟩) (fun b xs q=>by rw[ai (az q hn)];exact q) (fun b u xs q=>by rw[ai (az q hn)];exact q) (fun b ps q=>⟨#[],by rw[ai (az q hn),q];simp⟩) (fun m hm=>?_) (fun b u e=>?_) I.bare
 ·obtain⟨f0,f1,f2,f3,f4,f5⟩:=hf b hb
  exact⟨f3,f1,f4,f5⟩
 ·obtain⟨o,es,ep,ho,r⟩:=hm
  exact⟨o,es,ep,k _ o (fun z=>(hf _ z).2.1 rfl) ho,r⟩
 ·by_cases hb:b=T
  ·subst hb;rw[av] at e;cases e;exact new
  ·rw[ai hb] at e
   refine(I.BY b u e).Dk (fun c v hc q=>k c v ?_ q) (fun c q=>by rw[ai (az q hn)];exact q) fun c xs q=>by rw[ai (az q hn)];exact q
   rcases hc with z|z
   ·rw[z];exact Hx b u e
   ·exact Hx c _ z
end
noncomputable def MH (K:PySem.W.Frag)(p q:Zp.Kq)(l m:Addr):It:=
 ⟨fun i H=>∃ xs ys x y,FO K H p l xs/\FO K H q m ys/\xs[i]? = some x/\ys[i]? = some y,
  fun i H v H'=>∃ T a b,v=.ref T/\H T=none/\H'=upd H T (.tup [a,b])/\∀ xs ys,FO K H p l xs->FO K H q m ys->xs[i]? = some a/\ys[i]? = some b,
  fun i H=>∃ xs ys,FO K H p l xs/\FO K H q m ys/\(xs.length<=i∨ys.length<=i)⟩
theorem Zp.It.obj {k:Zp.Kq}{h:Heap}{i a:Addr}{n:Nat}(c:Zp.It k h i a n):∃ o,h.get? i=some o/\∀ v,o.data≠.cell v:=by
 cases k with
 | l=>obtain⟨o,e,c,d⟩:=c;exact⟨o,e,fun v z=>by rw[d] at z;cases z⟩
 | t=>obtain⟨o,e,c,d⟩:=c;exact⟨o,e,fun v z=>by rw[d] at z;cases z⟩
theorem nj {P:Program}{w:World}{K:PySem.W.Frag}{es:List Expr}{c:Nat}{pos:Pos}(p q:Zp.Kq)(z TI TO i j l m:Addr)(D:ZipApart z TI TO i j l m) :
  Turn P w K (.Tuple es c pos) (MH K p q l m) [z,TI,TO,i,j] z (fun n h=>IsZip h z TI TO .none/\IsPair h TI (.ref i) (.ref j)/\(∃ a b,IsPair h TO a b)/\Zp.It p h i l n/\Zp.It q h j m n) where
 mem:=by simp
 obj:=fun n h st b hb=>by
  obtain⟨hz,hI,⟨a,b',hO⟩,ci,cj⟩:=st
  simp only[List.mem_cons,List.not_mem_nil,or_false] at hb
  rcases hb with rfl|rfl|rfl|rfl|rfl
  ·exact⟨_,hz,fun v z=>by cases z⟩
  ·exact⟨_,hI,fun v z=>by cases z⟩
  ·exact⟨_,hO,fun v z=>by cases z⟩
  ·exact ci.obj
  ·exact cj.obj
 keep:=fun n h h' st k=>by
  obtain⟨hz,hI,⟨a,b',hO⟩,ci,cj⟩:=st
  exact⟨k z (by simp) _ hz,k TI (by simp) _ hI,⟨a,b',k TO (by simp) _ hO⟩,ci.to fun o e=>k i (by simp) o e,cj.to fun o e=>k j (by simp) o e⟩
 item:=by
  intro X hP hw hK hc n pins s σ H E I hf st hg
  subst hP hw hK
  obtain⟨hz,hI,⟨a,b',hO⟩,ci,cj⟩:=st
  obtain⟨xs,ys,x,y,LF,LG,hx,hy⟩:=hg
  obtain⟨G8,G9,p1⟩:=I.JB LF
  obtain⟨C4,EF,p2⟩:=I.JB LG
  obtain⟨u1,MI,Ks⟩:=G9.get hx
  obtain⟨u2,QM,MJ⟩:=EF.get hy
  refine Zp.G6 D hz hI hO ci cj p1 p2 (x:=u1) (y:=u2) (by simpa using MI) (by simpa using QM) fun h1 a1 a2 a3 a4 a5 a6 hk=>?_
  refine⟨_,rfl,?_⟩
  have lz:z < s.heap.objs.size:=Heap.lt_size hz
  have QN:s.heap.objs.size≠z:=Nat.ne_of_gt lz
  refine wpAny_letOwnedTupleGo_zip (s:={s with heap:=h1}) a1 fun h2 QO Gf=>?_
  have kk:∀ b o,b∉[z,TI,TO,i,j]->s.heap.get? b=some o->h2.get? b=some o:=fun b o hb e=>by
   simp only[List.mem_cons,List.not_mem_nil,or_false,not_or] at hb
   exact Gf.extBut _ _ hb.1 (hk b o hb.1 hb.2.2.1 hb.2.2.2.1 hb.2.2.2.2 e)
  have hT:IsPair h2 s.heap.objs.size u1 u2:=Gf.extBut _ _ QN a5
  have I2:Inv X pins σ (upd H s.heap.objs.size (.tup [x,y])) {s with heap:=h2}:=I.IA (t':=s.toks) kk hf (Nat.le_refl _) ⟨by show 2<=sizeLine;decide,[u1,u2],.cons Ks (.cons MJ .nil),⟨_,hT,rfl,_,rfl⟩⟩
  refine⟨.ref s.heap.objs.size,_,I2,rfl,⟨_,x,y,rfl,I.BY.fresh (Nat.le_refl _),rfl,fun QP TF g1 g2=>by rw[I.Fh g1 LF,I.Fh g2 LG];exact⟨hx,hy⟩⟩,⟨QO,Gf.extBut _ _ D.TIz (hk _ _ D.TIz D.TITO D.TIi1 D.TIi2 hI),⟨_,_,Gf.extBut _ _ D.TOz a2⟩,a3.to fun o e=>Gf.extBut _ _ D.i1z e,a4.to fun o e=>Gf.extBut _ _ D.i2z e⟩,fun b hb=>?_⟩
  have Fi:b < s.heap.objs.size:=by
   simp only[List.mem_cons,List.not_mem_nil,or_false] at hb
   rcases hb with rfl|rfl|rfl|rfl|rfl
   ·exact lz
   ·exact Heap.lt_size hI
   ·exact Heap.lt_size hO
   ·exact ci.lt
   ·exact cj.lt
  rw[ai (Nat.ne_of_lt Fi)]
  exact(hf b hb).1
 done:=by
  intro X hP hw hK hc n pins s σ H E I hf st hg
  subst hP hw hK
  obtain⟨hz,hI,⟨a,b',hO⟩,ci,cj⟩:=st
  obtain⟨xs,ys,LF,LG,hx⟩:=hg
  obtain⟨G8,G9,p1⟩:=I.JB LF
  obtain⟨C4,EF,p2⟩:=I.JB LG
  have l1:=G9.length
  have l2:=EF.length
  refine Zp.G7 (I.ok.hd hc) D hz hI hO ci cj p1 p2 (by
   rcases hx with hx|hx
   ·exact .inl (Array.getElem?_eq_none (by simp;omega))
   ·exact .inr (Array.getElem?_eq_none (by simp;omega))) fun h1 hk=>⟨rfl,I.turns (t':=s.toks) (ch:=[z,TI,TO,i,j]) (fun b o hb e=>?_) hf⟩
  simp only[List.mem_cons,List.not_mem_nil,or_false,not_or] at hb
  exact hk b o hb.1 hb.2.2.1 hb.2.2.2.1 hb.2.2.2.2 e
 self:=fun _ _ _ _ _ st h=>wpAny_pyIter_zip st.1 h
def Bj (K:PySem.W.Frag)(ta:TA):TI:=fun σ H R=>ta σ H fun vs H1=>∃ p q l m xs ys,vs=[.ref l,.ref m]/\FO K H1 p l xs/\FO K H1 q m ys/\R (MH K p q l m) H1
theorem Zp.Sq.lt {k:Zp.Kq}{h:Heap}{a:Addr}{xs:Array Value}(q:Zp.Sq k h a xs):a < h.objs.size:=by
 cases k with
 | l=>obtain⟨o,e,_⟩:=q;exact Heap.lt_size e
 | t=>obtain⟨o,e,_⟩:=q;exact Heap.lt_size e
theorem nk (N l m:Nat)(hl:l < N)(hm:m < N):ZipApart (N+4) (N+2) (N+3) N (N+1) l m:=by
 constructor<;>(intro e;have e':(_:Nat)=(_:Nat):=e;omega)
theorem vZ {X:Cx}{a b:Expr}{ta:TA}{es:List Expr}{c:Nat}{p tp pos:Pos}(hg:Gl X "zip") (hm:X.mg "zip" = none) (ha:PA X [a,b] ta) (hs:starEach [a,b] X.env=[(false,eval a X.env),(false,eval b X.env)]) (Gf:starEach [b] X.env=[(false,eval b X.env)]) :
  PI X (.Tuple es c tp) (.Call (.Name "zip" p) [a,b] [] pos) (Bj X.K ta):=by
 intro pins s σ H R I h
 refine Call_ (cL I hg hm boot_zip (PyProof.Rows.callWith_type1 (B7 (ha pos pins s σ H _ I h) fun us s1 ⟨vs,H1,I1,r1,q1⟩=>?_) (by rw[hs,Gf]) (by rw[Gf];rfl)))
 obtain⟨k1,k2,l,m,xs,ys,e,g1,g2,q⟩:=q1
 subst e
 cases r1 with
 | cons r rr=>
  cases rr with
  | cons r' rr=>
   cases rr
   cases r
   cases r'
   obtain⟨G8,G9,p1⟩:=I1.JB g1
   obtain⟨C4,EF,p2⟩:=I1.JB g2
   have l1:=p1.lt
   have l2:=p2.lt
   refine Zp.Ge p1 p2 fun h2 b1 b2 b3 b4 b5 b6 b7=>?_
   refine wpAny_pyIter_zip (s:={s1 with heap:=h2}) b1 ?_
   refine⟨s1.heap.objs.size+4,[s1.heap.objs.size+4,s1.heap.objs.size+2,s1.heap.objs.size+3,s1.heap.objs.size,s1.heap.objs.size+1],_,_,H1,rfl,I1.kept (t':=s1.toks) b7,nj k1 k2 _ _ _ _ _ l m (nk _ l m l1 l2),⟨b1,b2,⟨_,_,b3⟩,b4,b5⟩,fun b hb=>?_,q⟩
   have Fi:s1.heap.objs.size<=b:=by
    simp only[List.mem_cons,List.not_mem_nil,or_false] at hb
    rcases hb with rfl|rfl|rfl|rfl|rfl
    ·exact Nat.le_add_right _ _
    ·exact Nat.le_add_right _ _
    ·exact Nat.le_add_right _ _
    ·exact Nat.le_refl _
    ·exact Nat.le_add_right _ _
   exact I1.Fy Fi (I1.BY.fresh Fi)
end L2
namespace L2.Se
open PySem
open PyProof.Rows
section
variable {prog:Program}{w:World}{A:Around}{E:Value->Shared->Prop}{s:Shared}
instance:Inhabited Str:=⟨⟨#[]⟩⟩
end
end L2.Se
namespace L2.Sv
open PySem PyProof.Rows
noncomputable def QR (σ:List Str)(v:Str):List Str:=if σ.any (· == v) then σ else σ++[v]
end L2.Sv
namespace L2
open PySem PySem.Spec PyProof.Rows PySem.SeqAt
noncomputable def dd (ns:List Int):List Int:=ns.foldl step_dedup []
noncomputable def yp (x:Str):List Str->List Str
 | []=>[x]
 | y::r=>if ltCps y.cps.toList x.cps.toList=true then y::yp x r else x::y::r
noncomputable def sW:List Str->List Str
 | []=>[]
 | x::r=>yp x (sW r)
noncomputable def QS (ns:List Str):List Str:=ns.foldl Sv.QR []
end L2
namespace L2.Sx
open PySem PyProof.Rows
noncomputable def dd (σ:List Str)(v:Str):List Str:=if σ.any (· == v) then σ else σ++[v]
theorem v3 (σ:List Str)(v k:Str):(dd σ v).any (· == k)=(σ.any (· == k)||decide (k=v)):=by
 unfold dd
 by_cases h:σ.any (· == v)=true
 ·rw[if_pos h]
  by_cases e:k=v
  ·subst e;rw[h];simp
  ·rw[decide_eq_false e,Bool.or_false]
 ·rw[if_neg h,List.any_append]
  by_cases e:k=v
  ·subst e;simp
  ·have hb:(v == k)=false:=by simpa using fun z:v=k=>e z.symm
   simp[hb,e]
theorem nq (σ:List Str)(v:Str):(dd σ v).length=if σ.any (· == v)=true then σ.length else σ.length+1:=by
 unfold dd
 by_cases h:σ.any (· == v)=true
 ·rw[if_pos h,if_pos h]
 ·rw[if_neg h,if_neg h,List.length_append];rfl
theorem sX:∀ (l σ:List Str),(l.foldl dd σ).length<=σ.length+l.length
 | [],σ=>Nat.le_refl _
 | v::l,σ=>by
  have h:=sX l (dd σ v)
  have h2:=nq σ v
  rw[List.foldl_cons,List.length_cons]
  split at h2<;>omega
section
variable {prog:Program}{w:World}{A:Around}{E:Value->Shared->Prop}{s:Shared}{R:Result->Shared->Prop}{I:Addr}{fp wr:List Addr}{G:Array GenState->Array GenState->Prop}{n:Nat}{P:Nat->Value->Prop}{St:Nat->Shared->Prop}
def Dy (prog:Program)(w:World)(h:Heap)(a:Addr)(σ:List Str):Prop:=h.SetOf (PySem.strKind prog w) a (fun k=>σ.any (· == k)) σ.length
theorem Dy.moved {h h':Heap}{a:Addr}{σ:List Str}(hS:Dy prog w h a σ)(k:∀ o,h.get? a=some o->h'.get? a=some o):Dy prog w h' a σ:=by
 obtain⟨o,es,ep,t,ho,D⟩:=hS
 exact⟨o,es,ep,t,k o ho,D⟩
theorem Ot (x:Str)(t:Tok):(PySem.strKind prog w).is x (.str x t)=true:=by
 show (x == x)=true
 simp
theorem loop (W:WalksS prog w A.in1 I fp wr G n P St)(a:Addr)(ha:a∉fp){ns:List Str}(hv:∀ i v,P i v->∃ t,v=.str (ns.getD i ⟨#[]⟩) t)(hn:ns.length=n)(hb:n+1 < scanBound) :
  ∀ (k i:Nat) (s:Shared),n - i=k->i<=n->St i s->Dy prog w s.heap a ((ns.take i).foldl dd [])->
   (∀ s',Moved (a::wr) G s s'->Dy prog w s'.heap a (ns.foldl dd [])->R (.ok (.ret .none)) s')->
   codeAny (model prog w) A (.builtin "set.update.loop" ⟨[.ref a,.ref I],[]⟩) R s:=by
 have Ku:a∉wr:=fun z=>ha (W.sub _ z)
 have sub:∀ b∈wr,b∈a::wr:=fun b z=>List.mem_cons_of_mem _ z
 intro k
 induction k with
 | zero=>
  intro i s hk hi Cb hS hR
  have e:i=n:=by omega
  subst e
  rw[<- hn,List.take_length] at hS
  refine codeAny_builtin F.entry_set_update_loop ?_
  rw[Around.under_plainId F.plain_set_update_loop _]
  show wpAny _ A.in1 (pyNext (.ref I) >>= _) _ _ s
  exact wpAny_bind (W.done s _ _ Cb fun s' hm=>show wpAny _ A.in1 (ret Value.none) _ _ s' from wpAny_pure (hR s' (hm.mono sub) (hS.moved fun o e=>hm.heap a o Ku e)))
 | succ k ih=>
  intro i s hk hi Cb hS hR
  have CY:i < n:=by omega
  refine codeAny_builtin F.entry_set_update_loop ?_
  rw[Around.under_plainId F.plain_set_update_loop _]
  show wpAny _ A.in1 (pyNext (.ref I) >>= _) _ _ s
  refine wpAny_bind (W.item i s _ _ CY Cb fun v s' hP B8 hm=>?_)
  obtain⟨t,rfl⟩:=hv i v hP
  have MK:Dy prog w s'.heap a ((ns.take i).foldl dd []):=hS.moved fun o e=>hm.heap a o Ku e
  show wpAny _ A.in1 (holding [Value.str (ns.getD i ⟨#[]⟩) t] (setAdd a (.str (ns.getD i ⟨#[]⟩) t)) >>= _) _ _ s'
  unfold setAdd
  refine wpAny_bind (wpAny_holding (wpAny_holding (wpAny_bind ((PySem.strKind prog w).pyHash (Ot _ _) ?_))))
  have hlen:=sX (ns.take i) []
  rw[List.length_take,List.length_nil] at hlen
  refine wpAny_setAddHashed_of (knd:=PySem.strKind prog w) (s:={s' with toks:=s'.toks+1}) (Ot _ _) rfl MK (by omega) fun h' Iu QT=>?_
  have et:(ns.take (i+1)).foldl dd []=dd ((ns.take i).foldl dd []) (ns.getD i ⟨#[]⟩):=by
   have Gg:i < ns.length:=by omega
   rw[List.take_succ,List.foldl_append,List.getElem?_eq_getElem Gg,List.getD_eq_getElem?_getD,List.getElem?_eq_getElem Gg]
   rfl
  have QU:Dy prog w h' a ((ns.take (i+1)).foldl dd []):=by
   unfold Dy
   rw[et]
   exact SetOf_congr QT (fun k'=>by rw[v3]) (by rw[nq])
  refine wpAny_pure ⟨plainId_quiet F.plain_set_update_loop _,ih (i+1) _ (by omega) CY (W.frame _ s' _ _ B8 (Nat.le_succ _) fun b hb o e=>?_) QU fun Fd Gh IB=>?_⟩
  ·rw[Iu.2 b fun z=>ha (z ▸ hb)];exact e
  ·refine hR Fd (Moved.trans W.gtrans ((hm.mono sub).then_heap (Nat.le_succ _) fun b o hb e=>?_) Gh) IB
   rw[Iu.2 b fun z=>hb (z ▸ List.mem_cons_self)];exact e
noncomputable abbrev oN (led:Bool):Obj:={cls:=.type "set",dict:=none,data:=.set #[] 0 (.fresh 0 0 led)}
theorem Gi {l:Addr}{items:Array Value}{ns:List Str}{Q:Value->Shared->Prop}(hh:A.handled=none)(hl:s.heap.IsList l items)(hi:∀ (i:Nat)(v:Value),items[i]? = some v->∃ t,v=Value.str (ns.getD i ⟨#[]⟩) t)(hlen:ns.length=items.size)(hb:items.size+1 < scanBound)
  (h:∀ (h':Heap) (tk:Nat),Dy prog w h' s.heap.objs.size (ns.foldl dd [])->(∀ b o,b < s.heap.objs.size->s.heap.get? b=some o->h'.get? b=some o)->Q (.ref s.heap.objs.size) {s with heap:=h',toks:=tk}) :
  wpAny (model prog w) A (call (.type "set") [.ref l]) Q E s:=by
 obtain⟨c,tl,mro⟩:=F.called_set.mro
 have made:=F.called_set.made
 have sub:=F.called_set.sub
 refine wpAny_call (codeAny_of_tree (show wpAny _ _ (callAny (.type "set") _) _ _ _ from wpAny_pure ⟨Code.quiet_builtin _ (by decide +kernel),codeAny_builtin F.entry_type_call ?_⟩))
 rw[Around.under_plain (weight_type_call_type "set" [.ref l] []) rfl]
 have n1:=F.called_set.notType
 have n2:=F.called_set.canCreate
 have n3:=F.typeCall_set_1 (.ref l)
 repeat (any_goals (first|assumption|wp_step))
 refine codeAny_mono (code_set_new_1 (.ref l) (E:=E) (Q₁:=fun obj s1=>∃ led,obj=.ref s.heap.objs.size/\s1 = {s with heap:=s.heap.push (oN led)}) fun led=>⟨led,rfl,rfl⟩) fun r s1 hr=>?_
 cases r with
 | error e=>exact hr
 | ok fl=>
  cases fl with
  | ret obj=>
   obtain⟨led,rfl,rfl⟩:=hr
   have gS:(s.heap.push (oN led)).get? s.heap.objs.size=some (oN led):=Heap.get?_push_size _ rfl
   have hT:Shared.TypeIs {s with heap:=s.heap.push (oN led)} (.ref s.heap.objs.size) "set":=⟨_,gS,rfl⟩
   have i1:=F.called_set.init.lookup
   have i2:=F.called_set.init.bind (.ref s.heap.objs.size)
   repeat (any_goals (first|assumption|wp_step))
   refine codeAny_mono (codeAny_call_builtin (R:=wants (fun r s2=>r=.none/\∃ h' tk,s2 = {s with heap:=h',toks:=tk}/\Dy prog w h' s.heap.objs.size (ns.foldl dd [])/\
     (∀ b o,b < s.heap.objs.size->s.heap.get? b=some o->h'.get? b=some o)) E) F.called_set.init.plain F.entry_set_init (check_set_init_1 hT ?_)) fun r2 s2 ML=>?_
   ·obtain⟨ol,Ou,Kv,nl,Ov⟩:=hl
    obtain⟨QV,Kw,Ox,IC⟩:=ol
    simp only at Kv Ov
    subst Kv;subst Ov
    have MM:(s.heap.push (oN led)).get? l=some {cls:=.type "list",dict:=Kw,data:=.seq items nl,slots:=IC}:=Heap.get?_push_of_some _ Ou
    have w1:=F.sub_list_set
    have w2:=F.sub_list_frozenset
    have w3:(Value.type "list" == Value.type "dict")=false:=by decide
    have JC:(s.heap.push (oN led)).IsList l items:=⟨_,MM,rfl,nl,rfl⟩
    unfold Builtin.«set.__init__» noKeywords Builtin.Frozenset.updateFrom
    generalize QW:pyIter=PI
    wp_walk
    subst QW
    refine wpAny_pyIter_list JC (wpAny_bind (wpAny_runValue ?_))
    have lS:l < s.heap.objs.size:=Heap.lt_size Ou
    have nI:l≠(s.heap.push (oN led)).objs.size:=by rw[Heap.size_push];exact Nat.ne_of_lt (Nat.lt_succ_of_lt lS)
    have aS:s.heap.objs.size∉[(s.heap.push (oN led)).objs.size,l]:=by
     rw[Heap.size_push]
     intro z
     rcases List.mem_cons.mp z with z|z
     ·exact Nat.ne_of_lt (Nat.lt_succ_self _) z
     ·exact Nat.ne_of_gt lS (List.mem_singleton.mp z)
    have f0:Dy prog w (s.heap.push (oN led)) s.heap.objs.size []:=SetOf_congr ((setObjOf_fresh (knd:=PySem.strKind prog w) led).setOf gS (by unfold scanBound;omega)) (fun _=>rfl) rfl
    refine loop ((Walks.list (show A.in1.in1.in1.handled=none by simp[hh]) _ l nI items).toS) s.heap.objs.size aS (ns:=ns) hi hlen hb (items.size - 0) 0 _ (by omega) (Nat.zero_le _)
     ⟨⟨_,Heap.get?_push_size _ rfl,rfl,rfl⟩,(JC.push _)⟩ (f0.moved fun o e=>Heap.get?_push_of_some _ e) ?_
    intro s' hm MN
    obtain⟨h',g',d',JD,J'⟩:=s'
    have eg:g'=s.gens:=hm.gens
    have ed:d'=s.drawn:=hm.drawn
    have eo:J'=s.os:=hm.os
    subst eg ed eo
    show wpAny _ _ _ _ _ _
    refine wpAny_pure (show wpAny _ _ (ret Value.none) _ _ _ from wpAny_pure ⟨rfl,h',JD,rfl,MN,fun b o hb e=>?_⟩)
    refine hm.heap b o (fun z=>?_) (Heap.get?_push_of_some _ (Heap.get?_push_of_some _ e))
    rcases List.mem_cons.mp z with z|z
    ·exact Nat.ne_of_lt hb z
    ·have:=List.mem_singleton.mp z
     rw[Heap.size_push] at this
     exact Nat.ne_of_lt (Nat.lt_succ_of_lt hb) this
   ·cases r2 with
    | error e=>exact ML
    | ok QX=>
     cases QX with
     | ret r=>
      obtain⟨rfl,h',tk,rfl,MN,MO⟩:=ML
      repeat (any_goals (first|assumption|wp_step))
      exact h _ _ MN MO
     | _=>exact ML.elim
  | _=>exact hr.elim
theorem C3 {a:Addr}{σ:List Str}{Q:Value->Shared->Prop}(hS:Dy prog w s.heap a σ)(h:∀ t tk,Q (.int σ.length t) {s with toks:=tk}):wpAny (model prog w) A (call (.builtin "len") [.ref a]) Q E s:=by
 obtain⟨o,es,ep,t,ho,hex,hd,_,_,hb,hf,hn⟩:=hS
 refine call_len_set ho hex hd hf (by unfold scanBound at hb;omega) ?_
 rw[hn]
 exact h _ _
end
end L2.Sx
namespace L2
open PySem PySem.Spec PyProof.Rows
section
variable {X:Cx}{e:Expr}{p p' pos pos':Pos}{t:TE}
theorem rq {ns:List Str}:∀ {us:List Value},Vals (ns.map V.str) us->∀ (i:Nat) (v:Value),us[i]? = some v->∃ t,v=Value.str (ns.getD i ⟨#[]⟩) t:=by
 induction ns with
 | nil=>intro us r i v h;cases r;simp at h
 | cons n ns ih=>
  intro us r i v h
  cases r with
  | cons r rs=>
   obtain⟨t,rfl⟩:=r
   cases i with
   | zero=>exact⟨t,by simpa using h.symm⟩
   | succ j=>simpa using ih rs j v (by simpa using h)
theorem rA (hc:X.calm=true)(g1:Gl X "len") (m1:X.mg "len" = none) (g2:Gl X "set") (m2:X.mg "set" = none) (he:PE X e t) (Cb:∀ es,starEach (e::es) X.env=(false,eval e X.env)::starEach es X.env) :
  PE X (.Call (.Name "len" p) [.Call (.Name "set" p') [e] [] pos'] [] pos) (fun σ H Q=>t σ H fun v H1=>∃ (l:Addr) (ns:List Str),v=.ref l/\Dd X.K H1 l (ns.map V.str)/\ns.length < 1000/\Q (.int ((ns.foldl Sx.dd []).length:Nat)) H1):=by
 intro pins s σ H Q I h
 refine wpAny_Call_Name_kw (cL (u:=.builtin "len") I g1 m1 (by decide +kernel) ?_ (by decide) (by decide))
 refine PyProof.Rows.callWith_builtin1 ?_ rfl rfl
 show wpAny _ _ (spliced ((false,eval (.Call (.Name "set" p') [e] [] pos') X.env)::backTo pos (starEach [] X.env))) _ _ s
 have key:wpAny (model X.prog X.w) X.A (eval (.Call (.Name "set" p') [e] [] pos') X.env) (fun u s1=>∃ (a:Addr) (ns:List Str) (H1:Hp),u=.ref a/\Inv X pins σ H1 s1/\Sx.Dy X.prog X.w s1.heap a (ns.foldl Sx.dd [])/\Q (.int ((ns.foldl Sx.dd []).length:Nat)) H1) X.xe s:=by
  refine wpAny_Call_Name_kw (cL (u:=.type "set") I g2 m2 (by decide +kernel) ?_ (by decide) (by decide))
  refine PyProof.Rows.callWith_type1 ?_ (Cb []) rfl
  rw[Cb []]
  show wpAny _ _ (spliced ((false,eval e X.env)::backTo pos' (starEach [] X.env))) _ _ s
  refine Calls.spliced_cons (B7 (he pins s σ H _ I h) fun u s1 ⟨x,H1,I1,r1,l,ns,ex,hq,hn,q1⟩=>?_)
  subst ex
  cases r1
  refine Calls.spliced_nil ?_
  obtain⟨its,r',pl,hz⟩:=I1.list hq
  have hl:=r'.length
  rw[List.length_map] at hl
  refine Sx.Gi (I1.ok.hd hc) pl.isList (fun i v hv=>rq r' i v (by simpa using hv)) (by rw[List.size_toArray];exact hl) (by rw[List.size_toArray];unfold scanBound;omega) fun h' tk hS hk=>⟨_,ns,H1,rfl,I1.kept (t':=tk) fun b o e=>hk b o (Heap.lt_size e) e,hS,q1⟩
 refine Calls.spliced_cons (B7 key fun u s1 ⟨a,ns,H1,eu,I1,hS,q1⟩=>?_)
 subst eu
 refine Calls.spliced_nil ?_
 exact Sx.C3 hS fun t tk=>⟨.int _,H1,I1.tok _,⟨_,rfl⟩,q1⟩
end
section
variable {X:Cx}
def jQ:V->List V->Hp->VK->Prop:=fun x vs H Q=>∃ d o kvs more,x=.ref d/\vs=[.ref o]/\d≠o/\H d=some (.dK kvs)/\Rd H o (.dK more)/\kvs.length+more.length<=sizeLine/\Q .B5 (upd H d (.dK (bL kvs more)))
theorem lY:N9 X "dict.update" jQ:=by
 intro pins s σ H x vs v us Q I rx rv h
 obtain⟨d,o,kvs,more,rfl,rfl,EN,hd,ho,hz,q⟩:=h
 cases rx
 obtain⟨u,rfl,ru⟩:=rv.one
 cases ru
 obtain⟨z1,s1,v1,r1,D1⟩:=sV I.BY hd
 obtain⟨z2,s2,v2,r2,D2⟩:=c5 I.BY ho
 have e1:=r1.length
 have e2:=r2.length
 refine call_meetsIn F.slot_dict_update D1.typeIs F.entry_dict_update (F.args_dict_update_2 _ _) (meets_dict_update (aF X.prog X.w) d o EN s2) ⟨v1,v2,D1,D2,by rw[<- e1,<- e2];exact hz,fun h' Oy TH sb=>?_⟩
 have he:∃ q,h'.get? d=some q:=let ⟨q,_,_,hq,_⟩:=Oy;⟨q,hq⟩
 have hl:=bU more kvs
 exact⟨.B5,_,gp (t':=s.toks) I (by rw[hd];exact True.intro) sb he (jg (by omega) s1 (r2.merge r1) Oy),rfl,q⟩
end
end L2
namespace L2.Dp
open PySem PyProof.Rows
section
variable {prog:Program}{w:World}{A:Around}{E:Value->Shared->Prop}{s:Shared}
theorem lZ:typeLookup (.type "list") "keys" = pure none:=by rw[typeLookup_type,builtinLookup_eq_fast];kernel_rfl
theorem l0 {a:Addr}{o:Obj}{xs:Array Value}{k:Nat}{Q:Option Value->Shared->Prop}(hx:s.heap.get? a=some o)(hc:o.cls=.type "list") (Kx:o.data=.seq xs k) (hd:o.dict=none) (hA:A.handled=none)
  (h:∀ h' tk,(∀ b o,s.heap.get? b=some o->h'.get? b=some o)->Q none {s with heap:=h',toks:=tk}):wpAny (model prog w) A (getAttr? (.ref a) "keys") Q E s:=by
 obtain⟨c,BU,dat,sl⟩:=o
 simp only at hc Kx hd
 subst hc Kx hd
 obtain⟨hp,g,d,tk,os⟩:=s
 have hT:∀ JD,(⟨hp,g,d,JD,os⟩:Shared).TypeIs (.ref a) "list":=fun _=>⟨_,hx,rfl⟩
 have f1:=sub_AttributeError
 have f3:=F.slot_list_getattribute.lookup
 have f4:=F.slot_list_getattribute.bind (.ref a)
 have f5:=am_list_getattr_none
 unfold getAttr? getAttrBy? getAttrBy
 repeat (any_goals (first|assumption|exact hT _|((with_reducible show wpAny _ _ (call (Value.builtin "list.__getattribute__") _ _) _ _ _);refine call_meets F.slot_list_getattribute (hT _) am_entry_list_getattribute (F.args_list_getattribute_2 _ _) (meets_getattribute_miss_list a xs k sl "keys" _ lZ (by decide) (by size_fits)) ⟨hx,hA,fun h' JD e Dz=>?_⟩)|wp_step))
 obtain⟨t',u',he⟩:=Dz.there
 show wpAny _ _ (getattributeRaised _ _ _ _ _ _ _) _ _ _
 unfold getattributeRaised
 repeat (any_goals (first|assumption|wp_step))
 exact h _ _ Dz.of.keeps
theorem eO:entryFor table "dict.update.loop" = some Builtin.«dict.update.loop»:=entryFor_of_tree (by kernel_rfl)
theorem cz:plainId "dict.update.loop" = true:=by decide +kernel
variable {K:Type} [DecidableEq K]{knd:KeyKind prog w K}{I:Addr}{fp wr:List Addr}{G:Array GenState->Array GenState->Prop}{n:Nat}{P:Nat->Value->Prop}{St:Nat->Shared->Prop}{R:Result->Shared->Prop}
def Dg (knd:KeyKind prog w K)(h:Heap)(b:Addr)(p:K×Value):Prop:=∃ (key:Value) (od:Option Addr) (m:Nat) (sl:Array (Option Value)),h.get? b=some {cls:=.type "tuple",dict:=od,data:=.seq #[key,p.2] m,slots:=sl}/\knd.is p.1 key=true
theorem Dg.keep {h h':Heap}{b:Addr}{p:K×Value}(x:Dg knd h b p)(k:∀ o,h.get? b=some o->h'.get? b=some o):Dg knd h' b p:=by
 obtain⟨key,od,m,sl,e,hk⟩:=x
 exact⟨key,od,m,sl,k _ e,hk⟩
theorem loop (W:WalksS prog w A.in1 I fp wr G n P St)(d:Addr)(hd:d∉fp){bs:List Addr}{kvs:List (K×Value)}(hv:∀ i v,P i v->∃ b,v=.ref b/\bs[i]? = some b)(hn:kvs.length=n)(hb:n<=sizeLine)(nb:∀ b∈bs,b≠d/\b∉wr) :
  ∀ (k i:Nat) (s:Shared),n - i=k->i<=n->St i s->s.heap.DictOf knd d (merged [] (kvs.take i))->(∀ (j:Nat) (b:Addr) (p:K×Value),bs[j]? = some b->kvs[j]? = some p->Dg knd s.heap b p)->
   (∀ s',Moved (d::wr) G s s'->s'.heap.DictOf knd d (merged [] kvs)->R (.ok (.ret .none)) s')->
   codeAny (model prog w) A (.builtin "dict.update.loop" ⟨[.ref d,.ref I,rawInt i,.none],[]⟩) R s:=by
 have Ku:d∉wr:=fun z=>hd (W.sub _ z)
 have sub:∀ b∈wr,b∈d::wr:=fun b z=>List.mem_cons_of_mem _ z
 intro k
 induction k with
 | zero=>
  intro i s hk hi Cb hS hT hR
  have e:i=n:=by omega
  subst e
  rw[<- hn,List.take_length] at hS
  refine codeAny_builtin eO ?_
  rw[Around.under_plainId cz _]
  show wpAny _ A.in1 (pyNext (.ref I) >>= _) _ _ s
  refine wpAny_bind (W.done s _ _ Cb fun s' hm=>?_)
  show wpAny _ A.in1 (Builtin.Dict.addKeywords d [] >>= fun _=>ret Value.none) _ _ s'
  obtain⟨o,es,ep,ho,r⟩:=hS
  exact wpAny_bind (wpAny_pure (wpAny_pure (hR s' (hm.mono sub) ⟨o,es,ep,hm.heap d o Ku ho,r⟩)))
 | succ k ih=>
  intro i s hk hi Cb hS hT hR
  have CY:i < n:=by omega
  refine codeAny_builtin eO ?_
  rw[Around.under_plainId cz _]
  show wpAny _ A.in1 (pyNext (.ref I) >>= _) _ _ s
  refine wpAny_bind (W.item i s _ _ CY Cb fun v s' hP B8 hm=>?_)
  obtain⟨b,rfl,QY⟩:=hv i v hP
  have Oz:kvs[i]? = some kvs[i]:=List.getElem?_eq_getElem (by omega)
  have HE:∀ (j:Nat) (b:Addr) (p:K×Value),bs[j]? = some b->kvs[j]? = some p->Dg knd s'.heap b p:=fun j b p h1 h2=>(hT j b p h1 h2).keep fun o e=>hm.heap b o (nb b (List.mem_of_getElem? h1)).2 e
  obtain⟨key,od,m,sl,hg,MP⟩:=HE i b _ QY Oz
  have MK:s'.heap.DictOf knd d (merged [] (kvs.take i)):=by
   obtain⟨o,es,ep,ho,r⟩:=hS
   exact⟨o,es,ep,hm.heap d o Ku ho,r⟩
  have hlen:=merged_length_le [] (kvs.take i)
  rw[List.length_take,List.length_nil] at hlen
  have et:=merged_take_succ [] kvs i _ Oz
  generalize QZ:dictSet=DS
  obtain⟨hp,gg,dd,tk,os⟩:=s'
  have Q0:(⟨hp,gg,dd,tk,os⟩:Shared).TypeIs (.ref b) "tuple":=⟨_,hg,rfl⟩
  have TJ:(Value.type "tuple" == Value.type "list")=false:=by decide
  show wpAny _ A.in1 ((holding [Value.ref b] ((Builtin.Dict.pairItems (.ref b)).tryCatch _ >>= _)) >>= _) _ _ _
  refine wpAny_bind (wpAny_holding (wpAny_bind (wpAny_tryCatch ?_)))
  unfold Builtin.Dict.pairItems
  refine wpAny_bind (wpAny_typeOf Q0 ?_)
  rw[if_pos (by decide)]
  repeat (any_goals (first|assumption|wp_step))
  subst QZ
  refine wpAny_dictSet_pairs (s:=⟨hp,gg,dd,tk,os⟩) MP MK (fun h' hD Iu=>?_) (by omega)
  have Eu:∀ b' o,b'≠d->hp.get? b'=some o->h'.get? b'=some o:=fun b' o Fi e=>by rw[Iu.2 b' Fi];exact e
  refine wpAny_pure ⟨plainId_quiet cz _,?_⟩
  refine ih (i+1) _ (by omega) CY (W.frame _ ⟨hp,gg,dd,tk,os⟩ _ _ B8 (Nat.le_succ _) fun b' Fi o e=>Eu b' o (fun z=>hd (z ▸ Fi)) e) (by rw[et];exact hD) (fun j b' p h1 h2=>(HE j b' p h1 h2).keep fun o e=>Eu b' o (nb b' (List.mem_of_getElem? h1)).1 e) fun Fd Gh IB=>?_
  exact hR Fd (Moved.trans W.gtrans ((hm.mono sub).then_heap (Nat.le_succ _) fun b' o Fi e=>Eu b' o (fun z=>Fi (z ▸ List.mem_cons_self)) e) Gh) IB
theorem Fz {l:Addr}{its:Array Value}{lm:Nat}{OA:Array (Option Value)}{bs:List Addr}{kvs:List (K×Value)}{Q:Value->Shared->Prop}(hh:A.handled=none)(hl:s.heap.get? l=some {cls:=.type "list",dict:=none,data:=.seq its lm,slots:=OA}) (hi:∀ (i:Nat) (v:Value),its[i]? = some v->∃ b,v=Value.ref b/\bs[i]? = some b)
  (hlen:kvs.length=its.size) (hb:its.size<=sizeLine) (hT:∀ (j:Nat) (b:Addr) (p:K×Value),bs[j]? = some b->kvs[j]? = some p->Dg knd s.heap b p) (OB:∀ b∈bs,b < s.heap.objs.size)
  (h:∀ (h':Heap) (tk:Nat),h'.DictOf knd s.heap.objs.size (merged [] kvs)->(∀ b o,b < s.heap.objs.size->s.heap.get? b=some o->h'.get? b=some o)->Q (.ref s.heap.objs.size) {s with heap:=h',toks:=tk}) :
  wpAny (model prog w) A (call (.type "dict") [.ref l]) Q E s:=by
 refine callType_codes (Q₁:=fun obj BZ=>obj=.ref s.heap.objs.size/\BZ = {s with heap:=s.heap.push {cls:=.type "dict",data:=.dict #[]}}) F.kt_called_dict (F.kt_typeCall_dict_1 _) F.entry_dict_init (kt_code_dict_new _ ⟨rfl,rfl⟩) ?_
 rintro obj BZ ⟨rfl,rfl⟩
 have ID:(s.heap.push {cls:=.type "dict",data:=.dict #[]}).DictOf knd s.heap.objs.size []:=Heap.DictOf.new s.heap
 have JC:(s.heap.push {cls:=.type "dict",data:=.dict #[]}).get? l=some {cls:=.type "list",dict:=none,data:=.seq its lm,slots:=OA}:=Heap.get?_push_of_some _ hl
 have OC:l < s.heap.objs.size:=Heap.lt_size hl
 refine⟨ID.typeIs,F.args_dict_init_2 _ _,?_⟩
 unfold Builtin.«dict.__init__»
 refine wpAny_bind ?_
 unfold Builtin.Dict.selfAndRest
 refine wpAny_bind (wpAny_notOrdered_dict ID.typeIs ?_)
 show wpAny _ _ (pure (s.heap.objs.size,[Value.ref l])) _ _ _
 refine wpAny_pure ?_
 show wpAny _ _ (Builtin.Dict.updateFrom "dict.__init__" s.heap.objs.size (.ref l) [] .none) _ _ _
 unfold Builtin.Dict.updateFrom
 have Q1:Shared.TypeIs {s with heap:=s.heap.push {cls:=.type "dict",data:=.dict #[]}} (.ref l) "list":=⟨_,JC,rfl⟩
 refine wpAny_bind (wpAny_typeOf Q1 ?_)
 rw[if_pos (by decide)]
 refine wpAny_bind (l0 JC rfl rfl rfl (by simp[hh]) fun h1 TK HF=>?_)
 simp only[Option.isNone_none,if_true]
 have Gj:h1.IsList l its:=⟨_,HF _ _ JC,rfl,lm,rfl⟩
 have sz:s.heap.objs.size < h1.objs.size:=Heap.lt_size (HF _ _ (Heap.get?_push_size _ rfl))
 refine wpAny_bind (wpAny_rule ?_)
 refine wpAny_bind (wpAny_pyIter_list Gj (wpAny_pure ⟨plainId_quiet cz _,?_⟩))
 have nI:l≠h1.objs.size:=Nat.ne_of_lt (Nat.lt_trans OC sz)
 have HG:∀ b o,s.heap.get? b=some o->h1.get? b=some o:=fun b o e=>HF b o (Heap.get?_push_of_some _ e)
 refine loop (A:=A.in1) (n:=its.size) (bs:=bs) (kvs:=kvs) ((Walks.list (show A.in1.in1.handled=none by simp[hh]) h1.objs.size l nI its).toS) s.heap.objs.size (fun z=>?_) hi hlen hb (fun b hb=>⟨Nat.ne_of_lt (OB b hb),fun z=>?_⟩) (its.size - 0) 0 _ (by omega) (Nat.zero_le _) ⟨⟨_,Heap.get?_push_size _ rfl,rfl,rfl⟩,Gj.push _⟩ ?_ (fun j b p e1 e2=>(hT j b p e1 e2).keep fun o e=>Heap.get?_push_of_some _ (HG b o e)) fun s' hm hD=>?_
 ·rcases List.mem_cons.mp z with z|z
  ·exact Nat.ne_of_lt sz z
  ·exact Nat.ne_of_gt OC (List.mem_singleton.mp z)
 ·exact Nat.ne_of_lt (Nat.lt_trans (OB b hb) sz) (List.mem_singleton.mp z)
 ·obtain⟨o,es,ep,ho,r⟩:=ID
  exact⟨o,es,ep,Heap.get?_push_of_some _ (HF _ _ ho),r⟩
 ·obtain⟨h',g',d',JD,J'⟩:=s'
  have eg:g'=s.gens:=hm.gens
  have ed:d'=s.drawn:=hm.drawn
  have eo:J'=s.os:=hm.os
  subst eg ed eo
  refine⟨rfl,h h' JD hD fun b o hb e=>?_⟩
  refine hm.heap b o (fun z=>?_) (Heap.get?_push_of_some _ (HG b o e))
  rcases List.mem_cons.mp z with z|z
  ·exact Nat.ne_of_lt hb z
  ·exact Nat.ne_of_lt (Nat.lt_trans hb sz) (List.mem_singleton.mp z)
end
end L2.Dp
namespace L2
open PySem PySem.Spec PyProof.Rows
inductive D0 (K:PySem.W.Frag)(H:Hp):List Addr->List (Key×V)->Prop where
 | nil:D0 K H [] []
 | cons {a:Addr}{k:Key}{v:V}{as:List Addr}{kvs:List (Key×V)}:De K H a [kV k,v]->D0 K H as kvs->D0 K H (a::as) ((k,v)::kvs)
section
variable {X:Cx}
theorem nt {pins:List (Addr×Obj)}{σ:St}{H:Hp}{s:Shared}(I:Inv X pins σ H s):∀ {as:List Addr}{kvs:List (Key×V)},D0 X.K H as kvs->∃ rs:List (Key×Value),KV kvs rs/\rs.length=as.length/\(∀ b∈as,b < s.heap.objs.size)/\
  ∀ (j:Nat) (b:Addr) (p:Key×Value),as[j]? = some b->rs[j]? = some p->Dp.Dg (aF X.prog X.w) s.heap b p
 | _,_,.nil=>⟨[],.nil,rfl,(fun b h=>by cases h),fun j b p h=>by cases h⟩
 | _,_,.cons (a:=a) (k:=k) (v:=v) h1 h2=>by
  obtain⟨rs,r1,r2,r3,r4⟩:=nt I h2
  obtain⟨its,rv,tp,_⟩:=I.tuple h1
  obtain⟨o,ho,hc,m,hd⟩:=tp
  obtain⟨u1,u2,rfl,Ks,MJ⟩:∃ u1 u2,its=[u1,u2]/\RelV (kV k) u1/\RelV v u2:=by
   cases rv with
   | cons a1 rv=>
    cases rv with
    | cons a2 rv=>cases rv;exact⟨_,_,rfl,a1,a2⟩
  refine⟨(k,u2)::rs,.cons ⟨rfl,MJ⟩ r1,by rw[List.length_cons,List.length_cons,r2],fun b hb=>?_,fun j b p e1 e2=>?_⟩
  ·rcases List.mem_cons.mp hb with rfl|hb
   ·exact Heap.lt_size ho
   ·exact r3 b hb
  ·cases j with
   | zero=>
    cases e1
    cases e2
    obtain⟨c,BU,dat,sl⟩:=o
    simp only at hc hd
    subst hc hd
    exact⟨u1,BU,m,sl,ho,eK Ks⟩
   | succ j=>exact r4 j b p e1 e2
theorem fK:∀ {as:List Addr}{us:List Value},Vals (as.map V.ref) us->us=as.map Value.ref
 | [],_,.nil=>rfl
 | a::as,_,.cons r rs=>by
  rw[fK rs]
  obtain rfl:_=Value.ref a:=r
  rfl
theorem ji (hc:X.calm=true):bW X (.type "dict") (fun xs H Q=>∃ (p:Addr) (as:List Addr) (kvs:List (Key×V)),xs=[.ref p]/\Dd X.K H p (as.map V.ref)/\D0 X.K H as kvs/\∀ a,H a=none->Q (.ref a) (upd H a (.dK (bL [] kvs)))):=by
 intro pins s σ H xs us Q I r h
 obtain⟨p,as,kvs,rfl,hq,hp,q⟩:=h
 obtain⟨u,rfl,rx⟩:=r.one
 cases rx
 obtain⟨its,rv,pl,hz⟩:=I.list hq
 obtain⟨o,m,ho,Kv,OD,OE⟩:=pl
 have e:=fK rv
 subst e
 obtain⟨rs,r1,r2,r3,r4⟩:=nt I hp
 obtain⟨c,BU,dat,sl⟩:=o
 simp only at Kv OD OE
 subst Kv OD OE
 rw[List.length_map] at hz
 have hl:=bU kvs []
 have TL:=r1.length
 rw[List.length_nil] at hl
 refine Dp.Fz (knd:=aF X.prog X.w) (bs:=as) (kvs:=rs) (I.ok.hd hc) ho (fun i v hv=>?_) (by rw[List.size_toArray,List.length_map];exact r2) (by rw[List.size_toArray,List.length_map];exact hz) r4 r3 fun h' tk hD hk=>?_
 ·have hv:(as.map Value.ref)[i]? = some v:=by simpa using hv
  rw[List.getElem?_map] at hv
  obtain⟨b,hb,rfl⟩:=Option.map_eq_some_iff.mp hv
  exact⟨b,rfl,hb⟩
 ·exact⟨.ref _,_,I.laid (a:=s.heap.objs.size) (o:=.dK (bL [] kvs)) (t':=tk) (fun b u e=>hk b u (Heap.lt_size e) e) (Nat.le_refl _) (jg (by omega) (beq_eq_false_iff_ne.mpr (Ne.symm (Nat.ne_of_lt I.big))) (KV.merge r1 .nil) hD),rfl,q _ (I.BY.fresh (Nat.le_refl _))⟩
theorem dZ:∀ ns:List Int,preSum (fun i=>ns.getD i 0) ns.length=ns.sum
 | []=>rfl
 | n::ns=>by
  rw[List.length_cons,PySem.W.kdu_shift,List.sum_cons,<- dZ ns]
  rfl
theorem nu {pins:List (Addr×Obj)}{σ:St}{H:Hp}{s:Shared}{A:Around}{E:Value->Shared->Prop}{a:Addr}{kvs:List (Key×V)}{Q:Value->Shared->Prop}(I:Inv X pins σ H s)(e:Rd H a (.dK kvs))
  (h:∀ v s',Inv X pins σ H s'->s'.heap.IsValuesView v a->Q (.ref v) s'):wpAny (model X.prog X.w) A (call (.builtin "dict.values") [.ref a]) Q E s:=by
 obtain⟨z,hd,vs,rel,dd⟩:=c5 I.BY e
 refine call_meetsIn F.slot_dict_values dd.typeIs F.entry_dict_values (F.args_dict_values_1 _) (meets_dict_values (aF X.prog X.w) a hd) ⟨⟨_,dd⟩,?_⟩
 exact h _ _ (I.kept (t':=s.toks) fun b o q=>Heap.get?_push_of_some _ q) ⟨_,Heap.get?_push_size _ rfl,rfl,rfl⟩
theorem yq {pins:List (Addr×Obj)}{σ:St}{H:Hp}{s:Shared}{A:Around}{E:Value->Shared->Prop}{a v:Addr}{kvs:List (Key×V)}{ns:List Int}{Q:Value->Shared->Prop}(hh:A.handled=none)(I:Inv X pins σ H s)(e:Rd H a (.dK kvs))(en:kvs.map (·.2)=ns.map V.int)(hv:s.heap.IsValuesView v a)
  (h:∀ t s',Inv X pins σ H s'->Q (.int ns.sum t) s'):wpAny (model X.prog X.w) A (call (.builtin "sum") [.ref v]) Q E s:=by
 obtain⟨z,hd,vs,rel,dd⟩:=c5 I.BY e
 obtain⟨ep,IE⟩:=dd.dictAt
 have hlen:vs.length=ns.length:=by
  rw[<- rel.length,<- List.length_map (f:=V.int),<- en,List.length_map]
 refine call_sum_walkG (wpAny_pyIter_values (kvs:=vs) (ep:=ep) hv IE ?_)
 refine⟨s.heap.objs.size,_,_,vs.length,_,_,fun i=>ns.getD i 0,rfl,Walks.dictValues (knd:=aF X.prog X.w) (show A.in1.handled=none by simp[hh]) s.heap.objs.size a (Nat.ne_of_lt IE.lt_size) vs ep,⟨⟨_,Heap.get?_push_size _ rfl,rfl,rfl⟩,IE.push _⟩,fun b hb=>?_,fun i u hu=>?_,fun h' tk t' hk=>?_⟩
 ·show b < (s.heap.push _).objs.size
  rw[Heap.size_push]
  rcases List.mem_cons.mp hb with e|hb
  ·rw[e];exact Nat.lt_succ_self _
  ·rw[List.mem_singleton.mp hb];exact Nat.lt_succ_of_lt IE.lt_size
 ·obtain⟨k,hx⟩:=hu
  have:∀ {kvs:List (Key×V)}{vs:List (Key×Value)}{ns:List Int}{i:Nat},KV kvs vs->kvs.map (·.2)=ns.map V.int->vs[i]? = some (k,u)->∃ t,u=.int (ns.getD i 0) t:=by
   intro kvs vs ns i r
   unfold KV at r
   induction r generalizing ns i with
   | nil=>intro _ h;simp at h
   | @cons p q ps qs h t ih=>
    intro en hx
    cases ns with
    | nil=>cases en
    | cons n ns=>
     rw[List.map_cons,List.map_cons,List.cons.injEq] at en
     cases i with
     | zero=>
      rw[List.getElem?_cons_zero] at hx
      cases hx
      have h2:=h.2
      rw[en.1] at h2
      obtain⟨t,h2⟩:=h2
      exact⟨t,h2⟩
     | succ i=>
      have hx:qs[i]? = some (k,u):=hx
      exact ih (ns:=ns) (i:=i) en.2 hx
  exact this rel en hx
 ·rw[hlen,dZ]
  exact h t' _ (I.kept (t':=tk) fun b o q=>hk b o (fun z=>by
   have:=List.mem_singleton.mp z
   exact Nat.ne_of_lt (Heap.lt_size q) this) (Heap.get?_push_of_some _ q))
theorem rB {o:Expr}{p pos apos BQ:Pos}{td:TE}(hc:X.calm=true)(g1:Gl X "sum") (m1:X.mg "sum" = none) (ho:PE X o td) (Dm:attributeBase o "values" X.env (eval o X.env)=eval o X.env) (EC:(apos.endLine == BQ.line)=true) :
  PE X (.Call (.Name "sum" p) [.Call (.Attribute o "values" apos) [] [] BQ] [] pos) (fun σ H Q=>td σ H fun x H1=>∃ (a:Addr) (kvs:List (Key×V)) (ns:List Int),x=.ref a/\Rd H1 a (.dK kvs)/\kvs.map (·.2)=ns.map V.int/\Q (.int ns.sum) H1):=by
 intro pins s σ H Q I h
 refine wpAny_Call_Name_kw (cL (u:=.builtin "sum") I g1 m1 (by decide +kernel) ?_ (by decide) (by decide))
 refine PyProof.Rows.callWith_builtin1 ?_ rfl rfl
 show wpAny _ _ (spliced ((false,eval (.Call (.Attribute o "values" apos) [] [] BQ) X.env)::backTo pos (starEach [] X.env))) _ _ s
 have key:wpAny (model X.prog X.w) X.A (eval (.Call (.Attribute o "values" apos) [] [] BQ) X.env) (fun u s1=>∃ (a v:Addr) (kvs:List (Key×V)) (ns:List Int) (H1:Hp),u=.ref v/\Inv X pins σ H1 s1/\Rd H1 a (.dK kvs)/\kvs.map (·.2)=ns.map V.int/\s1.heap.IsValuesView v a/\Q (.int ns.sum) H1) X.xe s:=by
  refine wpAny_Call_method0_late Dm EC (B7 (ho pins s σ H _ I h) fun u s1 ⟨x,H1,I1,r1,a,kvs,ns,ex,rd,en,q1⟩=>?_)
  subst ex
  obtain rfl:u=Value.ref a:=r1
  obtain⟨t1,t2,_⟩:=jh I1 (.inl ⟨kvs,rd⟩)
  exact⟨"dict","dict.values",PySem.F.plainAttrs_dict,PySem.F.slot_dict_values,PySem.F.type_dict_values,t1,t2,Calls.callWith_builtin rfl (PySem.evalArgs_none (nu I1 rd fun v s2 I2 hv=>⟨a,v,kvs,ns,H1,rfl,I2,rd,en,hv,q1⟩))⟩
 refine Calls.spliced_cons (B7 key fun u s1 ⟨a,v,kvs,ns,H1,eu,I1,rd,en,hv,q1⟩=>?_)
 subst eu
 refine Calls.spliced_nil ?_
 exact yq (I1.ok.hd hc) I1 rd en hv fun t s2 I2=>⟨.int _,H1,I2,⟨_,rfl⟩,q1⟩
theorem rC {o e:Expr}{apos BQ:Pos}{td te:TE}(ho:PE X o td)(he:PE X e te)(Dm:attributeBase o "update" X.env (eval o X.env)=eval o X.env) (EC:(apos.endLine == BQ.line)=true) (Cb:starEach [e] X.env=[(false,eval e X.env)]) :
  PE X (.Call (.Attribute o "update" apos) [e] [] BQ) (fun σ H Q=>td σ H fun x H1=>∃ a,x=.ref a/\MG H1 a/\te σ H1 fun y H2=>jQ x [y] H2 Q):=by
 intro pins s σ H Q I h
 have JE:backTo BQ (starEach [e] X.env)=[(false,eval e X.env)]:=by rw[Cb];rfl
 refine wpAny_Call_method1_late Dm EC JE (B7 (ho pins s σ H _ I h) fun u s1 ⟨x,H1,I1,r1,a,ex,d,q1⟩=>?_)
 subst ex
 obtain rfl:u=Value.ref a:=r1
 obtain⟨t1,t2,_⟩:=jh I1 d
 refine⟨"dict","dict.update",PySem.F.plainAttrs_dict,PySem.F.slot_dict_update,PySem.F.type_dict_update,t1,t2,?_⟩
 refine Calls.callWith_builtin rfl (Calls.evalArgs_plain (Calls.spliced_cons (B7 (he pins s1 σ H1 _ I1 q1) fun fv s2 ⟨y,H2,I2,ry,q2⟩=>Calls.spliced_nil ?_)))
 exact lY pins s2 σ H2 (.ref a) [y] (.ref a) [fv] Q I2 rfl (.cons ry .nil) q2
end
inductive D where
 | B5|bl (b:Bool)|int (i:Int)|str (x:Str)|tup (ds:List D)|lst (own:Bool) (ds:List D)|exc (c:Str)|BU (own:Bool) (ks:List Key) (ds:List D)
 deriving Inhabited
mutual
noncomputable def er:D->D
 | .tup ds=>.tup (BV ds)
 | .lst _ ds=>.lst false (BV ds)
 | .BU _ ks ds=>.BU false ks (BV ds)
 | .B5=>.B5
 | .bl b=>.bl b
 | .int i=>.int i
 | .str x=>.str x
 | .exc c=>.exc c
noncomputable def BV:List D->List D
 | []=>[]
 | d::ds=>er d::BV ds
end
mutual
noncomputable def aw:D->Bool
 | .tup ds=>aq ds
 | .lst _ _=>false
 | .BU _ _ _=>false
 | .B5=>true
 | .bl _=>true
 | .int _=>true
 | .str _=>true
 | .exc _=>true
noncomputable def aq:List D->Bool
 | []=>true
 | d::ds=>aw d&&aq ds
end
theorem bP:∀ ds:List D,BV ds=ds.map er
 | []=>rfl
 | d::ds=>by rw[BV,bP ds];rfl
theorem a8:∀ ds:List D,aq ds=ds.all aw
 | []=>rfl
 | d::ds=>by rw[aq,a8 ds];rfl
theorem bo (ds:List D):(BV ds).length=ds.length:=by rw[bP,List.length_map]
mutual
theorem nv:∀ {d:D},aw d=true->er d=d
 | .B5,_=>rfl
 | .bl _,_=>rfl
 | .int _,_=>rfl
 | .str _,_=>rfl
 | .exc _,_=>rfl
 | .tup ds,h=>by rw[er,bp (ds:=ds) h]
 | .lst o ds,h=>by cases (show false=true from h)
 | .BU o ks ds,h=>by cases (show false=true from h)
theorem bp:∀ {ds:List D},aq ds=true->BV ds=ds
 | [],_=>rfl
 | d::ds,h=>by
  have h':(aw d&&aq ds)=true:=h
  rw[Bool.and_eq_true] at h'
  rw[BV,nv h'.1,bp h'.2]
end
inductive Exc where
 | stuck|exc (c:Str)
noncomputable abbrev Res (α:Type):=Except Exc α
noncomputable abbrev BR {α:Type}:Res α:=.error .stuck
noncomputable def U {α β:Type}(x:Res α)(f:α->Res β):Res β:=match x with
 | .ok a=>f a
 | .error e=>.error e
noncomputable def BN {α:Type}(c:Bool)(x:Res α):Res α:=if c=true then x else BR
def BK {α:Type}(ex:Str->Prop)(x:Res α)(k:α->Prop):Prop:=match x with
 | .ok a=>k a
 | .error (.exc c)=>ex c
 | .error .stuck=>False
theorem BK.U {α β:Type}{ex:Str->Prop}{x:Res α}{f:α->Res β}{k:β->Prop}(h:BK ex (U x f) k):BK ex x fun a=>BK ex (f a) k:=by
 cases x with
 | ok a=>exact h
 | error e=>cases e<;>exact h
theorem BK.BN {α:Type}{ex:Str->Prop}{c:Bool}{x:Res α}{k:α->Prop}(h:BK ex (BN c x) k):c=true/\BK ex x k:=by
 unfold L2.BN at h
 cases c with
 | true=>exact⟨rfl,h⟩
 | false=>exact False.elim h
theorem BK.mono {α:Type}{ex:Str->Prop}{x:Res α}{k k':α->Prop}(h:BK ex x k)(m:∀ a,k a->k' a):BK ex x k':=by
 cases x with
 | ok a=>exact m a h
 | error e=>cases e<;>exact h
theorem BK.mk {α β:Type}{ex:Str->Prop}{x:Res α}{f:α->Res β}{k:β->Prop}(h:BK ex x fun a=>BK ex (f a) k):BK ex (L2.U x f) k:=by
 cases x with
 | ok a=>exact h
 | error e=>cases e<;>exact h
theorem BK.eq {α:Type}{ex:Str->Prop}{x:Res α}{k:α->Prop}(h:BK ex x k):BK ex x fun a=>x=.ok a/\k a:=by
 cases x with
 | ok a=>exact⟨rfl,h⟩
 | error e=>cases e<;>exact h
theorem BK.ok {α:Type}{ex:Str->Prop}{a:α}{k:α->Prop}(h:BK ex (.ok a:Res α) k):k a:=h
theorem BK.no {α:Type}{ex:Str->Prop}{k:α->Prop}(h:BK ex (BR:Res α) k):False:=h
inductive LD where
 | l (xs:List V)|d (kvs:List (Key×V))
noncomputable abbrev LD.o:LD->HO
 | .l xs=>.lst xs
 | .d kvs=>.dK kvs
theorem KL.sq {K:PySem.W.Frag}{H:Hp}{a:Addr}{xs:List V}(h:KL K a xs):Dd K H a xs:=by
 obtain⟨its,n,h1,h2,h3⟩:=h
 exact .inr ⟨_,its.toArray,n,h1,rfl,rfl,rfl,by simpa using h2,by simpa using h3⟩
theorem Inv.ls {X:Cx}{pins:List (Addr×Obj)}{σ:St}{H:Hp}{s:Shared}{a:Addr}{xs:List V}(I:Inv X pins σ H s)(h:Ls X.K H a xs) :
  xs.length<=sizeLine/\∃ (its:List Value) (n:Nat),Vals xs its/\s.heap.get? a=some {cls:=.type "list",data:=.seq its.toArray n}:=by
 rcases h with h|⟨its,n,h1,h2,h3⟩
 ·obtain⟨z,its,n,r,e⟩:=h.ok I.BY
  exact⟨z,its,n,r,e⟩
 ·exact⟨by rw[h3.length];exact h2,its,n,h3,I.Eo _ _ h1⟩
noncomputable def nameIn (K:PySem.W.Frag)(C:Addr):Option Str:=match K.lookup C with
 | some ⟨_,_,.cls cd,_⟩=>some cd.name
 | _=>none
noncomputable def XU:HO:=.ext fun _=>True
def XO (K:PySem.W.Frag)(H:Hp)(a:Addr)(c:Str):Prop:=∃ (C:Addr) (o:Obj) (vs:Array Value),PySem.W.nsIn K mainGlobals c=some (some (.ref C))/\nameIn K C=some c/\H a=some (.B6 o XU)/\o.cls=.ref C/\o.data=.fields vs
noncomputable def CA (K:PySem.W.Frag)(H:Hp)(a:Addr):List V ⊕ Str->Prop
 | .inl xs=>De K H a xs
 | .inr c=>XO K H a c
mutual
inductive BL (K:PySem.W.Frag)(S:Addr->Prop)(H:Hp):V->D->Prop where
 | B5:BL K S H .B5 .B5
 | bl (b:Bool):BL K S H (.bl b) (.bl b)
 | int (i:Int):BL K S H (.int i) (.int i)
 | str (x:Str):BL K S H (.str x) (.str x)
 | exc {a:Addr}{c:Str}:CA K H a (.inr c)->BL K S H (.ref a) (.exc c)
 | tup {a:Addr}{xs:List V}{ds:List D}:De K H a xs->BJ K S H xs ds->BL K S H (.ref a) (.tup ds)
 | lst {a:Addr}{xs:List V}{o:Bool}{ds:List D}:S a->Rd H a (.lst xs)->BJ K S H xs ds->BL K S H (.ref a) (.lst o ds)
 | lstK {a:Addr}{xs:List V}{o:Bool}{ds:List D}:KL K a xs->BJ K S H xs ds->BL K S H (.ref a) (.lst o ds)
 | BU {a:Addr}{kvs:List (Key×V)}{o:Bool}{ks:List Key}{ds:List D}:S a->Rd H a (.dK kvs)->kvs.map (·.1)=ks->BJ K S H (kvs.map (·.2)) ds->BL K S H (.ref a) (.BU o ks ds)
inductive BJ (K:PySem.W.Frag)(S:Addr->Prop)(H:Hp):List V->List D->Prop where
 | nil:BJ K S H [] []
 | cons {v:V}{d:D}{vs:List V}{ds:List D}:BL K S H v d->BJ K S H vs ds->BJ K S H (v::vs) (d::ds)
end
mutual
inductive B3 (K:PySem.W.Frag)(F:Addr->Prop)(H:Hp):V->D->List Addr->Prop where
 | B5:B3 K F H .B5 .B5 []
 | bl (b:Bool):B3 K F H (.bl b) (.bl b) []
 | int (i:Int):B3 K F H (.int i) (.int i) []
 | str (x:Str):B3 K F H (.str x) (.str x) []
 | exc {a:Addr}{c:Str}:CA K H a (.inr c)->B3 K F H (.ref a) (.exc c) []
 | tup {a:Addr}{xs:List V}{ds:List D}{f:List Addr}:De K H a xs->BO K F H xs ds f->B3 K F H (.ref a) (.tup ds) f
 | FA {a:Addr}{xs:List V}{ds:List D}:F a->Rd H a (.lst xs)->BO K F H xs ds []->B3 K F H (.ref a) (.lst false ds) []
 | lstK {a:Addr}{xs:List V}{ds:List D}:KL K a xs->BO K F H xs ds []->B3 K F H (.ref a) (.lst false ds) []
 | DC {a:Addr}{xs:List V}{ds:List D}{f:List Addr}:¬ F a->H a=some (.lst xs)->BO K F H xs ds f->B3 K F H (.ref a) (.lst true ds) (a::f)
 | Gk {a:Addr}{kvs:List (Key×V)}{ks:List Key}{ds:List D}:F a->Rd H a (.dK kvs)->kvs.map (·.1)=ks->BO K F H (kvs.map (·.2)) ds []->B3 K F H (.ref a) (.BU false ks ds) []
 | Ec {a:Addr}{kvs:List (Key×V)}{ks:List Key}{ds:List D}{f:List Addr}:¬ F a->H a=some (.dK kvs)->kvs.map (·.1)=ks->BO K F H (kvs.map (·.2)) ds f->B3 K F H (.ref a) (.BU true ks ds) (a::f)
inductive BO (K:PySem.W.Frag)(F:Addr->Prop)(H:Hp):List V->List D->List Addr->Prop where
 | nil:BO K F H [] [] []
 | cons {v:V}{d:D}{f:List Addr}{vs:List V}{ds:List D}{g:List Addr}:B3 K F H v d f->BO K F H vs ds g->BO K F H (v::vs) (d::ds) (f++g)
end
theorem au.rd {H H':Hp}{a:Addr}{u:HO}(e:au H H')(h:Rd H a u):Rd H' a u:=by
 rcases h with h|⟨o,h⟩
 ·exact .inl (e _ _ h)
 ·exact .inr ⟨o,e _ _ h⟩
theorem au.Dq {K:PySem.W.Frag}{H H':Hp}{a:Addr}{xs:List V ⊕ Str}(e:au H H')(h:CA K H a xs):CA K H' a xs:=by
 cases xs with
 | inl xs=>
  rcases h with h|h
  ·exact .inl (e.rd h)
  ·exact .inr h
 | inr c=>
  obtain⟨C,o,vs,h0,h1,h2,h3⟩:=h
  exact⟨C,o,vs,h0,h1,e _ _ h2,h3⟩
theorem CA.upd {K:PySem.W.Frag}{H:Hp}{a l:Addr}{xs:List V ⊕ Str}{ys zs:List V}(hl:H l=some (.lst ys))(h:CA K H a xs):CA K (upd H l (.lst zs)) a xs:=by
 cases xs with
 | inl xs=>
  rcases h with h|h
  ·have:a≠l:=by
    rintro rfl
    rcases h with h|⟨o,h⟩<;>(rw[hl] at h;cases h)
   refine .inl ?_
   unfold Rd
   rw[ai this]
   exact h
  ·exact .inr h
 | inr c=>
  obtain⟨C,o,vs,h0,h1,h2,h3⟩:=h
  have:a≠l:=by
   rintro rfl
   rw[hl] at h2;cases h2
  exact⟨C,o,vs,h0,h1,by rw[ai this];exact h2,h3⟩
theorem Rd.some {H:Hp}{a:Addr}{u:HO}(h:Rd H a u):H a≠none:=by
 rcases h with h|⟨o,h⟩<;>(rw[h];simp)
section
variable {K:PySem.W.Frag}{S S' F F':Addr->Prop}{H H':Hp}
theorem BL.step (hl:∀ a (u:LD),S a->Rd H a u.o->S' a/\Rd H' a u.o)(ht:∀ a xs,CA K H a xs->CA K H' a xs){v:V}{d:D}(h:BL K S H v d):BL K S' H' v d:=
 BL.rec (motive_1:=fun v d _=>BL K S' H' v d) (motive_2:=fun v d _=>BJ K S' H' v d) .B5 .bl .int .str (fun h=>.exc (ht _ (.inr _) h)) (fun h1 _ i=>.tup (ht _ (.inl _) h1) i)
  (fun h0 h1 _ i=>.lst (hl _ (.l _) h0 h1).1 (hl _ (.l _) h0 h1).2 i) (fun h1 _ i=>.lstK h1 i) (fun h0 h1 h2 _ i=>.BU (hl _ (.d _) h0 h1).1 (hl _ (.d _) h0 h1).2 h2 i) .nil (fun _ _ i j=>.cons i j) h
theorem BJ.step (hl:∀ a (u:LD),S a->Rd H a u.o->S' a/\Rd H' a u.o)(ht:∀ a xs,CA K H a xs->CA K H' a xs){v:List V}{d:List D}(h:BJ K S H v d):BJ K S' H' v d:=
 BJ.rec (motive_1:=fun v d _=>BL K S' H' v d) (motive_2:=fun v d _=>BJ K S' H' v d) .B5 .bl .int .str (fun h=>.exc (ht _ (.inr _) h)) (fun h1 _ i=>.tup (ht _ (.inl _) h1) i)
  (fun h0 h1 _ i=>.lst (hl _ (.l _) h0 h1).1 (hl _ (.l _) h0 h1).2 i) (fun h1 _ i=>.lstK h1 i) (fun h0 h1 h2 _ i=>.BU (hl _ (.d _) h0 h1).1 (hl _ (.d _) h0 h1).2 h2 i) .nil (fun _ _ i j=>.cons i j) h
theorem BL.mono {v:V}{d:D}(h:BL K S H v d)(hS:∀ a,S a->S' a)(e:au H H'):BL K S' H' v d:=h.step (fun a xs s r=>⟨hS a s,e.rd r⟩) fun a xs s=>e.Dq s
theorem BJ.mono {v:List V}{d:List D}(h:BJ K S H v d)(hS:∀ a,S a->S' a)(e:au H H'):BJ K S' H' v d:=h.step (fun a xs s r=>⟨hS a s,e.rd r⟩) fun a xs s=>e.Dq s
theorem BJ.EG {v:List V}{d:List D}(h:BJ K S H v d):BJ K (fun a=>S a/\H a≠none) H v d:=h.step (fun a xs s r=>⟨⟨s,r.some⟩,r⟩) fun a xs s=>s
theorem BL.frozen {v:V}{d:D}(h:BL K F H v d):B3 K F H v (L2.er d) []:=
 BL.rec (motive_1:=fun v d _=>B3 K F H v (L2.er d) []) (motive_2:=fun v d _=>BO K F H v (L2.BV d) []) .B5 .bl .int .str (fun h=>.exc h) (fun h1 _ i=>.tup h1 i) (fun h0 h1 _ i=>.FA h0 h1 i) (fun h1 _ i=>.lstK h1 i) (fun h0 h1 h2 _ i=>.Gk h0 h1 h2 i) .nil (fun _ _ i j=>.cons (f:=[]) (g:=[]) i j) h
theorem BJ.frozen {v:List V}{d:List D}(h:BJ K F H v d):BO K F H v (L2.BV d) []:=
 BJ.rec (motive_1:=fun v d _=>B3 K F H v (L2.er d) []) (motive_2:=fun v d _=>BO K F H v (L2.BV d) []) .B5 .bl .int .str (fun h=>.exc h) (fun h1 _ i=>.tup h1 i) (fun h0 h1 _ i=>.FA h0 h1 i) (fun h1 _ i=>.lstK h1 i) (fun h0 h1 h2 _ i=>.Gk h0 h1 h2 i) .nil (fun _ _ i j=>.cons (f:=[]) (g:=[]) i j) h
theorem rD {a b:Bool}(h:(a&&b)=true):a=true/\b=true:=by rwa [Bool.and_eq_true] at h
theorem BL.free {v:V}{d:D}(n:aw d=true)(h:BL K S H v d):B3 K F H v d []:=
 BL.rec (motive_1:=fun v d _=>aw d=true->B3 K F H v d []) (motive_2:=fun v d _=>aq d=true->BO K F H v d []) (fun _=>.B5) (fun b _=>.bl b) (fun b _=>.int b) (fun b _=>.str b) (fun h _=>.exc h) (fun h1 _ i n=>.tup h1 (i n)) (fun _ _ _ _ n=>nomatch n) (fun _ _ _ n=>nomatch n) (fun _ _ _ _ _ n=>nomatch n) (fun _=>.nil) (fun _ _ i j n=>.cons (f:=[]) (g:=[]) (i (rD n).1) (j (rD n).2)) h n
theorem BJ.free {v:List V}{d:List D}(n:aq d=true)(h:BJ K S H v d):BO K F H v d []:=
 BJ.rec (motive_1:=fun v d _=>aw d=true->B3 K F H v d []) (motive_2:=fun v d _=>aq d=true->BO K F H v d []) (fun _=>.B5) (fun b _=>.bl b) (fun b _=>.int b) (fun b _=>.str b) (fun h _=>.exc h) (fun h1 _ i n=>.tup h1 (i n)) (fun _ _ _ _ n=>nomatch n) (fun _ _ _ n=>nomatch n) (fun _ _ _ _ _ n=>nomatch n) (fun _=>.nil) (fun _ _ i j n=>.cons (f:=[]) (g:=[]) (i (rD n).1) (j (rD n).2)) h n
theorem bq {p:Addr->Prop}:∀ a∈([]:List Addr),p a:=fun _ h=>nomatch h
theorem B3.read {v:V}{d:D}{f:List Addr}(hF:∀ a,F a->S a)(hf:∀ a∈f,S a)(h:B3 K F H v d f):BL K S H v d:=
 B3.rec (motive_1:=fun v d f _=>(∀ a∈f,S a)->BL K S H v d) (motive_2:=fun v d f _=>(∀ a∈f,S a)->BJ K S H v d) (fun _=>.B5) (fun b _=>.bl b) (fun b _=>.int b) (fun b _=>.str b) (fun h _=>.exc h) (fun h1 _ i hf=>.tup h1 (i hf))
  (fun h0 h1 _ i _=>.lst (hF _ h0) h1 (i bq)) (fun h1 _ i _=>.lstK h1 (i bq)) (fun _ h1 _ i hf=>.lst (hf _ (.head _)) (.inl h1) (i fun b hb=>hf b (.tail _ hb))) (fun h0 h1 h2 _ i _=>.BU (hF _ h0) h1 h2 (i bq)) (fun _ h1 h2 _ i hf=>.BU (hf _ (.head _)) (.inl h1) h2 (i fun b hb=>hf b (.tail _ hb))) (fun _=>.nil)
  (fun _ _ i j hf=>.cons (i fun a ha=>hf a (List.mem_append_left _ ha)) (j fun a ha=>hf a (List.mem_append_right _ ha))) h hf
theorem BO.read {v:List V}{d:List D}{f:List Addr}(hF:∀ a,F a->S a)(hf:∀ a∈f,S a)(h:BO K F H v d f):BJ K S H v d:=
 BO.rec (motive_1:=fun v d f _=>(∀ a∈f,S a)->BL K S H v d) (motive_2:=fun v d f _=>(∀ a∈f,S a)->BJ K S H v d) (fun _=>.B5) (fun b _=>.bl b) (fun b _=>.int b) (fun b _=>.str b) (fun h _=>.exc h) (fun h1 _ i hf=>.tup h1 (i hf))
  (fun h0 h1 _ i _=>.lst (hF _ h0) h1 (i bq)) (fun h1 _ i _=>.lstK h1 (i bq)) (fun _ h1 _ i hf=>.lst (hf _ (.head _)) (.inl h1) (i fun b hb=>hf b (.tail _ hb))) (fun h0 h1 h2 _ i _=>.BU (hF _ h0) h1 h2 (i bq)) (fun _ h1 h2 _ i hf=>.BU (hf _ (.head _)) (.inl h1) h2 (i fun b hb=>hf b (.tail _ hb))) (fun _=>.nil)
  (fun _ _ i j hf=>.cons (i fun a ha=>hf a (List.mem_append_left _ ha)) (j fun a ha=>hf a (List.mem_append_right _ ha))) h hf
theorem bQ {α:Type}{x:Option α}{y:α}(h:x=some y):x≠none:=fun e=>nomatch h.symm.trans e
theorem B3.step (hl:∀ a (u:LD),F a->Rd H a u.o->F' a/\Rd H' a u.o)(ht:∀ a xs,CA K H a xs->CA K H' a xs){v:V}{d:D}{f:List Addr}(k:∀ a∈f,¬ F a->H a≠none->¬ F' a/\H' a=H a)
  (h:B3 K F H v d f):B3 K F' H' v d f:=
 B3.rec (motive_1:=fun v d f _=>(∀ a∈f,¬ F a->H a≠none->¬ F' a/\H' a=H a)->B3 K F' H' v d f) (motive_2:=fun v d f _=>(∀ a∈f,¬ F a->H a≠none->¬ F' a/\H' a=H a)->BO K F' H' v d f) (fun _=>.B5) (fun b _=>.bl b) (fun b _=>.int b) (fun b _=>.str b)
  (fun h _=>.exc (ht _ (.inr _) h)) (fun h1 _ i k=>.tup (ht _ (.inl _) h1) (i k)) (fun h0 h1 _ i _=>.FA (hl _ (.l _) h0 h1).1 (hl _ (.l _) h0 h1).2 (i bq)) (fun h1 _ i _=>.lstK h1 (i bq))
  (fun h0 h1 _ i k=>.DC (k _ (.head _) h0 (bQ h1)).1 ((k _ (.head _) h0 (bQ h1)).2.trans h1) (i fun b hb=>k b (.tail _ hb))) (fun h0 h1 h2 _ i _=>.Gk (hl _ (.d _) h0 h1).1 (hl _ (.d _) h0 h1).2 h2 (i bq)) (fun h0 h1 h2 _ i k=>.Ec (k _ (.head _) h0 (bQ h1)).1 ((k _ (.head _) h0 (bQ h1)).2.trans h1) h2 (i fun b hb=>k b (.tail _ hb))) (fun _=>.nil)
  (fun _ _ i j k=>.cons (i fun a ha=>k a (List.mem_append_left _ ha)) (j fun a ha=>k a (List.mem_append_right _ ha))) h k
theorem BO.step (hl:∀ a (u:LD),F a->Rd H a u.o->F' a/\Rd H' a u.o)(ht:∀ a xs,CA K H a xs->CA K H' a xs){v:List V}{d:List D}{f:List Addr}(k:∀ a∈f,¬ F a->H a≠none->¬ F' a/\H' a=H a)
  (h:BO K F H v d f):BO K F' H' v d f:=
 BO.rec (motive_1:=fun v d f _=>(∀ a∈f,¬ F a->H a≠none->¬ F' a/\H' a=H a)->B3 K F' H' v d f) (motive_2:=fun v d f _=>(∀ a∈f,¬ F a->H a≠none->¬ F' a/\H' a=H a)->BO K F' H' v d f) (fun _=>.B5) (fun b _=>.bl b) (fun b _=>.int b) (fun b _=>.str b)
  (fun h _=>.exc (ht _ (.inr _) h)) (fun h1 _ i k=>.tup (ht _ (.inl _) h1) (i k)) (fun h0 h1 _ i _=>.FA (hl _ (.l _) h0 h1).1 (hl _ (.l _) h0 h1).2 (i bq)) (fun h1 _ i _=>.lstK h1 (i bq))
  (fun h0 h1 _ i k=>.DC (k _ (.head _) h0 (bQ h1)).1 ((k _ (.head _) h0 (bQ h1)).2.trans h1) (i fun b hb=>k b (.tail _ hb))) (fun h0 h1 h2 _ i _=>.Gk (hl _ (.d _) h0 h1).1 (hl _ (.d _) h0 h1).2 h2 (i bq)) (fun h0 h1 h2 _ i k=>.Ec (k _ (.head _) h0 (bQ h1)).1 ((k _ (.head _) h0 (bQ h1)).2.trans h1) h2 (i fun b hb=>k b (.tail _ hb))) (fun _=>.nil)
  (fun _ _ i j k=>.cons (i fun a ha=>k a (List.mem_append_left _ ha)) (j fun a ha=>k a (List.mem_append_right _ ha))) h k
theorem rE {p:Addr->Prop}{x:Addr}{f:List Addr}(h:p x)(i:∀ a∈f,p a):∀ a∈x::f,p a:=by
 intro b hb
 rcases List.mem_cons.mp hb with rfl|hb
 ·exact h
 ·exact i b hb
theorem yr {p:Addr->Prop}{f g:List Addr}(h:∀ a∈f,p a)(i:∀ a∈g,p a):∀ a∈f++g,p a:=fun b hb=>(List.mem_append.mp hb).elim (h b) (i b)
theorem B3.own {v:V}{d:D}{f:List Addr}(h:B3 K F H v d f):∀ a∈f,¬ F a/\∃ u,H a=some u:=
 B3.rec (motive_1:=fun _ _ f _=>∀ a∈f,¬ F a/\∃ u,H a=some u) (motive_2:=fun _ _ f _=>∀ a∈f,¬ F a/\∃ u,H a=some u) bq (fun _=>bq) (fun _=>bq) (fun _=>bq) (fun _=>bq) (fun _ _ i=>i) (fun _ _ _ _=>bq) (fun _ _ _=>bq)
  (fun h0 h1 _ i=>rE ⟨h0,_,h1⟩ i) (fun _ _ _ _ _=>bq) (fun h0 h1 _ _ i=>rE ⟨h0,_,h1⟩ i) bq (fun _ _ i j=>yr i j) h
theorem BO.own {v:List V}{d:List D}{f:List Addr}(h:BO K F H v d f):∀ a∈f,¬ F a/\∃ u,H a=some u:=
 BO.rec (motive_1:=fun _ _ f _=>∀ a∈f,¬ F a/\∃ u,H a=some u) (motive_2:=fun _ _ f _=>∀ a∈f,¬ F a/\∃ u,H a=some u) bq (fun _=>bq) (fun _=>bq) (fun _=>bq) (fun _=>bq) (fun _ _ i=>i) (fun _ _ _ _=>bq) (fun _ _ _=>bq)
  (fun h0 h1 _ i=>rE ⟨h0,_,h1⟩ i) (fun _ _ _ _ _=>bq) (fun h0 h1 _ _ i=>rE ⟨h0,_,h1⟩ i) bq (fun _ _ i j=>yr i j) h
theorem BJ.ind {P:List V->List D->Prop}(n:P [] [])(c:∀ v d vs ds,BL K S H v d->BJ K S H vs ds->P vs ds->P (v::vs) (d::ds)){vs:List V}{ds:List D}(h:BJ K S H vs ds):P vs ds:=
 BJ.rec (motive_1:=fun _ _ _=>True) (motive_2:=fun v d _=>P v d) trivial (fun _=>trivial) (fun _=>trivial) (fun _=>trivial) (fun _=>trivial) (fun _ _ _=>trivial) (fun _ _ _ _=>trivial) (fun _ _ _=>trivial) (fun _ _ _ _ _=>trivial) n (fun a b _ j=>c _ _ _ _ a b j) h
theorem BO.ind {P:List V->List D->List Addr->Prop}(n:P [] [] [])(c:∀ v d f vs ds g,B3 K F H v d f->BO K F H vs ds g->P vs ds g->P (v::vs) (d::ds) (f++g)){vs:List V}{ds:List D}{f:List Addr}(h:BO K F H vs ds f):P vs ds f:=
 BO.rec (motive_1:=fun _ _ _ _=>True) (motive_2:=fun v d f _=>P v d f) trivial (fun _=>trivial) (fun _=>trivial) (fun _=>trivial) (fun _=>trivial) (fun _ _ _=>trivial) (fun _ _ _ _=>trivial) (fun _ _ _=>trivial) (fun _ _ _ _=>trivial) (fun _ _ _ _ _=>trivial) (fun _ _ _ _ _=>trivial) n (fun a b _ j=>c _ _ _ _ _ _ a b j) h
theorem BJ.length {vs:List V}{ds:List D}(h:BJ K S H vs ds):vs.length=ds.length:=
 BJ.ind (P:=fun v d=>v.length=d.length) rfl (fun _ _ _ _ _ _ j=>congrArg (· + 1) j) h
theorem BJ.get {i:Nat}{vs:List V}{ds:List D}{d:D}(h:BJ K S H vs ds)(e:ds[i]? = some d):∃ v,vs[i]? = some v/\BL K S H v d:=
 BJ.ind (P:=fun vs ds=>∀ i d,ds[i]? = some d->∃ v,vs[i]? = some v/\BL K S H v d) (fun i d e=>nomatch (show none=some d from e)) (fun v d _ _ a _ j i d e=>by
  cases i with
  | zero=>exact⟨_,rfl,Option.some.inj e ▸ a⟩
  | succ i=>exact j i d e) h i d e
theorem BJ.IF {i:Nat}{vs:List V}{ds:List D}{v:V}(h:BJ K S H vs ds)(e:vs[i]? = some v):∃ d,ds[i]? = some d/\BL K S H v d:=
 BJ.ind (P:=fun vs ds=>∀ i v,vs[i]? = some v->∃ d,ds[i]? = some d/\BL K S H v d) (fun i d e=>nomatch (show none=some d from e)) (fun v d _ _ a _ j i d e=>by
  cases i with
  | zero=>exact⟨_,rfl,Option.some.inj e ▸ a⟩
  | succ i=>exact j i d e) h i v e
theorem BJ.append {vs ws:List V}{ds es:List D}(h:BJ K S H vs ds)(h':BJ K S H ws es):BJ K S H (vs++ws) (ds++es):=
 BJ.ind (P:=fun v d=>BJ K S H (v++ws) (d++es)) h' (fun _ _ _ _ a _ j=>.cons a j) h
theorem BJ.take {vs:List V}{ds:List D}(n:Nat)(h:BJ K S H vs ds):BJ K S H (vs.take n) (ds.take n):=
 BJ.ind (P:=fun v d=>∀ n,BJ K S H (v.take n) (d.take n)) (fun n=>by cases n<;>exact .nil) (fun _ _ _ _ a _ j n=>by
  cases n with
  | zero=>exact .nil
  | succ n=>exact .cons a (j n)) h n
theorem BJ.drop {vs:List V}{ds:List D}(n:Nat)(h:BJ K S H vs ds):BJ K S H (vs.drop n) (ds.drop n):=
 BJ.ind (P:=fun v d=>∀ n,BJ K S H (v.drop n) (d.drop n)) (fun n=>by cases n<;>exact .nil) (fun _ _ _ _ a b j n=>by
  cases n with
  | zero=>exact .cons a b
  | succ n=>exact j n) h n
theorem BO.length {vs:List V}{ds:List D}{f:List Addr}(h:BO K F H vs ds f):vs.length=ds.length:=
 BO.ind (P:=fun v d _=>v.length=d.length) rfl (fun _ _ _ _ _ _ _ _ j=>congrArg (· + 1) j) h
theorem BO.append {vs ws:List V}{ds es:List D}{f g:List Addr}(h:BO K F H vs ds f)(h':BO K F H ws es g):BO K F H (vs++ws) (ds++es) (f++g):=
 BO.ind (P:=fun v d f=>BO K F H (v++ws) (d++es) (f++g)) h' (fun _ _ _ _ _ _ a _ j=>by
  rw[List.append_assoc]
  exact .cons a j) h
theorem BL.CH {v:V}{o:Bool}{ds:List D}(h:BL K S H v (.lst o ds)):∃ a xs,v=.ref a/\Dd K H a xs/\BJ K S H xs ds:=by
 cases h with
 | lst h0 h1 h2=>exact⟨_,_,rfl,.inl h1,h2⟩
 | lstK h1 h2=>exact⟨_,_,rfl,h1.sq,h2⟩
theorem BL.Ha {v:V}{o:Bool}{ds:List D}(h:BL K S H v (.lst o ds)):∃ a xs,v=.ref a/\Ls K H a xs/\BJ K S H xs ds:=by
 cases h with
 | lst h0 h1 h2=>exact⟨_,_,rfl,.inl h1,h2⟩
 | lstK h1 h2=>exact⟨_,_,rfl,.inr h1,h2⟩
theorem BL.CZ {v:V}{ds:List D}(h:BL K S H v (.tup ds)):∃ a xs,v=.ref a/\De K H a xs/\BJ K S H xs ds:=by
 cases h with
 | tup h1 h2=>exact⟨_,_,rfl,h1,h2⟩
theorem BL.Ca {v:V}{i:Int}(h:BL K S H v (.int i)):v=.int i:=by cases h;rfl
theorem BL.HH {v:V}{i:Bool}(h:BL K S H v (.bl i)):v=.bl i:=by cases h;rfl
theorem BL.Cr {v:V}{i:Str}(h:BL K S H v (.str i)):v=.str i:=by cases h;rfl
theorem BL.Ed {v:V}(h:BL K S H v .B5):v=.B5:=by cases h;rfl
theorem BJ.ints {vs:List V}{ns:List Int}(h:BJ K S H vs (ns.map .int)):vs=ns.map .int:=
 BJ.ind (P:=fun v d=>∀ ns:List Int,d=ns.map .int->v=ns.map .int) (fun ns e=>by
  cases ns with
  | nil=>rfl
  | cons n ns=>exact nomatch e) (fun _ _ _ _ a _ j ns e=>by
  cases ns with
  | nil=>exact nomatch e
  | cons n ns=>
   obtain⟨h1,h2⟩:=List.cons.inj e
   subst h1
   rw[j ns h2,a.Ca]
   rfl) h ns rfl
theorem BJ.strs {vs:List V}{ns:List Str}(h:BJ K S H vs (ns.map .str)):vs=ns.map .str:=
 BJ.ind (P:=fun v d=>∀ ns:List Str,d=ns.map .str->v=ns.map .str) (fun ns e=>by
  cases ns with
  | nil=>rfl
  | cons n ns=>exact nomatch e) (fun _ _ _ _ a _ j ns e=>by
  cases ns with
  | nil=>exact nomatch e
  | cons n ns=>
   obtain⟨h1,h2⟩:=List.cons.inj e
   subst h1
   rw[j ns h2,a.Cr]
   rfl) h ns rfl
theorem BJ.ofInts:∀ (ns:List Int),BJ K S H (ns.map .int) (ns.map .int)
 | []=>.nil
 | n::ns=>.cons (.int n) (BJ.ofInts ns)
end
theorem au.upd {H:Hp}{a:Addr}{o:HO}(h:H a=none):au H (upd H a o):=fun b u e=>by
 rw[ai (az e h)]
 exact e
inductive Gn where
 | add|sub|mul|fdiv|mod|pow
 deriving DecidableEq
inductive FC where
 | eq|ne|lt|le|gt|ge|LH|HJ|IG|OF
 deriving DecidableEq
inductive Kd where
 | str|int|bool|list|tuple
 deriving DecidableEq
inductive Bi where
 | len|sum|min2|max2|Hb|sorted|list|tuple|ord|int|all|any|str|set|abs
 deriving DecidableEq
inductive Mt where
 | join|index|starts
 deriving DecidableEq
inductive Tg where
 | nm (i:Nat)|tp (ts:List Tg)
structure Gm where
 N:List Str
 kd:List NameKind
 gl:List Nat
 df:Bool
 cm:Bool:=true
 rs:Bool:=true
 tr:Bool:=false
 io:Option Nat:=none
mutual
inductive IR where
 | c (d:D)
 | g (n:Nat) (d:D)
 | v (i:Nat)
 | bin (op:Gn) (a b:IR)
 | neg (a:IR)
 | cmp (op:FC) (a b:IR)
 | chain (op LI:FC) (a b c:IR)
 | EH (a b:IR)
 | EI (a b:IR)
 | FD (a:IR)
 | ite (t a b:IR)
 | tup (es:List IR)
 | lst (es:List IR)
 | idx (a i:IR)
 | sl (a:IR) (lo hi:Option IR)
 | call (f:Nat) (es:List IR)
 | bi (f:Bi) (es:List IR)
 | Dh
 | Cj (a k:IR)
 | FP (n:Bool) (k a:IR)
 | LJ (a:IR) (k:Kd)
 | Ew (a:IR) (ns:List Nat) (tb:List (Str×Bool))
 | Hd (a:IR)
 | sset (a:IR)
 | Ea (a:IR)
 | EJ (a:IR)
 | Dr (a k e:IR)
 | FQ (x:Str) (a:IR) (y:Option Str)
 | Gp (m:Mt) (o:IR) (es:List IR)
 | comp (G:Gm) (fr:List Nat) (tg:Tg) (src:Sr) (ifs:List IR) (elt:IR)
inductive Sr where
 | CM (n:IR)|DW (a b:IR)|val (e:IR)|zip (a b:IR)
end
inductive IS where
 | asg (tg:Tg) (e:IR)
 | par (i j:Nat) (a b:IR)
 | HK (i:Nat) (k e:IR)
 | app (i:Nat) (e:IR)
 | Ky (i:Nat) (k:Nat) (e:IR)
 | CQ (i:Nat) (k e:IR)
 | ext (i:Nat) (e:IR)
 | ins (i:Nat) (k e:IR)
 | OG (i:Nat)
 | pop (j i:Nat)
 | FT (j f:Nat) (es:List IR) (i:Nat)
 | IH (j:Nat) (e:IR)
 | E0 (i j:Nat)
 | OH (i:Nat)
 | exp (e:IR)
 | ret (e:IR)
 | He
 | Cq (t:IR) (a b:List IS)
 | Cs (tg:Tg) (src:Sr) (body:List IS)
 | Gq (t:IR) (body:List IS)
 | brk|cnt|pass
 | never
 | C5 (n:Nat) (c:Str) (w:Str)
 | CD (n:Nat) (c:Str) (e:IR)
 | E1 (i f:Nat) (es:List IR) (n:Nat) (cs:List Str) (k:Nat) (h:List IS)
 | Kz (body:List IS) (n:Nat) (cs:List Str) (i:Nat) (h:List IS)
noncomputable abbrev Ev:=List (Option D)
inductive Fl where
 | nx (τ:Ev)|rt (d:D)|bk (τ:Ev)|ct (τ:Ev)
noncomputable def cY {α:Type}(xs:List α)(lo hi:Option Int):List α:=(xs.drop (HT.Es xs.length 0 lo)).take (HT.Es xs.length xs.length hi - HT.Es xs.length 0 lo)
noncomputable def aY (n:Nat):Bool:=decide (n<=sizeLine)
noncomputable def cN (n:Nat):Bool:=decide (n < sizeLine)
noncomputable def DT:Gn->D->D->Res D
 | .add,.int a,.int b=>.ok (.int (a+b))
 | .add,.str a,.str b=>BN (aY (a.length+b.length)) (.ok (.str (a++b)))
 | .add,.lst _ a,.lst _ b=>BN (aY (a.length+b.length)) (.ok (.lst true (a++b)))
 | .sub,.int a,.int b=>.ok (.int (a - b))
 | .mul,.int a,.int b=>BN (decide (-(2 ^ 64) < a/\a < 2 ^ 64)||decide (-(2 ^ 64) < b/\b < 2 ^ 64)) (.ok (.int (a*b)))
 | .mul,.str a,.int b=>BN (decide (-16000<=b/\b<=16000/\a.length<=1000)) (.ok (.str (Txt.mul a b)))
 | .fdiv,.int a,.int b=>BN (decide (0 < b/\b < 1073741824)) (.ok (.int (a / b)))
 | .mod,.int a,.int b=>BN (decide (0 < b)) (.ok (.int (a % b)))
 | .pow,.int a,.int b=>BN (decide (0<=b/\b<=1000000/\a.natAbs < 2 ^ 64)) (.ok (.int (a ^ b.toNat)))
 | _,_,_=>BR
noncomputable def bu:D->D->Res D
 | .lst _ ds,.int i=>match Dw ds i with
  | some d=>.ok d
  | none=>BR
 | .tup ds,.int i=>match Dw ds i with
  | some d=>.ok d
  | none=>BR
 | .str z,.int i=>BN (aY z.length) (match Dw z.cps.toList i with
  | some c=>.ok (.str ⟨#[c]⟩)
  | none=>BR)
 | _,_=>BR
noncomputable def gr:D->Option Int->Option Int->Res D
 | .lst _ ds,lo,hi=>.ok (.lst true (cY ds lo hi))
 | .str z,lo,hi=>BN (aY z.length) (.ok (.str (Txt.slice z lo hi)))
 | _,_,_=>BR
noncomputable def aT:D->Res Bool
 | .B5=>.ok false
 | .bl b=>.ok b
 | .int i=>.ok (i != 0)
 | .str x=>BN (aY x.length) (.ok ((x.length:Int) != 0))
 | .tup ds=>.ok (!ds.isEmpty)
 | .lst _ ds=>.ok (!ds.isEmpty)
 | .exc _=>BR
 | .BU _ _ _=>BR
noncomputable def bE (f:D->D->Res Bool):List D->List D->Res Bool
 | [],[]=>.ok true
 | a::r,b::t=>U (f a b) fun x=>U (bE f r t) fun y=>.ok (x&&y)
 | _,_=>.ok false
noncomputable def Cy:Nat->D->D->Res Bool
 | 0,_,_=>BR
 | _+1,.exc _,_=>BR
 | _+1,_,.exc _=>BR
 | _+1,.BU _ _ _,_=>BR
 | _+1,_,.BU _ _ _=>BR
 | _+1,.B5,.B5=>.ok true
 | _+1,.B5,_=>.ok false
 | _+1,.bl a,.bl b=>.ok (a == b)
 | _+1,.bl a,.int b=>.ok ((if a then 1 else 0) == b)
 | _+1,.bl _,_=>.ok false
 | _+1,.int a,.bl b=>.ok (a == (if b then 1 else 0))
 | _+1,.int a,.int b=>.ok (a == b)
 | _+1,.int _,_=>.ok false
 | _+1,.str a,.str b=>.ok (a == b)
 | _+1,.str _,_=>.ok false
 | n+1,.tup a,.tup b=>bE (Cy n) a b
 | _+1,.tup _,_=>.ok false
 | n+1,.lst _ a,.lst _ b=>bE (Cy n) a b
 | _+1,.lst _ _,_=>.ok false
noncomputable def C0 (d:D):List D->Res Bool
 | []=>.ok false
 | e::r=>U (Cy 40 e d) fun x=>U (C0 d r) fun y=>.ok (x||y)
noncomputable def yt (x y:Str):Bool:=!(Builtin.Str.occurrences x y 0 x.length 1).isEmpty
noncomputable def iq:D->Bool
 | .B5=>true
 | _=>false
noncomputable def Bl:D->Bool
 | .exc _=>false
 | .BU _ _ _=>false
 | _=>true
noncomputable def EK:FC->D->D->Res Bool
 | .eq,a,b=>Cy 40 a b
 | .ne,a,b=>U (Cy 40 a b) fun r=>.ok !r
 | .lt,.int a,.int b=>.ok (decide (a < b))
 | .le,.int a,.int b=>.ok (decide (a<=b))
 | .gt,.int a,.int b=>.ok (decide (b < a))
 | .HJ,.str y,.str x=>.ok (!yt x y)
 | .LH,a,.lst _ ds=>C0 a ds
 | .HJ,a,.lst _ ds=>U (C0 a ds) fun r=>.ok !r
 | .LH,a,.tup ds=>C0 a ds
 | .HJ,a,.tup ds=>U (C0 a ds) fun r=>.ok !r
 | .IG,a,.B5=>.ok (iq a)
 | _,_,_=>BR
noncomputable def a9:List D->Option (List Int)
 | []=>some []
 | .int i::r=>(a9 r).map (i::·)
 | _::_=>none
noncomputable def br:List D->Option (List Str)
 | []=>some []
 | .str i::r=>(br r).map (i::·)
 | _::_=>none
noncomputable def Bm:Kd->D->Bool
 | .str,.str _=>true
 | .int,.int _=>true
 | .int,.bl _=>true
 | .bool,.bl _=>true
 | .list,.lst _ _=>true
 | .tuple,.tup _=>true
 | _,_=>false
noncomputable def v5 (tb:List (Str×Bool)):D->Res D
 | .exc c=>match tb.lookup c with
  | some b=>.ok (.bl b)
  | none=>BR
 | _=>BR
noncomputable def cO (x:Str):List D:=x.cps.toList.map fun c=>.str ⟨#[c]⟩
noncomputable def bX:Bi->List D->Res D
 | .len,[.str x]=>BN (aY x.length) (.ok (.int x.length))
 | .len,[.tup ds]=>.ok (.int ds.length)
 | .len,[.lst _ ds]=>.ok (.int ds.length)
 | .min2,[.int a,.int b]=>.ok (.int (if b < a then b else a))
 | .max2,[.int a,.int b]=>.ok (.int (if b > a then b else a))
 | .list,[.lst _ ds]=>.ok (.lst true ds)
 | .list,[.tup ds]=>.ok (.lst true ds)
 | .list,[.str x]=>BN (aY x.length) (.ok (.lst true (cO x)))
 | .sum,[.lst _ ds]=>match a9 ds with
  | some ns=>BN (decide (ns.length<=1000000)) (.ok (.int ns.sum))
  | none=>BR
 | _,_=>BR
noncomputable def ny:D->Bool
 | .B5=>true
 | .bl _=>true
 | .int _=>true
 | .str _=>true
 | _=>false
noncomputable def aI (ds:List D):Bool:=ds.all ny
noncomputable def bY:D->Option Key
 | .int i=>some (.inl i)
 | .str x=>some (.inr x)
 | _=>none
noncomputable def look:List Key->List D->Key->Option D
 | k::ks,d::ds,q=>if k=q then some d else look ks ds q
 | _,_,_=>none
noncomputable def ir (ks:List Key)(q:Key):Bool:=ks.any fun k=>decide (k=q)
noncomputable def bJ (ks:List Key)(q:Key):List Key:=if ir ks q=true then ks else ks++[q]
noncomputable def bt (ks:List Key)(ds:List D)(q:Key)(d:D):List D:=if ir ks q=true then List.zipWith (fun k e=>if k=q then d else e) ks ds else ds++[d]
noncomputable def iu:D->D->Res D
 | .BU _ ks ds,y=>match bY y with
  | some q=>(match look ks ds q with
   | some d=>.ok d
   | none=>BR)
  | none=>BR
 | _,_=>BR
noncomputable def iw (n:Bool):D->D->Res D
 | .BU _ ks ds,y=>match bY y with
  | some q=>.ok (.bl (n != (look ks ds q).isSome))
  | none=>BR
 | _,_=>BR
noncomputable def jj:D->Bool
 | .BU _ _ _=>true
 | _=>false
noncomputable def jk:D->D->D->Res D
 | .BU _ ks ds,y,z=>match bY y with
  | some q=>.ok ((look ks ds q).getD z)
  | none=>BR
 | _,_,_=>BR
noncomputable def jR:D->Res D
 | .BU _ _ ds=>match a9 ds with
  | some ns=>.ok (.int ns.sum)
  | none=>BR
 | _=>BR
noncomputable def jS:D->Res D
 | .lst _ ds=>match br ds with
  | some ns=>BN (decide (ns.length < 1000)) (.ok (.int ((ns.foldl Sx.dd []).length:Nat)))
  | none=>BR
 | _=>BR
noncomputable def du:List D->Option (List (Key×D))
 | []=>some []
 | .tup [k,v]::r=>match bY k,du r with
  | some q,some ps=>some ((q,v)::ps)
  | _,_=>none
 | _::_=>none
noncomputable def DD:List (Key×D)->List Key->List D->List Key×List D
 | [],ks,ds=>(ks,ds)
 | (q,d)::r,ks,ds=>DD r (bJ ks q) (bt ks ds q d)
noncomputable def l5 (j:Nat)(τ:List (Option D)):D->Res (List (Option D))
 | .lst _ ds=>match du ds with
  | some ps=>BN (aI (ps.map (·.2))) (.ok (τ.set j (some (.BU true (DD ps [] []).1 (DD ps [] []).2))))
  | none=>BR
 | _=>BR
noncomputable def nA (i:Nat)(τ:List (Option D)):Option D->Option D->Res (List (Option D))
 | some (.BU true ks ds),some (.BU _ Gr Gs)=>BN (aI ds&&aI Gs&&aY (ks.length+Gr.length)) (.ok (τ.set i (some (.BU true (DD (Gr.zip Gs) ks ds).1 (DD (Gr.zip Gs) ks ds).2))))
 | _,_=>BR
noncomputable def dg:D->Bool
 | .str _=>true
 | _=>false
noncomputable def eP:Mt->D->List D->Res D
 | .join,.str x,[.lst _ ds]=>match br ds with
  | some ys=>BN (decide ((ys.map (·.length)).sum+ys.length*x.length<=16777216)) (.ok (.str (Txt.join x ys)))
  | none=>BR
 | _,_,_=>BR
noncomputable def gu:D->Res (List D)
 | .lst _ ds=>.ok ds
 | .tup ds=>.ok ds
 | .str x=>BN (aY x.length) (.ok (cO x))
 | _=>BR
noncomputable def jl:D->Res (List D)
 | .lst _ ds=>.ok ds
 | .tup ds=>.ok ds
 | _=>BR
noncomputable def l6 (ds es:List D):List D:=List.zipWith (fun a b=>.tup [a,b]) ds es
noncomputable def yu (x y:D):Res (List D):=U (jl x) fun ds=>U (jl y) fun es=>.ok (l6 ds es)
noncomputable def bM (a b:Int):List D:=(List.range (b - a).toNat).map fun k=>.int (a+(k:Nat))
noncomputable def Bn:D->Res D
 | .lst _ ds=>.ok (.lst true ds.reverse)
 | _=>BR
noncomputable def yv:D->Res D
 | .lst _ ds=>match a9 ds with
  | some ns=>BN (decide (ns.length < 64)) (.ok (.lst true ((PySem.W.sortI (dd ns)).map .int)))
  | none=>match br ds with
   | some ns=>BN (decide (ns.length < 64)) (.ok (.lst true ((sW (QS ns)).map .str)))
   | none=>BR
 | _=>BR
noncomputable def nB (x:Str)(y:Option Str):D->Res D
 | .str z=>BN (aY (x.length+(reprText z).length+(y.getD Str.empty).length)) (.ok (.str (x++reprText z++y.getD Str.empty)))
 | _=>BR
noncomputable def bK (i:Int):Bool:=decide (-(2 ^ 62)<=i/\i < 2 ^ 62)
noncomputable def ba {α β:Type}(f:α->Res (Option β)):List α->Res (List β)
 | []=>.ok []
 | x::xs=>U (f x) fun
  | some d=>U (ba f xs) fun r=>.ok (d::r)
  | none=>ba f xs
noncomputable def Dj {α:Type}:Res α->Res α
 | .error _=>BR
 | .ok a=>.ok a
mutual
noncomputable def bH:Tg->D->Ev->Res Ev
 | .nm i,d,τ=>.ok (τ.set i (some d))
 | .tp ts,.tup ds,τ=>BN (decide (ds.length=ts.length)) (dv ts ds τ)
 | .tp ts,.lst _ ds,τ=>BN (decide (ds.length=ts.length)) (dv ts ds τ)
 | .tp _,_,_=>BR
noncomputable def dv:List Tg->List D->Ev->Res Ev
 | t::ts,d::ds,τ=>U (bH t d τ) fun BP=>dv ts ds BP
 | [],[],τ=>.ok τ
 | _,_,_=>BR
end
noncomputable def aj (τ:Ev)(i:Nat):Option D:=(τ[i]?).join
mutual
noncomputable def vars:IR->List Nat
 | .c _=>[]
 | .g _ _=>[]
 | .v i=>[i]
 | .bin _ a b=>vars a++vars b
 | .neg a=>vars a
 | .cmp _ a b=>vars a++vars b
 | .chain _ _ a b c=>vars a++vars b++vars c
 | .EH a b=>vars a++vars b
 | .EI a b=>vars a++vars b
 | .FD a=>vars a
 | .ite t a b=>vars t++vars a++vars b
 | .tup es=>ak es
 | .lst es=>ak es
 | .idx a i=>vars a++vars i
 | .sl a lo hi=>vars a++nC lo++nC hi
 | .call _ es=>ak es
 | .bi _ es=>ak es
 | .Dh=>[]
 | .Cj a k=>vars a++vars k
 | .FP _ k a=>vars k++vars a
 | .LJ a _=>vars a
 | .Ew a _ _=>vars a
 | .Hd a=>vars a
 | .sset a=>vars a
 | .Ea a=>vars a
 | .EJ a=>vars a
 | .Dr a k e=>vars a++vars k++vars e
 | .FQ _ a _=>vars a
 | .Gp _ o es=>vars o++ak es
 | .comp _ fr _ src _ _=>fr++dw src
noncomputable def ak:List IR->List Nat
 | []=>[]
 | e::es=>vars e++ak es
noncomputable def nC:Option IR->List Nat
 | none=>[]
 | some e=>vars e
noncomputable def dw:Sr->List Nat
 | .CM n=>vars n
 | .DW a b=>vars a++vars b
 | .val e=>vars e
 | .zip a b=>vars a++vars b
end
mutual
noncomputable def BM (cl:Nat->List D->Res D):IR->Ev->Res D
 | .c d,_=>.ok d
 | .g _ d,_=>.ok d
 | .v i,τ=>match aj τ i with
  | some d=>.ok d
  | none=>BR
 | .bin op a b,τ=>U (BM cl a τ) fun x=>U (BM cl b τ) fun y=>DT op x y
 | .neg a,τ=>U (BM cl a τ) fun
  | .int i=>.ok (.int (-i))
  | _=>BR
 | .cmp op a b,τ=>U (BM cl a τ) fun x=>U (BM cl b τ) fun y=>U (EK op x y) fun r=>.ok (.bl r)
 | .chain op LI a b c,τ=>U (BM cl a τ) fun x=>U (BM cl b τ) fun y=>U (EK op x y) fun r=>
  if r=true then U (BM cl c τ) fun z=>U (EK LI y z) fun r'=>.ok (.bl r') else .ok (.bl false)
 | .EH a b,τ=>U (BM cl a τ) fun x=>U (aT x) fun r=>if r=true then BM cl b τ else .ok x
 | .EI a b,τ=>U (BM cl a τ) fun x=>U (aT x) fun r=>if r=true then .ok x else BM cl b τ
 | .FD a,τ=>U (BM cl a τ) fun x=>U (aT x) fun r=>.ok (.bl !r)
 | .ite t a b,τ=>U (BM cl t τ) fun x=>U (aT x) fun r=>if r=true then BM cl a τ else BM cl b τ
 | .tup es,τ=>U (aG cl es τ) fun ds=>BN (aY ds.length) (.ok (.tup ds))
 | .lst es,τ=>U (aG cl es τ) fun ds=>BN (aY ds.length) (.ok (.lst true ds))
 | .idx a i,τ=>U (BM cl a τ) fun x=>U (BM cl i τ) fun y=>bu x y
 | .sl a lo hi,τ=>U (BM cl a τ) fun x=>U (gv cl lo τ) fun l=>U (gv cl hi τ) fun h=>gr x l h
 | .call f es,τ=>U (aG cl es τ) fun ds=>cl f (BV ds)
 | .bi f es,τ=>U (aG cl es τ) fun ds=>bX f ds
 | .Dh,_=>.ok (.BU true [] [])
 | .Cj a k,τ=>U (BM cl a τ) fun x=>U (BM cl k τ) fun y=>iu x y
 | .FP n k a,τ=>U (BM cl k τ) fun y=>U (BM cl a τ) fun x=>iw n x y
 | .LJ a k,τ=>U (BM cl a τ) fun x=>BN (Bl x) (.ok (.bl (Bm k x)))
 | .Ew a _ tb,τ=>U (BM cl a τ) (v5 tb)
 | .Hd a,τ=>U (BM cl a τ) Bn
 | .sset a,τ=>U (BM cl a τ) yv
 | .Ea a,τ=>U (BM cl a τ) jS
 | .EJ a,τ=>U (BM cl a τ) jR
 | .Dr a k e,τ=>U (BM cl a τ) fun x=>BN (jj x) (U (BM cl k τ) fun y=>U (BM cl e τ) fun z=>jk x y z)
 | .FQ x a y,τ=>U (BM cl a τ) (nB x y)
 | .Gp m o es,τ=>U (BM cl o τ) fun x=>BN (dg x) (U (aG cl es τ) fun ds=>eP m x ds)
 | .comp G fr tg src ifs elt,τ=>U (dm cl src τ) fun its=>BN (cN its.length) (U (Dj (ba (fun x=>U (bH tg x (fr.map (aj τ)++List.replicate (G.N.length - fr.length) none)) fun HL=>
   U (dh cl ifs HL) fun r=>if r=true then U (BM cl elt HL) fun d=>.ok (some d) else .ok none) its)) fun ds=>.ok (.lst true ds))
noncomputable def aG (cl:Nat->List D->Res D):List IR->Ev->Res (List D)
 | [],_=>.ok []
 | e::es,τ=>U (BM cl e τ) fun d=>U (aG cl es τ) fun ds=>.ok (d::ds)
noncomputable def gv (cl:Nat->List D->Res D):Option IR->Ev->Res (Option Int)
 | none,_=>.ok none
 | some e,τ=>U (BM cl e τ) fun
  | .int i=>.ok (some i)
  | _=>BR
noncomputable def dh (cl:Nat->List D->Res D):List IR->Ev->Res Bool
 | [],_=>.ok true
 | e::es,τ=>U (U (BM cl e τ) aT) fun r=>if r=true then dh cl es τ else .ok false
noncomputable def dm (cl:Nat->List D->Res D):Sr->Ev->Res (List D)
 | .CM n,τ=>U (BM cl n τ) fun
  | .int i=>BN (bK i) (.ok (bM 0 i))
  | _=>BR
 | .DW a b,τ=>U (BM cl a τ) fun x=>U (BM cl b τ) fun y=>match x,y with
  | .int i,.int j=>BN (bK i&&bK j) (.ok (bM i j))
  | _,_=>BR
 | .val e,τ=>U (BM cl e τ) gu
 | .zip a b,τ=>U (BM cl a τ) fun x=>U (BM cl b τ) fun y=>yu x y
end
noncomputable def KA (cl:Nat->List D->Res D)(t:IR)(τ:Ev):Res Bool:=U (BM cl t τ) aT
noncomputable def dO (is:List Nat):Nat->Ev->Ev
 | _,[]=>[]
 | k,o::τ=>(if is.contains k then o.map er else o)::dO is (k+1) τ
noncomputable abbrev B6 (is:List Nat)(τ:Ev):Ev:=dO is 0 τ
noncomputable def aW : IR->Bool
 | .bin .add _ _=>true
 | .sl _ _ _=>true
 | .bi .list _=>true
 | .comp _ _ _ _ _ _=>true
 | _=>false
noncomputable def aN (e:IR)(d:D)(τ:Ev):D×Ev:=
 if aw d=true then (d,τ)
 else match aW e,d with
  | true,.lst _ ds=>if aq ds=true then (.lst true ds,τ) else (.lst true (BV ds),B6 (vars e) τ)
  | _,_=>(er d,B6 (vars e) τ)
mutual
noncomputable def CS (cl:Nat->List D->Res D)(mv:Bool):IR->Ev->Res (D×Ev)
 | .v i,τ=>match aj τ i with
  | some d=>if mv=true then .ok (d,τ.set i none) else .ok (er d,τ.set i (some (er d)))
  | none=>BR
 | .tup es,τ=>U (eQ cl mv es τ) fun p=>BN (aY p.1.length) (.ok (.tup p.1,p.2))
 | .lst es,τ=>U (eQ cl mv es τ) fun p=>BN (aY p.1.length) (.ok (.lst true p.1,p.2))
 | .Dh,τ=>.ok (.BU true [] [],τ)
 | .ite t a b,τ=>U (KA cl t τ) fun r=>if r=true then CS cl mv a τ else CS cl mv b τ
 | .call f es,τ=>U (aG cl es τ) fun ds=>U (cl f (BV ds)) fun d=>if aw d=true then .ok (d,τ) else .ok (d,B6 (ak es) τ)
 | e,τ=>U (BM cl e τ) fun d=>.ok (aN e d τ)
noncomputable def eQ (cl:Nat->List D->Res D)(mv:Bool):List IR->Ev->Res (List D×Ev)
 | [],τ=>.ok ([],τ)
 | e::es,τ=>U (CS cl mv e τ) fun p=>U (eQ cl mv es p.2) fun q=>.ok (p.1::q.1,q.2)
end
noncomputable def forM (body:D->Ev->Res Fl):List D->Ev->Res Fl
 | [],τ=>.ok (.nx τ)
 | x::xs,τ=>U (body x τ) fun
  | .nx BP=>forM body xs BP
  | .ct BP=>forM body xs BP
  | .bk BP=>.ok (.nx BP)
  | .rt d=>.ok (.rt d)
noncomputable def jm (test:Ev->Res Bool)(body:Ev->Res Fl):Nat->Ev->Res Fl
 | 0,_=>BR
 | n+1,τ=>U (test τ) fun r=>if r=true then U (body τ) fun
  | .nx BP=>jm test body n BP
  | .ct BP=>jm test body n BP
  | .bk BP=>.ok (.nx BP)
  | .rt d=>.ok (.rt d)
  else .ok (.nx τ)
noncomputable def jn (cl:Nat->List D->Res D)(s:Sr)(τ:Ev):Res (List D×Ev):=U (dm cl s τ) fun its=>match s with
 | .CM _=>.ok (its,τ)
 | .DW _ _=>.ok (its,τ)
 | s=>.ok (BV its,B6 (dw s) τ)
noncomputable def l7 (j i:Nat)(τ:Ev):D->Res Fl
 | .tup [d,.BU false ks vs]=>BN (aI vs) (.ok (.nx ((τ.set i (some (.BU true ks vs))).set j (some d))))
 | _=>BR
noncomputable def yy:Nat:=1000000
mutual
noncomputable def C1 (cl:Nat->List D->Res D):IS->Ev->Res Fl
 | .asg tg e,τ=>U (CS cl false e τ) fun p=>U (bH tg p.1 p.2) fun BP=>.ok (.nx BP)
 | .par i j a b,τ=>U (eQ cl false [a,b] τ) fun p=>match p.1 with
  | [x,y]=>.ok (.nx ((p.2.set i (some x)).set j (some y)))
  | _=>BR
 | .HK i k e,τ=>U (CS cl false e τ) fun p=>match aj p.2 i with
  | some (.lst true ds)=>U (BM cl k p.2) fun
   | .int z=>(match GY ds.length z with
    | some j=>.ok (.nx (p.2.set i (some (.lst true (ds.set j p.1)))))
    | none=>BR)
   | _=>BR
  | _=>BR
 | .app i e,τ=>match aj τ i with
  | some (.lst _ _)=>U (CS cl false e τ) fun p=>(match aj p.2 i with
   | some (.lst true ds)=>BN (cN ds.length) (.ok (.nx (p.2.set i (some (.lst true (ds++[p.1]))))))
   | _=>BR)
  | _=>BR
 | .CQ i k e,τ=>U (BM cl e τ) fun d=>match aj τ i with
  | some (.BU true ks ds)=>U (BM cl k τ) fun y=>(match bY y with
   | some q=>BN (aw d&&aq ds&&cN ks.length) (.ok (.nx (τ.set i (some (.BU true (bJ ks q) (bt ks ds q d))))))
   | none=>BR)
  | _=>BR
 | .ext i e,τ=>match aj τ i with
  | some (.lst _ _)=>U (CS cl false e τ) fun p=>(match p.1,aj p.2 i with
   | .lst _ es,some (.lst true ds)=>BN (aY (ds.length+es.length)) (.ok (.nx (p.2.set i (some (.lst true (ds++es))))))
   | _,_=>BR)
  | _=>BR
 | .ins i k e,τ=>match aj τ i with
  | some (.lst _ _)=>U (BM cl k τ) fun y=>U (CS cl false e τ) fun p=>(match y,aj p.2 i with
   | .int z,some (.lst true ds)=>BN (decide (0<=z/\z.toNat<=ds.length)&&cN ds.length) (.ok (.nx (p.2.set i (some (.lst true (ds.take z.toNat++p.1::ds.drop z.toNat))))))
   | _,_=>BR)
  | _=>BR
 | .Ky _ _ _,_=>BR
 | .OG i,τ=>match aj τ i with
  | some (.lst true ds)=>.ok (.nx (τ.set i (some (.lst true ds.reverse))))
  | _=>BR
 | .pop j i,τ=>match aj τ i with
  | some (.lst true (.str x::ds))=>.ok (.nx ((τ.set i (some (.lst true ds))).set j (some (.str x))))
  | _=>BR
 | .IH j e,τ=>U (BM cl e τ) fun d=>U (l5 j τ d) fun BP=>.ok (.nx BP)
 | .E0 i j,τ=>U (nA i τ (aj τ i) (aj τ j)) fun BP=>.ok (.nx BP)
 | .FT j f es i,τ=>match aj τ i with
  | some (.BU true ks vs)=>BN (aI vs) (U (aG cl es τ) fun ds=>U (Dj (cl f (BV ds++[.BU false ks vs]))) (l7 j i (B6 (ak es) τ)))
  | _=>BR
 | .OH i,τ=>match aj τ i with
  | some (.lst true _)=>.ok (.nx (τ.set i (some (.lst true []))))
  | _=>BR
 | .exp e,τ=>U (BM cl e τ) fun _=>.ok (.nx τ)
 | .ret e,τ=>U (CS cl true e τ) fun p=>.ok (.rt p.1)
 | .He,_=>.ok (.rt .B5)
 | .Cq t a b,τ=>U (KA cl t τ) fun r=>if r=true then aB cl a τ else aB cl b τ
 | .Cs tg s body,τ=>U (jn cl s τ) fun p=>forM (fun x τ=>U (bH tg x τ) fun BP=>aB cl body BP) p.1 p.2
 | .Gq t body,τ=>jm (KA cl t) (aB cl body) yy τ
 | .brk,τ=>.ok (.bk τ)
 | .cnt,τ=>.ok (.ct τ)
 | .pass,τ=>.ok (.nx τ)
 | .never,_=>BR
 | .C5 _ c _,_=>.error (.exc c)
 | .CD _ c e,τ=>U (Dj (BM cl e τ)) fun _=>.error (.exc c)
 | .E1 i f es _ cs k h,τ=>U (Dj (aG cl es τ)) fun ds=>match cl f (BV ds) with
  | .ok d=>if aw d=true then .ok (.nx (τ.set i (some d))) else .ok (.nx ((B6 (ak es) τ).set i (some d)))
  | .error (.exc c)=>BN (cs.contains c) (U (Dj (aB cl h (τ.set k (some (.exc c))))) fun
   | .nx BP=>.ok (.nx (BP.set k none))
   | _=>BR)
  | .error .stuck=>BR
 | .Kz body _ cs i h,τ=>match aB cl body τ with
  | .ok (.nx BP)=>.ok (.nx BP)
  | .error (.exc c)=>BN (cs.contains c) (U (Dj (aB cl h ((List.replicate τ.length none).set i (some (.exc c))))) fun
   | .nx BP=>.ok (.nx (BP.set i none))
   | _=>BR)
  | _=>BR
noncomputable def aB (cl:Nat->List D->Res D):List IS->Ev->Res Fl
 | [],τ=>.ok (.nx τ)
 | s::r,τ=>U (C1 cl s τ) fun
  | .nx BP=>aB cl r BP
  | .ct BP=>.ok (.ct BP)
  | .bk BP=>.ok (.bk BP)
  | .rt d=>.ok (.rt d)
end
structure Fn where
 np:Nat
 G:Gm
 body:List IS
 io:Option IR:=none
noncomputable def cH (cl:Nat->List D->Res D)(fn:Fn)(ds:List D):Res D:=
 BN (decide (ds.length=fn.np)) (U (aB cl fn.body (ds.map some++List.replicate (fn.G.N.length - fn.np) none)) fun
  | .nx _=>.ok .B5
  | .rt d=>.ok d
  | _=>BR)
noncomputable def Bo:D->D
 | .BU _ ks vs=>.BU true ks vs
 | d=>d
noncomputable def l8:List D->List D
 | []=>[]
 | [d]=>[Bo d]
 | d::ds=>d::l8 ds
noncomputable def KC (p:Nat)(q:D×Ev):Res D:=match aj q.2 p with
 | some (.BU true ks vs)=>BN (aI vs) (.ok (.tup [q.1,.BU false ks vs]))
 | _=>BR
noncomputable def cI (cl:Nat->List D->Res D)(fn:Fn)(e:IR)(ds:List D):Res D:=
 BN (decide (ds.length=fn.np)) (U (aB cl fn.body ((l8 ds).map some++List.replicate (fn.G.N.length - fn.np) none)) fun
  | .nx τ=>U (CS cl true e τ) (KC (fn.np - 1))
  | _=>BR)
noncomputable abbrev Tb:=Nat->Option Fn
noncomputable def aa (T:Tb):Nat->Nat->List D->Res D
 | 0,_,_=>BR
 | n+1,f,ds=>match T f with
  | some fn=>(match fn.io with
   | none=>cH (aa T n) fn ds
   | some e=>cI (aa T n) fn e ds)
  | none=>BR
theorem yz {cl:Nat->List D->Res D}{i:Nat}{τ:Ev}:BM cl (.v i) τ=(match aj τ i with|some d=>.ok d|none=>BR):=rfl
theorem yB {cl:Nat->List D->Res D}{i:Nat}{τ:Ev}{mv:Bool}:CS cl mv (.v i) τ=(match aj τ i with|some d=>if mv=true then .ok (d,τ.set i none) else .ok (er d,τ.set i (some (er d)))|none=>BR):=rfl
open PySem.SeqAt
section
variable {X:Cx}{pins:List (Addr×Obj)}{σ:St}{H:Hp}{S:Addr->Prop}{s:Shared}
theorem Inv.Ds (I:Inv X pins σ H s){a:Addr}{xs ys:List V}(h1:Dd X.K H a xs)(h2:De X.K H a ys):False:=by
 obtain⟨its,_,⟨o,n,e,c,_⟩,_⟩:=I.list h1
 obtain⟨its',_,⟨o',e',c',_⟩,_⟩:=I.tuple h2
 rw[e] at e';cases e'
 rw[c] at c'
 injection c' with c'
 exact absurd c' (by decide)
theorem Inv.Di (I:Inv X pins σ H s){a:Addr}{c:Str}(h:CA X.K H a (.inr c)):∃ C o vs,PySem.W.nsIn X.K mainGlobals c=some (some (.ref C))/\nameIn X.K C=some c/\s.heap.get? a=some o/\o.cls=.ref C/\o.data=.fields vs:=by
 obtain⟨C,o,vs,h0,h1,h2,h3,h4⟩:=h
 exact⟨C,o,vs,h0,h1,(I.BY a _ h2).1,h3,h4⟩
theorem Inv.Hf (I:Inv X pins σ H s){a:Addr}{c c':Str}(h:CA X.K H a (.inr c))(k:CA X.K H a (.inr c')):c=c':=by
 obtain⟨C,o,vs,_,n1,e,c1,_⟩:=I.Di h
 obtain⟨C',o',TM,_,n2,e',c2,_⟩:=I.Di k
 rw[e] at e';cases e'
 rw[c1] at c2;cases c2
 rw[n1] at n2;cases n2
 rfl
theorem Inv.Fj (I:Inv X pins σ H s){a:Addr}{c:Str}{xs:List V}(h:CA X.K H a (.inr c))(k:De X.K H a xs):False:=by
 obtain⟨C,o,vs,_,_,e,c1,_⟩:=I.Di h
 obtain⟨its',_,⟨o',e',c',_⟩,_⟩:=I.tuple k
 rw[e] at e';cases e'
 rw[c1] at c';cases c'
theorem Inv.DE (I:Inv X pins σ H s){a:Addr}{c:Str}{xs:List V}(h:CA X.K H a (.inr c))(k:Dd X.K H a xs):False:=by
 obtain⟨C,o,vs,_,_,e,c1,_⟩:=I.Di h
 obtain⟨its',_,⟨o',n,e',c',_⟩,_⟩:=I.list k
 rw[e] at e';cases e'
 rw[c1] at c';cases c'
theorem Inv.E2 (I:Inv X pins σ H s){a:Addr}{kvs:List (Key×V)}(h:Rd H a (.dK kvs)):∃ o es ep,s.heap.get? a=some o/\o.data=.dict es ep:=by
 obtain⟨_,_,vs,_,o,es,ep,e,c,d,_⟩:=h.ok I.BY
 exact⟨o,es,ep,e,d⟩
theorem Inv.Fm (I:Inv X pins σ H s){a:Addr}{kvs:List (Key×V)}{xs:List V}(h:Rd H a (.dK kvs))(k:De X.K H a xs):False:=by
 obtain⟨o,es,ep,e,d⟩:=I.E2 h
 obtain⟨its',_,⟨o',e',c',n,d'⟩,_⟩:=I.tuple k
 rw[e] at e';cases e'
 rw[d] at d';cases d'
theorem Inv.DF (I:Inv X pins σ H s){a:Addr}{kvs:List (Key×V)}{xs:List V}(h:Rd H a (.dK kvs))(k:Dd X.K H a xs):False:=by
 obtain⟨o,es,ep,e,d⟩:=I.E2 h
 obtain⟨its',_,⟨o',n,e',c',n',d'⟩,_⟩:=I.list k
 rw[e] at e';cases e'
 rw[d] at d';cases d'
theorem Inv.Fo (I:Inv X pins σ H s){a:Addr}{c:Str}{kvs:List (Key×V)}(h:CA X.K H a (.inr c))(k:Rd H a (.dK kvs)):False:=by
 obtain⟨C,o,vs,_,_,e,c1,d1⟩:=I.Di h
 obtain⟨o',es,ep,e',d⟩:=I.E2 k
 rw[e] at e';cases e'
 rw[d] at d1;cases d1
theorem Rd.dk {H:Hp}{a:Addr}{u v:List (Key×V)}(h:Rd H a (.dK u))(k:Rd H a (.dK v)):u=v:=by
 rcases h with h|⟨o,h⟩<;>rcases k with k|⟨o',k⟩<;>(rw[h] at k;cases k;try rfl)
mutual
theorem BL.one (I:Inv X pins σ H s):∀ {v:V}{d e:D},BL X.K S H v d->BL X.K S H v e->er d=er e
 | _,_,_,.B5,h=>by cases h;rfl
 | _,_,_,.bl b,h=>by cases h;rfl
 | _,_,_,.int i,h=>by cases h;rfl
 | _,_,_,.str x,h=>by cases h;rfl
 | _,_,_,.exc h0,h=>by
  cases h with
  | exc k1=>exact congrArg D.exc (I.Hf h0 k1)
  | tup k1 k2=>exact(I.Fj h0 k1).elim
  | lst k0 k1 k2=>exact(I.DE h0 (.inl k1)).elim
  | lstK k1 k2=>exact(I.DE h0 k1.sq).elim
  | BU k0 k1 k2 k3=>exact(I.Fo h0 k1).elim
 | _,_,_,.tup h1 h2,h=>by
  cases h with
  | exc k1=>exact(I.Fj k1 h1).elim
  | tup k1 k2=>
   have e:=I.Du h1 k1
   subst e
   rw[er,er,BJ.one I h2 k2]
  | lst k0 k1 k2=>exact(I.Ds (.inl k1) h1).elim
  | lstK k1 k2=>exact(I.Ds k1.sq h1).elim
  | BU k0 k1 k2 k3=>exact(I.Fm k1 h1).elim
 | _,_,_,.lst h0 h1 h2,h=>by
  cases h with
  | exc k1=>exact(I.DE k1 (.inl h1)).elim
  | tup k1 k2=>exact(I.Ds (.inl h1) k1).elim
  | lst k0 k1 k2=>
   have e:=I.CK (.inl h1) (.inl k1)
   subst e
   rw[er,er,BJ.one I h2 k2]
  | lstK k1 k2=>
   have e:=I.CK (.inl h1) k1.sq
   subst e
   rw[er,er,BJ.one I h2 k2]
  | BU k0 k1 k2 k3=>exact(I.DF k1 (.inl h1)).elim
 | _,_,_,.lstK h1 h2,h=>by
  cases h with
  | exc k1=>exact(I.DE k1 h1.sq).elim
  | tup k1 k2=>exact(I.Ds h1.sq k1).elim
  | lst k0 k1 k2=>
   have e:=I.CK h1.sq (.inl k1)
   subst e
   rw[er,er,BJ.one I h2 k2]
  | lstK k1 k2=>
   have e:=I.CK h1.sq k1.sq
   subst e
   rw[er,er,BJ.one I h2 k2]
  | BU k0 k1 k2 k3=>exact(I.DF k1 h1.sq).elim
 | _,_,_,.BU h0 h1 h2 h3,h=>by
  cases h with
  | exc k1=>exact(I.Fo k1 h1).elim
  | tup k1 k2=>exact(I.Fm h1 k1).elim
  | lst k0 k1 k2=>exact(I.DF h1 (.inl k1)).elim
  | lstK k1 k2=>exact(I.DF h1 k1.sq).elim
  | BU k0 k1 k2 k3=>
   have e:=Rd.dk h1 k1
   subst e
   rw[er,er,BJ.one I h3 k3,<- h2,<- k2]
theorem BJ.one (I:Inv X pins σ H s):∀ {vs:List V}{ds es:List D},BJ X.K S H vs ds->BJ X.K S H vs es->BV ds=BV es
 | _,_,_,.nil,h=>by cases h;rfl
 | _,_,_,.cons h1 h2,h=>by
  cases h with
  | cons k1 k2=>rw[BV,BV,BL.one I h1 k1,BJ.one I h2 k2]
end
end
theorem bI {α β:Type}{x:Res α}{f:α->Res β}{b:β}(h:U x f=.ok b):∃ a,x=.ok a/\f a=.ok b:=by
 cases x with
 | error e=>cases h
 | ok a=>exact⟨a,rfl,h⟩
theorem gw {α:Type}{c:Bool}{x:Res α}{b:α}(h:BN c x=.ok b):c=true/\x=.ok b:=by
 unfold BN at h
 cases c with
 | true=>exact⟨rfl,h⟩
 | false=>cases h
theorem bZ {f:D->D->Res Bool}(hf:∀ d e r,f d e=.ok r->er d=er e->r=true):∀ {ds es:List D}{r:Bool},bE f ds es=.ok r->BV ds=BV es->r=true
 | [],[],r,h,_=>by cases h;rfl
 | [],_::_,_,_,h=>by rw[BV,BV] at h;cases h
 | _::_,[],_,_,h=>by rw[BV,BV] at h;cases h
 | a::ds,b::es,r,h,h'=>by
  rw[BV,BV] at h'
  injection h' with e1 e2
  obtain⟨x,hx,h⟩:=bI (show U (f a b) (fun x=>U (bE f ds es) fun y=>.ok (x&&y))=.ok r from h)
  obtain⟨y,hy,h⟩:=bI h
  cases h
  rw[hf a b x hx e1,bZ hf hy e2]
  rfl
theorem dy:∀ (n:Nat) (d e:D) (r:Bool),Cy n d e=.ok r->er d=er e->r=true
 | 0,_,_,_,h,_=>by cases h
 | n+1,d,e,r,h,h'=>by
  cases d with
  | tup ds=>
   cases e with
   | tup es=>
    rw[er,er] at h'
    injection h' with e1
    exact bZ (dy n) h e1
   | B5=>rw[er,er] at h';cases h'
   | bl _=>rw[er,er] at h';cases h'
   | int _=>rw[er,er] at h';cases h'
   | str _=>rw[er,er] at h';cases h'
   | lst _ _=>rw[er,er] at h';cases h'
   | exc _=>cases h
   | BU _ _ _=>cases h
  | lst o ds=>
   cases e with
   | lst o' es=>
    rw[er,er] at h'
    injection h' with _ e1
    exact bZ (dy n) h e1
   | B5=>rw[er,er] at h';cases h'
   | bl _=>rw[er,er] at h';cases h'
   | int _=>rw[er,er] at h';cases h'
   | str _=>rw[er,er] at h';cases h'
   | tup _=>rw[er,er] at h';cases h'
   | exc _=>cases h
   | BU _ _ _=>cases h
  | exc _=>cases h
  | BU _ _ _=>cases e<;>cases h
  | B5=>cases e<;>first|(cases h;done)|(cases h;rfl)|(exfalso;simp[er] at h')
  | bl b=>cases e<;>first|(simp only[er,D.bl.injEq] at h';subst h';cases h;simp)|(exfalso;simp[er] at h')
  | int b=>cases e<;>first|(simp only[er,D.int.injEq] at h';subst h';cases h;simp)|(exfalso;simp[er] at h')
  | str b=>cases e<;>first|(simp only[er,D.str.injEq] at h';subst h';cases h;simp)|(exfalso;simp[er] at h')
theorem ix {f:D->D->Res Bool}:∀ {ds es:List D}{r:Bool},bE f ds es=.ok r->ds.length≠es.length->r=false
 | [],[],_,_,h=>absurd rfl h
 | [],_::_,_,h,_=>by cases h;rfl
 | _::_,[],_,h,_=>by cases h;rfl
 | a::ds,b::es,r,h,n=>by
  obtain⟨x,hx,h⟩:=bI (show U (f a b) (fun x=>U (bE f ds es) fun y=>.ok (x&&y))=.ok r from h)
  obtain⟨y,hy,h⟩:=bI h
  cases h
  rw[ix hy (fun z=>n (by rw[List.length_cons,List.length_cons,z]))]
  simp
theorem jT {f:D->D->Res Bool}:∀ {ds es:List D}{r:Bool},bE f ds es=.ok r->ds.length=es.length->
  ∃ e:Nat->Bool,(∀ j a b,ds[j]? = some a->es[j]? = some b->f a b=.ok (e j))/\r=(List.range ds.length).all e
 | [],[],r,h,_=>by cases h;exact⟨fun _=>true,fun j a b h=>by simp at h,rfl⟩
 | [],_::_,_,_,h=>by cases h
 | _::_,[],_,_,h=>by cases h
 | a::ds,b::es,r,h,n=>by
  obtain⟨x,hx,h⟩:=bI (show U (f a b) (fun x=>U (bE f ds es) fun y=>.ok (x&&y))=.ok r from h)
  obtain⟨y,hy,h⟩:=bI h
  cases h
  obtain⟨e,h1,h2⟩:=jT hy (by simpa using n)
  refine⟨fun j=>match j with|0=>x|k+1=>e k,fun j a' b' e1 e2=>?_,?_⟩
  ·cases j with
   | zero=>simp at e1 e2;subst e1 e2;exact hx
   | succ k=>exact h1 k a' b' (by simpa using e1) (by simpa using e2)
  ·rw[h2,List.length_cons,List.range_succ_eq_map,List.all_cons,List.all_map]
   rfl
section
variable {X:Cx}{pins:List (Addr×Obj)}{σ:St}{H:Hp}{S:Addr->Prop}{s:Shared}
structure HM (A:Around)(s:Shared)(v u:Value)(r:Bool):Prop where
 eq:EqAt A s v u r
 rc:RcAt A s v u r
 ne:RcNeAt A s v u (!r)
theorem iy (n:Nat)(A:Around)(ih:∀ (x y:V)(v u:Value)(d e:D)(r:Bool),BL X.K S H x d->BL X.K S H y e->RelV x v->RelV y u->Cy n d e=.ok r->EqAt A.in1 s v u r)
  {xs ys:List V}{ds es:List D}{its its':List Value}{r:Bool} (rv:Vals xs its) (LK:Vals ys its') (h2:BJ X.K S H xs ds) (k2:BJ X.K S H ys es) (hr:bE (Cy n) ds es=.ok r) :
  ∃ e:Nat->Bool,(∀ j (q1:j < its.toArray.size) (q2:j < its'.toArray.size),EqAt A.in1 s its.toArray[j] its'.toArray[j] (e j))/\r=((List.range (min its.toArray.size its'.toArray.size)).all e&&its.toArray.size == its'.toArray.size):=by
 have l1:=h2.length
 have l2:=k2.length
 have l3:=rv.length
 have l4:=LK.length
 have pair:∀ j (j1:j < its.toArray.size) (j2:j < its'.toArray.size) (b:Bool) (d1:j < ds.length) (d2:j < es.length),Cy n ds[j] es[j]=.ok b->EqAt A.in1 s its.toArray[j] its'.toArray[j] b:=by
  intro j j1 j2 b d1 d2 hb
  obtain⟨x',e1,m1⟩:=h2.get (i:=j) (d:=ds[j]) (by simp)
  obtain⟨y',e2,m2⟩:=k2.get (i:=j) (d:=es[j]) (by simp)
  obtain⟨v',ev,G9⟩:=rv.get e1
  obtain⟨u',eu,Ks⟩:=LK.get e2
  have hv:its.toArray[j]=v':=by
   have:=(List.getElem?_eq_some_iff.mp ev).2
   simpa using this
  have LL:its'.toArray[j]=u':=by
   have:=(List.getElem?_eq_some_iff.mp eu).2
   simpa using this
  rw[hv,LL]
  exact ih x' y' v' u' _ _ _ m1 m2 G9 Ks hb
 have z1:its.toArray.size=ds.length:=by simp;omega
 have z2:its'.toArray.size=es.length:=by simp;omega
 by_cases hl:ds.length=es.length
 ·obtain⟨e,q1,q2⟩:=jT hr hl
  refine⟨e,fun j j1 j2=>pair j j1 j2 _ (by omega) (by omega) (q1 j _ _ (by simp) (by simp)),?_⟩
  rw[q2,z1,z2,hl]
  simp
 ·have HN:=ix hr hl
  have each:∀ (ds es:List D) (r:Bool),bE (Cy n) ds es=.ok r->∀ j (q1:j < ds.length) (q2:j < es.length),∃ b,Cy n ds[j] es[j]=.ok b:=by
   intro ds
   induction ds with
   | nil=>intro es r _ j q1;simp at q1
   | cons a ds ih=>
    intro es r h j q1 q2
    cases es with
    | nil=>simp at q2
    | cons b es=>
     obtain⟨x,hx,h⟩:=bI (show U (Cy n a b) (fun x=>U (bE (Cy n) ds es) fun y=>.ok (x&&y))=.ok r from h)
     obtain⟨y,hy,h⟩:=bI h
     cases j with
     | zero=>exact⟨x,hx⟩
     | succ k=>exact ih es y hy k (by simpa using q1) (by simpa using q2)
  refine⟨fun j=>if q:j < ds.length/\j < es.length then ((match Cy n (ds[j]'q.1) (es[j]'q.2) with|.ok b=>b|.error _=>false)) else false,fun j j1 j2=>?_,?_⟩
  ·have d1:j < ds.length:=by omega
   have d2:j < es.length:=by omega
   obtain⟨b,hb⟩:=each ds es r hr j d1 d2
   have q:=pair j j1 j2 b d1 d2 hb
   show EqAt A.in1 s its.toArray[j] its'.toArray[j] (dite _ _ _)
   rw[dif_pos (show j < ds.length/\j < es.length from ⟨d1,d2⟩),hb]
   exact q
  ·rw[HN]
   have:(its.toArray.size == its'.toArray.size)=false:=by
    rw[beq_eq_false_iff_ne,z1,z2]
    exact hl
   rw[this,Bool.and_false]
theorem nD (I:Inv X pins σ H s)(n:Nat)(A:Around)(ih:∀ (x y:V)(v u:Value)(d e:D)(r:Bool),BL X.K S H x d->BL X.K S H y e->RelV x v->RelV y u->Cy n d e=.ok r->EqAt A.in1 s v u r)
  {a b:Addr}{o o':Bool}{xs ys:List V}{ds es:List D}{r:Bool} (ha:Dd X.K H a xs) (hb:Dd X.K H b ys) (h2:BJ X.K S H xs ds) (k2:BJ X.K S H ys es)
  (m1:BL X.K S H (.ref a) (.lst o ds)) (m2:BL X.K S H (.ref b) (.lst o' es)) (hr:bE (Cy n) ds es=.ok r) (Ci:A.units < cLine):HM A s (.ref a) (.ref b) r:=by
 obtain⟨its,rv,p,_⟩:=I.list ha
 obtain⟨its',LK,p',_⟩:=I.list hb
 obtain⟨e,he,JF⟩:=iy n A ih rv LK h2 k2 hr
 have both:RcAt A s (.ref a) (.ref b) r/\RcNeAt A s (.ref a) (.ref b) (!r):=by
  by_cases hl:its.toArray.size=its'.toArray.size
  ·have II:r=(List.range its.toArray.size).all e:=by
    rw[JF,<- hl,Nat.min_self]
    simp
   rw[II]
   exact⟨.lists p.isList p'.isList hl Ci he,.lists p.isList p'.isList hl Ci he⟩
  ·have EN:(its.toArray.size != its'.toArray.size)=true:=by simpa using hl
   have II:r=false:=by
    rw[JF]
    have:(its.toArray.size == its'.toArray.size)=false:=by rw[beq_eq_false_iff_ne];exact hl
    rw[this,Bool.and_false]
   rw[II]
   exact⟨.lists_lengths p.isList p'.isList EN Ci,.lists_lengths p.isList p'.isList EN Ci⟩
 refine⟨?_,both.1,both.2⟩
 by_cases KD:a=b
 ·subst KD
  have hd:=BL.one I m1 m2
  rw[er,er] at hd
  injection hd with _ hd
  rw[bZ (dy n) hr hd]
  exact .same _
 ·exact .of_refs KD both.1
set_option maxHeartbeats 4000000 in
theorem gx (I:Inv X pins σ H s):∀ (n:Nat) (A:Around) (x y:V) (v u:Value) (d e:D) (r:Bool),BL X.K S H x d->BL X.K S H y e->RelV x v->RelV y u->Cy n d e=.ok r->
  A.units+n < cLine->HM A s v u r
 | 0,_,_,_,_,_,_,_,_,_,_,_,_,h,_=>by cases h
 | n+1,A,x,y,v,u,d,e,r,hx,hy,rx,ry,h,hu=>by
  have Ci:A.units < cLine:=by omega
  have MI:A.in1.units+n < cLine:=by show A.units+1+n < cLine;omega
  have ih:∀ (x y:V) (v u:Value) (d e:D) (r:Bool),BL X.K S H x d->BL X.K S H y e->RelV x v->RelV y u->Cy n d e=.ok r->EqAt A.in1 s v u r:=
   fun x y v u d e r a1 a2 a3 a4 a5=>(gx I n A.in1 x y v u d e r a1 a2 a3 a4 a5 MI).eq
  cases d with
  | B5=>
   cases hx.Ed;cases rx
   cases e with
   | B5=>cases hy.Ed;cases ry;cases h;exact⟨.same _,.none_none,.none_none⟩
   | bl b'=>cases hy.HH;cases ry;cases h;exact⟨.none_bool _,.none_bool _,.none_bool _⟩
   | int i'=>cases hy.Ca;obtain⟨t2,rfl⟩:=ry;cases h;exact⟨.none_int _ _,.none_int _ _,.none_int _ _⟩
   | str z'=>cases hy.Cr;obtain⟨t2,rfl⟩:=ry;cases h;exact⟨.none_str _ _,.none_str _ _,.none_str _ _⟩
   | tup es=>obtain⟨a2,Gu,rfl,q2,m2⟩:=hy.CZ;cases ry;obtain⟨C4,EF,p2,_⟩:=I.tuple q2;cases h;exact⟨.none_tuple p2 Ci,.none_tuple p2 Ci,.none_tuple p2 Ci⟩
   | lst o' es=>obtain⟨a2,Gu,rfl,q2,m2⟩:=hy.CH;cases ry;obtain⟨C4,EF,p2,_⟩:=I.list q2;cases h;exact⟨.none_list p2.isList Ci,.none_list p2.isList Ci,.none_list p2.isList Ci⟩
   | exc _=>cases h
   | BU _ _ _=>cases h
  | bl b=>
   cases hx.HH;cases rx
   cases e with
   | B5=>cases hy.Ed;cases ry;cases h;exact⟨.bool_none _,.bool_none _,.bool_none _⟩
   | bl b'=>cases hy.HH;cases ry;cases h;exact⟨.bool_bool _ _,.bool_bool _ _,.bool_bool _ _⟩
   | int i'=>cases hy.Ca;obtain⟨t2,rfl⟩:=ry;cases h;exact⟨.bool_int _ _ _,.bool_int _ _ _,.bool_int _ _ _⟩
   | str z'=>cases hy.Cr;obtain⟨t2,rfl⟩:=ry;cases h;exact⟨.bool_str _ _ _,.bool_str _ _ _,.bool_str _ _ _⟩
   | tup es=>obtain⟨a2,Gu,rfl,q2,m2⟩:=hy.CZ;cases ry;obtain⟨C4,EF,p2,_⟩:=I.tuple q2;cases h;exact⟨.bool_tuple _ p2 Ci,.bool_tuple _ p2 Ci,.bool_tuple _ p2 Ci⟩
   | lst o' es=>obtain⟨a2,Gu,rfl,q2,m2⟩:=hy.CH;cases ry;obtain⟨C4,EF,p2,_⟩:=I.list q2;cases h;exact⟨.bool_list _ p2.isList Ci,.bool_list _ p2.isList Ci,.bool_list _ p2.isList Ci⟩
   | exc _=>cases h
   | BU _ _ _=>cases h
  | int i=>
   cases hx.Ca;obtain⟨t1,rfl⟩:=rx
   cases e with
   | B5=>cases hy.Ed;cases ry;cases h;exact⟨.int_none _ _,.int_none _ _,.int_none _ _⟩
   | bl b'=>cases hy.HH;cases ry;cases h;exact⟨.int_bool _ _ _,.int_bool _ _ _,.int_bool _ _ _⟩
   | int i'=>cases hy.Ca;obtain⟨t2,rfl⟩:=ry;cases h;exact⟨.int_int _ _ _ _,.int_int _ _ _ _,.int_int _ _ _ _⟩
   | str z'=>cases hy.Cr;obtain⟨t2,rfl⟩:=ry;cases h;exact⟨.int_str _ _ _ _,.int_str _ _ _ _,.int_str _ _ _ _⟩
   | tup es=>obtain⟨a2,Gu,rfl,q2,m2⟩:=hy.CZ;cases ry;obtain⟨C4,EF,p2,_⟩:=I.tuple q2;cases h;exact⟨.int_tuple _ _ p2 Ci,.int_tuple _ _ p2 Ci,.int_tuple _ _ p2 Ci⟩
   | lst o' es=>obtain⟨a2,Gu,rfl,q2,m2⟩:=hy.CH;cases ry;obtain⟨C4,EF,p2,_⟩:=I.list q2;cases h;exact⟨.int_list _ _ p2.isList Ci,.int_list _ _ p2.isList Ci,.int_list _ _ p2.isList Ci⟩
   | exc _=>cases h
   | BU _ _ _=>cases h
  | str z=>
   cases hx.Cr;obtain⟨t1,rfl⟩:=rx
   cases e with
   | B5=>cases hy.Ed;cases ry;cases h;exact⟨.str_none _ _,.str_none _ _,.str_none _ _⟩
   | bl b'=>cases hy.HH;cases ry;cases h;exact⟨.str_bool _ _ _,.str_bool _ _ _,.str_bool _ _ _⟩
   | int i'=>cases hy.Ca;obtain⟨t2,rfl⟩:=ry;cases h;exact⟨.str_int _ _ _ _,.str_int _ _ _ _,.str_int _ _ _ _⟩
   | str z'=>cases hy.Cr;obtain⟨t2,rfl⟩:=ry;cases h;exact⟨.str_str _ _ _ _,.str_str _ _ _ _,.str_str _ _ _ _⟩
   | tup es=>obtain⟨a2,Gu,rfl,q2,m2⟩:=hy.CZ;cases ry;obtain⟨C4,EF,p2,_⟩:=I.tuple q2;cases h;exact⟨.str_tuple _ _ p2 Ci,.str_tuple _ _ p2 Ci,.str_tuple _ _ p2 Ci⟩
   | lst o' es=>obtain⟨a2,Gu,rfl,q2,m2⟩:=hy.CH;cases ry;obtain⟨C4,EF,p2,_⟩:=I.list q2;cases h;exact⟨.str_list _ _ p2.isList Ci,.str_list _ _ p2.isList Ci,.str_list _ _ p2.isList Ci⟩
   | exc _=>cases h
   | BU _ _ _=>cases h
  | tup ds=>
   obtain⟨a1,Q2,rfl,q1,m1⟩:=hx.CZ;cases rx;obtain⟨G8,G9,p1,_⟩:=I.tuple q1
   cases e with
   | B5=>cases hy.Ed;cases ry;cases h;exact⟨.tuple_none p1 Ci,.tuple_none p1 Ci,.tuple_none p1 Ci⟩
   | bl b'=>cases hy.HH;cases ry;cases h;exact⟨.tuple_bool _ p1 Ci,.tuple_bool _ p1 Ci,.tuple_bool _ p1 Ci⟩
   | int i'=>cases hy.Ca;obtain⟨t2,rfl⟩:=ry;cases h;exact⟨.tuple_int _ _ p1 Ci,.tuple_int _ _ p1 Ci,.tuple_int _ _ p1 Ci⟩
   | str z'=>cases hy.Cr;obtain⟨t2,rfl⟩:=ry;cases h;exact⟨.tuple_str _ _ p1 Ci,.tuple_str _ _ p1 Ci,.tuple_str _ _ p1 Ci⟩
   | tup es=>
    have Dz:=hx
    have KG:=hy
    obtain⟨a2,Gu,rfl,q2,m2⟩:=hy.CZ;cases ry;obtain⟨C4,EF,p2,_⟩:=I.tuple q2
    have hr:bE (Cy n) ds es=.ok r:=h
    obtain⟨e,he,JF⟩:=iy n A ih G9 EF m1 m2 hr
    refine⟨?_,?_,?_⟩
    ·by_cases KD:a1=a2
     ·subst KD
      have hd:=BL.one I Dz KG
      rw[er,er] at hd
      injection hd with hd
      rw[bZ (dy n) hr hd]
      exact .same _
     ·rw[JF]
      exact .of_refs KD (.tuples p1 p2 Ci he)
    ·rw[JF]
     exact .tuples p1 p2 Ci he
    ·rw[JF]
     exact .tuples p1 p2 Ci he
   | lst o' es=>obtain⟨a2,Gu,rfl,q2,m2⟩:=hy.CH;cases ry;obtain⟨C4,EF,p2,_⟩:=I.list q2;cases h;exact⟨.tuple_list p1 p2.isList Ci,.tuple_list p1 p2.isList Ci,.tuple_list p1 p2.isList Ci⟩
   | exc _=>cases h
   | BU _ _ _=>cases h
  | lst o ds=>
   obtain⟨a1,Q2,rfl,q1,m1⟩:=hx.CH;cases rx;obtain⟨G8,G9,p1,_⟩:=I.list q1
   cases e with
   | B5=>cases hy.Ed;cases ry;cases h;exact⟨.list_none p1.isList Ci,.list_none p1.isList Ci,.list_none p1.isList Ci⟩
   | bl b'=>cases hy.HH;cases ry;cases h;exact⟨.list_bool _ p1.isList Ci,.list_bool _ p1.isList Ci,.list_bool _ p1.isList Ci⟩
   | int i'=>cases hy.Ca;obtain⟨t2,rfl⟩:=ry;cases h;exact⟨.list_int _ _ p1.isList Ci,.list_int _ _ p1.isList Ci,.list_int _ _ p1.isList Ci⟩
   | str z'=>cases hy.Cr;obtain⟨t2,rfl⟩:=ry;cases h;exact⟨.list_str _ _ p1.isList Ci,.list_str _ _ p1.isList Ci,.list_str _ _ p1.isList Ci⟩
   | tup es=>obtain⟨a2,Gu,rfl,q2,m2⟩:=hy.CZ;cases ry;obtain⟨C4,EF,p2,_⟩:=I.tuple q2;cases h;exact⟨.list_tuple p1.isList p2 Ci,.list_tuple p1.isList p2 Ci,.list_tuple p1.isList p2 Ci⟩
   | lst o' es=>
    have Dz:=hx
    have KG:=hy
    obtain⟨a2,Gu,rfl,q2,m2⟩:=hy.CH;cases ry;obtain⟨C4,EF,p2,_⟩:=I.list q2
    exact nD I n A ih q1 q2 m1 m2 Dz KG h Ci
   | exc _=>cases h
   | BU _ _ _=>cases h
  | exc _=>cases h
  | BU _ _ _=>cases e<;>cases h
end
abbrev nw (S:Addr->Prop)(H:Hp):Addr->Prop:=fun a=>S a∨H a=none
abbrev Kk (K:PySem.W.Frag)(S:Addr->Prop)(H:Hp)(Q:VK):D->Prop:=fun d=>∀ w H',au H H'->BL K (nw S H) H' w d->Q w H'
theorem BL.nw {K:PySem.W.Frag}{S:Addr->Prop}{H:Hp}{v:V}{d:D}(h:BL K S H v d):BL K (nw S H) H v d:=h.mono (fun _=>.inl) (.refl _)
theorem Bp {K:PySem.W.Frag}{S:Addr->Prop}{H:Hp}{p:Addr}{vs:List V}{ds:List D}(hp:H p=none)(h:BJ K S H vs ds):BL K (nw S H) (upd H p (.tup vs)) (.ref p) (.tup ds):=
 .tup (.inl (.inl av)) (h.mono (fun _=>.inl) (.upd hp))
theorem l9 {K:PySem.W.Frag}{S:Addr->Prop}{H:Hp}{p:Addr}{vs:List V}{ds:List D}{o:Bool}(hp:H p=none)(h:BJ K S H vs ds):BL K (nw S H) (upd H p (.lst vs)) (.ref p) (.lst o ds):=
 .lst (.inr hp) (.inl av) (h.mono (fun _=>.inl) (.upd hp))
noncomputable def IJ:Gn->Operator
 | .add=>.Add|.sub=>.Sub|.mul=>.Mult|.fdiv=>.FloorDiv|.mod=>.Mod|.pow=>.Pow
noncomputable def IK:FC->CmpOp
 | .eq=>.Eq|.ne=>.NotEq|.lt=>.Lt|.le=>.LtE|.gt=>.Gt|.ge=>.GtE|.LH=>.In|.HJ=>.NotIn|.IG=>.Is|.OF=>.IsNot
noncomputable def Bq (K:PySem.W.Frag)(ex:Str->Prop)(op:Gn):R2:=fun x y H Q=>∃ S d e,BL K S H x d/\BL K S H y e/\BK ex (DT op d e) (Kk K S H Q)
noncomputable def Br (K:PySem.W.Frag)(ex:Str->Prop)(op:FC):R2:=fun x y H Q=>∃ S d e,BL K S H x d/\BL K S H y e/\BK ex (EK op d e) fun r=>Q (.bl r) H
section
variable {X:Cx}{ex:Str->Prop}
theorem aQ {n:Nat}(h:aY n=true):n<=sizeLine:=of_decide_eq_true h
theorem gy {n:Nat}(h:cN n=true):n < sizeLine:=of_decide_eq_true h
theorem jU:EM X (binaryOp .Add) (fun x y H Q=>∃ l b xs zs,x=.ref l/\y=.ref b/\Ls X.K H l xs/\Ls X.K H b zs/\xs.length+zs.length<=sizeLine/\∀ p,H p=none->Q (.ref p) (upd H p (.lst (xs++zs)))):=by
 intro pins s σ H x y v u Q I rx ry h
 obtain⟨l,b,xs,zs,rfl,rfl,hH,hB,hz,q⟩:=h
 cases rx
 cases ry
 obtain⟨hl,its,n,r,e⟩:=I.ls hH
 obtain⟨Gj,C4,n2,r2,e'⟩:=I.ls hB
 have e1:=r.length
 have e2:=r2.length
 refine PySem.P.add_list e e' ?_ (by rw[List.size_toArray,List.size_toArray];omega)
 have ea:its.toArray++C4.toArray=(its++C4).toArray:=by simp
 rw[ea]
 exact⟨.ref _,_,I.Kc (t':=s.toks) (r.append r2) (by rw[List.length_append];omega),rfl,q _ I.fresh⟩
theorem v7 (op:Gn):EM X (binaryOp (IJ op)) (Bq X.K ex op):=by
 intro pins s σ H x y v u Q I rx ry h
 obtain⟨S,d,e,hx,hy,h⟩:=h
 have stuck:∀ {P:Prop},DT op d e=BR->P:=fun z=>by rw[z] at h;exact h.no.elim
 cases op with
 | add=>
  cases d with
  | int a=>
   cases e with
   | int b=>cases hx.Ca;cases hy.Ca;exact vE pins s σ H _ _ v u Q I rx ry ⟨a,b,rfl,rfl,h.ok _ _ (.refl _) (.int _)⟩
   | _=>exact stuck rfl
  | str a=>
   cases e with
   | str b=>
    cases hx.Cr;cases hy.Cr
    obtain⟨g,h⟩:=BK.BN h
    exact ja pins s σ H _ _ v u Q I rx ry ⟨a,b,rfl,rfl,aQ g,h.ok _ _ (.refl _) (.str _)⟩
   | _=>exact stuck rfl
  | lst o a=>
   cases e with
   | lst o' b=>
    obtain⟨p,xs,rfl,q1,m1⟩:=hx.Ha
    obtain⟨p',ys,rfl,q2,m2⟩:=hy.Ha
    obtain⟨g,h⟩:=BK.BN h
    have g':=aQ g
    have l1:=m1.length
    have l2:=m2.length
    exact jU pins s σ H _ _ v u Q I rx ry ⟨p,p',xs,ys,rfl,rfl,q1,q2,by omega,fun z hz=>h.ok _ _ (.upd hz) (l9 hz (m1.append m2))⟩
   | _=>exact stuck rfl
  | _=>exact stuck rfl
 | sub=>
  cases d with
  | int a=>
   cases e with
   | int b=>cases hx.Ca;cases hy.Ca;exact vF pins s σ H _ _ v u Q I rx ry ⟨a,b,rfl,rfl,h.ok _ _ (.refl _) (.int _)⟩
   | _=>exact stuck rfl
  | _=>exact stuck rfl
 | mul=>
  cases d with
  | int a=>
   cases e with
   | int b=>
    cases hx.Ca;cases hy.Ca
    obtain⟨g,h⟩:=BK.BN h
    rw[Bool.or_eq_true] at g
    exact vG pins s σ H _ _ v u Q I rx ry ⟨a,b,rfl,rfl,g.elim (fun z=>.inl (of_decide_eq_true z)) (fun z=>.inr (of_decide_eq_true z)),h.ok _ _ (.refl _) (.int _)⟩
   | _=>exact stuck rfl
  | str a=>
   cases e with
   | int b=>
    cases hx.Cr;cases hy.Ca
    obtain⟨g,h⟩:=BK.BN h
    have g':=of_decide_eq_true g
    exact jd pins s σ H _ _ v u Q I rx ry ⟨a,b,rfl,rfl,g'.1,g'.2.1,g'.2.2,h.ok _ _ (.refl _) (.str _)⟩
   | _=>exact stuck rfl
  | lst _ _=>cases e<;>exact stuck rfl
  | _=>exact stuck rfl
 | fdiv=>
  cases d with
  | int a=>
   cases e with
   | int b=>
    cases hx.Ca;cases hy.Ca
    obtain⟨g,h⟩:=BK.BN h
    exact qP pins s σ H _ _ v u Q I rx ry ⟨a,b,rfl,rfl,show 0 < b/\b < 1073741824 from of_decide_eq_true g,h.ok _ _ (.refl _) (.int _)⟩
   | _=>exact stuck rfl
  | _=>exact stuck rfl
 | mod=>
  cases d with
  | int a=>
   cases e with
   | int b=>
    cases hx.Ca;cases hy.Ca
    obtain⟨g,h⟩:=BK.BN h
    exact vH pins s σ H _ _ v u Q I rx ry ⟨a,b,rfl,rfl,of_decide_eq_true g,h.ok _ _ (.refl _) (.int _)⟩
   | _=>exact stuck rfl
  | _=>exact stuck rfl
 | pow=>
  cases d with
  | int a=>
   cases e with
   | int b=>
    cases hx.Ca;cases hy.Ca
    obtain⟨g,h⟩:=BK.BN h
    exact vI pins s σ H _ _ v u Q I rx ry ⟨a,b,rfl,rfl,show 0<=b/\b<=1000000/\a.natAbs < 2 ^ 64 from of_decide_eq_true g,h.ok _ _ (.refl _) (.int _)⟩
   | _=>exact stuck rfl
  | _=>exact stuck rfl
theorem BK.Cy {ex:Str->Prop}:∀ {n:Nat}{d e:D}{k:Bool->Prop},BK ex (L2.Cy n d e) k->∃ r,L2.Cy n d e=.ok r/\k r:=by
 have no:∀ (n:Nat) (d e:D) (c:Str),L2.Cy n d e≠.error (.exc c):=by
  intro n
  have MQ:∀ (f:D->D->Res Bool),(∀ d e c,f d e≠.error (.exc c))->∀ (ds es:List D) (c:Str),bE f ds es≠.error (.exc c):=by
   intro f hf ds
   induction ds with
   | nil=>intro es c h;cases es<;>cases h
   | cons a ds ih=>
    intro es c h
    cases es with
    | nil=>cases h
    | cons b es=>
     have h':L2.U (f a b) (fun x=>L2.U (bE f ds es) fun y=>.ok (x&&y))=.error (.exc c):=h
     cases q:f a b with
     | error z=>rw[q] at h';exact hf a b c (by rw[q];exact h')
     | ok x=>
      rw[q] at h'
      have h2:L2.U (bE f ds es) (fun y=>.ok (x&&y))=.error (.exc c):=h'
      cases q2:bE f ds es with
      | error z=>rw[q2] at h2;exact ih es c (by rw[q2];exact h2)
      | ok y=>rw[q2] at h2;cases h2
  induction n with
  | zero=>intro d e c h;cases h
  | succ n ih=>
   intro d e c h
   cases d<;>cases e<;>first|cases h|exact MQ _ ih _ _ _ h
 intro n d e k h
 cases q:L2.Cy n d e with
 | ok r=>rw[q] at h;exact⟨r,rfl,h⟩
 | error z=>
  rw[q] at h
  cases z with
  | stuck=>exact h.no.elim
  | exc c=>exact absurd q (no n d e c)
theorem BK.C0 {ex:Str->Prop}{d:D}:∀ {ds:List D}{k:Bool->Prop},BK ex (L2.C0 d ds) k->∃ f:Nat->Bool,(∀ i e,ds[i]? = some e->L2.Cy 40 e d=.ok (f i))/\k ((List.range ds.length).any f)
 | [],k,h=>⟨fun _=>false,fun i e z=>by simp at z,h⟩
 | e::r,k,h=>by
  obtain⟨x,NY,h1⟩:=BK.Cy (BK.U h)
  obtain⟨f,h2,h3⟩:=BK.C0 (BK.U h1)
  refine⟨fun i=>match i with|0=>x|j+1=>f j,fun i e' z=>?_,?_⟩
  ·cases i with
   | zero=>simp at z;subst z;exact NY
   | succ j=>exact h2 j e' (by simpa using z)
  ·rw[List.length_cons,List.range_succ_eq_map,List.any_cons,List.any_map]
   exact h3
theorem jo {A:Around}{s:Shared}{v:Value}(its:List Value)(f:Nat->Bool)(h:∀ i u,its[i]? = some u->EqAt A s u v (f i)) :
  ∃ e:Value->Bool,(∀ y,y∈its.toArray->EqAt A s y v (e y))/\its.toArray.any e=(List.range its.length).any f:=by
 classical
 refine⟨fun y=>decide (∃ i,its[i]? = some y/\f i=true),fun y hy=>?_,?_⟩
 ·have KG:y∈its:=by simpa using hy
  obtain⟨j,hj⟩:=List.getElem?_of_mem KG
  show EqAt A s y v (decide (∃ i,its[i]? = some y/\f i=true))
  by_cases q:∃ i,its[i]? = some y/\f i=true
  ·rw[decide_eq_true q]
   obtain⟨i,hi,fi⟩:=q
   have:=h i y hi
   rw[fi] at this
   exact this
  ·rw[decide_eq_false q]
   have:=h j y hj
   have fj:f j=false:=by
    cases z:f j with
    | false=>rfl
    | true=>exact absurd ⟨j,hj,z⟩ q
   rw[fj] at this
   exact this
 ·rw[Bool.eq_iff_iff]
  simp only[List.any_toArray,List.any_eq_true,List.mem_range,decide_eq_true_eq]
  constructor
  ·rintro ⟨y,hy,i,hi,fi⟩
   exact⟨i,(List.getElem?_eq_some_iff.mp hi).1,fi⟩
  ·rintro ⟨i,hi,fi⟩
   exact⟨its[i],List.getElem_mem hi,i,by simp[hi],fi⟩
theorem cS (hu:X.A.units+42 < cLine){pins:List (Addr×Obj)}{s:Shared}{σ:St}{H:Hp}{S:Addr->Prop}{x:V}{v:Value}{d:D}{k:Bool->Prop}(I:Inv X pins σ H s)(rx:RelV x v)(hx:BL X.K S H x d)
  {xs:List V}{its:List Value}{ds:List D} (rv:Vals xs its) (m:BJ X.K S H xs ds) (h:BK ex (C0 d ds) k) :
  ∃ e:Value->Bool,(∀ y,y∈its.toArray->EqAt X.A.in1 s y v (e y))/\k (its.toArray.any e):=by
 obtain⟨f,h1,h2⟩:=BK.C0 h
 have l1:=rv.length
 have l2:=m.length
 obtain⟨e,h3,h4⟩:=jo (A:=X.A.in1) (s:=s) (v:=v) its f fun i u hi=>by
  have CY:i < its.length:=(List.getElem?_eq_some_iff.mp hi).1
  obtain⟨y,hy,my⟩:=m.get (i:=i) (d:=ds[i]'(by omega)) (by simp)
  obtain⟨u',LL,ru⟩:=rv.get hy
  rw[hi] at LL;cases LL
  exact(gx I 40 X.A.in1 y x u v _ d _ my hx ru rx (h1 i _ (by simp)) (by show X.A.units+1+40 < cLine;omega)).eq
 refine⟨e,h3,?_⟩
 rw[h4,show its.length=ds.length by omega]
 exact h2
theorem nE (hu:X.A.units+42 < cLine)(op:FC):EM X (compareOp (IK op)) (Br X.K ex op):=by
 intro pins s σ H x y v u Q I rx ry h
 obtain⟨S,d,e,hx,hy,h⟩:=h
 have stuck:∀ {P:Prop},EK op d e=BR->P:=fun z=>by rw[z] at h;exact h.no.elim
 have fin:∀ {b:Bool},Q (.bl b) H->EP X pins σ Q (.bool b) s:=fun q=>⟨.bl _,H,I,rfl,q⟩
 cases op with
 | eq=>
  obtain⟨r,h1,h2⟩:=BK.Cy h
  exact(gx I 40 X.A x y v u d e r hx hy rx ry h1 (by omega)).rc _ _ _ _ (fin h2)
 | ne=>
  obtain⟨r,h1,h2⟩:=BK.Cy (BK.U h)
  exact(gx I 40 X.A x y v u d e r hx hy rx ry h1 (by omega)).ne _ _ _ _ (fin h2.ok)
 | lt=>
  cases d with
  | int a=>
   cases e with
   | int b=>cases hx.Ca;cases hy.Ca;obtain⟨t,rfl⟩:=rx;obtain⟨t',rfl⟩:=ry;exact lt_int (fin h.ok)
   | _=>exact stuck rfl
  | _=>exact stuck rfl
 | le=>
  cases d with
  | int a=>
   cases e with
   | int b=>cases hx.Ca;cases hy.Ca;obtain⟨t,rfl⟩:=rx;obtain⟨t',rfl⟩:=ry;exact le_int (fin h.ok)
   | _=>exact stuck rfl
  | _=>exact stuck rfl
 | gt=>
  cases d with
  | int a=>
   cases e with
   | int b=>cases hx.Ca;cases hy.Ca;obtain⟨t,rfl⟩:=rx;obtain⟨t',rfl⟩:=ry;exact gt_int (fin h.ok)
   | _=>exact stuck rfl
  | _=>exact stuck rfl
 | ge=>cases d<;>cases e<;>exact stuck rfl
 | LH=>
  cases e with
  | str b=>cases d<;>exact stuck rfl
  | lst o ds=>
   obtain⟨a,xs,rfl,q1,m1⟩:=hy.CH
   cases ry
   obtain⟨its,rv,pl,_⟩:=I.list q1
   obtain⟨e,h1,h2⟩:=cS (ex:=ex) hu I rx hx rv m1 (by cases d<;>exact h)
   exact in_listAt e pl.isList h1 (fin h2)
  | tup ds=>
   obtain⟨a,xs,rfl,q1,m1⟩:=hy.CZ
   cases ry
   obtain⟨its,rv,pl,_⟩:=I.tuple q1
   obtain⟨e,h1,h2⟩:=cS (ex:=ex) hu I rx hx rv m1 (by cases d<;>exact h)
   exact in_tupleAt e pl h1 (fin h2)
  | B5=>cases d<;>exact stuck rfl
  | bl _=>cases d<;>exact stuck rfl
  | int _=>cases d<;>exact stuck rfl
  | exc _=>cases d<;>exact stuck rfl
  | BU _ _ _=>cases d<;>exact stuck rfl
 | HJ=>
  cases e with
  | str b=>
   cases d with
   | str a=>cases hx.Cr;cases hy.Cr;obtain⟨t,rfl⟩:=rx;obtain⟨t',rfl⟩:=ry;exact notIn_str (fin h.ok)
   | _=>exact stuck rfl
  | lst o ds=>
   obtain⟨a,xs,rfl,q1,m1⟩:=hy.CH
   cases ry
   obtain⟨its,rv,pl,_⟩:=I.list q1
   obtain⟨e,h1,h2⟩:=cS (ex:=ex) (k:=fun r=>Q (.bl !r) H) hu I rx hx rv m1 ((BK.U (show BK ex (U (C0 d ds) fun r=>.ok !r) (fun r=>Q (.bl r) H) by cases d<;>exact h)).mono fun _ z=>z)
   exact notIn_listAt e pl.isList h1 (fin h2)
  | tup ds=>
   obtain⟨a,xs,rfl,q1,m1⟩:=hy.CZ
   cases ry
   obtain⟨its,rv,pl,_⟩:=I.tuple q1
   obtain⟨e,h1,h2⟩:=cS (ex:=ex) (k:=fun r=>Q (.bl !r) H) hu I rx hx rv m1 ((BK.U (show BK ex (U (C0 d ds) fun r=>.ok !r) (fun r=>Q (.bl r) H) by cases d<;>exact h)).mono fun _ z=>z)
   exact notIn_tupleAt e pl h1 (fin h2)
  | B5=>cases d<;>exact stuck rfl
  | bl _=>cases d<;>exact stuck rfl
  | int _=>cases d<;>exact stuck rfl
  | exc _=>cases d<;>exact stuck rfl
  | BU _ _ _=>cases d<;>exact stuck rfl
 | IG=>
  cases e with
  | B5=>
   cases hy.Ed;cases ry
   have ev:iq d=(v == Value.none):=by
    cases hx with
    | B5=>cases rx;rfl
    | bl b=>cases rx;rfl
    | int i=>obtain⟨t,rfl⟩:=rx;rfl
    | str z=>obtain⟨t,rfl⟩:=rx;rfl
    | tup _ _=>cases rx;rfl
    | lst _ _ _=>cases rx;rfl
    | lstK _ _=>cases rx;rfl
    | exc _=>cases rx;rfl
    | BU _ _ _ _=>cases rx;rfl
   have h':Q (.bl (iq d)) H:=by cases d<;>exact h
   rw[ev] at h'
   exact is_none_gen (fin h')
  | _=>cases d<;>exact stuck rfl
 | OF=>cases d<;>cases e<;>exact stuck rfl
theorem d9 {pins:List (Addr×Obj)}{s:Shared}{σ:St}{H:Hp}{S:Addr->Prop}{x:V}{v:Value}{d:D}{Q:Bool->Hp->Prop}(I:Inv X pins σ H s)(rx:RelV x v)(hx:BL X.K S H x d)(h:BK ex (aT d) fun b=>Q b H) :
  wpAny (model X.prog X.w) X.A (truthy v) (TP X pins σ Q) X.xe s:=by
 refine vK pins s σ H x v Q I rx ?_
 cases d with
 | exc c=>exact h.no.elim
 | BU _ _ _=>exact h.no.elim
 | B5=>cases hx.Ed;exact⟨false,rfl,h⟩
 | bl b=>cases hx.HH;exact⟨b,rfl,h⟩
 | int i=>cases hx.Ca;exact⟨_,rfl,h⟩
 | str z=>
  cases hx.Cr
  obtain⟨g,h⟩:=BK.BN h
  exact⟨_,⟨aQ g,rfl⟩,h⟩
 | tup ds=>
  obtain⟨a,xs,rfl,q,m⟩:=hx.CZ
  refine⟨!ds.isEmpty,.inr (.inl ⟨xs,q,?_⟩),h⟩
  have:=m.length
  cases xs<;>cases ds<;>simp_all
 | lst o ds=>
  obtain⟨a,xs,rfl,q,m⟩:=hx.CH
  refine⟨!ds.isEmpty,.inl ⟨xs,q,?_⟩,h⟩
  have:=m.length
  cases xs<;>cases ds<;>simp_all
theorem jV {K:PySem.W.Frag}{S:Addr->Prop}{H:Hp}{vs:List V}{ds:List D}{i:Int}{d:D}(m:BJ K S H vs ds)(h:Dw ds i=some d):∃ v,Dw vs i=some v/\BL K S H v d:=by
 unfold Dw at h ⊢
 rw[m.length]
 cases q:GY ds.length i with
 | none=>rw[q] at h;cases h
 | some j=>rw[q] at h;exact m.get h
noncomputable def Bt (K:PySem.W.Frag)(ex:Str->Prop):R2:=fun x y H Q=>∃ S d e,BL K S H x d/\BL K S H y e/\BK ex (bu d e) (Kk K S H Q)
theorem rF:GG X (Bt X.K ex):=by
 intro value slice pins s σ H x y v u Q I rx ry h hs
 obtain⟨S,d,e,hx,hy,h⟩:=h
 refine vN value slice pins s σ H x y v u Q I rx ry ?_ hs
 have stuck:∀ {P:Prop},bu d e=BR->P:=fun z=>by rw[z] at h;exact h.no.elim
 cases e with
 | int i=>
  cases hy.Ca
  cases d with
  | lst o ds=>
   obtain⟨a,xs,rfl,q,m⟩:=hx.CH
   have h':BK ex (match Dw ds i with|some d=>.ok d|none=>BR) (Kk X.K S H Q):=h
   cases z:Dw ds i with
   | none=>rw[z] at h';exact h'.no.elim
   | some d=>
    rw[z] at h'
    obtain⟨w,ew,mw⟩:=jV m z
    exact .inl ⟨a,xs,i,w,rfl,rfl,q,ew,h'.ok _ _ (.refl _) mw.nw⟩
  | tup ds=>
   obtain⟨a,xs,rfl,q,m⟩:=hx.CZ
   have h':BK ex (match Dw ds i with|some d=>.ok d|none=>BR) (Kk X.K S H Q):=h
   cases z:Dw ds i with
   | none=>rw[z] at h';exact h'.no.elim
   | some d=>
    rw[z] at h'
    obtain⟨w,ew,mw⟩:=jV m z
    exact .inr (.inl ⟨a,xs,i,w,rfl,rfl,q,ew,h'.ok _ _ (.refl _) mw.nw⟩)
  | str z=>
   cases hx.Cr
   obtain⟨g,h⟩:=BK.BN h
   cases q:Dw z.cps.toList i with
   | none=>rw[q] at h;exact h.no.elim
   | some c=>
    rw[q] at h
    exact .inr (.inr ⟨z,i,c,rfl,rfl,aQ g,q,h.ok _ _ (.refl _) (.str _)⟩)
  | _=>exact stuck rfl
 | _=>cases d<;>exact stuck rfl
def Bu (K:PySem.W.Frag)(ex:Str->Prop):V->Option Int->Option Int->Hp->VK->Prop:=fun x lo hi H Q=>∃ S d,BL K S H x d/\BK ex (gr d lo hi) (Kk K S H Q)
theorem v8:Lx X (fun x lo hi H Q=>∃ z,x=.str z/\z.length<=sizeLine/\Q (.str (Txt.slice z lo hi)) H):=by
 intro pins s σ H x v vl vu lo hi sl Q I rx hs pl pu h
 obtain⟨z,rfl,hz,q⟩:=h
 obtain⟨t,rfl⟩:=rx
 refine⟨"str",_,F.slot_str_getitem.lookup,typeIs_str s z t,?_⟩
 have fin:∀ (l u:Option (Int×Tok)),vl=partValue l->vu=partValue u->l.map (·.1)=lo->u.map (·.1)=hi->wpAny (model X.prog X.w) X.A (getItem (.str z t) (.ref sl)) (EP X pins σ Q) X.xe s:=by
  intro l u e1 e2 e3 e4
  subst e1 e2 e3 e4
  refine wpAny_getItem_str_slice (l:=l) (u:=u) (st:=none) hs rfl ?_
  exact post_val_or_str ⟨Nat.le_trans (Txt.slice_le z _ _) hz,fun t' k=>⟨.str _,H,I.tok _,⟨_,rfl⟩,q⟩⟩
 cases pl with
 | none=>
  cases pu with
  | none=>exact fin none none rfl rfl rfl rfl
  | int j t'=>exact fin none (some (j,t')) rfl rfl rfl rfl
 | int i t'=>
  cases pu with
  | none=>exact fin (some (i,t')) none rfl rfl rfl rfl
  | int j Q3=>exact fin (some (i,t')) (some (j,Q3)) rfl rfl rfl rfl
end
open PySem.W
section
variable {prog:Program}{w:World}{A:Around}{E:Value->Shared->Prop}{K:Frag}{x C:Addr}{hh:Heap}{g:Array GenState}{d:Drawn}{t:Nat}{os:OsState}
structure ExcAt (K:Frag)(C:Addr):Prop where
 ga:findIn K (.ref C) "__getattribute__" = some (some (.builtin "BaseException.__getattribute__"))
 no:findIn K (.ref C) "__getattr__" = some none
 cl:findIn K (.ref C) "__class__" = some (some (.builtin "object.__class__"))
 be:mroIn K C (.type "BaseException")=some true
 ob:mroIn K C (.type "object")=some true
 is:(clsIn K C).isSome=true
def IX (h:Heap)(x C:Addr):Prop:=∃ o,h.get? x=some o/\o.cls=.ref C
theorem IX.type {M:Model}{h:Heap}(I:IX h x C):Looks M h (typeOf (.ref x)) (.ref C):=by
 obtain⟨o,h1,h2⟩:=I
 exact h2 ▸ (Looks.ld h1).andThen .now
open Builtin Builtin.ObjectAttr Builtin.Getset_descriptor in
theorem nG {R:Result->Shared->Prop}{tp:Value}(X:K.In hh)(I:IX hh x C)(hm:mroIn K C (.type "object")=some true) (hq:R (.ok (.ret (.ref C))) ⟨hh,g,d,t,os⟩) :
  codeAny (model prog w) A (.call (.builtin "getset_descriptor.__get__") ⟨[.builtin "object.__class__",.ref x,tp],[]⟩) R ⟨hh,g,d,t,os⟩:=by
 have y0:=I.type (M:=model prog w)
 have y1:=looks_mroIn (M:=model prog w) X hm
 refine codeAny_call_builtin KF.slot_gs.plain KF.entry_gs (KF.slot_gs.check _ _ _ _ _ _ _ _ KF.type_class (KF.args_gs _ _ _) ?_);unfold Builtin.«getset_descriptor.__get__» descrGet;rw[dga_obj]
 refine wpAny_bind (wpAny_pure ?_);unfold descrGetter descrCheckInstance descrNameAndClass isInstance
 simp only[KF.owner_class];repeat lk
 refine⟨Code.quiet_builtin _ (by decide +kernel),codeAny_builtin KF.entry_class ?_⟩;unfold Builtin.«object.__class__» shownTypeOf
 repeat lk
 exact hq
theorem ma (a:ExcAt K C){tk:Tok}{Q:Fin->Shared->Prop}(X:K.In hh)(I:IX hh x C)(hq:Q (.done (.ret (.ref C))) ⟨hh,g,d,t,os⟩) :
  wpAny (model prog w) A (Builtin.«object.__getattribute__» ⟨[.ref x,.str "__class__" tk],[]⟩) Q E ⟨hh,g,d,t,os⟩:=by
 have y0:=I.type (M:=model prog w)
 have y1:=looks_findIn (M:=model prog w) X a.cl
 have y5:=F.typeOf_object_class;have y6:=F.slot_gs_get.lookup;have y7:=F.slot_gs_set.lookup
 repeat (any_goals (first|assumption|with_reducible refine Looks.at (by assumption) ?_|wp_step))
 refine nG X I a.ob ?_
 repeat (any_goals (first|assumption|wp_step))
theorem md (a:ExcAt K C){M:Model}{HP:Value}{Q:Unit->Shared->Prop}(X:K.In hh)(I:IX hh x C)(hq:Q () ⟨hh,g,d,t,os⟩) :
  wpAny M A (checkBuiltinCall "BaseException.__getattribute__" ⟨[.ref x,HP],[]⟩) Q E ⟨hh,g,d,t,os⟩:=by
 have e1:builtinKind "BaseException.__getattribute__" = some .slot:=by decide +kernel
 have e2:splitId "BaseException.__getattribute__" = some ("BaseException","__getattribute__"):=by decide +kernel
 have y0:=I.type (M:=M)
 have y1:=looks_mroIn (M:=M) X a.be
 have ha:=F.args_bexc_ga (.ref x) HP
 simp only[checkBuiltinCall,e1,e2]
 refine wpAny_bind ?_
 unfold isInstance
 repeat (any_goals (first|assumption|with_reducible refine Looks.at (by assumption) ?_|wp_step))
theorem v9 (a:ExcAt K C){tk:Tok}{fill:Bool}{Q:Value->Shared->Prop}(X:K.In hh)(I:IX hh x C)(hq:Q (.ref C) ⟨hh,g,d,t,os⟩) :
  wpAny (model prog w) A (getAttrBy (.ref x) (.str "__class__" tk) fill) Q E ⟨hh,g,d,t,os⟩:=by
 have y0:=I.type (M:=model prog w)
 have y1:=looks_findIn (M:=model prog w) X a.ga
 have y2:=looks_findIn (M:=model prog w) X a.no
 have f3:=F.attr_ValueError.ga.bind (.ref x)
 have y4:(onTheHeap (Value.ref C)&&Value.builtin "BaseException.__getattribute__" == Value.builtin "object.__getattribute__")=false:=by rw[show (Value.builtin "BaseException.__getattribute__" == Value.builtin "object.__getattribute__")=false by decide +kernel];rfl
 repeat (any_goals (first|assumption|with_reducible refine Looks.at (by assumption) ?_|wp_step))
 refine codeAny_call_builtin F.attr_ValueError.ga.plain F.entry_bexc_ga (md a X I (ma a X I ?_))
 repeat (any_goals (first|assumption|wp_step))
theorem nH (a:ExcAt K C){Q:Option Value->Shared->Prop}(X:K.In hh)(I:IX hh x C)(hq:Q (some (.ref C)) ⟨hh,g,d,t+1,os⟩) :
  wpAny (model prog w) A (getAttr? (.ref x) "__class__") Q E ⟨hh,g,d,t,os⟩:=by
 unfold getAttr? getAttrBy?
 repeat (any_goals (first|assumption|with_reducible apply v9 a X I|wp_step))
theorem iz (a:ExcAt K C):KitX K (.ref x) (.ref C) (fun h=>IX h x C) where
 ty:=fun _ _ _ I=>I.type
 it:=fun _ _ X _=>by
  have z:=a.is
  unfold clsIn at z
  split at z
  ·rename_i ho
   intro A' Q' E' s' k q
   unfold isType loadHead
   exact wpAny_bind (wpAny_loadPart (k _ _ (X _ _ ho)) (wpAny_pure q))
  ·cases z
 ne:=fun h tp dd its n sl X Q4=>by
  have z:=a.is
  refine Bool.eq_false_iff.mpr fun q=>?_
  have e:C=tp:=Value.ref.inj (beq_iff_eq.mp q)
  subst e
  unfold clsIn at z
  split at z
  ·rename_i ho
   cases (X _ _ ho).symm.trans Q4
  ·cases z
 ca:=fun {_ _ _ _ _ s} X I k=>by
  obtain⟨hh,g,d,t,os⟩:=s
  exact nH a X I k
end
section
variable {X:Cx}{ex:Str->Prop}
theorem jW {K:PySem.W.Frag}{S:Addr->Prop}{H:Hp}{vs:List V}{ds:List D}(lo hi:Option Int)(m:BJ K S H vs ds):BJ K S H (lO vs lo hi) (cY ds lo hi):=by
 unfold lO cY
 rw[m.length]
 exact(m.drop _).take _
theorem rG:Lx X (Bu X.K ex):=by
 intro pins s σ H x v vl vu lo hi sl Q I rx hs pl pu h
 obtain⟨S,d,hx,h⟩:=h
 cases d with
 | lst o ds=>
  obtain⟨a,xs,rfl,q,m⟩:=hx.CH
  exact jN pins s σ H _ v vl vu lo hi sl Q I rx hs pl pu ⟨a,xs,rfl,q,fun p hp=>h.ok _ _ (.upd hp) (l9 hp (jW lo hi m))⟩
 | str z=>
  cases hx.Cr
  obtain⟨g,h⟩:=BK.BN h
  exact v8 pins s σ H _ v vl vu lo hi sl Q I rx hs pl pu ⟨z,rfl,aQ g,h.ok _ _ (.refl _) (.str _)⟩
 | _=>exact h.no.elim
theorem iA {ns:List Int}{us:List Value}(r:Vals (ns.map V.int) us):IntsAre us ns:=intsAre_of r
theorem iB {ns:List Str}:∀ {us:List Value},Vals (ns.map V.str) us->StrsAre us ns:=by
 induction ns with
 | nil=>intro us r;rw[List.map_nil] at r;cases r;exact .nil
 | cons n ns ih=>
  intro us r
  rw[List.map_cons] at r
  cases r with
  | cons r1 r2=>
   obtain⟨t,e⟩:=r1
   subst e
   exact .cons n t (ih r2)
theorem dn:∀ {ds:List D}{ns:List Int},a9 ds=some ns->ds=ns.map .int
 | [],ns,h=>by cases h;rfl
 | .int i::r,ns,h=>by
  have h':(a9 r).map (i::·)=some ns:=h
  cases q:a9 r with
  | none=>rw[q] at h';cases h'
  | some ms=>
   rw[q] at h'
   cases h'
   rw[dn q]
   rfl
 | .B5::_,_,h=>by cases h
 | .bl _::_,_,h=>by cases h
 | .str _::_,_,h=>by cases h
 | .tup _::_,_,h=>by cases h
 | .lst _ _::_,_,h=>by cases h
theorem dq:∀ {ds:List D}{ns:List Str},br ds=some ns->ds=ns.map .str
 | [],ns,h=>by cases h;rfl
 | .str i::r,ns,h=>by
  have h':(br r).map (i::·)=some ns:=h
  cases q:br r with
  | none=>rw[q] at h';cases h'
  | some ms=>
   rw[q] at h'
   cases h'
   rw[dq q]
   rfl
 | .B5::_,_,h=>by cases h
 | .bl _::_,_,h=>by cases h
 | .int _::_,_,h=>by cases h
 | .tup _::_,_,h=>by cases h
 | .lst _ _::_,_,h=>by cases h
theorem me (hc:X.calm=true):bW X (.builtin "sum") (fun xs H Q=>∃ (p:Addr) (ns:List Int),xs=[.ref p]/\Dd X.K H p (ns.map V.int)/\Q (.int ns.sum) H):=by
 intro pins s σ H xs us Q I r h
 obtain⟨p,ns,rfl,hq,q⟩:=h
 obtain⟨u,rfl,rx⟩:=vals1 r
 cases rx
 obtain⟨its,rv,pl,hz⟩:=I.list hq
 have hi:=iA rv
 refine call_sum_walkG (wpAny_pyIter_list pl.isList ?_)
 have CY:p < s.heap.objs.size:=by
  obtain⟨o,e,_⟩:=pl.isList
  exact Heap.lt_size e
 refine⟨s.heap.objs.size,_,_,_,_,_,fun i=>ns.getD i 0,rfl,Walks.list (A:=X.A.in1) (show X.A.in1.handled=none from I.ok.hd hc) s.heap.objs.size p (Nat.ne_of_lt CY) its.toArray,⟨⟨_,Heap.get?_push_size _ rfl,rfl,rfl⟩,?_⟩,?_,?_,?_⟩
 ·obtain⟨o,e,c,n,d⟩:=pl.isList
  exact⟨o,Heap.get?_push_of_some _ e,c,n,d⟩
 ·intro b hb
  have:b=s.heap.objs.size∨b=p:=by simpa using hb
  have hs:(s.heap.push {cls:=.type "list_iterator",data:=.fields #[.ref p,.int 0 0]}).objs.size=s.heap.objs.size+1:=Heap.size_push ..
  show b < (s.heap.push _).objs.size
  rw[Heap.size_push]
  rcases this with rfl|rfl
  ·exact Nat.lt_succ_self _
  ·exact Nat.lt_succ_of_lt CY
 ·intro i v hv
  have MR:its[i]? = some v:=by simpa using hv
  have key:∀ {us:List Value}{ns:List Int},IntsAre us ns->∀ i v,us[i]? = some v->∃ t,v=Value.int (ns.getD i 0) t:=by
   intro us ns hI
   induction hI with
   | nil=>intro i v z;simp at z
   | cons n t _ ih=>
    intro i v z
    cases i with
    | zero=>simp at z;exact⟨t,by rw[<- z];simp⟩
    | succ j=>simpa using ih j v (by simpa using z)
  exact key hi i v MR
 ·intro h' tk t' kp
  refine⟨.int ns.sum,H,?_,⟨t',?_⟩,q⟩
  ·refine I.kept (t':=tk) fun b o e=>kp b o ?_ (Heap.get?_push_of_some _ e)
   intro hm
   have hb:b=s.heap.objs.size:=by simpa using hm
   subst hb
   exact absurd (Heap.lt_size e) (Nat.lt_irrefl _)
  ·have hl:=rv.length
   rw[List.length_map] at hl
   rw[preSum_getD,show its.toArray.size=ns.length by simp[hl],List.take_length]
noncomputable def cA:Bi->Str
 | .len=>"len" | .sum=>"sum" | .min2=>"min" | .max2=>"max" | .Hb=>"max" | .sorted=>"sorted" | .list=>"list" | .tuple=>"tuple" | .ord=>"ord" | .int=>"int" | .all=>"all" | .any=>"any" | .str=>"str" | .set=>"set" | .abs=>"abs"
noncomputable def yC:Bi->Bool
 | .list=>true|.tuple=>true|.int=>true|.str=>true|.set=>true
 | _=>false
noncomputable def yD:Bi->String
 | .len=>"len" | .sum=>"sum" | .min2=>"min" | .max2=>"max" | .Hb=>"max" | .sorted=>"sorted" | .list=>"list" | .tuple=>"tuple" | .ord=>"ord" | .int=>"int" | .all=>"all" | .any=>"any" | .str=>"str" | .set=>"set" | .abs=>"abs"
noncomputable def nJ (f:Bi):Value:=if yC f=true then .type (yD f) else .builtin (yD f)
theorem jX (f:Bi):bootBuiltins (cA f)=some (nJ f):=by cases f<;>decide +kernel
def OI (K:PySem.W.Frag)(ex:Str->Prop)(f:Bi):List V->Hp->VK->Prop:=fun xs H Q=>∃ S ds,BJ K S H xs ds/\BK ex (bX f ds) (Kk K S H Q)
theorem BJ.IL {K:PySem.W.Frag}{S:Addr->Prop}{H:Hp}{xs:List V}{d:D}(h:BJ K S H xs [d]):∃ x,xs=[x]/\BL K S H x d:=by
 cases h with
 | cons h1 h2=>cases h2;exact⟨_,rfl,h1⟩
theorem BJ.MS {K:PySem.W.Frag}{S:Addr->Prop}{H:Hp}{xs:List V}{d e:D}(h:BJ K S H xs [d,e]):∃ x y,xs=[x,y]/\BL K S H x d/\BL K S H y e:=by
 cases h with
 | cons h1 h2=>
  cases h2 with
  | cons h3 h4=>cases h4;exact⟨_,_,rfl,h1,h3⟩
theorem fL {K:PySem.W.Frag}{S:Addr->Prop}{H:Hp}(z:Str):BJ K S H (c9 z) (cO z):=by
 unfold c9 cO
 induction z.cps.toList with
 | nil=>exact .nil
 | cons c cs ih=>exact .cons (.str _) ih
theorem rH (hc:X.calm=true)(f:Bi):bW X (nJ f) (OI X.K ex f):=by
 intro pins s σ H xs us Q I r h
 obtain⟨S,ds,hx,h⟩:=h
 have stuck:∀ {P:Prop},bX f ds=BR->P:=fun z=>by rw[z] at h;exact h.no.elim
 have one:∀ {d e:D}{r':List D},ds=d::e::r'->¬ (f=.min2∨f=.max2)->bX f ds=BR:=by
  intro d e r' z nf
  subst z
  cases f<;>first|rfl|(exfalso;exact nf (.inl rfl))|(exfalso;exact nf (.inr rfl))|(cases d<;>rfl)
 have two:∀ {d e g:D}{r':List D},ds=d::e::g::r'->bX f ds=BR:=by
  intro d e g r' z
  subst z
  cases f<;>first|rfl|(cases d<;>rfl)|(cases d<;>cases e<;>rfl)
 have nil:ds=[]->bX f ds=BR:=by
  intro z
  subst z
  cases f<;>rfl
 match ds,hx with
 | [],hx=>exact stuck (nil rfl)
 | d::e::g::r',hx=>exact stuck (two rfl)
 | [d,e],hx=>
  by_cases nf:f=.min2∨f=.max2
  ·obtain⟨x,y,rfl,hd,he⟩:=hx.MS
   rcases nf with rfl|rfl
   ·cases d with
    | int a=>
     cases e with
     | int b=>cases hd.Ca;cases he.Ca;exact lM hc pins s σ H _ us Q I r ⟨a,b,rfl,h.ok _ _ (.refl _) (.int _)⟩
     | _=>exact stuck rfl
    | _=>exact stuck rfl
   ·cases d with
    | int a=>
     cases e with
     | int b=>cases hd.Ca;cases he.Ca;exact lL hc pins s σ H _ us Q I r ⟨a,b,rfl,h.ok _ _ (.refl _) (.int _)⟩
     | _=>exact stuck rfl
    | _=>exact stuck rfl
  ·exact stuck (one rfl nf)
 | [d],hx=>
  obtain⟨x,rfl,hd⟩:=hx.IL
  cases f with
  | len=>
   cases d with
   | str z=>cases hd.Cr;obtain⟨g,h⟩:=BK.BN h;exact C3 pins s σ H _ us Q I r ⟨_,_,rfl,⟨aQ g,rfl⟩,h.ok _ _ (.refl _) (.int _)⟩
   | tup ds=>
    obtain⟨a,ys,rfl,q,m⟩:=hd.CZ
    exact C3 pins s σ H _ us Q I r ⟨_,ds.length,rfl,.inr ⟨ys,q,m.length.symm⟩,h.ok _ _ (.refl _) (.int _)⟩
   | lst o ds=>
    obtain⟨a,ys,rfl,q,m⟩:=hd.CH
    exact C3 pins s σ H _ us Q I r ⟨_,ds.length,rfl,.inl ⟨ys,q,m.length.symm⟩,h.ok _ _ (.refl _) (.int _)⟩
   | _=>exact stuck rfl
  | sum=>
   cases d with
   | lst o ds=>
    obtain⟨a,ys,rfl,q,m⟩:=hd.CH
    have h':BK ex (match a9 ds with|some ns=>BN (decide (ns.length<=1000000)) (.ok (.int ns.sum))|none=>BR) (Kk X.K S H Q):=h
    cases z:a9 ds with
    | none=>rw[z] at h';exact h'.no.elim
    | some ns=>
     rw[z] at h'
     obtain⟨_,h'⟩:=BK.BN h'
     rw[dn z] at m
     rw[m.ints] at q
     exact me hc pins s σ H _ us Q I r ⟨a,ns,rfl,q,h'.ok _ _ (.refl _) (.int _)⟩
   | _=>exact stuck rfl
  | all=>cases d<;>exact stuck rfl
  | any=>cases d<;>exact stuck rfl
  | ord=>cases d<;>exact stuck rfl
  | int=>cases d<;>exact stuck rfl
  | list=>
   cases d with
   | tup ds=>
    obtain⟨a,ys,rfl,q,m⟩:=hd.CZ
    exact cy pins s σ H _ us Q I r ⟨a,ys,rfl,.inr q,fun p hp=>h.ok _ _ (.upd hp) (l9 hp m)⟩
   | lst o ds=>
    obtain⟨a,ys,rfl,q,m⟩:=hd.CH
    exact cy pins s σ H _ us Q I r ⟨a,ys,rfl,.inl q,fun p hp=>h.ok _ _ (.upd hp) (l9 hp m)⟩
   | str z=>
    cases hd.Cr
    obtain⟨g,h⟩:=BK.BN h
    exact cZ hc pins s σ H _ us Q I r ⟨z,rfl,aQ g,fun p hp=>h.ok _ _ (.upd hp) (l9 hp (fL z))⟩
   | _=>exact stuck rfl
  | abs=>cases d<;>exact stuck rfl
  | min2=>cases d<;>exact stuck rfl
  | max2=>cases d<;>exact stuck rfl
  | Hb=>cases d<;>exact stuck rfl
  | sorted=>cases d<;>exact stuck rfl
  | tuple=>cases d<;>exact stuck rfl
  | str=>exact stuck rfl
  | set=>exact stuck rfl
def CV (X:Cx)(x:Str)(v:V):Prop:=(∃ C,v=.ref C/\X.mg x=some (.ref C))∨(∃ T,v=.ty T/\X.mg x=none/\bootBuiltins x=some (.type T))
noncomputable def vv:V->Value
 | .ref C=>.ref C
 | .ty T=>.type T
 | _=>.none
theorem CV.rel {x:Str}{v:V}{u:Value}(h:CV X x v)(r:RelV v u):u=vv v:=by
 rcases h with ⟨C,rfl,_⟩|⟨T,rfl,_⟩<;>exact r
theorem rJ {pins:List (Addr×Obj)}{s:Shared}{σ:St}{H:Hp}{a C:Addr}{c:Str}{cv:Value}{b:Bool}{Q:VK}(I:Inv X pins σ H s)(h:CA X.K H a (.inr c))(hC:PySem.W.nsIn X.K mainGlobals c=some (some (.ref C)))(hA:ExcAt X.K C)(hk:PySem.W.kitOne X.K (.ref C) cv=some b)(q:Q (.bl b) H) :
  wpAny (model X.prog X.w) X.A (call (.builtin "isinstance") [.ref a,cv]) (EP X pins σ Q) X.xe s:=by
 obtain⟨C',o,vs,h1,_,h3,h4,_⟩:=I.Di h
 rw[hC] at h1
 cases h1
 exact PySem.W.kia_one (iz hA) I.Eo ⟨o,h3,h4⟩ hk (fun z=>nomatch z) fun tk=>⟨.bl _,H,I.tok _,rfl,q⟩
theorem rK {pins:List (Addr×Obj)}{s:Shared}{σ:St}{H:Hp}{a p C:Addr}{c:Str}{v1 v2:V}{b:Bool}{Q:VK}{x1 x2:Str}(I:Inv X pins σ H s)(h:CA X.K H a (.inr c))(hC:PySem.W.nsIn X.K mainGlobals c=some (some (.ref C)))(hA:ExcAt X.K C)(c1:CV X x1 v1)(c2:CV X x2 v2)(hp:De X.K H p [v1,v2])(hk:PySem.W.kitAny X.K (.ref C) [vv v1,vv v2]=some b)(q:Q (.bl b) H) :
  wpAny (model X.prog X.w) X.A (call (.builtin "isinstance") [.ref a,.ref p]) (EP X pins σ Q) X.xe s:=by
 obtain⟨C',o,vs,h1,_,h3,h4,_⟩:=I.Di h
 rw[hC] at h1
 cases h1
 obtain⟨its,rv,⟨ot,e1,e2,e3⟩,_⟩:=I.tuple hp
 obtain⟨u1,u2,rfl,r1,r2⟩:=vals2 rv
 rw[<- c1.rel r1,<- c2.rel r2] at hk
 obtain⟨k1,k2,k3,k4⟩:=ot
 dsimp only at e2 e3
 subst e2
 obtain⟨n,e3⟩:=e3
 subst e3
 exact PySem.W.kia_tup (iz hA) I.Eo ⟨o,h3,h4⟩ e1 hk (fun z=>nomatch z) fun tk=>⟨.bl _,H,I.tok _,rfl,q⟩
noncomputable def eR:Mt->Str
 | .join=>"join" | .index=>"index" | .starts=>"startswith"
noncomputable def Bv:Mt->String
 | .join=>"str.join" | .index=>"str.index" | .starts=>"str.startswith"
def OJ (K:PySem.W.Frag)(ex:Str->Prop)(m:Mt):V->List V->Hp->VK->Prop:=fun x xs H Q=>∃ S d ds,BL K S H x d/\BJ K S H xs ds/\BK ex (eP m d ds) (Kk K S H Q)
theorem nK {m:Mt}{d:D}{ds:List D}{k:D->Prop}(h:BK ex (eP m d ds) k):∃ x,d=.str x:=by
 cases m<;>cases d<;>first|exact⟨_,rfl⟩|exact h.no.elim
theorem gA (m:Mt)(hc:m=.index->X.calm=true):N6 X (Bv m) (OJ X.K ex m):=by
 intro pins s σ H x xs v us Q I rx rs h
 obtain⟨S,d,ds,hx,hs,h⟩:=h
 obtain⟨z,rfl⟩:=nK h
 cases hx.Cr
 obtain⟨t,rfl⟩:=rx
 have stuck:∀ {P:Prop},eP m (.str z) ds=BR->P:=fun z=>by rw[z] at h;exact h.no.elim
 match ds,hs with
 | [],_=>cases m<;>exact stuck rfl
 | d::e::r,_=>cases m<;>cases d<;>exact stuck rfl
 | [d],hs=>
  obtain⟨y,rfl,hd⟩:=hs.IL
  obtain⟨u,rfl,ru⟩:=vals1 rs
  cases m with
  | join=>
   cases d with
   | lst o ds=>
    obtain⟨a,ys,rfl,q,m⟩:=hd.CH
    cases ru
    have h':BK ex (match br ds with|some ys=>BN (decide ((ys.map (·.length)).sum+ys.length*z.length<=16777216)) (.ok (.str (Txt.join z ys)))|none=>BR) (Kk X.K S H Q):=h
    cases w:br ds with
    | none=>rw[w] at h';exact h'.no.elim
    | some ns=>
     rw[w] at h'
     obtain⟨g,h'⟩:=BK.BN h'
     rw[dq w] at m
     rw[m.strs] at q
     obtain⟨its,rv,pl,_⟩:=I.list q
     exact join_list pl.isList (by simpa using iB rv) (of_decide_eq_true g) fun t' k=>⟨.str _,H,I.tok _,⟨_,rfl⟩,h'.ok _ _ (.refl _) (.str _)⟩
   | _=>exact stuck rfl
  | index=>cases d<;>exact stuck rfl
  | starts=>cases d<;>exact stuck rfl
noncomputable def MT (x:Str):It:=⟨fun i _=>i < x.cps.size,fun i H v H'=>H'=H/\∃ c,x.cps[i]? = some c/\v=.str ⟨#[c]⟩,fun i _=>x.cps.size<=i⟩
theorem nL {P:Program}{w:World}{K:PySem.W.Frag}{tg:Expr}{it:Addr}{x:Str}{t:Tok}{ty:String}(Jy:ty = "str_ascii_iterator"∨ty = "str_iterator")
  (W:∀ A':Around,A'.handled=none->Walks P w A' it [it] [it] x.cps.size (SignAt x) (fun i h=>h.IsStrIter it ty x t i)):Turn P w K tg (MT x) [it] it (fun i h=>i<=x.cps.size/\h.IsStrIter it ty x t i) where
 mem:=by simp
 obj:=fun i h st b hb=>by
  have e:b=it:=by simpa using hb
  subst e
  obtain⟨_,o,e,c,d⟩:=st
  exact⟨o,e,fun v z=>by rw[d] at z;cases z⟩
 keep:=fun i h h' st k=>by
  obtain⟨l,o,e,c,d⟩:=st
  exact⟨l,o,k it (by simp) o e,c,d⟩
 item:=by
  intro X hP hw hK hc i pins s σ H E I hf st hg
  subst hP hw hK
  obtain⟨f0,f1,f2,f3,f4,f5⟩:=hf it (by simp)
  refine(W X.A (I.ok.hd hc)).item i s _ _ hg st.2 fun v h' tk hv Ez kk=>?_
  obtain⟨c,u,Q5,rfl⟩:=hv
  have I1:Inv X pins σ H {s with heap:=h',toks:=tk}:=I.turned (fun b o hb e=>kk b o (by simpa using hb) e) f0 f1 f3 f4 f5
  obtain⟨o,e,cc,d⟩:=id Ez
  refine⟨_,rfl,jM (s:={s with heap:=h',toks:=tk}) (n:=ty) e cc d (by rcases Jy with rfl|rfl<;>decide) ⟨.str ⟨#[c]⟩,H,I1,⟨u,rfl⟩,⟨rfl,c,Q5,rfl⟩,⟨hg,Ez⟩,fun b hb=>(hf b hb).1⟩⟩
 done:=by
  intro X hP hw hK hc i pins s σ H E I hf st hg
  subst hP hw hK
  obtain⟨f0,f1,f2,f3,f4,f5⟩:=hf it (by simp)
  have e:i=x.cps.size:=Nat.le_antisymm st.1 hg
  refine(W X.A (I.ok.hd hc)).done s _ _ (by rw[<- e];exact st.2) fun h' tk kk=>⟨rfl,I.turned (fun b o hb e=>kk b o (by simpa using hb) e) f0 f1 f3 f4 f5⟩
 self:=fun A i s Q E st h=>by
  obtain⟨_,st⟩:=st
  rcases Jy with rfl|rfl
  ·exact wpAny_pyIter_striter_ascii st h
  ·exact wpAny_pyIter_striter_wide st h
theorem wa {tg:Expr}{pins:List (Addr×Obj)}{s:Shared}{σ:St}{H:Hp}{x:Str}{t:Tok}{R:It->Hp->Prop}(I:Inv X pins σ H s)(q:R (MT x) H):wpAny (model X.prog X.w) X.A (pyIter (.str x t)) (Jx X pins σ tg R) X.xe s:=by
 have fin:∀ ty,(ty = "str_ascii_iterator"∨ty = "str_iterator")->(∀ A':Around,A'.handled=none->Walks X.prog X.w A' s.heap.objs.size [s.heap.objs.size] [s.heap.objs.size] x.cps.size (SignAt x) (fun i h=>h.IsStrIter s.heap.objs.size ty x t i))->
   Jx X pins σ tg R (.ref s.heap.objs.size) {s with heap:=s.heap.push {cls:=.type ty,data:=.fields #[.str x t,.int 0 0]}}:=fun ty Jy W=>by
  refine⟨s.heap.objs.size,[s.heap.objs.size],_,_,H,rfl,I.kept (t':=s.toks) fun b o e=>Heap.get?_push_of_some _ e,nL Jy W,⟨Nat.zero_le _,_,Heap.get?_push_size _ rfl,rfl,rfl⟩,fun b hb=>?_,q⟩
  have e:b=s.heap.objs.size:=by simpa using hb
  subst e
  exact I.Fy (Nat.le_refl _) (I.BY.fresh (Nat.le_refl _))
 cases ha:x.cps.all (· < 128)
 ·exact wpAny_pyIter_wide ha (fin _ (.inr rfl) fun A' hA=>Walks.strWide hA _ x t)
 ·exact wpAny_pyIter_ascii ha (fin _ (.inl rfl) fun A' hA=>Walks.strAscii hA _ x t)
end
theorem aP.at {P:Program}{w:World}{H:Hp}{h:Heap}{a:Addr}{o:HO}(x:aP P w H h a o):∃ ob,h.get? a=some ob:=by
 cases o with
 | lst xs=>obtain⟨_,_,_,_,e⟩:=x;exact⟨_,e⟩
 | tup xs=>obtain⟨_,_,_,ob,e,_⟩:=x;exact⟨_,e⟩
 | dK kvs=>obtain⟨_,_,_,_,o,_,_,e,_⟩:=x;exact⟨_,e⟩
 | dT kvs=>obtain⟨_,_,_,_,o,_,_,e,_⟩:=x;exact⟨_,e⟩
 | set S n=>obtain⟨o,_,_,_,e,_⟩:=x;exact⟨_,e⟩
 | ins C dx fs=>obtain⟨_,_,_,e,_⟩:=x;exact⟨_,e⟩
 | own y=>exact x
 | xd fs=>obtain⟨_,⟨_,_,_,e,_⟩,_⟩:=x;exact⟨_,e⟩
 | FK lo hi=>obtain⟨_,_,_,e⟩:=x;exact⟨_,e⟩
 | B6 ob u=>exact⟨_,x.1⟩
 | Hv ps=>exact⟨_,x⟩
 | met f y=>exact⟨_,x⟩
 | ext φ=>exact x.2.1
noncomputable def indep:HO->Bool
 | .lst _=>true
 | .tup _=>true
 | .ext _=>true
 | .dK _=>true
 | _=>false
theorem dz {P:Program}{w:World}{H H':Hp}{h:Heap}{a:Addr}{u:HO}(i:indep u=true)(x:aP P w H h a u):aP P w H' h a u:=by
 cases u with
 | lst _=>exact x
 | tup _=>exact x
 | ext _=>exact x
 | dK _=>exact x
 | _=>cases i
noncomputable def aC (h:Heap)(H:Hp):Hp:=fun b=>match H b with
 | some (.lst xs)=>(h.get? b).map fun o=>.B6 o (.lst xs)
 | some (.dK kvs)=>(h.get? b).map fun o=>.B6 o (.dK kvs)
 | some (.tup xs)=>some (.tup xs)
 | some (.B6 o u)=>if indep u=true then some (.B6 o u) else none
 | _=>none
noncomputable def b8 (H H':Hp):Hp:=fun b=>match H b with
 | some o=>some o
 | none=>H' b
def IM (H:Hp):Prop:=∀ b o,H b=some o->(∃ ob u,o=.B6 ob u)∨∃ xs,o=.tup xs
theorem jq (h:Heap)(H:Hp):IM (aC h H):=fun b o e=>by
 unfold aC at e
 split at e
 ·obtain⟨ob,_,rfl⟩:=Option.map_eq_some_iff.mp e
  exact .inl ⟨_,_,rfl⟩
 ·obtain⟨ob,_,rfl⟩:=Option.map_eq_some_iff.mp e
  exact .inl ⟨_,_,rfl⟩
 ·cases e;exact .inr ⟨_,rfl⟩
 ·split at e
  ·cases e;exact .inl ⟨_,_,rfl⟩
  ·cases e
 ·cases e
structure Ee (h:Heap)(Hc H':Hp):Prop where
 CJ:∀ b o u,Hc b=some (.B6 o u)->H' b=some (.B6 o u)
 C2:∀ b xs,Hc b=some (.tup xs)->H' b=some (.tup xs)
 free:∀ b o,h.get? b=some o->Hc b=none->H' b=none
inductive Bk (h:Heap)(H H':Hp)(b:Addr):HO->Prop where
 | lst {xs:List V}{ob:Obj}:h.get? b=some ob->H' b=some (.B6 ob (.lst xs))->Bk h H H' b (.lst xs)
 | dK {xs:List (Key×V)}{ob:Obj}:h.get? b=some ob->H' b=some (.B6 ob (.dK xs))->Bk h H H' b (.dK xs)
 | tup {xs:List V}:H' b=some (.tup xs)->Bk h H H' b (.tup xs)
 | B6 {o:Obj}{u:HO}:indep u=true->H' b=some (.B6 o u)->Bk h H H' b (.B6 o u)
 | CN {o:HO}{ob:Obj}:h.get? b=some ob->aC h H b=none->H' b=none->(∀ xs,o≠.lst xs)->(∀ xs,o≠.tup xs)->(∀ xs,o≠.dK xs)->Bk h H H' b o
section
variable {P:Program}{w:World}{H H':Hp}{h g:Heap}
theorem fM (x:Cm P w H h)(p:Ee h (aC h H) H'){b:Addr}{o:HO}(e:H b=some o):Bk h H H' b o:=by
 obtain⟨ob,he⟩:=(x b o e).at
 have hc:aC h H b=(match (some o:Option HO) with
  | some (.lst xs)=>(h.get? b).map fun o=>.B6 o (.lst xs)
  | some (.dK kvs)=>(h.get? b).map fun o=>.B6 o (.dK kvs)
  | some (.tup xs)=>some (.tup xs)
  | some (.B6 o u)=>if indep u=true then some (.B6 o u) else none
  | _=>none):=by unfold aC;rw[e]
 cases o with
 | lst xs=>
  have hc:aC h H b=(h.get? b).map fun o=>.B6 o (.lst xs):=hc
  rw[he] at hc
  exact .lst he (p.CJ _ _ _ hc)
 | dK xs=>
  have hc:aC h H b=(h.get? b).map fun o=>.B6 o (.dK xs):=hc
  rw[he] at hc
  exact .dK he (p.CJ _ _ _ hc)
 | tup xs=>exact .tup (p.C2 _ _ hc)
 | B6 o' u=>
  have hc:aC h H b=if indep u=true then some (.B6 o' u) else none:=hc
  by_cases i:indep u=true
  ·rw[if_pos i] at hc
   exact .B6 i (p.CJ _ _ _ hc)
  ·rw[if_neg i] at hc
   exact .CN he hc (p.free _ _ he hc) (fun _ z=>by cases z) (fun _ z=>by cases z) (fun _ z=>by cases z)
 | _=>exact .CN he hc (p.free _ _ he hc) (fun _ z=>by cases z) (fun _ z=>by cases z) (fun _ z=>by cases z)
theorem jr (x:Cm P w H h):Cm P w (aC h H) h:=fun b o e=>by
 cases q:H b with
 | none=>unfold aC at e;rw[q] at e;cases e
 | some u=>
  have y:=x b u q
  unfold aC at e
  rw[q] at e
  cases u with
  | lst xs=>
   obtain⟨ob,he⟩:=y.at
   have e:(h.get? b).map (fun o=>HO.B6 o (.lst xs))=some o:=e
   rw[he] at e
   cases e
   exact⟨he,y⟩
  | dK xs=>
   obtain⟨ob,he⟩:=y.at
   have e:(h.get? b).map (fun o=>HO.B6 o (.dK xs))=some o:=e
   rw[he] at e
   cases e
   exact⟨he,y⟩
  | tup xs=>cases e;exact y
  | B6 o' u=>
   have e:(if indep u=true then some (HO.B6 o' u) else none)=some o:=e
   by_cases i:indep u=true
   ·rw[if_pos i] at e;cases e;exact⟨y.1,dz i y.2⟩
   ·rw[if_neg i] at e;cases e
  | _=>cases e
theorem bg (e:H a=none):aC h H a=none:=by unfold aC;rw[e]
theorem res_some {b:Addr}{o:HO}(e:H b=some o):b8 H H' b=some o:=by unfold b8;rw[e]
theorem res_none {b:Addr}(e:H b=none):b8 H H' b=H' b:=by unfold b8;rw[e]
theorem iC:au H (b8 H H'):=fun b o e=>res_some e
theorem eS (x:Cm P w H h)(y:Cm P w H' g)(p:Ee h (aC h H) H'){fs:List Addr}(keep:∀ b o,H b≠none->h.get? b=some o->aC h H b=none->b∉fs->g.get? b=some o)(fr:∀ b∈fs,H b=none):Cm P w (b8 H H') g:=by
 have tp:∀ c xs,H' c=some (.tup xs)->b8 H H' c=some (.tup xs):=fun c xs e=>by
  cases q:H c with
  | none=>rw[res_none q];exact e
  | some o=>
   rw[res_some q]
   cases fM x p q with
   | lst _ z=>rw[z] at e;cases e
   | dK _ z=>rw[z] at e;cases e
   | tup z=>rw[z] at e;exact e
   | B6 _ z=>rw[z] at e;cases e
   | CN _ _ z _ _ _=>rw[z] at e;cases e
 intro b o e
 cases q:H b with
 | some o'=>
  rw[res_some q] at e
  cases e
  cases fM x p q with
  | lst h1 z=>
   have h2:=(y b _ z).1
   obtain⟨a1,its,n,a2,a3⟩:=x b _ q
   rw[h1] at a3
   exact⟨a1,its,n,a2,by rw[h2,<- a3]⟩
  | dK h1 z=>exact dz rfl (y b _ z).2
  | tup z=>exact y b _ z
  | B6 i z=>exact⟨(y b _ z).1,dz i (y b _ z).2⟩
  | CN h1 h2 z n1 n2 n3=>
   refine(x b _ q).Dk (fun c u hc hu=>?_) (fun c hc=>res_some hc) fun c xs hc=>res_some hc
   rcases hc with rfl|hc
   ·exact keep _ _ (by rw[q];simp) hu h2 fun z=>by rw[fr _ z] at q;cases q
   ·refine keep _ _ (by rw[hc];simp) hu ?_ fun z=>by rw[fr _ z] at hc;cases hc
    unfold aC
    rw[hc]
 | none=>
  rw[res_none q] at e
  refine(y b o e).Dk (fun _ _ _ z=>z) (fun c hc=>?_) tp
  cases q':H c with
  | none=>rw[res_none q'];exact hc
  | some o'=>
   exfalso
   cases fM x p q' with
   | lst _ z=>rw[z] at hc;cases hc
   | dK _ z=>rw[z] at hc;cases hc
   | tup z=>rw[z] at hc;cases hc
   | B6 _ z=>rw[z] at hc;cases hc
   | CN _ _ z _ _ _=>rw[z] at hc;cases hc
theorem cB {fs:List Addr}(u:Un fs [] (aC h H) H' h g):Ee h (aC h H) H':=⟨u.CJ,u.C2,fun b o e n=>u.free b o e n (by simp)⟩
theorem gB {fs:List Addr}(x:Cm P w H h)(u:Un fs [] (aC h H) H' h g):Un fs [] H (b8 H H') h g where
 keep:=fun b o e n f i=>u.keep b o e (bg n) f i
 slot:=fun b o e n f i=>u.slot b o e (bg n) f i
 free:=fun b o e n i=>by rw[res_none n];exact u.free b o e (bg n) i
 there:=u.there
 C2:=fun b xs e=>res_some e
 CJ:=fun b o v e=>res_some e
 DK:=fun b ps e=>⟨#[],by rw[res_some e];simp⟩
end
noncomputable def H0:Hp:=fun _=>none
noncomputable def C7 (P:Program)(w:World):C6:=fun outer H s E e s'=>∃ (a:Addr) (cls a0:Value) (H':Hp) (B:Heap),e=.ref a/\s'.os=s.os/\AllBare s'.gens/\Un (CI outer) [] H H' s.heap s'.heap/\Cm P w H' B/\au H H'/\
 (∀ b o,s.heap.get? b=some o->H b=none->b∉CI outer->B.get? b=some o)/\Heap.FlyingW B outer a cls a0 s'.heap/\E cls none H0
def Fp (K:PySem.W.Frag):XK->Hp->Str->Prop:=fun E _ c=>∀ C,PySem.W.nsIn K mainGlobals c=some (some (.ref C))->E (.ref C) none H0
noncomputable def bb:List Str:=["len","sum","min","max","sorted","list","tuple","ord","int","all","any","str","set","abs","isinstance","range","bool","zip","reversed","dict"]
noncomputable def fN:Bi->Nat
 | .len=>0|.sum=>1|.min2=>2|.max2=>3|.Hb=>3|.sorted=>4|.list=>5|.tuple=>6|.ord=>7|.int=>8|.all=>9|.any=>10|.str=>11|.set=>12|.abs=>13
theorem nM (f:Bi):bb[fN f]? = some (cA f):=by cases f<;>rfl
mutual
noncomputable def mf:D->D->Bool
 | .B5,.B5=>true
 | .bl a,.bl b=>a == b
 | .int a,.int b=>a == b
 | .str a,.str b=>a == b
 | .tup a,.tup b=>eT a b
 | .lst o a,.lst o' b=>o == o'&&eT a b
 | _,_=>false
noncomputable def eT:List D->List D->Bool
 | [],[]=>true
 | a::r,b::s=>mf a b&&eT r s
 | _,_=>false
end
mutual
theorem jY:∀ {a b:D},mf a b=true->a=b
 | .B5,b,h=>by cases b<;>first|rfl|cases h
 | .bl a,b,h=>by cases b<;>first|(rw[eq_of_beq (show (a == _)=true from h)])|cases h
 | .int a,b,h=>by cases b<;>first|(rw[eq_of_beq (show (a == _)=true from h)])|cases h
 | .str a,b,h=>by cases b<;>first|(rw[eq_of_beq (show (a == _)=true from h)])|cases h
 | .tup a,b,h=>by
  cases b with
  | tup b=>rw[eU (show eT a b=true from h)]
  | _=>cases h
 | .lst o a,b,h=>by
  cases b with
  | lst o' b=>
   have h':(o == o'&&eT a b)=true:=h
   rw[Bool.and_eq_true] at h'
   rw[eq_of_beq h'.1,eU h'.2]
  | _=>cases h
theorem eU:∀ {a b:List D},eT a b=true->a=b
 | [],b,h=>by cases b<;>first|rfl|cases h
 | a::r,b,h=>by
  cases b with
  | nil=>cases h
  | cons b s=>
   have h':(mf a b&&eT r s)=true:=h
   rw[Bool.and_eq_true] at h'
   rw[jY h'.1,eU h'.2]
end
structure Sg where
 nm:List Str
 JG:List (Nat×D)
 fns:List Nat
 cls:List Nat:=[]
 xt:List (Str×Nat×Bool):=[]
 pl:List Nat:=[]
 rc:List (Nat×Str):=[]
 xm:List (Str×Nat):=[]
 DX:List Nat:=[]
noncomputable def Sg.name (Z:Sg)(n:Nat):Option Str:=(bb++Z.nm)[n]?
noncomputable def Gm.EO (G:Gm)(n:Nat):Bool:=G.cm&&G.gl.contains n
theorem gC {G:Gm}{n:Nat}(h:G.EO n=true):G.gl.contains n=true:=by
 unfold Gm.EO at h;rw[Bool.and_eq_true] at h;exact h.2
theorem gD {G:Gm}{n:Nat}(h:G.EO n=true):G.cm=true:=by
 unfold Gm.EO at h;rw[Bool.and_eq_true] at h;exact h.1
noncomputable def Sg.FU (Z:Sg)(G:Gm)(f:Nat):Bool:=Z.fns.contains f&&(G.cm||Z.pl.contains f)
theorem dP {Z:Sg}{G:Gm}{f:Nat}(h:Z.FU G f=true):f∈Z.fns/\(G.cm=true∨f∈Z.pl):=by
 unfold Sg.FU at h
 rw[Bool.and_eq_true,Bool.or_eq_true] at h
 exact⟨by simpa using h.1,h.2.elim .inl fun z=>.inr (by simpa using z)⟩
noncomputable def jt:Mt->Bool
 | .join=>true
 | _=>false
noncomputable def notStar:Expr->Bool
 | .Starred ..=>false
 | _=>true
noncomputable def bx:Expr->Bool
 | .Slice ..=>false
 | _=>true
noncomputable def eV:Expr->Bool
 | .Call _ [] [] _=>false
 | _=>true
noncomputable def cP (G:Gm)(i:Nat)(x:Str):Bool:=G.N[i]? == some x&&(G.kd[i]? == some .local||G.kd[i]? == some .cell||G.kd[i]? == some .free)
noncomputable def aU (Z:Sg)(G:Gm)(n:Nat)(x:Str):Bool:=Z.name n == some x&&G.gl.contains n
noncomputable def yE:D->Const->Bool
 | .int i,.int j=>i == j
 | .str x,.str y=>x == y
 | .bl a,.bool b=>a == b
 | .B5,.none=>true
 | _,_=>false
mutual
noncomputable def bB (G:Gm):Tg->Expr->Bool
 | .nm i,.Name x _=>(G.N[i]? == some x&&(G.kd[i]? == some .local||(G.df&&G.kd[i]? == some .cell)))&&G.io != some i
 | .tp ts,.Tuple es _ _=>G.cm&&c6 G ts es
 | _,_=>false
noncomputable def c6 (G:Gm):List Tg->List Expr->Bool
 | [],[]=>true
 | t::ts,e::es=>notStar e&&bB G t e&&c6 G ts es
 | _,_=>false
end
mutual
noncomputable def DN:Tg->List Nat
 | .nm i=>[i]
 | .tp ts=>iD ts
noncomputable def iD:List Tg->List Nat
 | []=>[]
 | t::ts=>DN t++iD ts
end
noncomputable def bz (Z : Sg)(G : Gm)(scope : Scope)(G' : Gm)(fr : List Nat) : Bool :=
  (G.cm&&scope.kind == .function)&&!G'.tr&&!G'.df&&G'.kd.length == G'.N.length
 &&scope.names.all (fun y => y.2 != .cell)&&scope.names.all (fun y => y.2 != .local||scope.names.lookup y.1 == some .local)
 &&scope.names.all (fun y => y.2 != .free||(List.range G.N.length).any fun i => G.N[i]? == some y.1&&(G.kd[i]? == some .cell||G.kd[i]? == some .free))
 &&(List.range fr.length).all (fun j => G'.N[j]? == (fr[j]?).bind (G.N[·]?)&&((G'.N[j]?).bind (scope.names.lookup ·) == some .free)&&((fr[j]?).bind (G.kd[·]?) == some .cell||(fr[j]?).bind (G.kd[·]?) == some .free)
     &&(G'.kd[j]? == some (if ((fr[j]?).bind (G.kd[·]?) == some .cell) then .cell else .free)))
 &&decide (fr.length <= G'.N.length)
 &&((List.range G'.N.length).drop fr.length).all (fun j => (G'.N[j]?).bind (scope.names.lookup ·) == some .local&&G'.kd[j]? == some .local)
 &&G'.N.all (fun x => !(x == "__debug__")&&!(x == "__classdict__"))
 &&decide (G'.N.Nodup)
 &&G'.gl.all (fun n => match Z.name n with|some x => scope.names.lookup x == some .globalImplicit|none => false)
theorem af {P:Prop}(h:false=true):P:=by cases h
noncomputable def mh:List Comprehension->(Expr->Expr->List Expr->Bool)->Bool
 | [⟨t,it,fs,0⟩],k=>k t it fs
 | _,_=>false
theorem gE {gens:List Comprehension}{k:Expr->Expr->List Expr->Bool}(h:mh gens k=true):∃ t it fs,gens=[⟨t,it,fs,0⟩]/\k t it fs=true:=by
 unfold mh at h
 split at h
 ·exact⟨_,_,_,rfl,h⟩
 ·cases h
noncomputable def Hg (k:Str->Bool):Expr->Bool
 | .Name z _=>k z
 | _=>false
theorem ju {k:Str->Bool}{e:Expr}(h:Hg k e=true):∃ z p,e=.Name z p/\k z=true:=by
 cases e with
 | Name z p=>exact⟨z,p,rfl,h⟩
 | _=>exact af h
noncomputable def MU (k:List Expr->Bool):Expr->Bool
 | .Tuple es _ _=>k es
 | _=>false
theorem wb {k:List Expr->Bool}{e:Expr}(h:MU k e=true):∃ es c p,e=.Tuple es c p/\k es=true:=by
 cases e with
 | Tuple es c p=>exact⟨es,c,p,rfl,h⟩
 | _=>exact af h
noncomputable def yF (k:Expr->Expr->Bool):List Expr->Bool
 | [a,b]=>k a b
 | _=>false
noncomputable def nN (Z:Sg)(G:Gm):List Nat->Expr->Bool
 | [n],e=>Hg (fun z=>aU Z G n z&&Z.cls.contains n) e
 | [n,m],e=>MU (yF fun a b=>Hg (fun z=>aU Z G n z&&Z.cls.contains n) a&&Hg (fun y=>aU Z G m y&&Z.cls.contains m) b) e
 | _,_=>false
noncomputable def wc (Z:Sg):List Nat->Str×Bool->Bool
 | [n],p=>Z.xt.contains (p.1,n,p.2)
 | [n,m],p=>Z.xt.contains (p.1,n,false)&&Z.xt.contains (p.1,m,p.2)
 | _,_=>false
noncomputable def we:Expr->Bool
 | .Tuple _ _ _=>true
 | _=>false
noncomputable def d8:Sr->Expr->Bool
 | .zip _ _,t=>we t
 | _,_=>true
noncomputable def LM:Expr->(Str->Expr->Option Str->Bool)->Bool
 | .JoinedStr [.Constant (.str x) _ _,.FormattedValue e n none _] _,k=>n == 114&&k x e none
 | .JoinedStr [.Constant (.str x) _ _,.FormattedValue e n none _,.Constant (.str y) _ _] _,k=>n == 114&&k x e (some y)
 | _,_=>false
theorem wg {e:Expr}{k:Str->Expr->Option Str->Bool}(h:LM e k=true):∃ x e' y,k x e' y=true/\((∃ j p q pos,y=none/\e=.JoinedStr [.Constant (.str x) j p,.FormattedValue e' 114 none q] pos)∨
  ∃ w j p q j' r pos,y=some w/\e=.JoinedStr [.Constant (.str x) j p,.FormattedValue e' 114 none q,.Constant (.str w) j' r] pos):=by
 unfold LM at h
 split at h
 ·rw[Bool.and_eq_true] at h
  rw[eq_of_beq h.1]
  exact⟨_,_,_,h.2,.inl ⟨_,_,_,_,rfl,rfl⟩⟩
 ·rw[Bool.and_eq_true] at h
  rw[eq_of_beq h.1]
  exact⟨_,_,_,h.2,.inr ⟨_,_,_,_,_,_,_,rfl,rfl⟩⟩
 ·cases h
noncomputable def mi:Bool->CmpOp
 | true=>.NotIn
 | false=>.In
noncomputable def LN:Expr->Bool
 | .Dict ks vs _=>ks.isEmpty&&vs.isEmpty
 | _=>false
theorem nO {e:Expr}(h:LN e=true):∃ p,e=.Dict [] [] p:=by
 cases e with
 | Dict ks vs p=>
  have h':=Bool.and_eq_true_iff.mp (show (ks.isEmpty&&vs.isEmpty)=true from h)
  cases ks with
  | cons _ _=>exact af h'.1
  | nil=>
   cases vs with
   | cons _ _=>exact af h'.2
   | nil=>exact⟨p,rfl⟩
 | _=>exact af h
noncomputable def LO:Expr->(Expr->Expr->Bool)->Bool
 | .Subscript o s _,k=>k o s
 | _,_=>false
theorem wj {e:Expr}{k:Expr->Expr->Bool}(h:LO e k=true):∃ o s p,e=.Subscript o s p/\k o s=true:=by
 unfold LO at h
 split at h
 ·exact⟨_,_,_,rfl,h⟩
 ·cases h
noncomputable def LP:Expr->(Expr->CmpOp->Expr->Bool)->Bool
 | .Compare l [o] [r] _,k=>k l o r
 | _,_=>false
theorem wk {e:Expr}{k:Expr->CmpOp->Expr->Bool}(h:LP e k=true):∃ l o r p,e=.Compare l [o] [r] p/\k l o r=true:=by
 unfold LP at h
 split at h
 ·exact⟨_,_,_,_,rfl,h⟩
 ·cases h
noncomputable def LQ:Expr->(Str->Str->Expr->Bool)->Bool
 | .Call (.Name x _) [.Call (.Name y _) [e] [] _] [] _,k=>k x y e
 | _,_=>false
theorem wm {e:Expr}{k:Str->Str->Expr->Bool}(h:LQ e k=true):∃ x p y p' e' q' q,e=.Call (.Name x p) [.Call (.Name y p') [e'] [] q'] [] q/\k x y e'=true:=by
 unfold LQ at h
 split at h
 ·exact⟨_,_,_,_,_,_,_,rfl,h⟩
 ·cases h
noncomputable def isNm:Expr->Bool
 | .Name ..=>true
 | _=>false
noncomputable def LR:Expr->(Str->Expr->Str->Bool->Bool)->Bool
 | .Call (.Name x _) [.Call (.Attribute o name apos) [] [] BQ] [] _,k=>k x o name (apos.endLine == BQ.line)
 | _,_=>false
theorem wo {e:Expr}{k:Str->Expr->Str->Bool->Bool}(h:LR e k=true):∃ x p o name apos BQ q,e=.Call (.Name x p) [.Call (.Attribute o name apos) [] [] BQ] [] q/\k x o name (apos.endLine == BQ.line)=true:=by
 unfold LR at h
 split at h
 ·exact⟨_,_,_,_,_,_,_,rfl,h⟩
 ·cases h
noncomputable def LS:Expr->(Expr->Str->Bool->Expr->Expr->Bool)->Bool
 | .Call (.Attribute o name apos) [a,b] [] BQ,k=>k o name (apos.endLine == BQ.line) a b
 | _,_=>false
theorem wq {e:Expr}{k:Expr->Str->Bool->Expr->Expr->Bool}(h:LS e k=true):∃ o name apos a b BQ,e=.Call (.Attribute o name apos) [a,b] [] BQ/\k o name (apos.endLine == BQ.line) a b=true:=by
 unfold LS at h
 split at h
 ·exact⟨_,_,_,_,_,_,rfl,h⟩
 ·cases h
mutual
noncomputable def BW (Z:Sg)(G:Gm):IR->Expr->Bool
 | .c d,.Constant k _ _=>yE d k
 | .g n d,.Name x _=>aU Z G n x&&Z.JG.any fun p=>p.1 == n&&mf p.2 d
 | .v i,.Name x _=>cP G i x
 | .bin op a b,.BinOp l o r _=>o == IJ op&&BW Z G a l&&BW Z G b r
 | .neg a,.UnaryOp .USub e _=>BW Z G a e
 | .cmp op a b,.Compare l [o] [r] _=>o == IK op&&BW Z G a l&&BW Z G b r&&!behindInMarks o r
 | .EH a b,.BoolOp .And [e,e'] _=>BW Z G a e&&BW Z G b e'
 | .EH a b,.BoolOp .And (e::e'::MV::rest) p=>BW Z G a e&&BW Z G b (.BoolOp .And (e'::MV::rest) p)
 | .EI a b,.BoolOp .Or [e,e'] _=>BW Z G a e&&BW Z G b e'
 | .EI a b,.BoolOp .Or (e::e'::MV::rest) p=>BW Z G a e&&BW Z G b (.BoolOp .Or (e'::MV::rest) p)
 | .FD a,.UnaryOp .Not e _=>BW Z G a e
 | .tup es,.Tuple l _ _=>aD Z G es l
 | .lst es,.List l _=>aD Z G es l
 | .sl a lo hi,.Subscript e (.Slice l h none _) _=>BW Z G a e&&jv Z G lo l&&jv Z G hi h
 | .idx a i,.Subscript e s _=>bx s&&BW Z G a e&&BW Z G i s
 | .call f es,.Call (.Name x _) args [] _=>aU Z G f x&&Z.FU G f&&aD Z G es args
 | .bi f es,.Call (.Name x _) (a::args) [] _=>x == cA f&&G.EO (fN f)&&aD Z G es (a::args)
 | .Ew a ns tb,.Call (.Name x _) [e,y] [] _=>x == "isinstance"&&G.gl.contains 14&&notStar e&&nN Z G ns y&&tb.all (wc Z ns)&&BW Z G a e
 | .Dh,e=>LN e
 | .Cj a k,e=>LO e fun o s=>bx s&&BW Z G a o&&BW Z G k s
 | .FP n k a,e=>LP e fun l o r=>o == mi n&&BW Z G k l&&BW Z G a r&&!behindInMarks o r
 | .Ea a,e=>LQ e fun x y e=>x == "len"&&G.gl.contains 0&&y == "set"&&G.gl.contains 12&&(notStar e&&G.cm)&&BW Z G a e
 | .EJ a,e=>LR e fun x o n l=>x == "sum"&&G.EO 1&&isNm o&&n == "values"&&l&&BW Z G a o
 | .Dr a k d,e=>LS e fun o n l s f=>isNm o&&n == "get"&&l&&(notStar s&&notStar f)&&BW Z G a o&&BW Z G k s&&BW Z G d f
 | .FQ x a y,e=>LM e fun x' e' y'=>x == x'&&y == y'&&decide (x.length<=1000)&&BW Z G a e'
 | .Gp m o es,.Call (.Attribute oe name apos) (a::args) [] BQ=>name == eR m&&eV oe&&apos.endLine == BQ.line&&(decide ((a::args).length < 29)&&(G.cm||jt m))&&BW Z G o oe&&aD Z G es (a::args)
 | .comp G' fr tg src ifs elt,.ListComp e gens scope _=>mh gens fun t it fs=>bz Z G scope G' fr&&bB G' tg t&&(DN tg).all (fun i=>decide (fr.length<=i))&&(bR Z G src it&&d8 src t)&&aD Z G' ifs fs&&BW Z G' elt e
 | _,_=>false
noncomputable def aD (Z:Sg)(G:Gm):List IR->List Expr->Bool
 | [],[]=>true
 | a::es,e::l=>notStar e&&BW Z G a e&&aD Z G es l
 | _,_=>false
noncomputable def jv (Z:Sg)(G:Gm):Option IR->Option Expr->Bool
 | none,none=>true
 | some a,some e=>BW Z G a e
 | _,_=>false
noncomputable def bR (Z:Sg)(G:Gm):Sr->Expr->Bool
 | .CM n,.Call (.Name x _) [e] [] _=>x == "range"&&G.gl.contains 15&&notStar e&&BW Z G n e
 | .zip a b,.Call (.Name x _) [e,e'] [] _=>x == "zip"&&G.gl.contains 17&&notStar e&&notStar e'&&BW Z G a e&&BW Z G b e'
 | .val a,e=>BW Z G a e
 | _,_=>false
end
noncomputable def JH:List Value:=[.type "ValueError",.type "Exception",.type "BaseException",.type "object"]
def DU (F:Addr->Prop)(H:Hp):Prop:=∀ a,F a->H a≠none
structure Out (K:PySem.W.Frag)(F:Addr->Prop)(H:Hp)(F':Addr->Prop)(H':Hp)(v:V)(d:D)(fv:List Addr):Prop where
 B9:DU F' H'
 same:au H H'
 rep:B3 K F' H' v d fv
 Cf:fv.Nodup
 new:∀ a∈fv,H a=none
 C8:∀ a,F a->F' a
 out:∀ a,F' a->F a∨H a=none
noncomputable def Hh (K:PySem.W.Frag)(cl:Nat->List D->Res D)(xp:XK->Hp->Str->Prop)(f:Nat)(ps:List Str):Sp:=fun vs H Q E=>vs.length=ps.length/\IM H/\∃ F ds,DU F H/\BJ K F H vs ds/\
 BK (xp E H) (cl f (BV ds)) fun d=>∀ v H' F' fv,Out K F H F' H' v d fv->Q v H'
structure HQ (P:Program)(w:World)(K:PySem.W.Frag)(mg:Str->Option Value)(base:Heap)(CX:C6)(A:Around)(cl:Nat->List D->Res D)(xp:XK->Hp->Str->Prop)(f:Nat)(x:Str):Prop where
 ex:∃ (k:Nat) (fa:Addr) (fd:FuncData) (ps:List Str),mg x=some (.ref fa)/\PySem.W.keepIn K (.ref fa)=true/\Binds K fd ps []/\Df P w K mg base CX k fa fd ps (Hh K cl xp f ps)/\CW k A/\
  ∀ (ex:Str->Prop) ds (k:D->Prop),BK ex (cl f ds) k->ds.length=ps.length
noncomputable def rm (a:Addr)(H:Hp):Hp:=fun b=>if b=a then none else H b
structure IP (K:PySem.W.Frag)(a:Addr)(F:Addr->Prop)(H:Hp)(F':Addr->Prop)(H':Hp)(v:V)(d:D)(fv:List Addr)(kvs':List (Key×V))(ER:List Key)(DV:List D):Prop where
 out:Out K F (rm a H) F' H' v d fv
 nF:¬ F' a
 nf:a∉fv
 at_:H' a=some (.dK kvs')
 ks:kvs'.map (·.1)=ER
 vs:BJ K F' H' (kvs'.map (·.2)) DV
structure KH (K:PySem.W.Frag)(a:Addr)(F:Addr->Prop)(H:Hp)(ws:List V)(ds:List D)(kvs:List (Key×V))(es:List D):Prop where
 B9:DU F H
 nF:¬ F a
 at_:H a=some (.dK kvs)
 ws:BJ K F H ws ds
 vs:BJ K F H (kvs.map (·.2)) es
 lf:aI es=true
noncomputable def KI (K:PySem.W.Frag)(cl:Nat->List D->Res D)(f:Nat)(ps:List Str):Sp:=fun vs H Q _=>vs.length=ps.length/\∃ a F ws ds kvs es,vs=ws++[.ref a]/\KH K a F H ws ds kvs es/\
 ∃ d ER DV,cl f (BV ds++[.BU false (kvs.map (·.1)) es])=.ok (.tup [d,.BU false ER DV])/\aI DV=true/\∀ v H' F' fv kvs',IP K a F H F' H' v d fv kvs' ER DV->Q v H'
structure LU (P:Program)(w:World)(K:PySem.W.Frag)(mg:Str->Option Value)(base:Heap)(CX:C6)(A:Around)(cl:Nat->List D->Res D)(f:Nat)(x:Str):Prop where
 ex:∃ (k:Nat) (fa:Addr) (fd:FuncData) (ps:List Str),mg x=some (.ref fa)/\PySem.W.keepIn K (.ref fa)=true/\Binds K fd ps []/\Df P w K mg base CX k fa fd ps (KI K cl f ps)/\CW k A/\
  ∀ ds r,cl f ds=.ok r->ds.length=ps.length
structure Hk (Z:Sg)(CX:C6)(cl:Nat->List D->Res D)(xp:XK->Hp->Str->Prop)(X:Cx):Prop where
 st:X.stack=X.env::X.outer
 fr:X.env.frame=some X.env.locals
 lt:IM X.Dt
 pl:∀ a:Addr,∀ f∈Z.fns,f∈Z.pl->∀ x,Z.name f=some x->HQ X.prog X.w X.K X.mg X.base CX (X.A.mark (some (.ref a))) cl xp f x
 cx:∀ (outer:List Env) (H:Hp) (s:Shared) (E:XK) (e:Value) (s':Shared),CX outer H s E e s'->C7 X.prog X.w outer H s E e s'
 xp:∀ (c:Str) (C:Addr) (H:Hp),PySem.W.nsIn X.K mainGlobals c=some (some (.ref C))->xp (fun cls _ _=>cls=.ref C) H c
structure Cg (Z:Sg)(CX:C6)(cl:Nat->List D->Res D)(xp:XK->Hp->Str->Prop)(X:Cx)(ex:Str->Prop)(G:Gm):Prop where
 N:X.N=G.N
 Cf:G.N.Nodup
 calm:G.cm=true->X.calm=true
 fk:X.env.scope.kind=.function
 un:X.A.units+42 < cLine
 own:G.rs=true->PassesOwn (model X.prog X.w) X.A X.env X.xe
 kd:∀ (i:Nat) (x:Str),G.N[i]? = some x->X.env.kindOf x=G.kd[i]?
 Fq:∀ (i:Nat) (x:Str),G.N[i]? = some x->(x == ("__debug__" : Str))=false/\(x == ("__classdict__" : Str))=false
 gl:∀ n∈G.gl,∀ x,Z.name n=some x->Gl X x
 FV:∀ n x,Z.name n=some x->x≠"__name__"/\(x == ("__debug__" : Str))=false
 df:G.df=true->∀ x,X.fn x=true
 blt:∀ (n:Nat) (x:Str),bb[n]? = some x->X.mg x=none
 cst:∀ n d x,(n,d)∈Z.JG->Z.name n=some x->∃ u v,X.mg x=some u/\RelV v u/\∀ S H,BL X.K S H v d
 fns:∀ f∈Z.fns,(G.cm=true∨f∈Z.pl)->∀ x,Z.name f=some x->HQ X.prog X.w X.K X.mg X.base CX X.A cl xp f x
 DX:∀ f∈Z.DX,G.cm=true->∀ x,Z.name f=some x->LU X.prog X.w X.K X.mg X.base CX X.A cl f x
 Gv:∀ n∈Z.cls,∀ x,Z.name n=some x->∃ v,CV X x v
 FE:∀ c n b x,(c,n,b)∈Z.xt->Z.name n=some x->∃ C,PySem.W.nsIn X.K mainGlobals c=some (some (.ref C))/\ExcAt X.K C/\∀ v,CV X x v->PySem.W.kitOne X.K (.ref C) (vv v)=some b
 Gw:∀ c n x,(c,n)∈Z.xm->Z.name n=some x->∃ C C',PySem.W.nsIn X.K mainGlobals c=some (some (.ref C))/\PySem.W.nsIn X.K mainGlobals x=some (some (.ref C'))/\nameIn X.K C=some c/\X.mg x=some (.ref C')/\PySem.W.exmOne X.K (.ref C) (.ref C')=some true
 FW:∀ n c,(n,c)∈Z.rc->Z.name n=some c/\∃ C,X.mg c=some (.ref C)/\PySem.W.nsIn X.K mainGlobals c=some (some (.ref C))/\PySem.W.excIn X.K C JH "ValueError.__new__" = true
 KJ:G.rs=true->∀ (pins:List (Addr×Obj)) (σ:St) (H:Hp) (s:Shared) (c:Str) (C:Addr) (h':Heap) (e:Addr) (vs:List Value),Inv X pins σ H s->ex c->PySem.W.nsIn X.K mainGlobals c=some (some (.ref C))->Heap.MadeExcOf s.heap h' e (.ref C) vs->X.xe (.ref e) {s with heap:=h'}
 tr:G.tr=true->Hk Z CX cl xp X
 KN:∃ E:XK,Passes CX X E/\∀ c H,ex c->xp E H c
 GH:∀ (outer:List Env) (H:Hp) (s:Shared) (E:XK) (e:Value) (s':Shared),Cm X.prog X.w H s.heap->(∀ b∈CI outer,H b=none)->CX outer (aC s.heap H) s E e s'->CX outer H s E e s'
 Gx:∀ (H:Hp) (outer:List Env) (s:Shared) (e:Value) (s':Shared),¬ CX outer H s (fun _ _ _=>False) e s'
section
variable {P:Program}{w:World}{H H':Hp}{h:Heap}{K:PySem.W.Frag}{Fc F':Addr->Prop}
theorem ee {vs:List V}{ds:List D}(x:Cm P w H h)(m:BJ K Fc H vs ds):BJ K (fun a=>Fc a/\aC h H a≠none) (aC h H) vs ds:=by
 refine(m.step (S':=Fc) (H':=aC h H) (fun a xs f r=>⟨f,?_⟩) fun a xs r=>?_).EG
 ·rcases r with r|⟨o,r⟩
  ·obtain⟨ob,he⟩:=(x a _ r).at
   refine .inr ⟨ob,?_⟩
   unfold aC
   rw[r]
   cases xs with
   | l ys=>show (h.get? a).map _=_;rw[he];rfl
   | d ys=>show (h.get? a).map _=_;rw[he];rfl
  ·refine .inr ⟨o,?_⟩
   unfold aC
   rw[r]
   cases xs<;>rfl
 ·cases xs with
  | inl xs=>
   rcases r with (r|⟨o,r⟩)|r
   ·refine .inl (.inl ?_)
    unfold aC
    rw[r]
   ·refine .inl (.inr ⟨o,?_⟩)
    unfold aC
    rw[r]
    rfl
   ·exact .inr r
  | inr c=>
   obtain⟨C,o,vs,h0,h1,h2,h3⟩:=r
   refine⟨C,o,vs,h0,h1,?_,h3⟩
   unfold aC
   rw[h2]
   rfl
theorem iE (x:Cm P w H h)(p:Ee h (aC h H) H'){a:Addr}(n:aC h H a=none)(e:H' a≠none):H a=none:=by
 cases q:H a with
 | none=>rfl
 | some o=>
  obtain⟨ob,he⟩:=(x a o q).at
  exact absurd (p.free a ob he n) e
theorem eh {v:V}{d:D}{fv:List Addr}(x:Cm P w H h)(B9:DU Fc H)(p:Ee h (aC h H) H')(o:Out K (fun a=>Fc a/\aC h H a≠none) (aC h H) F' H' v d fv):Out K Fc H (fun a=>Fc a∨F' a) (b8 H H') v d fv:=by
 have new:∀ a∈fv,H a=none:=fun a ha=>iE x p (o.new a ha) (by obtain⟨_,xs,e⟩:=o.rep.own a ha;rw[e];simp)
 refine⟨fun a ha=>?_,iC,o.rep.step (fun a xs f r=>⟨.inr f,?_⟩) (fun a xs r=>?_) fun a ha nf hn=>⟨fun z=>?_,res_none (new a ha)⟩,o.Cf,new,fun a ha=>.inl ha,fun a ha=>?_⟩
 ·cases q:H a with
  | some u=>rw[res_some q];simp
  | none=>
   rw[res_none q]
   rcases ha with ha|ha
   ·exact absurd q (B9 a ha)
   ·exact o.B9 a ha
 ·cases q:H a with
  | none=>unfold Rd;rw[res_none q];exact r
  | some u=>
   unfold Rd
   rw[res_some q]
   cases fM x p q with
   | lst _ z=>
    cases xs with
    | l ys=>
     rcases r with r|⟨o',r⟩
     ·rw[z] at r;cases r
     ·rw[z] at r;cases r;exact .inl rfl
    | d ys=>rcases r with r|⟨o',r⟩<;>(rw[z] at r;cases r)
   | dK _ z=>
    cases xs with
    | d ys=>
     rcases r with r|⟨o',r⟩
     ·rw[z] at r;cases r
     ·rw[z] at r;cases r;exact .inl rfl
    | l ys=>rcases r with r|⟨o',r⟩<;>(rw[z] at r;cases r)
   | tup z=>cases xs<;>rcases r with r|⟨o',r⟩<;>(rw[z] at r;cases r)
   | B6 _ z=>
    cases xs with
    | l ys=>
     rcases r with r|⟨o',r⟩
     ·rw[z] at r;cases r
     ·rw[z] at r;cases r;exact .inr ⟨_,rfl⟩
    | d ys=>
     rcases r with r|⟨o',r⟩
     ·rw[z] at r;cases r
     ·rw[z] at r;cases r;exact .inr ⟨_,rfl⟩
   | CN _ _ z _ _ _=>exact absurd z r.some
 ·cases xs with
  | inl xs=>
   rcases r with r|r
   ·refine .inl ?_
    cases q:H a with
    | none=>unfold Rd;rw[res_none q];exact r
    | some u=>
     unfold Rd
     rw[res_some q]
     cases fM x p q with
     | lst _ z=>rcases r with r|⟨o',r⟩<;>(rw[z] at r;cases r)
     | dK _ z=>rcases r with r|⟨o',r⟩<;>(rw[z] at r;cases r)
     | tup z=>
      rcases r with r|⟨o',r⟩
      ·rw[z] at r;cases r;exact .inl rfl
      ·rw[z] at r;cases r
     | B6 _ z=>
      rcases r with r|⟨o',r⟩
      ·rw[z] at r;cases r
      ·rw[z] at r;cases r;exact .inr ⟨_,rfl⟩
     | CN _ _ z _ _ _=>exact absurd z r.some
   ·exact .inr r
  | inr c=>
   obtain⟨C,ob,vs,h0,h1,h2,h3⟩:=r
   refine⟨C,ob,vs,h0,h1,?_,h3⟩
   cases q:H a with
   | none=>rw[res_none q];exact h2
   | some u=>
    rw[res_some q]
    cases fM x p q with
    | lst _ z=>rw[z] at h2;cases h2
    | dK _ z=>rw[z] at h2;cases h2
    | tup z=>rw[z] at h2;cases h2
    | B6 _ z=>rw[z] at h2;cases h2;rfl
    | CN _ _ z _ _ _=>rw[z] at h2;cases h2
 ·rcases z with z|z
  ·exact B9 a z (new a ha)
  ·exact nf z
 ·rcases ha with ha|ha
  ·exact .inl ha
  ·rcases o.out a ha with z|z
   ·exact .inl z.1
   ·exact .inr (iE x p z (o.B9 a ha))
end
section
variable {X:Cx}{CX:C6}{cl:Nat->List D->Res D}{xp:XK->Hp->Str->Prop}
theorem Inv.HR {pins:List (Addr×Obj)}{σ:St}{H:Hp}{s:Shared}(I:Inv X pins σ H s):EY X.prog X.w X.K X.mg X.base X.A X.stack s (aC s.heap H):=
 ⟨I.Dv.frames,I.Dv.mod,fun b o e=>⟨(I.Dv.bs b o e).1,bg (I.Dv.bs b o e).2⟩,I.Dv.Fw,I.Dv.CO,fun b hb=>bg (I.Dv.D7 b hb),jr I.BY,I.Dv.bare⟩
theorem gF {k:Nat}{f:Nat}{fa:Addr}{fd:FuncData}{ps:List Str}{E:XK}{pins:List (Addr×Obj)}{σ:St}{H:Hp}{s:Shared}{Q:VK}{us:List Value}{vs:List V}{ds:List D}{Fc:Addr->Prop}
  (F:Df X.prog X.w X.K X.mg X.base CX k fa fd ps (Hh X.K cl xp f ps)) (hr:CW k X.A) (hb:Binds X.K fd ps []) (hx:Passes CX X E)
  (hh:∀ (outer:List Env) (H:Hp) (s:Shared) (E:XK) (e:Value) (s':Shared),Cm X.prog X.w H s.heap->(∀ b∈CI outer,H b=none)->CX outer (aC s.heap H) s E e s'->CX outer H s E e s')
  (I:Inv X pins σ H s) (r:Vals vs us) (hl:vs.length=ps.length) (B9:DU Fc H) (m:BJ X.K Fc H vs ds)
  (q:BK (xp E (aC s.heap H)) (cl f (BV ds)) fun d=>∀ v H' F' fv,Out X.K Fc H F' H' v d fv->Q v H'):wpAny (model X.prog X.w) X.A (call (.ref fa) us) (EP X pins σ Q) X.xe s:=by
 have Er:Hh X.K cl xp f ps vs (aC s.heap H) (fun v H'=>Ee s.heap (aC s.heap H) H'->Q v (b8 H H')) E:=
  ⟨hl,jq _ _,_,ds,fun a h=>h.2,ee I.BY m,q.mono fun d hd v H' F' fv o p=>hd v _ _ fv (eh I.BY B9 p o)⟩
 have Gj:(us++([]:List Value)).length=ps.length:=by rw[List.append_nil,<- r.length];exact hl
 have bd:=hb s us I.Eo Gj
 rw[List.append_nil] at bd
 refine wpAny_call (codeAny_mono (F.run X.A X.stack s (aC s.heap H) ⟨us,[]⟩ us vs _ E hr I.HR bd r Er) fun r' s' hq=>?_)
 cases r' with
 | error e=>exact hx pins σ H s e s' I (hh X.stack H s E e s' I.BY I.Dv.D7 hq)
 | ok fl=>
  cases fl with
  | ret u=>
   obtain⟨v,H',a1,a2,a3,a4,a5,a6⟩:=hq
   exact I.after (Q:=Q) ⟨v,b8 H H',a1,a2,gB I.BY a3,eS I.BY a4 (cB a3) (fs:=CI X.stack) (fun b o _ e n f=>a3.keep b o e n f (by simp)) I.Dv.D7,a5,a6 (cB a3)⟩
  | next=>exact False.elim hq
  | brk=>exact False.elim hq
  | cont=>exact False.elim hq
end
def Slots (K:PySem.W.Frag)(S:Addr->Prop)(H:Hp)(σ:St)(τ:Ev)(is:List Nat):Prop:=∀ i∈is,∀ d,aj τ i=some d->∃ v,σ[i]? = some (some v)/\BL K S H v d
theorem Slots.sub {K:PySem.W.Frag}{S:Addr->Prop}{H:Hp}{σ:St}{τ:Ev}{is js:List Nat}(h:Slots K S H σ τ is)(s:∀ i∈js,i∈is):Slots K S H σ τ js:=fun i hi d e=>h i (s i hi) d e
theorem Slots.left {K:PySem.W.Frag}{S:Addr->Prop}{H:Hp}{σ:St}{τ:Ev}{is js:List Nat}(h:Slots K S H σ τ (is++js)):Slots K S H σ τ is:=h.sub fun _ hi=>List.mem_append_left _ hi
theorem Slots.right {K:PySem.W.Frag}{S:Addr->Prop}{H:Hp}{σ:St}{τ:Ev}{is js:List Nat}(h:Slots K S H σ τ (is++js)):Slots K S H σ τ js:=h.sub fun _ hi=>List.mem_append_right _ hi
theorem Slots.go {K:PySem.W.Frag}{S:Addr->Prop}{H H':Hp}{σ:St}{τ:Ev}{is:List Nat}(h:Slots K S H σ τ is)(e:au H H'):Slots K (nw S H) H' σ τ is:=fun i hi d z=>by
 obtain⟨v,h1,h2⟩:=h i hi d z
 exact⟨v,h1,h2.mono (fun _=>.inl) e⟩
def RD (K:PySem.W.Frag)(ex:Str->Prop)(is:List Nat)(f:Ev->Res D):TE:=fun σ H Q=>∃ S τ,Slots K S H σ τ is/\BK ex (f τ) (Kk K S H Q)
def RT (K:PySem.W.Frag)(ex:Str->Prop)(is:List Nat)(f:Ev->Res Bool):TT:=fun σ H Q=>∃ S τ,Slots K S H σ τ is/\BK ex (f τ) fun b=>∀ H',au H H'->Q b H'
def RA (K:PySem.W.Frag)(ex:Str->Prop)(is:List Nat)(f:Ev->Res (List D)):TA:=fun σ H Q=>∃ S τ,Slots K S H σ τ is/\BK ex (f τ) fun ds=>∀ vs H',au H H'->BJ K (nw S H) H' vs ds->Q vs H'
noncomputable def JI (K:PySem.W.Frag)(ex:Str->Prop)(is:List Nat)(f:Ev->Res (Option Int)):TO:=fun σ H Q=>∃ S τ,Slots K S H σ τ is/\BK ex (f τ) fun o=>∀ H',au H H'->Q o H'
def WS (K:PySem.W.Frag)(S:Addr->Prop)(H:Hp)(k:Zp.Kq)(a:Addr)(xs:List V):Prop:=match k with
 | .l=>(S a/\Rd H a (.lst xs))∨KL K a xs
 | .t=>De K H a xs
theorem WS.sq {K:PySem.W.Frag}{S:Addr->Prop}{H:Hp}{k:Zp.Kq}{a:Addr}{xs:List V}(h:WS K S H k a xs):FO K H k a xs:=by
 cases k with
 | l=>exact h.elim (fun z=>.inl z.2) fun z=>z.sq
 | t=>exact h
inductive DO (K:PySem.W.Frag)(S:Addr->Prop)(H:Hp):It->List D->Prop where
 | lst {a:Addr}{xs:List V}{ds:List D}:S a->Rd H a (.lst xs)->BJ K S H xs ds->DO K S H (Lu K a) ds
 | lstK {a:Addr}{xs:List V}{ds:List D}:KL K a xs->BJ K S H xs ds->DO K S H (Lu K a) ds
 | tup {a:Addr}{xs:List V}{ds:List D}:De K H a xs->BJ K S H xs ds->DO K S H (Mh K a) ds
 | FK (lo hi:Int):DO K S H (J7 lo (hi - lo).toNat) (bM lo hi)
 | str (x:Str):DO K S H (MT x) (cO x)
 | zip {p q:Zp.Kq}{l m:Addr}{xs ys:List V}{ds es:List D}:WS K S H p l xs->WS K S H q m ys->BJ K S H xs ds->BJ K S H ys es->DO K S H (MH K p q l m) (l6 ds es)
def RI (K:PySem.W.Frag)(ex:Str->Prop)(is:List Nat)(f:Ev->Res (List D)):TI:=fun σ H R=>∃ S τ,Slots K S H σ τ is/\BK ex (f τ) fun ds=>∀ J H',au H H'->DO K (nw S H) H' J ds->R J H'
theorem fO {S:Addr->Prop}{H H1:Hp}(e:au H H1):∀ a,nw (nw S H) H1 a->nw S H a:=fun a h=>by
 rcases h with h|h
 ·exact h
 ·exact .inr (e.free h)
section
variable {Z:Sg}{CX:C6}{cl:Nat->List D->Res D}{xp:XK->Hp->Str->Prop}{X:Cx}{ex:Str->Prop}{G:Gm}
theorem Kk.fit {K:PySem.W.Frag}{S:Addr->Prop}{H H1:Hp}{Q:VK}{d:D}(e:au H H1)(h:Kk K S H Q d):Kk K (nw S H) H1 Q d:=fun w H' e' m=>h w H' (e.trans e') (m.mono (fO e) (.refl _))
theorem b9 (g:Cg Z CX cl xp X ex G){n:Nat}{x:Str}(h:aU Z G n x=true):Gl X x/\Z.name n=some x/\x≠"__name__"/\(x == ("__debug__" : Str))=false:=by
 unfold aU at h
 rw[Bool.and_eq_true] at h
 have e:Z.name n=some x:=eq_of_beq h.1
 exact⟨g.gl n (by simpa using h.2) x e,e,g.FV n x e⟩
theorem sY (Z:Sg){n:Nat}{x:Str}(h:bb[n]? = some x):Z.name n=some x:=by
 unfold Sg.name
 rw[List.getElem?_append_left (List.getElem?_eq_some_iff.mp h).1]
 exact h
theorem c7 (g:Cg Z CX cl xp X ex G){n:Nat}{x:Str}(h:bb[n]? = some x)(hc:G.gl.contains n=true):Gl X x/\X.mg x=none/\x≠"__name__"/\(x == ("__debug__" : Str))=false:=
 ⟨g.gl n (by simpa using hc) x (sY Z h),g.blt n x h,g.FV n x (sY Z h)⟩
theorem ah {e:Expr}(h:notStar e=true)(es:List Expr)(env:Env):starEach (e::es) env=(false,eval e env)::starEach es env:=by
 cases e<;>first|rfl|cases h
theorem aX (Z:Sg)(G:Gm):∀ {es:List IR}{l:List Expr} (p:Pos) (env:Env),aD Z G es l=true->(backTo p (starEach l env)).any (·.1)=false
 | [],[],_,_,_=>rfl
 | a::es,e::l,p,env,h=>by
  have h':(notStar e&&BW Z G a e&&aD Z G es l)=true:=h
  simp only[Bool.and_eq_true] at h'
  rw[ah h'.1.1]
  have ih:=aX Z G (es:=es) (l:=l) p env h'.2
  show (false||(backTo p (starEach l env)).any (·.1))=false
  rw[ih]
  rfl
 | [],_::_,_,_,h=>by cases h
 | _::_,[],_,_,h=>by cases h
theorem nP {d:D}{v:V}(h:∀ S H,BL X.K S H v d){σ:St}{H:Hp}{Q:VK}{is:List Nat}(q:RD X.K ex is (fun _=>.ok d) σ H Q):Q v H:=by
 obtain⟨S,τ,_,q⟩:=q
 exact q.ok _ _ (.refl _) (h _ _)
theorem yG {e:Expr}{is:List Nat}{f:Ev->Res D}(h:PE X e (RD X.K ex is f))(he:∀ whole,isTrue e X.env whole=(do let v <- whole;standAt e.pos;holding [v] (truthy v))):PT X e (RT X.K ex is fun τ=>U (f τ) aT):=by
 intro pins s σ H Q I hw
 obtain⟨S,τ,hs,hw⟩:=hw
 refine isTrue_plain (B7 (h pins s σ H (fun v H'=>∃ d,au H H'/\BL X.K (nw S H) H' v d/\BK ex (aT d) fun b=>∀ H',au H H'->Q b H') I ⟨S,τ,hs,(BK.U hw).mono fun d hd v H' e m=>⟨d,e,m,hd⟩⟩) fun v s1 ⟨x,H1,I1,r1,d,e,m,hd⟩=>?_) (he _)
 exact d9 I1 r1 m (hd.mono fun b z=>z H1 e)
end
section
variable {Z:Sg}{CX:C6}{cl:Nat->List D->Res D}{xp:XK->Hp->Str->Prop}{X:Cx}{ex:Str->Prop}{G:Gm}{K:PySem.W.Frag}{S:Addr->Prop}{H H1:Hp}{σ:St}{τ:Ev}
theorem aO {is:List Nat}{f:Ev->Res D}{Kt:D->Prop}{Q:VK}(e:au H H1)(hs:Slots K S H σ τ is)(h:BK ex (f τ) Kt)(k:∀ x v H2,au H H2->au H1 H2->BL K (nw S H) H2 v x->Kt x->Q v H2):RD K ex is f σ H1 Q:=
 ⟨nw S H,τ,hs.go e,h.mono fun x hx v H2 e2 m=>k x v H2 (e.trans e2) e2 (m.mono (fO e) (.refl _)) hx⟩
theorem gG {is:List Nat}{f:Ev->Res Bool}{Kt:Bool->Prop}{Q:Bool->Hp->Prop}(e:au H H1)(hs:Slots K S H σ τ is)(h:BK ex (f τ) Kt)(k:∀ x H2,au H H2->au H1 H2->Kt x->Q x H2):RT K ex is f σ H1 Q:=
 ⟨nw S H,τ,hs.go e,h.mono fun x hx H2 e2=>k x H2 (e.trans e2) e2 hx⟩
theorem iF {is:List Nat}{f:Ev->Res (List D)}{Kt:List D->Prop}{Q:List V->Hp->Prop}(e:au H H1)(hs:Slots K S H σ τ is)(h:BK ex (f τ) Kt)(k:∀ x v H2,au H H2->au H1 H2->BJ K (nw S H) H2 v x->Kt x->Q v H2):RA K ex is f σ H1 Q:=
 ⟨nw S H,τ,hs.go e,h.mono fun x hx v H2 e2 m=>k x v H2 (e.trans e2) e2 (m.mono (fO e) (.refl _)) hx⟩
theorem rL {is:List Nat}{f:Ev->Res (Option Int)}{Kt:Option Int->Prop}{Q:Option Int->Hp->Prop}(e:au H H1)(hs:Slots K S H σ τ is)(h:BK ex (f τ) Kt)(k:∀ x H2,au H H2->au H1 H2->Kt x->Q x H2):JI K ex is f σ H1 Q:=
 ⟨nw S H,τ,hs.go e,h.mono fun x hx H2 e2=>k x H2 (e.trans e2) e2 hx⟩
theorem BL.later {v:V}{d:D}{H2:Hp}(h:BL K (L2.nw S H) H1 v d)(e:au H1 H2):BL K (L2.nw S H) H2 v d:=h.mono (fun _ z=>z) e
theorem BJ.later {v:List V}{d:List D}{H2:Hp}(h:BJ K (L2.nw S H) H1 v d)(e:au H1 H2):BJ K (L2.nw S H) H2 v d:=h.mono (fun _ z=>z) e
theorem Q6 (g:Cg Z CX cl xp X ex G){i:Nat}{x:Str}{pos:Pos}(h:cP G i x=true):PE X (.Name x pos) (RD X.K ex [i] (BM cl (.v i))):=by
 unfold cP at h
 rw[Bool.and_eq_true] at h
 have hx:G.N[i]? = some x:=eq_of_beq h.1
 have hk:=g.kd i x hx
 have hv:J3 X.env.scope x:=by
  have h2:=h.2
  rw[Bool.or_eq_true,Bool.or_eq_true] at h2
  rcases h2 with (h2|h2)|h2
  ·exact .inl (hk.trans (eq_of_beq h2))
  ·exact .inr (.inl (hk.trans (eq_of_beq h2)))
  ·exact .inr (.inr (hk.trans (eq_of_beq h2)))
 refine ay (mH (i:=i) (by rw[g.N];exact hx) hv (g.Fq i x hx).1 (g.Fq i x hx).2) fun σ H Q q=>?_
 obtain⟨S,τ,hs,q⟩:=q
 rw[yz] at q
 cases z:aj τ i with
 | none=>rw[z] at q;exact q.no.elim
 | some d=>
  rw[z] at q
  obtain⟨v,h1,h2⟩:=hs i (by simp) d z
  exact⟨v,h1,q.ok _ _ (.refl _) h2.nw⟩
theorem Q7 {d:D}{k:Const}{j:Nat}{pos:Pos}(h:yE d k=true):PE X (.Constant k j pos) (RD X.K ex [] (BM cl (.c d))):=by
 cases d with
 | B5=>
  cases k with
  | none=>exact ay vp fun σ H Q q=>nP (fun _ _=>.B5) q
  | _=>cases h
 | bl b=>
  cases k with
  | bool b'=>
   have e:b=b':=eq_of_beq h
   subst e
   exact ay xS fun σ H Q q=>nP (fun _ _=>.bl _) q
  | _=>cases h
 | int b=>
  cases k with
  | int b'=>
   have e:b=b':=eq_of_beq h
   subst e
   exact ay vn fun σ H Q q=>nP (fun _ _=>.int _) q
  | _=>cases h
 | str b=>
  cases k with
  | str b'=>
   have e:b=b':=eq_of_beq h
   subst e
   exact ay eA fun σ H Q q=>nP (fun _ _=>.str _) q
  | _=>cases h
 | tup _=>cases k<;>cases h
 | lst _ _=>cases k<;>cases h
 | exc _=>cases k<;>cases h
 | BU o ks ds=>cases k<;>cases h
theorem Q8 (g:Cg Z CX cl xp X ex G){n:Nat}{d:D}{x:Str}{pos:Pos}(h:aU Z G n x=true)(hk:Z.JG.any (fun p=>p.1 == n&&mf p.2 d)=true):PE X (.Name x pos) (RD X.K ex [] (BM cl (.g n d))):=by
 obtain⟨h1,h2,h3,h4⟩:=b9 g h
 rw[List.any_eq_true] at hk
 obtain⟨⟨m,d'⟩,hm,hk⟩:=hk
 rw[Bool.and_eq_true] at hk
 have e1:m=n:=eq_of_beq hk.1
 have e2:d'=d:=jY hk.2
 subst e1 e2
 obtain⟨u,v,hu,r,hr⟩:=g.cst m d' x hm h2
 exact ay (jL h1 hu r h4) fun σ H Q q=>nP hr q
theorem yI {op:Gn}{a b:Expr}{pos:Pos}{va vb:List Nat}{fa fb:Ev->Res D}(ha:PE X a (RD X.K ex va fa))(hb:PE X b (RD X.K ex vb fb)) :
  PE X (.BinOp a (IJ op) b pos) (RD X.K ex (va++vb) fun τ=>U (fa τ) fun x=>U (fb τ) fun y=>DT op x y):=by
 refine ay (sS (v7 (ex:=ex) op) ha hb) fun σ H Q ⟨S,τ,hs,q⟩=>?_
 refine aO (.refl _) hs.left (BK.U q) fun x v H1 e1 _ m1 q1=>?_
 refine aO e1 hs.right (BK.U q1) fun y w H2 e2 CU m2 q2=>?_
 exact⟨nw S H,x,y,m1.later CU,m2,q2.mono fun d hd=>hd.fit e2⟩
theorem yJ {a:Expr}{pos:Pos}{va:List Nat}{fa:Ev->Res D}(ha:PE X a (RD X.K ex va fa)) :
  PE X (.UnaryOp .USub a pos) (RD X.K ex va fun τ=>U (fa τ) fun|.int i=>.ok (.int (-i))|_=>BR):=by
 refine ay (ya vJ ha) fun σ H Q ⟨S,τ,hs,q⟩=>?_
 refine aO (.refl _) hs (BK.U q) fun x v H1 e1 _ m1 q1=>?_
 cases x with
 | int i=>cases m1.Ca;exact⟨i,rfl,q1.ok _ _ e1 (.int _)⟩
 | _=>exact q1.no.elim
theorem yL (g:Cg Z CX cl xp X ex G){op:FC}{a b:Expr}{pos:Pos}{va vb:List Nat}{fa fb:Ev->Res D}(ha:PE X a (RD X.K ex va fa))(hb:PE X b (RD X.K ex vb fb))(hm:behindInMarks (IK op) b=false) :
  PE X (.Compare a [IK op] [b] pos) (RD X.K ex (va++vb) fun τ=>U (fa τ) fun x=>U (fb τ) fun y=>U (EK op x y) fun r=>.ok (.bl r))/\
  PT X (.Compare a [IK op] [b] pos) (RT X.K ex (va++vb) fun τ=>U (U (fa τ) fun x=>U (fb τ) fun y=>U (EK op x y) fun r=>.ok (.bl r)) aT):=by
 refine⟨ay (qQ (nE (ex:=ex) g.un op) ha hb hm) fun σ H Q ⟨S,τ,hs,q⟩=>?_,dM (qR (nE (ex:=ex) g.un op) ha hb hm) fun σ H Q ⟨S,τ,hs,q⟩=>?_⟩
 ·refine aO (.refl _) hs.left (BK.U q) fun x v H1 e1 _ m1 q1=>?_
  refine aO e1 hs.right (BK.U q1) fun y w H2 e2 CU m2 q2=>?_
  exact⟨nw S H,x,y,m1.later CU,m2,(BK.U q2).mono fun d hd=>hd.ok _ _ e2 (.bl _)⟩
 ·refine aO (.refl _) hs.left (BK.U (BK.U q)) fun x v H1 e1 _ m1 q1=>?_
  refine aO e1 hs.right (BK.U q1) fun y w H2 e2 CU m2 q2=>?_
  exact⟨nw S H,x,y,m1.later CU,m2,(BK.U q2).mono fun d hd=>⟨d,rfl,hd.ok.ok H2 e2⟩⟩
theorem sZ {a b:Expr}{rest:List Expr}{pos:Pos}{va vb:List Nat}{fa fb:Ev->Res D}(ha:PE X a (RD X.K ex va fa))(hb:PE X (.BoolOp .And (b::rest) pos) (RD X.K ex vb fb)) :
  PE X (.BoolOp .And (a::b::rest) pos) (RD X.K ex (va++vb) fun τ=>U (fa τ) fun x=>U (aT x) fun r=>if r=true then fb τ else .ok x):=by
 intro pins s σ H Q I h
 obtain⟨S,τ,hs,q⟩:=h
 refine BoolOp_and (B7 (ha pins s σ H (fun v H'=>∃ d,au H H'/\BL X.K (nw S H) H' v d/\_) I (aO (.refl _) hs.left (BK.U q) fun x v H1 e1 _ m1 q1=>⟨x,e1,m1,q1⟩)) fun v s1 ⟨x,H1,I1,r1,d,e1,m1,q1⟩=>?_)
 refine B7 (d9 (Q:=fun b H'=>H'=H1/\BK ex (if b=true then fb τ else .ok d) (Kk X.K S H Q)) I1 r1 m1 ((BK.U q1).mono fun b z=>⟨rfl,z⟩)) fun c s2 ⟨H2,I2,e2,q2⟩=>?_
 subst e2
 cases c with
 | true=>
  rw[if_pos rfl] at q2 ⊢
  exact hb pins s2 σ _ Q I2 (aO e1 hs.right q2 fun y w H3 e3 _ m3 q3=>q3 _ _ e3 m3)
 | false=>
  rw[if_neg Bool.false_ne_true] at q2 ⊢
  exact⟨x,_,I2,r1,q2.ok _ _ e1 m1⟩
theorem yM {a b:Expr}{rest:List Expr}{pos:Pos}{va vb:List Nat}{fa fb:Ev->Res D}(ha:PE X a (RD X.K ex va fa))(hb:PE X (.BoolOp .Or (b::rest) pos) (RD X.K ex vb fb)) :
  PE X (.BoolOp .Or (a::b::rest) pos) (RD X.K ex (va++vb) fun τ=>U (fa τ) fun x=>U (aT x) fun r=>if r=true then .ok x else fb τ):=by
 intro pins s σ H Q I h
 obtain⟨S,τ,hs,q⟩:=h
 refine BoolOp_or (B7 (ha pins s σ H (fun v H'=>∃ d,au H H'/\BL X.K (nw S H) H' v d/\_) I (aO (.refl _) hs.left (BK.U q) fun x v H1 e1 _ m1 q1=>⟨x,e1,m1,q1⟩)) fun v s1 ⟨x,H1,I1,r1,d,e1,m1,q1⟩=>?_)
 refine B7 (d9 (Q:=fun b H'=>H'=H1/\BK ex (if b=true then .ok d else fb τ) (Kk X.K S H Q)) I1 r1 m1 ((BK.U q1).mono fun b z=>⟨rfl,z⟩)) fun c s2 ⟨H2,I2,e2,q2⟩=>?_
 subst e2
 cases c with
 | false=>
  rw[if_neg Bool.false_ne_true] at q2 ⊢
  exact hb pins s2 σ _ Q I2 (aO e1 hs.right q2 fun y w H3 e3 _ m3 q3=>q3 _ _ e3 m3)
 | true=>
  rw[if_pos rfl] at q2 ⊢
  exact⟨x,_,I2,r1,q2.ok _ _ e1 m1⟩
theorem yN {a:Expr}{pos:Pos}{va:List Nat}{fa:Ev->Res D}(ha:PE X a (RD X.K ex va fa))(ht:PT X a (RT X.K ex va fun τ=>U (fa τ) aT)) :
  PE X (.UnaryOp .Not a pos) (RD X.K ex va fun τ=>U (fa τ) fun x=>U (aT x) fun r=>.ok (.bl !r))/\PT X (.UnaryOp .Not a pos) (RT X.K ex va fun τ=>U (U (fa τ) fun x=>U (aT x) fun r=>.ok (.bl !r)) aT):=by
 constructor
 ·intro pins s σ H Q I h
  obtain⟨S,τ,hs,q⟩:=h
  refine UnaryOp_ (B7 (ha pins s σ H (fun v H'=>∃ d,au H H'/\BL X.K (nw S H) H' v d/\_) I (aO (.refl _) hs (BK.U q) fun x v H1 e1 _ m1 q1=>⟨x,e1,m1,q1⟩)) fun v s1 ⟨x,H1,I1,r1,d,e1,m1,q1⟩=>?_)
  refine not_of (B7 (d9 (Q:=fun b H'=>Q (.bl !b) H') I1 r1 m1 ((BK.U q1).mono fun b z=>z.ok _ _ e1 (.bl _))) fun c s2 ⟨H2,I2,q2⟩=>⟨.bl !c,H2,I2,rfl,q2⟩)
 ·refine dM (vw ht) fun σ H Q ⟨S,τ,hs,q⟩=>?_
  exact gG (.refl _) hs (BK.mk ((BK.U (BK.U q)).mono fun x hx=>(BK.U hx).mono fun r hr=>hr.ok.ok)) fun x H2 e2 _ k=>k H2 e2
theorem nQ {e:Expr}{pos:Pos}{op:BoolOp}{es:List Expr}{t:TT}(h:PT X (.BoolOp op es pos) t):PW X (.BoolOp op es pos) t:=fun _ pins s σ H Q I q=>h pins s σ H Q I q
theorem tf {a b:Expr}{rest:List Expr}{pos:Pos}{va vb:List Nat}{fa fb:Ev->Res D}(ha:PT X a (RT X.K ex va fun τ=>U (fa τ) aT))(hb:PW X (.BoolOp .And (b::rest) pos) (RT X.K ex vb fun τ=>U (fb τ) aT)) :
  PT X (.BoolOp .And (a::b::rest) pos) (RT X.K ex (va++vb) fun τ=>U (U (fa τ) fun x=>U (aT x) fun r=>if r=true then fb τ else .ok x) aT):=by
 refine dM (vt ha hb).pt fun σ H Q ⟨S,τ,hs,q⟩=>?_
 refine gG (.refl _) hs.left (Kt:=fun r=>BK ex (if r=true then U (fb τ) aT else .ok false) fun b=>∀ H',au H H'->Q b H') (BK.mk ((BK.U (BK.U q)).mono fun x hx=>(BK.U hx).eq.mono fun r hr=>?_)) fun r H2 e2 _ k=>?_
 ·obtain⟨er,hr⟩:=hr
  cases r with
  | true=>rw[if_pos rfl] at hr ⊢;exact BK.mk hr
  | false=>
   rw[if_neg Bool.false_ne_true] at hr ⊢
   have HN:BK ex (aT x) _:=hr
   rw[er] at HN
   exact HN
 ·cases r with
  | true=>rw[if_pos rfl] at k ⊢;exact gG e2 hs.right k fun b H3 e3 _ z=>z H3 e3
  | false=>rw[if_neg Bool.false_ne_true] at k ⊢;exact k.ok H2 e2
theorem yO {a b:Expr}{rest:List Expr}{pos:Pos}{va vb:List Nat}{fa fb:Ev->Res D}(ha:PT X a (RT X.K ex va fun τ=>U (fa τ) aT))(hb:PW X (.BoolOp .Or (b::rest) pos) (RT X.K ex vb fun τ=>U (fb τ) aT)) :
  PT X (.BoolOp .Or (a::b::rest) pos) (RT X.K ex (va++vb) fun τ=>U (U (fa τ) fun x=>U (aT x) fun r=>if r=true then .ok x else fb τ) aT):=by
 refine dM (xU ha hb).pt fun σ H Q ⟨S,τ,hs,q⟩=>?_
 refine gG (.refl _) hs.left (Kt:=fun r=>BK ex (if r=true then .ok true else U (fb τ) aT) fun b=>∀ H',au H H'->Q b H') (BK.mk ((BK.U (BK.U q)).mono fun x hx=>(BK.U hx).eq.mono fun r hr=>?_)) fun r H2 e2 _ k=>?_
 ·obtain⟨er,hr⟩:=hr
  cases r with
  | false=>rw[if_neg Bool.false_ne_true] at hr ⊢;exact BK.mk hr
  | true=>
   rw[if_pos rfl] at hr ⊢
   have HN:BK ex (aT x) _:=hr
   rw[er] at HN
   exact HN
 ·cases r with
  | false=>rw[if_neg Bool.false_ne_true] at k ⊢;exact gG e2 hs.right k fun b H3 e3 _ z=>z H3 e3
  | true=>rw[if_pos rfl] at k ⊢;exact k.ok H2 e2
theorem yQ {es:List Expr}{n:Nat}{pos:Pos}{va:List Nat}{fa:Ev->Res (List D)}(h:PA X es (RA X.K ex va fa)):PE X (.Tuple es n pos) (RD X.K ex va fun τ=>U (fa τ) fun ds=>BN (aY ds.length) (.ok (.tup ds))):=by
 refine ay (jb h) fun σ H Q ⟨S,τ,hs,q⟩=>?_
 refine iF (.refl _) hs (BK.U q) fun ds vs H1 e1 _ m1 q1=>?_
 obtain⟨g,q1⟩:=BK.BN q1
 exact⟨by rw[m1.length];exact aQ g,fun p hp=>q1.ok _ _ (e1.trans (.upd hp)) ((Bp hp m1).mono (fO e1) (.refl _))⟩
theorem yR {es:List Expr}{pos:Pos}{va:List Nat}{fa:Ev->Res (List D)}(h:PA X es (RA X.K ex va fa)):PE X (.List es pos) (RD X.K ex va fun τ=>U (fa τ) fun ds=>BN (aY ds.length) (.ok (.lst true ds))):=by
 refine ay (mV h) fun σ H Q ⟨S,τ,hs,q⟩=>?_
 refine iF (.refl _) hs (BK.U q) fun ds vs H1 e1 _ m1 q1=>?_
 obtain⟨g,q1⟩:=BK.BN q1
 exact⟨by rw[m1.length];exact aQ g,fun p hp=>q1.ok _ _ (e1.trans (.upd hp)) ((l9 hp m1).mono (fO e1) (.refl _))⟩
theorem yS {a b:Expr}{pos:Pos}{va vb:List Nat}{fa fb:Ev->Res D}(ha:PE X a (RD X.K ex va fa))(hb:PE X b (RD X.K ex vb fb))(hp:bx b=true) :
  PE X (.Subscript a b pos) (RD X.K ex (va++vb) fun τ=>U (fa τ) fun x=>U (fb τ) fun y=>bu x y):=by
 refine ay (yg (rF (ex:=ex)) ha hb fun o i=>by cases b<;>first|rfl|cases hp) fun σ H Q ⟨S,τ,hs,q⟩=>?_
 refine aO (.refl _) hs.left (BK.U q) fun x v H1 e1 _ m1 q1=>?_
 refine aO e1 hs.right (BK.U q1) fun y w H2 e2 CU m2 q2=>?_
 exact⟨nw S H,x,y,m1.later CU,m2,q2.mono fun d hd=>hd.fit e2⟩
theorem Bw {a:Expr}{lo hi:Option Expr}{pos p2:Pos}{va vl vh:List Nat}{fa:Ev->Res D}{fl fh:Ev->Res (Option Int)}(ha:PE X a (RD X.K ex va fa))(hl:PO X lo (JI X.K ex vl fl))(hh:PO X hi (JI X.K ex vh fh)) :
  PE X (.Subscript a (.Slice lo hi none p2) pos) (RD X.K ex (va++vl++vh) fun τ=>U (fa τ) fun x=>U (fl τ) fun l=>U (fh τ) fun h=>gr x l h):=by
 refine ay (ib (rG (ex:=ex)) ha hl hh) fun σ H Q ⟨S,τ,hs,q⟩=>?_
 refine aO (.refl _) hs.left.left (BK.U q) fun x v H1 e1 _ m1 q1=>?_
 refine rL e1 hs.left.right (BK.U q1) fun l H2 e2 CU q2=>?_
 refine rL e2 hs.right (BK.U q2) fun h H3 e3 Hl q3=>?_
 exact⟨nw S H,x,m1.later (CU.trans Hl),q3.mono fun d hd=>hd.fit e3⟩
theorem s_call (g:Cg Z CX cl xp X ex G){f:Nat}{x:Str}{p pos:Pos}{es:List IR}{args:List Expr}(h1:aU Z G f x=true)(h2:Z.FU G f=true)(Cb:aD Z G es args=true)(h:PA X args (RA X.K ex (ak es) (aG cl es))) :
  PE X (.Call (.Name x p) args [] pos) (RD X.K ex (ak es) fun τ=>U (aG cl es τ) fun ds=>cl f (BV ds)):=by
 obtain⟨k1,k2,k3,k4⟩:=b9 g h1
 obtain⟨k,JK,fd,ps,hm,Eu,hb,F,hr,hlen⟩:=(g.fns f (dP h2).1 (dP h2).2 x k2).ex
 obtain⟨E,hP,hE⟩:=g.KN
 intro pins s σ H Q I q
 obtain⟨S,τ,hs,q⟩:=q
 have fin:∀ (us:List Value) (s1:Shared) (vs:List V) (H1:Hp) (ds:List D),Inv X pins σ H1 s1->Vals vs us->au H H1->BJ X.K (nw S H) H1 vs ds->BK ex (cl f (BV ds)) (Kk X.K S H Q)->wpAny (model X.prog X.w) X.A (call (.ref JK) us) (EP X pins σ Q) X.xe s1:=by
  intro us s1 vs H1 ds I1 r e m q1
  have hl:=hlen ex _ _ q1
  rw[bo] at hl
  refine gF F hr hb hP g.GH I1 r (by rw[m.length];exact hl) (Fc:=fun a=>nw S H a/\H1 a≠none) (fun a z=>z.2) m.EG ?_
  cases z:cl f (BV ds) with
  | error er=>
   rw[z] at q1
   cases er with
   | stuck=>exact q1.no.elim
   | exc c=>exact hE c _ q1
  | ok d=>
   rw[z] at q1
   intro v H' F' fv o
   refine q1.ok _ _ (e.trans o.same) (o.rep.read (fun a ha=>?_) fun a ha=>?_)
   ·rcases o.out a ha with z|z
    ·exact z.1
    ·exact .inr (e.free z)
   ·exact .inr (e.free (o.new a ha))
 refine wpAny_Call_Name_kw (bO I k1 hm ?_ k4)
 cases args with
 | nil=>
  cases es with
  | cons _ _=>cases Cb
  | nil=>
   exact PySem.W.callWith_K0 I.Eo Eu (fin [] s [] H [] I .nil (.refl _) .nil q)
 | cons e l=>
  cases es with
  | nil=>cases Cb
  | cons a es=>
   have B8:(notStar e&&BW Z G a e&&aD Z G es l)=true:=Cb
   simp only[Bool.and_eq_true] at B8
   refine PySem.W.callWith_K (h₀:=X.base) I.ok.mod.GF Eu (B7 (h pos pins s σ H (fun vs H1=>∃ ds,au H H1/\BJ X.K (nw S H) H1 vs ds/\BK ex (cl f (BV ds)) (Kk X.K S H Q)) I ⟨S,τ,hs,(BK.U q).mono fun ds hd vs H1 e m=>⟨ds,e,m,hd⟩⟩) fun us s1 ⟨vs,H1,I1,r,ds,e,m,q1⟩=>⟨I1.Eo,?_⟩) (ah B8.1.1 l X.env) (aX Z G (es:=es) pos X.env B8.2)
   exact fin us s1 vs H1 ds I1 r e m q1
theorem Bx (g:Cg Z CX cl xp X ex G){f:Bi}{p pos:Pos}{es:List IR}{a:Expr}{args:List Expr}(hg:G.EO (fN f)=true)(Cb:aD Z G es (a::args)=true)(h:PA X (a::args) (RA X.K ex (ak es) (aG cl es))) :
  PE X (.Call (.Name (cA f) p) (a::args) [] pos) (RD X.K ex (ak es) fun τ=>U (aG cl es τ) fun ds=>bX f ds):=by
 obtain⟨k1,k2,k3,k4⟩:=c7 g (nM f) (gC hg)
 cases es with
 | nil=>cases Cb
 | cons b es=>
  have B8:(notStar a&&BW Z G b a&&aD Z G es args)=true:=Cb
  simp only[Bool.and_eq_true] at B8
  have mono:∀ σ H Q,RD X.K ex (ak (b::es)) (fun τ=>U (aG cl (b::es) τ) fun ds=>bX f ds) σ H Q->Mm (OI X.K ex f) (RA X.K ex (ak (b::es)) (aG cl (b::es))) σ H Q:=by
   rintro σ H Q ⟨S,τ,hs,q⟩
   refine iF (.refl _) hs (BK.U q) fun ds vs H1 e1 _ m1 q1=>?_
   exact⟨nw S H,ds,m1,q1.mono fun d hd=>hd.fit e1⟩
  refine ay ?_ mono
  have hv:=jX f
  have hc:=rH (X:=X) (ex:=ex) (g.calm (gD hg)) f
  unfold nJ at hv hc
  cases z:yC f with
  | true=>
   rw[z,if_pos rfl] at hv hc
   exact dJ hc k1 k2 hv h k3 k4 (ah B8.1.1 args X.env) (aX Z G (es:=es) pos X.env B8.2)
  | false=>
   rw[z,if_neg Bool.false_ne_true] at hv hc
   exact eE hc k1 k2 hv h k3 k4 (ah B8.1.1 args X.env) (aX Z G (es:=es) pos X.env B8.2)
theorem nR (g:Cg Z CX cl xp X ex G){n:Nat}{z:Str}{p:Pos}(h:aU Z G n z=true)(hc:Z.cls.contains n=true):∃ v,CV X z v/\PE X (.Name z p) (tC v):=by
 obtain⟨k1,k2,k3,k4⟩:=b9 g h
 obtain⟨v,hv⟩:=g.Gv n (by simpa using hc) z k2
 refine⟨v,hv,?_⟩
 rcases hv with ⟨C,rfl,h1⟩|⟨T,rfl,h1,h2⟩
 ·exact jL k1 h1 rfl k4
 ·exact qJ k1 h1 h2 rfl k3 k4
theorem iG {tb:List (Str×Bool)}{d:D}{k:D->Prop}(h:BK ex (v5 tb d) k):∃ c b,d=.exc c/\tb.lookup c=some b/\k (.bl b):=by
 cases d with
 | exc c=>
  have h':BK ex (match tb.lookup c with|some b=>.ok (.bl b)|none=>BR) k:=h
  cases z:tb.lookup c with
  | none=>rw[z] at h';exact h'.no.elim
  | some b=>rw[z] at h';exact⟨c,b,rfl,z,h'.ok⟩
 | _=>exact h.no.elim
theorem BL.KO {K:PySem.W.Frag}{S:Addr->Prop}{H:Hp}{v:V}{c:Str}(h:BL K S H v (.exc c)):∃ a,v=.ref a/\CA K H a (.inr c):=by
 cases h with
 | exc h=>exact⟨_,rfl,h⟩
theorem ml {v2:V}{z:Str}(hv:CV X z v2):bW X (.builtin "isinstance") (fun xs H Q=>∃ a c C b,xs=[.ref a,v2]/\CA X.K H a (.inr c)/\PySem.W.nsIn X.K mainGlobals c=some (some (.ref C))/\ExcAt X.K C/\PySem.W.kitOne X.K (.ref C) (vv v2)=some b/\Q (.bl b) H):=by
 intro pins s σ H xs us Q I r h
 obtain⟨a,c,C,b,rfl,h1,h2,h3,h4,q⟩:=h
 obtain⟨u,w',rfl,r1,r2⟩:=vals2 r
 cases r1
 rw[hv.rel r2]
 exact rJ I h1 h2 h3 h4 q
theorem mq {v1 v2:V}{z y:Str}(hv:CV X z v1)(hw:CV X y v2):bW X (.builtin "isinstance") (fun xs H Q=>∃ a p c C b,xs=[.ref a,.ref p]/\CA X.K H a (.inr c)/\De X.K H p [v1,v2]/\PySem.W.nsIn X.K mainGlobals c=some (some (.ref C))/\ExcAt X.K C/\PySem.W.kitAny X.K (.ref C) [vv v1,vv v2]=some b/\Q (.bl b) H):=by
 intro pins s σ H xs us Q I r h
 obtain⟨a,p,c,C,b,rfl,h1,hp,h2,h3,h4,q⟩:=h
 obtain⟨u,w',rfl,r1,r2⟩:=vals2 r
 cases r1
 cases r2
 exact rK I h1 h2 h3 hv hw hp h4 q
theorem lookup_mem {tb:List (Str×Bool)}{c:Str}{b:Bool}(h:tb.lookup c=some b):(c,b)∈tb:=by
 induction tb with
 | nil=>cases h
 | cons p r ih=>
  rw[List.lookup_cons] at h
  split at h
  ·rename_i hb
   cases h
   have:c=p.1:=eq_of_beq hb
   subst this
   exact List.mem_cons_self ..
  ·exact List.mem_cons_of_mem _ (ih h)
theorem yT (g:Cg Z CX cl xp X ex G){ns:List Nat}{tb:List (Str×Bool)}{e y:Expr}{p pos:Pos}{va:List Nat}{fa:Ev->Res D}(hg:G.gl.contains 14=true)(hn:notStar e=true)(hc:nN Z G ns y=true)(ht:tb.all (wc Z ns)=true)(ha:PE X e (RD X.K ex va fa)) :
  PE X (.Call (.Name "isinstance" p) [e,y] [] pos) (RD X.K ex va fun τ=>U (fa τ) (v5 tb)):=by
 obtain⟨k1,k2,k3,k4⟩:=c7 g (show bb[14]? = some ("isinstance" : Str) from rfl) hg
 rw[List.all_eq_true] at ht
 cases ns with
 | nil=>exact af hc
 | cons n r=>
 cases r with
 | nil=>
  obtain⟨z,p',rfl,Ep⟩:=ju (show Hg (fun z=>aU Z G n z&&Z.cls.contains n) y=true from hc)
  rw[Bool.and_eq_true] at Ep
  obtain⟨v,hv,pv⟩:=nR (p:=p') g Ep.1 Ep.2
  obtain⟨_,j2,_,_⟩:=b9 g Ep.1
  have pa:PA X [e,.Name z p'] (eD (RD X.K ex va fa) (eD (tC v) mU)):=aL ha (aL pv bG rfl) (ah hn _ _)
  refine ay (eE (ml hv) k1 k2 PyProof.Rows.boot_isinstance pa k3 k4 (ah hn _ _) rfl) fun σ H Q ⟨S,τ,hs,q⟩=>?_
  refine aO (.refl _) hs (BK.U q) fun x w H1 e1 _ m1 q1=>?_
  obtain⟨c,b,rfl,hl,q2⟩:=iG q1
  obtain⟨a,rfl,hx⟩:=m1.KO
  have hm:(c,n,b)∈Z.xt:=by simpa using show Z.xt.contains (c,n,b)=true from ht (c,b) (lookup_mem hl)
  obtain⟨C,h1,h2,h3⟩:=g.FE c n b z hm j2
  exact⟨a,c,C,b,rfl,hx,h1,h2,h3 v hv,q2 _ _ e1 (.bl _)⟩
 | cons m r=>
 cases r with
 | cons _ _=>exact af hc
 | nil=>
  obtain⟨es,tn,Kr,rfl,hc⟩:=wb (show MU (yF fun a b=>Hg (fun z=>aU Z G n z&&Z.cls.contains n) a&&Hg (fun y=>aU Z G m y&&Z.cls.contains m) b) y=true from hc)
  cases es with
  | nil=>exact af hc
  | cons z1 es=>
  cases es with
  | nil=>exact af hc
  | cons z2 es=>
  cases es with
  | cons _ _=>exact af hc
  | nil=>
  obtain⟨Q9,MW⟩:=Bool.and_eq_true_iff.mp (show (Hg (fun z=>aU Z G n z&&Z.cls.contains n) z1&&Hg (fun y=>aU Z G m y&&Z.cls.contains m) z2)=true from hc)
  obtain⟨z,p',rfl,LV⟩:=ju Q9
  obtain⟨y,p2,rfl,hd2⟩:=ju MW
  rw[Bool.and_eq_true] at LV hd2
  obtain⟨v,hv,pv⟩:=nR (p:=p') g LV.1 LV.2
  obtain⟨w,hw,pw⟩:=nR (p:=p2) g hd2.1 hd2.2
  obtain⟨_,j2,_,_⟩:=b9 g LV.1
  obtain⟨_,i2,_,_⟩:=b9 g hd2.1
  have pt:PE X (.Tuple [.Name z p',.Name y p2] tn Kr) _:=jb (aL pv (aL pw bG rfl) rfl)
  have pa:=aL ha (aL pt bG rfl) (ah hn _ _)
  refine ay (eE (mq hv hw) k1 k2 PyProof.Rows.boot_isinstance pa k3 k4 (ah hn _ _) rfl) fun σ H Q ⟨S,τ,hs,q⟩=>?_
  refine aO (.refl _) hs (BK.U q) fun x w' H1 e1 _ m1 q1=>?_
  obtain⟨c,b,rfl,hl,q2⟩:=iG q1
  obtain⟨a,rfl,hx⟩:=m1.KO
  have D3:(Z.xt.contains (c,n,false)&&Z.xt.contains (c,m,b))=true:=ht (c,b) (lookup_mem hl)
  rw[Bool.and_eq_true] at D3
  obtain⟨C,h1,h2,h3⟩:=g.FE c n false z (by simpa using D3.1) j2
  obtain⟨C',JL,OK,Ra⟩:=g.FE c m b y (by simpa using D3.2) i2
  rw[h1] at JL
  cases JL
  refine⟨(by decide:2<=sizeLine),fun pp hp=>⟨a,pp,c,C,b,rfl,(au.upd hp).Dq hx,.inl (.inl av),h1,h2,?_,q2 _ _ (e1.trans (.upd hp)) (.bl _)⟩⟩
  have a1:=h3 v hv
  have a2:=Ra w hw
  unfold PySem.W.kitAny
  rw[a1]
  unfold PySem.W.kitAny
  rw[a2]
  cases b<;>rfl
theorem yU {x:Str}{y:Option Str}{e e':Expr}{va:List Nat}{fa:Ev->Res D}(hx:x.length<=1000)(he:(∃ j p q pos,y=none/\e=.JoinedStr [.Constant (.str x) j p,.FormattedValue e' 114 none q] pos)∨∃ w j p q j' r pos,y=some w/\e=.JoinedStr [.Constant (.str x) j p,.FormattedValue e' 114 none q,.Constant (.str w) j' r] pos)(ha:PE X e' (RD X.K ex va fa)) :
  PE X e (RD X.K ex va fun τ=>U (fa τ) (nB x y)):=by
 rcases he with ⟨j,p,q,pos,rfl,rfl⟩|⟨w,j,p,q,j',r,pos,rfl,rfl⟩
 ·refine ay (rl hx ha) fun σ H Q ⟨S,τ,hs,q⟩=>?_
  refine aO (.refl _) hs (BK.U q) fun d v H1 e1 _ m1 q1=>?_
  cases d with
  | str z=>
   cases m1.Cr
   obtain⟨g,q1⟩:=BK.BN q1
   have g:=aQ g
   have e0:Str.empty.length=0:=rfl
   have g:x.length+(reprText z).length+Str.empty.length<=sizeLine:=g
   have q1:Kk X.K S H Q (.str (x++reprText z++Str.empty)):=q1.ok
   rw[Str.append_empty] at q1
   exact⟨z,rfl,by omega,q1 _ _ e1 (.str _)⟩
  | _=>exact q1.no.elim
 ·refine ay (rn hx ha) fun σ H Q ⟨S,τ,hs,q⟩=>?_
  refine aO (.refl _) hs (BK.U q) fun d v H1 e1 _ m1 q1=>?_
  cases d with
  | str z=>
   cases m1.Cr
   obtain⟨g,q1⟩:=BK.BN q1
   exact⟨z,rfl,aQ g,q1.ok _ _ e1 (.str _)⟩
  | _=>exact q1.no.elim
theorem jw {d:D}(h:dg d=true):∃ x,d=.str x:=by
 cases d<;>first|exact⟨_,rfl⟩|cases h
theorem yV (g:Cg Z CX cl xp X ex G){m:Mt}{o:Expr}{apos BQ:Pos}{vo:List Nat}{fo:Ev->Res D}{es:List IR}{a:Expr}{args:List Expr}(hn:eV o=true)(hl:(apos.endLine == BQ.line)=true)(hlen:(a::args).length < 29)(DP:(G.cm||jt m)=true)
  (Cb:aD Z G es (a::args)=true) (ho:PE X o (RD X.K ex vo fo)) (h:PA X (a::args) (RA X.K ex (ak es) (aG cl es))) :
  PE X (.Call (.Attribute o (eR m) apos) (a::args) [] BQ) (RD X.K ex (vo++ak es) fun τ=>U (fo τ) fun x=>BN (dg x) (U (aG cl es τ) fun ds=>eP m x ds)):=by
 cases es with
 | nil=>cases Cb
 | cons b es=>
  have B8:(notStar a&&BW Z G b a&&aD Z G es args)=true:=Cb
  simp only[Bool.and_eq_true] at B8
  have star:=aX Z G (es:=es) BQ X.env B8.2
  have mono:∀ σ H Q,RD X.K ex (vo++ak (b::es)) (fun τ=>U (fo τ) fun x=>BN (dg x) (U (aG cl (b::es) τ) fun ds=>eP m x ds)) σ H Q->N8 X.K "str" (OJ X.K ex m) (RD X.K ex vo fo) (RA X.K ex (ak (b::es)) (aG cl (b::es))) σ H Q:=by
   rintro σ H Q ⟨S,τ,hs,q⟩
   refine aO (.refl _) hs.left (BK.U q) fun x v H1 e1 _ m1 q1=>?_
   obtain⟨gd,q1⟩:=BK.BN q1
   obtain⟨z,rfl⟩:=jw gd
   cases m1.Cr
   refine⟨rfl,iF e1 hs.right (BK.U q1) fun ds vs H2 e2 CU m2 q2=>?_⟩
   exact⟨nw S H,.str z,ds,.str z,m2,q2.mono fun d hd=>hd.fit e2⟩
  have Dm:attributeBase o (eR m) X.env (eval o X.env)=eval o X.env:=by
   cases o with
   | Call f args DY pos=>
    cases args with
    | nil=>
     cases DY with
     | nil=>cases hn
     | cons _ _=>cases f<;>rfl
    | cons _ _=>cases f<;>rfl
   | _=>rfl
  have MX:(backTo BQ (starEach (a::args) X.env)).all (fun x=>!x.1)=true:=by
   rw[ah B8.1.1]
   show (true&&(backTo BQ (starEach args X.env)).all (fun x=>!x.1))=true
   rw[Bool.true_and,List.all_eq_true]
   intro y hy
   have:=List.any_eq_false.mp star y hy
   simpa using this
  have EB:((backTo BQ (starEach (a::args) X.env)).all (fun x=>!x.1)&&(backToKw BQ (keywordEach [] X.env)).all (fun x=>x.1.isSome)&&decide ((a::args).length+([]:List Keyword).length+(if ([]:List Keyword).isEmpty then 0 else 1) < 30))=true:=by
   rw[MX]
   have:decide ((a::args).length+([]:List Keyword).length+(if ([]:List Keyword).isEmpty then 0 else 1) < 30)=true:=decide_eq_true (by simp at hlen ⊢;omega)
   rw[this]
   rfl
  refine ay ?_ mono
  cases m with
  | join=>exact jO PySem.F.plainAttrs_str PySem.F.slot_str_join PySem.F.type_str_join (gA (ex:=ex) .join fun z=>by cases z) ho h Dm EB hl (ah B8.1.1 args X.env) star
  | index=>exact jO PySem.F.plainAttrs_str PySem.F.slot_str_index PySem.F.type_str_index (gA (ex:=ex) .index fun _=>g.calm (by rw[Bool.or_eq_true] at DP;exact DP.elim id fun z=>by cases z)) ho h Dm EB hl (ah B8.1.1 args X.env) star
  | starts=>exact jO PySem.F.plainAttrs_str PySem.F.slot_str_startswith PySem.F.type_str_startswith (gA (ex:=ex) .starts fun z=>by cases z) ho h Dm EB hl (ah B8.1.1 args X.env) star
end
section
variable {Z:Sg}{CX:C6}{cl:Nat->List D->Res D}{xp:XK->Hp->Str->Prop}{X:Cx}{ex:Str->Prop}{G:Gm}
theorem cT {K:PySem.W.Frag}{S:Addr->Prop}{H:Hp}{w:V}{y:D}{q:Key}(m:BL K S H w y)(h:bY y=some q):w=kV q:=by
 cases y with
 | int i=>cases h;cases m.Ca;rfl
 | str x=>cases h;cases m.Cr;rfl
 | _=>cases h
theorem dA {K:PySem.W.Frag}{S:Addr->Prop}{H:Hp}(q:Key):∀ (kvs:List (Key×V)) (ds:List D),BJ K S H (kvs.map (·.2)) ds->
  (∀ d,look (kvs.map (·.1)) ds q=some d->∃ v,cX kvs q=some v/\BL K S H v d)/\(look (kvs.map (·.1)) ds q).isSome=(cX kvs q).isSome:=by
 intro kvs
 induction kvs with
 | nil=>intro ds _;exact⟨fun d h=>(by cases h),rfl⟩
 | cons p kvs ih=>
  intro ds m
  rw[List.map_cons] at m
  cases ds with
  | nil=>exact absurd m.length (by simp)
  | cons d ds=>
   cases m with
   | cons m1 m2=>
    obtain⟨i1,i2⟩:=ih ds m2
    have e1:look ((p::kvs).map (·.1)) (d::ds) q=if p.1=q then some d else look (kvs.map (·.1)) ds q:=rfl
    rw[e1]
    unfold cX at i1 i2 ⊢
    rw[List.find?_cons]
    by_cases h:p.1=q
    ·rw[if_pos h,decide_eq_true h]
     exact⟨fun d' z=>⟨p.2,rfl,by cases z;exact m1⟩,rfl⟩
    ·rw[if_neg h,decide_eq_false h]
     exact⟨i1,i2⟩
theorem BL.E3 {K:PySem.W.Frag}{S:Addr->Prop}{H:Hp}{v:V}{o:Bool}{ks:List Key}{ds:List D}(h:BL K S H v (.BU o ks ds)):∃ a kvs,v=.ref a/\Rd H a (.dK kvs)/\kvs.map (·.1)=ks/\BJ K S H (kvs.map (·.2)) ds:=by
 cases h with
 | BU h0 h1 h2 h3=>exact⟨_,_,rfl,h1,h2,h3⟩
theorem wt {pos:Pos}:PE X (.Dict [] [] pos) (RD X.K ex [] (BM cl .Dh)):=by
 refine ay il fun σ H Q ⟨S,τ,hs,q⟩=>fun p hp=>?_
 exact q.ok _ _ (.upd hp) (.BU (kvs:=[]) (.inr hp) (.inl av) rfl .nil)
theorem wu (g:Cg Z CX cl xp X ex G){a b:Expr}{pos:Pos}{va vb:List Nat}{fa fb:Ev->Res D}(ha:PE X a (RD X.K ex va fa))(hb:PE X b (RD X.K ex vb fb))(hp:bx b=true) :
  PE X (.Subscript a b pos) (RD X.K ex (va++vb) fun τ=>U (fa τ) fun x=>U (fb τ) fun y=>iu x y):=by
 have hu:=g.un
 refine ay (ri (by omega) ha hb fun o i=>by cases b<;>first|rfl|cases hp) fun σ H Q ⟨S,τ,hs,q⟩=>?_
 refine aO (.refl _) hs.left (BK.U q) fun x v H1 e1 _ m1 q1=>?_
 refine aO e1 hs.right (BK.U q1) fun y w H2 e2 CU m2 q2=>?_
 cases x with
 | BU o ks ds=>
  have q3:BK ex (match bY y with|some q=>(match look ks ds q with|some d=>.ok d|none=>BR)|none=>BR) (Kk X.K S H Q):=q2
  cases hk:bY y with
  | none=>rw[hk] at q3;exact q3.no.elim
  | some k=>
   simp only[hk] at q3
   obtain⟨p,kvs,rfl,h1,rfl,h3⟩:=(m1.later CU).E3
   cases hl:look (kvs.map (·.1)) ds k with
   | none=>rw[hl] at q3;exact q3.no.elim
   | some d=>
    rw[hl] at q3
    obtain⟨v,hv,mv⟩:=(dA k kvs ds h3).1 d hl
    exact⟨p,v,rfl,.inl ⟨kvs,k,h1,cT m2 hk,hv.symm⟩,q3.ok _ _ e2 mv⟩
 | _=>exact q2.no.elim
theorem bS {is:List Nat}{f:Ev->Res D}{σ:St}{H:Hp}{Q Q':VK}(h:RD X.K ex is f σ H Q)(m:∀ v H',Q v H'->Q' v H'):RD X.K ex is f σ H Q':=by
 obtain⟨S,τ,hs,q⟩:=h
 exact⟨S,τ,hs,q.mono fun d hd w H' e r=>m w H' (hd w H' e r)⟩
theorem iH {n:Bool}{va vb:List Nat}{fa fb:Ev->Res D}{σ:St}{H:Hp}{Q:VK}(h:RD X.K ex (vb++va) (fun τ=>U (fb τ) fun y=>U (fa τ) fun x=>iw n x y) σ H Q) :
  RD X.K ex vb fb σ H fun y H1=>RD X.K ex va fa σ H1 fun x H2=>∃ a o,x=.ref a/\eN H2 a y o/\Q (.bl (n != o.isSome)) H2:=by
 obtain⟨S,τ,hs,q⟩:=h
 refine aO (.refl _) hs.left (BK.U q) fun y w H1 e1 _ m1 q1=>?_
 refine aO e1 hs.right (BK.U q1) fun x v H2 e2 CU m2 q2=>?_
 cases x with
 | BU o ks ds=>
  have q3:BK ex (match bY y with|some q=>.ok (.bl (n != (look ks ds q).isSome))|none=>BR) (Kk X.K S H Q):=q2
  cases hk:bY y with
  | none=>rw[hk] at q3;exact q3.no.elim
  | some k=>
   simp only[hk] at q3
   obtain⟨p,kvs,rfl,h1,rfl,h3⟩:=m2.E3
   rw[(dA k kvs ds h3).2] at q3
   exact⟨p,_,rfl,.inl ⟨kvs,k,h1,cT (m1.later CU) hk,rfl⟩,q3.ok _ _ e2 (.bl _)⟩
 | _=>exact q2.no.elim
theorem fP {n:Bool}{va vb:List Nat}{fa fb:Ev->Res D}{σ:St}{H:Hp}{Q:Bool->Hp->Prop}(h:RT X.K ex (vb++va) (fun τ=>U (U (fb τ) fun y=>U (fa τ) fun x=>iw n x y) aT) σ H Q) :
  RD X.K ex vb fb σ H fun y H1=>RD X.K ex va fa σ H1 fun x H2=>∃ a o,x=.ref a/\eN H2 a y o/\∃ c,V.bl (n != o.isSome)=.bl c/\Q c H2:=by
 obtain⟨S,τ,hs,q⟩:=h
 refine aO (.refl _) hs.left (BK.U (BK.U q)) fun y w H1 e1 _ m1 q1=>?_
 refine aO e1 hs.right (BK.U q1) fun x v H2 e2 CU m2 q2=>?_
 cases x with
 | BU o ks ds=>
  cases hk:bY y with
  | none=>
   have q3:iw n (.BU o ks ds) y=BR:=by show ((match bY y with|some q=>.ok (.bl (n != (look ks ds q).isSome))|none=>BR:Res D))=_;rw[hk]
   rw[q3] at q2;exact q2.no.elim
  | some k=>
   have q3:iw n (.BU o ks ds) y=.ok (.bl (n != (look ks ds k).isSome)):=by show ((match bY y with|some q=>.ok (.bl (n != (look ks ds q).isSome))|none=>BR:Res D))=_;rw[hk]
   rw[q3] at q2
   obtain⟨p,kvs,rfl,h1,rfl,h3⟩:=m2.E3
   rw[(dA k kvs ds h3).2] at q2
   exact⟨p,_,rfl,.inl ⟨kvs,k,h1,cT (m1.later CU) hk,rfl⟩,_,rfl,(q2.ok).ok _ e2⟩
 | _=>exact q2.no.elim
theorem yW (g:Cg Z CX cl xp X ex G){n:Bool}{a b:Expr}{pos:Pos}{va vb:List Nat}{fa fb:Ev->Res D}(hb:PE X b (RD X.K ex vb fb))(ha:PE X a (RD X.K ex va fa))(hm:behindInMarks (mi n) a=false) :
  PE X (.Compare b [mi n] [a] pos) (RD X.K ex (vb++va) fun τ=>U (fb τ) fun y=>U (fa τ) fun x=>iw n x y)/\
  PT X (.Compare b [mi n] [a] pos) (RT X.K ex (vb++va) fun τ=>U (U (fb τ) fun y=>U (fa τ) fun x=>iw n x y) aT):=by
 have hu:=g.un
 cases n with
 | false=>
  refine⟨ay (mI (mZ (by omega) hb ha) hm) fun σ H Q h=>?_,dM (mJ (mZ (by omega) hb ha) hm) fun σ H Q h=>?_⟩
  ·refine bS (iH h) fun y H1 z=>bS z fun x H2 ⟨p,o,e,d,q⟩=>⟨p,o,e,d,?_⟩
   rw[show (false != o.isSome)=o.isSome by cases o.isSome<;>rfl] at q
   exact q
  ·refine bS (fP h) fun y H1 z=>bS z fun x H2 ⟨p,o,e,d,q⟩=>⟨p,o,e,d,?_⟩
   rw[show (false != o.isSome)=o.isSome by cases o.isSome<;>rfl] at q
   exact q
 | true=>
  refine⟨ay (mI (fJ (by omega) hb ha) hm) fun σ H Q h=>?_,dM (mJ (fJ (by omega) hb ha) hm) fun σ H Q h=>?_⟩
  ·refine bS (iH h) fun y H1 z=>bS z fun x H2 ⟨p,o,e,d,q⟩=>⟨p,o,e,d,?_⟩
   rw[show (true != o.isSome) = !o.isSome by cases o.isSome<;>rfl] at q
   exact q
  ·refine bS (fP h) fun y H1 z=>bS z fun x H2 ⟨p,o,e,d,q⟩=>⟨p,o,e,d,?_⟩
   rw[show (true != o.isSome) = !o.isSome by cases o.isSome<;>rfl] at q
   exact q
end
section
variable {Z:Sg}{CX:C6}{cl:Nat->List D->Res D}{xp:XK->Hp->Str->Prop}{X:Cx}{ex:Str->Prop}{G:Gm}
theorem wx (g:Cg Z CX cl xp X ex G){e:Expr}{p p' pos pos':Pos}{va:List Nat}{fa:Ev->Res D}(h1:G.gl.contains 0=true)(h2:G.gl.contains 12=true)(hn:notStar e=true)(DP:G.cm=true)(ha:PE X e (RD X.K ex va fa)) :
  PE X (.Call (.Name "len" p) [.Call (.Name "set" p') [e] [] pos'] [] pos) (RD X.K ex va fun τ=>U (fa τ) jS):=by
 obtain⟨k1,k2,k3,k4⟩:=c7 g (show bb[0]? = some ("len" : Str) from rfl) h1
 obtain⟨j1,j2,j3,j4⟩:=c7 g (show bb[12]? = some ("set" : Str) from rfl) h2
 refine ay (rA (g.calm DP) k1 k2 j1 j2 ha fun es=>ah hn es X.env) fun σ H Q ⟨S,τ,hs,q⟩=>?_
 refine aO (.refl _) hs (BK.U q) fun x v H1 e1 _ m1 q1=>?_
 cases x with
 | lst o ds=>
  obtain⟨a,ys,rfl,qq,m⟩:=m1.CH
  have q2:BK ex (match br ds with|some ns=>BN (decide (ns.length < 1000)) (.ok (.int ((ns.foldl Sx.dd []).length:Nat)))|none=>BR) (Kk X.K S H Q):=q1
  cases z:br ds with
  | none=>rw[z] at q2;exact q2.no.elim
  | some ns=>
   rw[z] at q2
   obtain⟨gd,q3⟩:=BK.BN q2
   rw[dq z] at m
   rw[m.strs] at qq
   exact⟨a,ns,rfl,qq,of_decide_eq_true gd,q3.ok _ _ e1 (.int _)⟩
 | _=>exact q1.no.elim
theorem wy (g:Cg Z CX cl xp X ex G){o:Expr}{p pos apos BQ:Pos}{va:List Nat}{fa:Ev->Res D}(h1:G.EO 1=true)(hn:isNm o=true)(hl:(apos.endLine == BQ.line)=true)(ha:PE X o (RD X.K ex va fa)) :
  PE X (.Call (.Name "sum" p) [.Call (.Attribute o "values" apos) [] [] BQ] [] pos) (RD X.K ex va fun τ=>U (fa τ) jR):=by
 obtain⟨k1,k2,k3,k4⟩:=c7 g (show bb[1]? = some ("sum" : Str) from rfl) (gC h1)
 refine ay (rB (g.calm (gD h1)) k1 k2 ha (by cases o<;>first|rfl|cases hn) hl) fun σ H Q ⟨S,τ,hs,q⟩=>?_
 refine aO (.refl _) hs (BK.U q) fun x v H1 e1 _ m1 q1=>?_
 cases x with
 | BU o ks ds=>
  obtain⟨a,kvs,rfl,rd,_,m⟩:=m1.E3
  have q2:BK ex (match a9 ds with|some ns=>.ok (.int ns.sum)|none=>BR) (Kk X.K S H Q):=q1
  cases z:a9 ds with
  | none=>rw[z] at q2;exact q2.no.elim
  | some ns=>
   rw[z] at q2
   rw[dn z] at m
   exact⟨a,kvs,ns,rfl,rd,m.ints,q2.ok _ _ e1 (.int _)⟩
 | _=>exact q1.no.elim
theorem rM (g:Cg Z CX cl xp X ex G){o s f:Expr}{apos BQ:Pos}{va vb vc:List Nat}{fa fb fc:Ev->Res D}(hn:isNm o=true)(hl:(apos.endLine == BQ.line)=true)(h1:notStar s=true)(h2:notStar f=true)(ha:PE X o (RD X.K ex va fa))(hb:PE X s (RD X.K ex vb fb))(hc:PE X f (RD X.K ex vc fc)) :
  PE X (.Call (.Attribute o "get" apos) [s,f] [] BQ) (RD X.K ex (va++vb++vc) fun τ=>U (fa τ) fun x=>BN (jj x) (U (fb τ) fun y=>U (fc τ) fun z=>jk x y z)):=by
 have hu:=g.un
 have JE:backTo BQ (starEach [s,f] X.env)=[(false,eval s X.env),(false,eval f X.env)]:=by rw[ah h1,ah h2];rfl
 refine ay (m7 (by omega) ha hb hc ⟨(by cases o<;>first|rfl|cases hn),(by rw[JE];rfl),hl,JE⟩) fun σ H Q ⟨S,τ,hs,q⟩=>?_
 refine aO (.refl _) hs.left.left (BK.U q) fun x v H1 e1 _ m1 q1=>?_
 obtain⟨gd,q1⟩:=BK.BN q1
 cases x with
 | BU o ks ds=>
  obtain⟨a,kvs,rfl,rd,_,m⟩:=m1.E3
  refine⟨a,rfl,.inl ⟨kvs,rd⟩,aO e1 hs.left.right (BK.U q1) fun y w H2 e2 CU m2 q2=>?_⟩
  refine aO e2 hs.right (BK.U q2) fun z u H3 e3 Hl m3 q3=>?_
  have q4:BK ex (match bY y with|some q=>.ok ((look ks ds q).getD z)|none=>BR) (Kk X.K S H Q):=q3
  cases hk:bY y with
  | none=>rw[hk] at q4;exact q4.no.elim
  | some k=>
   simp only[hk] at q4
   obtain⟨a',kvs',ea,Rb,rfl,m'⟩:=((m1.later CU).later Hl).E3
   cases ea
   refine⟨cX kvs' k,.inl ⟨kvs',k,Rb,cT m2 hk,rfl⟩,?_⟩
   obtain⟨l1,l2⟩:=dA k kvs' ds m'
   cases hl:look (kvs'.map (·.1)) ds k with
   | none=>
    rw[hl] at q4 l2
    have:cX kvs' k=none:=by
     cases zv:cX kvs' k with
     | none=>rfl
     | some _=>rw[zv] at l2;cases l2
    rw[this]
    exact q4.ok _ _ e3 m3
   | some d=>
    rw[hl] at q4
    obtain⟨v',MR,Rc⟩:=l1 d hl
    rw[MR]
    exact q4.ok _ _ e3 Rc
 | _=>cases gd
end
section
variable {prog:Program}{w:World}{A:Around}{E:Value->Shared->Prop}{s:Shared}
theorem eW {it t:Addr}{items:Array Value}(EN:t≠it):∀ (n i:Nat) (s:Shared) (Q:List Value->Shared->Prop),s.heap.IsListIter it t i->s.heap.IsList t items->i+n<=items.size->
  (∀ h',h'.IsListIter it t (i+n)->Heap.SameBut it s.heap h'->Q ((items.toList.drop i).take n) {s with heap:=h'})->wpAny (model prog w) A (draw (.ref it) n) Q E s
 | 0,i,s,Q,hit,_,_,hQ=>by
  show wpAny _ _ (pure []) Q E s
  exact wpAny_pure (by simpa using hQ s.heap hit (Heap.SameBut.refl ..))
 | n+1,i,s,Q,hit,ht,hle,hQ=>by
  have CY:i < items.size:=by omega
  show wpAny _ _ (pyNext (.ref it) >>= _) Q E s
  refine wpAny_bind (wpAny_pyNext_list_item hit ht (x:=items[i]) (by simp[CY]) fun G5 E4 EL=>?_)
  refine wpAny_bind (wpAny_holding (eW EN n (i+1) _ _ E4 (ht.extBut EL.extBut EN) (by omega) fun EZ IQ KP=>wpAny_pure ?_))
  have hd:items.toList.drop i=items[i]::items.toList.drop (i+1):=by simp[List.drop_eq_getElem_cons,CY]
  have:=hQ EZ (by rw[show i+(n+1)=i+1+n by omega];exact IQ) (EL.trans KP)
  rw[hd,List.take_succ_cons] at this
  exact this
theorem dQ {t:Addr}{items:Array Value}{Q:List Value->Shared->Prop}(hh:A.handled=none)(ht:s.heap.IsList t items)
  (hQ:∀ h',Heap.ExtBut s.heap.objs.size s.heap h'->Q items.toList {s with heap:=h'}):wpAny (model prog w) A (unpackItems (.ref t) items.size none) Q E s:=by
 have CY:t≠s.heap.objs.size:=by obtain⟨o,ho,_⟩:=ht;exact Nat.ne_of_lt (Heap.lt_size ho)
 have push:∀ o,(s.heap.push o).IsList t items:=fun o=>by
  obtain⟨ob,e,c,n,d⟩:=ht
  exact⟨ob,Heap.get?_push_of_some _ e,c,n,d⟩
 unfold unpackItems
 refine wpAny_bind ?_
 ·unfold notIterableAtAll
  refine wpAny_bind (wpAny_specialOf ht.typeIs slot_list_iter.lookup ?_)
  refine wpAny_pure ?_
  simp only[Bool.false_eq_true,if_false]
  refine wpAny_bind (wpAny_holding (wpAny_pyIter_list ht ?_))
  refine wpAny_bind (wpAny_holding (eW CY items.size 0 _ _ ⟨_,Heap.get?_push_size _ rfl,rfl,rfl⟩ (push _) (by omega) fun G5 E4 EL=>?_))
  have Gb:List.take items.size (List.drop 0 items.toList)=items.toList:=by
   rw[List.drop_zero];exact List.take_of_length_le (by simp)
  rw[Gb]
  rw[if_neg (by simp)]
  have KQ:G5.IsList t items:=(push _).extBut EL.extBut CY
  refine wpAny_bind (wpAny_holding (wpAny_pyNext_list_end hh E4 KQ (by simp) fun EZ KR=>?_))
  simp only[Option.isSome_none,Bool.false_eq_true,if_false]
  refine wpAny_pure (hQ EZ fun b o hb e=>KR b o hb (EL.extBut b o hb (Heap.get?_push_of_some _ e)))
end
def yX (K:PySem.W.Frag)(n:Nat)(t:Hz):TG:=fun v σ H Q=>∃ a xs,v=.ref a/\(De K H a xs∨Dd K H a xs)/\xs.length=n/\t xs σ H Q
theorem wz {X:Cx}{pos:Pos}{es:List Expr}{k:Nat}{t:Hz}{n:Nat}(hc:X.calm=true)(h:J6 X es t)(hn:(assignEach es X.env).length=n)(Cb:(assignEach es X.env).findIdx? (·.1)=none):PG X (.Tuple es k pos) (yX X.K n t):=by
 intro pins s σ H v u Q I r hw
 obtain⟨a,xs,e1,hq,hl,hw⟩:=hw
 subst e1
 cases r
 rcases hq with hq|hq
 ·obtain⟨its,rv,ht,hz⟩:=I.tuple hq
  refine assign_Tuple_tuple (I.ok.hd hc) ht (by simp[hn,<- hl,rv.length]) Cb fun h' hx=>?_
  have I1:Inv X pins σ H {s with heap:=h'}:=I.kept (t':=s.toks) fun b o e=>hx b o (Nat.ne_of_lt (Heap.lt_size e)) e
  exact h pins _ σ H xs _ Q I1 (by simpa using rv) hw
 ·obtain⟨its,rv,pl,hz⟩:=I.list hq
  rw[assign_Tuple]
  refine wpAny_bind (wpAny_standAt ?_)
  unfold unpack
  have hlen:(assignEach es X.env).length=its.toArray.size:=by simp[hn,<- hl,rv.length]
  rw[hlen,Cb]
  refine wpAny_bind (wpAny_holding (dQ (I.ok.hd hc) pl.isList fun h' hx=>?_))
  have I1:Inv X pins σ H {s with heap:=h'}:=I.kept (t':=s.toks) fun b o e=>hx b o (Nat.ne_of_lt (Heap.lt_size e)) e
  exact h pins _ σ H xs _ Q I1 (by simpa using rv) hw
mutual
noncomputable def gT (K:PySem.W.Frag):Tg->TG
 | .nm i=>mQ i
 | .tp ts=>yX K ts.length (KS K ts)
noncomputable def KS (K:PySem.W.Frag):List Tg->Hz
 | []=>xZ
 | t::ts=>sR (gT K t) (KS K ts)
end
theorem dB {e:Expr}(h:notStar e=true)(es:List Expr)(env:Env):assignEach (e::es) env=(false,assign e env)::assignEach es env:=by
 cases e<;>first|rfl|cases h
section
variable {Z:Sg}{CX:C6}{cl:Nat->List D->Res D}{xp:XK->Hp->Str->Prop}{X:Cx}{ex:Str->Prop}{G:Gm}
theorem eX (G:Gm):∀ {ts:List Tg}{es:List Expr} (env:Env),c6 G ts es=true->(assignEach es env).length=ts.length/\(assignEach es env).findIdx? (·.1)=none
 | [],[],_,_=>⟨rfl,rfl⟩
 | t::ts,e::es,env,h=>by
  have h':(notStar e&&bB G t e&&c6 G ts es)=true:=h
  simp only[Bool.and_eq_true] at h'
  obtain⟨h1,h2⟩:=eX G (ts:=ts) (es:=es) env h'.2
  rw[dB h'.1.1]
  refine⟨by rw[List.length_cons,h1,List.length_cons],?_⟩
  rw[List.findIdx?_cons,if_neg (by simp),h2]
  rfl
 | [],_::_,_,h=>by cases h
 | _::_,[],_,h=>by cases h
mutual
theorem IT (g:Cg Z CX cl xp X ex G):∀ (t:Tg) (e:Expr),bB G t e=true->PG X e (gT X.K t)
 | .nm i,e,h=>by
  cases e with
  | Name x pos=>
   have h':(G.N[i]? == some x&&(G.kd[i]? == some .local||(G.df&&G.kd[i]? == some .cell)))=true:=(Bool.and_eq_true_iff.mp h).1
   rw[Bool.and_eq_true,Bool.or_eq_true,Bool.and_eq_true] at h'
   obtain⟨h1,h2⟩:=h'
   have hx:G.N[i]? = some x:=eq_of_beq h1
   have hk:=g.kd i x hx
   refine qN (by rw[g.N];exact g.Cf) (by rw[g.N];exact hx) ?_ ?_
   ·rcases h2 with h2|h2
    ·exact .inl (hk.trans (eq_of_beq h2))
    ·exact .inr (hk.trans (eq_of_beq h2.2))
   ·rcases h2 with h2|h2
    ·exact .inr (hk.trans (eq_of_beq h2))
    ·exact .inl (g.df h2.1 x)
  | _=>cases h
 | .tp ts,e,h=>by
  cases e with
  | Tuple es k pos=>
   have h0:(G.cm&&c6 G ts es)=true:=h
   rw[Bool.and_eq_true] at h0
   have h':=h0.2
   obtain⟨h1,h2⟩:=eX G X.env h'
   exact wz (g.calm h0.1) (yY g ts es h') h1 h2
  | _=>cases h
theorem yY (g:Cg Z CX cl xp X ex G):∀ (ts:List Tg) (es:List Expr),c6 G ts es=true->J6 X es (KS X.K ts)
 | [],[],_=>qO
 | t::ts,e::es,h=>by
  have h':(notStar e&&bB G t e&&c6 G ts es)=true:=h
  simp only[Bool.and_eq_true] at h'
  exact mR (IT g t e h'.1.2) (yY g ts es h'.2) (by rw[dB h'.1.1];rfl)
 | [],_::_,h=>by cases h
 | _::_,[],h=>by cases h
end
end
mutual
theorem dC {G:Gm}:∀ (t:Tg) (e:Expr),bB G t e=true->∀ j∈DN t,G.io≠some j
 | .nm i,e,h,j,hj=>by
  cases e with
  | Name x pos=>
   have h':=(Bool.and_eq_true_iff.mp (show ((G.N[i]? == some x&&(G.kd[i]? == some .local||(G.df&&G.kd[i]? == some .cell)))&&G.io != some i)=true from h)).2
   have e:j=i:=by simpa[DN] using hj
   subst e
   simpa using h'
  | _=>cases h
 | .tp ts,e,h,j,hj=>by
  cases e with
  | Tuple es k pos=>
   have h0:(G.cm&&c6 G ts es)=true:=h
   exact iI ts es (Bool.and_eq_true_iff.mp h0).2 j hj
  | _=>cases h
theorem iI {G:Gm}:∀ (ts:List Tg) (es:List Expr),c6 G ts es=true->∀ j∈iD ts,G.io≠some j
 | [],_,_,j,hj=>by cases hj
 | t::ts,[],h,_,_=>by cases h
 | t::ts,e::es,h,j,hj=>by
  have h':(notStar e&&bB G t e&&c6 G ts es)=true:=h
  simp only[Bool.and_eq_true] at h'
  rcases List.mem_append.mp (show j∈DN t++iD ts from hj) with hj|hj
  ·exact dC t e h'.1.2 j hj
  ·exact iI ts es h'.2 j hj
end
def JM (K:PySem.W.Frag)(S:Addr->Prop)(H:Hp)(σ:St)(τ:Ev):Prop:=τ.length=σ.length/\∀ i d,aj τ i=some d->∃ v,σ[i]? = some (some v)/\BL K S H v d
theorem fQ {τ:Ev}{i j:Nat}{o:Option D}:aj (τ.set i o) j=if i=j/\i < τ.length then o else aj τ j:=by
 unfold aj
 rw[List.getElem?_set]
 by_cases h:i=j
 ·subst h
  by_cases h2:i < τ.length
  ·simp[h2]
  ·rw[if_pos rfl,if_neg h2,if_neg (by omega)]
   rw[List.getElem?_eq_none (by omega)]
 ·rw[if_neg h,if_neg (by omega)]
section
variable {K:PySem.W.Frag}{S:Addr->Prop}{H:Hp}{ex:Str->Prop}
mutual
theorem jZ:∀ (t:Tg) {σ:St}{τ:Ev}{v:V}{d:D}{Kt:Ev->Prop}{Q:St->Hp->Prop},JM K S H σ τ->BL K S H v d->BK ex (bH t d τ) Kt->
  (∀ BP B4,JM K S H B4 BP->B4.length=σ.length->(∀ j,j∉DN t->B4[j]? = σ[j]?)->Kt BP->Q B4 H)->gT K t v σ H Q
 | .nm i,σ,τ,v,d,Kt,Q,hs,m,h,k=>by
  refine k (τ.set i (some d)) (σ.set i (some v)) ⟨by rw[List.length_set,List.length_set,hs.1],fun j e z=>?_⟩ (by rw[List.length_set]) (fun j hj=>?_) h.ok
  ·rw[fQ] at z
   by_cases q:i=j/\i < τ.length
   ·rw[if_pos q] at z
    obtain⟨rfl,q⟩:=q
    cases z
    exact⟨v,by rw[List.getElem?_set_self (by rw[<- hs.1];exact q)],m⟩
   ·rw[if_neg q] at z
    obtain⟨w,h1,h2⟩:=hs.2 j e z
    refine⟨w,?_,h2⟩
    by_cases q2:i=j
    ·subst q2
     exfalso
     have:i < σ.length:=by
      have:=(List.getElem?_eq_some_iff.mp h1).1
      exact this
     exact q ⟨rfl,by rw[hs.1];exact this⟩
    ·rw[List.getElem?_set_ne q2];exact h1
  ·have:i≠j:=fun z=>hj (by subst z;simp[DN])
   rw[List.getElem?_set_ne this]
 | .tp ts,σ,τ,v,d,Kt,Q,hs,m,h,k=>by
  cases d with
  | tup ds=>
   obtain⟨a,xs,rfl,q,ms⟩:=m.CZ
   obtain⟨g,h⟩:=BK.BN h
   have g':ds.length=ts.length:=of_decide_eq_true g
   exact⟨a,xs,rfl,.inl q,by rw[ms.length,g'],eY ts hs ms h k⟩
  | lst o ds=>
   obtain⟨a,xs,rfl,q,ms⟩:=m.CH
   obtain⟨g,h⟩:=BK.BN h
   have g':ds.length=ts.length:=of_decide_eq_true g
   exact⟨a,xs,rfl,.inr q,by rw[ms.length,g'],eY ts hs ms h k⟩
  | _=>exact h.no.elim
theorem eY:∀ (ts:List Tg) {σ:St}{τ:Ev}{vs:List V}{ds:List D}{Kt:Ev->Prop}{Q:St->Hp->Prop},JM K S H σ τ->BJ K S H vs ds->BK ex (dv ts ds τ) Kt->
  (∀ BP B4,JM K S H B4 BP->B4.length=σ.length->(∀ j,j∉iD ts->B4[j]? = σ[j]?)->Kt BP->Q B4 H)->KS K ts vs σ H Q
 | [],σ,τ,vs,ds,Kt,Q,hs,m,h,k=>by
  cases m with
  | nil=>exact⟨rfl,k τ σ hs rfl (fun _ _=>rfl) h.ok⟩
  | cons _ _=>exact h.no.elim
 | t::ts,σ,τ,vs,ds,Kt,Q,hs,m,h,k=>by
  cases m with
  | nil=>exact h.no.elim
  | cons m1 m2=>
   refine⟨_,_,rfl,jZ t hs m1 (BK.U h) fun BP B4 LW hn hk h'=>?_⟩
   refine eY ts LW m2 h' fun IU IV MY DZ MO MZ=>k IU IV MY (DZ.trans hn) (fun j hj=>?_) MZ
   have LX:j∉DN t/\j∉iD ts:=by
    constructor<;>(intro z;apply hj;simp[iD,z])
   rw[MO j LX.2,hk j LX.1]
end
end
section
variable {K:PySem.W.Frag}{S S':Addr->Prop}{H H':Hp}{J:It}{ds:List D}
theorem WS.step (hl:∀ a (u:LD),S a->Rd H a u.o->S' a/\Rd H' a u.o)(ht:∀ a xs,CA K H a xs->CA K H' a xs){k:Zp.Kq}{a:Addr}{xs:List V}(h:WS K S H k a xs):WS K S' H' k a xs:=by
 cases k with
 | l=>exact h.elim (fun z=>.inl (hl _ (.l _) z.1 z.2)) fun z=>.inr z
 | t=>exact ht _ (.inl _) h
theorem iJ (ds es:List D):(l6 ds es).length=min ds.length es.length:=by unfold l6;rw[List.length_zipWith]
theorem DO.step (hl:∀ a (u:LD),S a->Rd H a u.o->S' a/\Rd H' a u.o)(ht:∀ a xs,CA K H a xs->CA K H' a xs)(h:DO K S H J ds):DO K S' H' J ds:=by
 cases h with
 | lst h0 h1 h2=>exact .lst (hl _ (.l _) h0 h1).1 (hl _ (.l _) h0 h1).2 (h2.step hl ht)
 | lstK h1 h2=>exact .lstK h1 (h2.step hl ht)
 | tup h1 h2=>exact .tup (ht _ (.inl _) h1) (h2.step hl ht)
 | FK lo hi=>exact .FK lo hi
 | str x=>exact .str x
 | zip h1 h2 h3 h4=>exact .zip (h1.step hl ht) (h2.step hl ht) (h3.step hl ht) (h4.step hl ht)
theorem DO.mono (h:DO K S H J ds)(hS:∀ a,S a->S' a)(e:au H H'):DO K S' H' J ds:=h.step (fun a xs s r=>⟨hS a s,e.rd r⟩) fun a xs s=>e.Dq s
theorem eZ (x:Str):(cO x).length=x.cps.size:=by unfold cO;simp
theorem cf (a b:Int):(bM a b).length=(b - a).toNat:=by unfold bM;simp
theorem DO.stop (h:DO K S H J ds){i:Nat}(hi:ds.length<=i):J.stop i H:=by
 cases h with
 | lst h0 h1 h2=>exact⟨_,.inl h1,by rw[h2.length];exact hi⟩
 | lstK h1 h2=>exact⟨_,h1.sq,by rw[h2.length];exact hi⟩
 | tup h1 h2=>exact⟨_,h1,by rw[h2.length];exact hi⟩
 | FK lo Gg=>rw[cf] at hi;exact hi
 | str x=>rw[eZ] at hi;exact hi
 | zip h1 h2 h3 h4=>exact⟨_,_,h1.sq,h2.sq,by rw[iJ] at hi;rw[h3.length,h4.length];omega⟩
theorem DO.go (h:DO K S H J ds){i:Nat}(hi:i < ds.length):J.go i H:=by
 cases h with
 | lst h0 h1 h2=>obtain⟨v,hv,_⟩:=h2.get (i:=i) (d:=ds[i]) (by simp[hi]);exact⟨_,v,.inl h1,hv⟩
 | lstK h1 h2=>obtain⟨v,hv,_⟩:=h2.get (i:=i) (d:=ds[i]) (by simp[hi]);exact⟨_,v,h1.sq,hv⟩
 | tup h1 h2=>obtain⟨v,hv,_⟩:=h2.get (i:=i) (d:=ds[i]) (by simp[hi]);exact⟨_,v,h1,hv⟩
 | FK lo Gg=>rw[cf] at hi;exact hi
 | str x=>rw[eZ] at hi;exact hi
 | zip h1 h2 h3 h4=>
  rename_i ds' DV
  rw[iJ] at hi
  obtain⟨v,hv,_⟩:=h3.get (i:=i) (d:=ds'[i]) (by rw[List.getElem?_eq_getElem])
  obtain⟨u,hu,_⟩:=h4.get (i:=i) (d:=DV[i]) (by rw[List.getElem?_eq_getElem])
  exact⟨_,_,v,u,h1.sq,h2.sq,hv,hu⟩
theorem DO.GW (h:DO K S H J ds){i:Nat}{x:V}{H2:Hp}(y:J.GW i H x H2){d:D}(hd:ds[i]? = some d):au H H2/\BL K S H2 x d:=by
 have fin:∀ {xs:List V},BJ K S H xs ds->xs[i]? = some x->BL K S H x d:=fun m e=>by
  obtain⟨d',e',m'⟩:=m.IF e
  rw[hd] at e';cases e';exact m'
 cases h with
 | lst h0 h1 h2=>obtain⟨e,y⟩:=y;subst e;exact⟨.refl _,fin h2 (y _ (.inl h1))⟩
 | lstK h1 h2=>obtain⟨e,y⟩:=y;subst e;exact⟨.refl _,fin h2 (y _ h1.sq)⟩
 | tup h1 h2=>obtain⟨e,y⟩:=y;subst e;exact⟨.refl _,fin h2 (y _ h1)⟩
 | zip h1 h2 h3 h4=>
  obtain⟨T,a,b,e1,hT,e2,hy⟩:=y
  subst e1 e2
  obtain⟨y1,y2⟩:=hy _ _ h1.sq h2.sq
  obtain⟨d1,g1,m1⟩:=h3.IF y1
  obtain⟨d2,g2,m2⟩:=h4.IF y2
  unfold l6 at hd
  rw[List.getElem?_zipWith,g1,g2] at hd
  cases hd
  have e:au H (upd H T (.tup [a,b])):=.upd hT
  exact⟨e,.tup (De.of av) (.cons (m1.mono (fun _ z=>z) e) (.cons (m2.mono (fun _ z=>z) e) .nil))⟩
 | FK lo Gg=>
  obtain⟨e1,e2⟩:=y
  subst e1
  refine⟨.refl _,?_⟩
  subst e2
  unfold bM at hd
  rw[List.getElem?_map] at hd
  have hi:i < (Gg - lo).toNat:=by
   have:=(Option.map_eq_some_iff.mp hd)
   obtain⟨z,h1,_⟩:=this
   have:=(List.getElem?_eq_some_iff.mp h1).1
   simpa using this
  rw[List.getElem?_range hi] at hd
  cases hd
  exact .int _
 | str x=>
  obtain⟨e1,c,h1,e2⟩:=y
  subst e1
  refine⟨.refl _,?_⟩
  subst e2
  unfold cO at hd
  rw[List.getElem?_map] at hd
  have h2:x.cps.toList[i]? = some c:=by simpa using h1
  rw[h2] at hd
  cases hd
  exact .str _
end
section
variable {Z:Sg}{CX:C6}{cl:Nat->List D->Res D}{xp:XK->Hp->Str->Prop}{X:Cx}{ex:Str->Prop}{G:Gm}{K:PySem.W.Frag}{S:Addr->Prop}{H H1:Hp}{σ:St}{τ:Ev}
theorem yZ {is:List Nat}{f:Ev->Res (List D)}{Kt:List D->Prop}{R:It->Hp->Prop}(e:au H H1)(hs:Slots K S H σ τ is)(h:BK ex (f τ) Kt)(k:∀ ds J H2,au H H2->au H1 H2->DO K (nw S H) H2 J ds->Kt ds->R J H2):RI K ex is f σ H1 R:=
 ⟨nw S H,τ,hs.go e,h.mono fun x hx J H2 e2 m=>k x J H2 (e.trans e2) e2 (m.mono (fO e) (.refl _)) hx⟩
theorem j0 {tg:Expr}{pins:List (Addr×Obj)}{s:Shared}{a:Addr}{xs:List V}{R:It->Hp->Prop}(I:Inv X pins σ H s)(hq:Dd X.K H a xs)(q:R (Lu X.K a) H):wpAny (model X.prog X.w) X.A (pyIter (.ref a)) (Jx X pins σ tg R) X.xe s:=by
 obtain⟨its,rv,p,hz⟩:=I.list hq
 refine wpAny_pyIter_list p.isList ?_
 refine⟨s.heap.objs.size,[s.heap.objs.size],_,_,H,rfl,I.kept (t':=s.toks) fun b o e=>Heap.get?_push_of_some _ e,lJ a _,⟨_,Heap.get?_push_size _ rfl,rfl,rfl⟩,fun b hb=>?_,q⟩
 have e:b=s.heap.objs.size:=by simpa using hb
 subst e
 exact I.Fy (Nat.le_refl _) (I.BY.fresh (Nat.le_refl _))
theorem nS {tg:Expr}{pins:List (Addr×Obj)}{s:Shared}{a:Addr}{xs:List V}{R:It->Hp->Prop}(I:Inv X pins σ H s)(hq:De X.K H a xs)(q:R (Mh X.K a) H):wpAny (model X.prog X.w) X.A (pyIter (.ref a)) (Jx X pins σ tg R) X.xe s:=by
 obtain⟨its,rv,p,hz⟩:=I.tuple hq
 refine wpAny_pyIter_tuple (show s.heap.IsTuple a its.toArray from p) ?_
 refine⟨s.heap.objs.size,[s.heap.objs.size],_,_,H,rfl,I.kept (t':=s.toks) fun b o e=>Heap.get?_push_of_some _ e,i0 a _,⟨_,Heap.get?_push_size _ rfl,rfl,rfl⟩,fun b hb=>?_,q⟩
 have e:b=s.heap.objs.size:=by simpa using hb
 subst e
 exact I.Fy (Nat.le_refl _) (I.BY.fresh (Nat.le_refl _))
theorem y9 {tg e:Expr}{va:List Nat}{fa:Ev->Res D}(ha:PE X e (RD X.K ex va fa)):PI X tg e (RI X.K ex va fun τ=>U (fa τ) gu):=by
 intro pins s σ H R I h
 obtain⟨S,τ,hs,q⟩:=h
 refine B7 (ha pins s σ H (fun v H'=>∃ d,au H H'/\BL X.K (nw S H) H' v d/\_) I (aO (.refl _) hs (BK.U q) fun x v H1 e1 _ m1 q1=>⟨x,e1,m1,q1⟩)) fun v s1 ⟨x,H1,I1,r1,d,e1,m1,q1⟩=>?_
 cases d with
 | lst o ds=>
  cases m1 with
  | lst h0 h1 h2=>cases r1;exact j0 I1 (.inl h1) (q1.ok _ _ e1 (.lst h0 h1 h2))
  | lstK h1 h2=>cases r1;exact j0 I1 h1.sq (q1.ok _ _ e1 (.lstK h1 h2))
 | tup ds=>
  obtain⟨a,xs,rfl,h1,h2⟩:=m1.CZ
  cases r1
  exact nS I1 h1 (q1.ok _ _ e1 (.tup h1 h2))
 | str z=>
  cases m1.Cr
  obtain⟨t,rfl⟩:=r1
  obtain⟨_,q1⟩:=BK.BN q1
  exact wa I1 (q1.ok _ _ e1 (.str z))
 | _=>exact q1.no.elim
theorem wA (g:Cg Z CX cl xp X ex G){tg e:Expr}{p pos:Pos}{va:List Nat}{fa:Ev->Res D}(hg:G.gl.contains 15=true)(hn:notStar e=true)(ha:PE X e (RD X.K ex va fa)) :
  PI X tg (.Call (.Name "range" p) [e] [] pos) (RI X.K ex va fun τ=>U (fa τ) fun|.int i=>BN (bK i) (.ok (bM 0 i))|_=>BR):=by
 obtain⟨k1,k2,_,_⟩:=c7 g (show bb[15]? = some ("range" : Str) from rfl) hg
 refine jc (fB k1 k2 (aL ha bG (ah hn _ _)) (ah hn _ _)) fun σ H Q ⟨S,τ,hs,q⟩=>?_
 refine aO (.refl _) hs (BK.U q) fun x v H1 e1 _ m1 q1=>?_
 cases x with
 | int i=>
  cases m1.Ca
  obtain⟨gd,q1⟩:=BK.BN q1
  have GI : -(2 ^ 62)<=i/\i < 2 ^ 62:=of_decide_eq_true gd
  refine⟨i,rfl,GI.1,GI.2,?_⟩
  have:=q1.ok _ _ e1 (.FK 0 i)
  rw[Int.sub_zero] at this
  exact this
 | _=>exact q1.no.elim
theorem za {a:Addr}{v:V}{d:D}{ds:List D}(m:BL K S H v d)(h:jl d=.ok ds):∃ k a xs,v=.ref a/\WS K S H k a xs/\BJ K S H xs ds:=by
 cases d with
 | lst o es=>
  cases h
  cases m with
  | lst h0 h1 h2=>exact⟨.l,_,_,rfl,.inl ⟨h0,h1⟩,h2⟩
  | lstK h1 h2=>exact⟨.l,_,_,rfl,.inr h1,h2⟩
 | tup es=>
  cases h
  obtain⟨a,xs,rfl,h1,h2⟩:=m.CZ
  exact⟨.t,a,xs,rfl,h1,h2⟩
 | _=>cases h
theorem zb (g:Cg Z CX cl xp X ex G){es:List Expr}{c:Nat}{tp:Pos}{e e':Expr}{p pos:Pos}{va vb:List Nat}{fa fb:Ev->Res D}(hg:G.gl.contains 17=true)(hn:notStar e=true)(DZ:notStar e'=true)(ha:PE X e (RD X.K ex va fa))(hb:PE X e' (RD X.K ex vb fb)) :
  PI X (.Tuple es c tp) (.Call (.Name "zip" p) [e,e'] [] pos) (RI X.K ex (va++vb) fun τ=>U (fa τ) fun x=>U (fb τ) fun y=>yu x y):=by
 obtain⟨k1,k2,_,_⟩:=c7 g (show bb[17]? = some ("zip" : Str) from rfl) hg
 refine jc (vZ k1 k2 (aL ha (aL hb bG (ah DZ _ _)) (ah hn _ _)) (by rw[ah hn,ah DZ];rfl) (ah DZ _ _)) fun σ H Q ⟨S,τ,hs,q⟩=>?_
 refine aO (.refl _) hs.left (BK.U q) fun x v H1 e1 _ m1 q1=>?_
 refine aO e1 hs.right (BK.U q1) fun y w H2 e2 CU m2 q2=>?_
 have q3:=BK.U (show BK ex (U (jl x) fun ds=>U (jl y) fun es=>.ok (l6 ds es)) _ from q2)
 have Rf:=m1.mono (fun _ z=>z) CU
 cases hx:jl x with
 | error z=>
  rw[hx] at q3
  cases x<;>first|(cases hx;exact q3.no.elim)|cases hx
 | ok ds=>
  rw[hx] at q3
  have q4:=BK.U q3.ok
  cases hy:jl y with
  | error z=>
   rw[hy] at q4
   cases y<;>first|(cases hy;exact q4.no.elim)|cases hy
  | ok DV=>
   rw[hy] at q4
   obtain⟨k1,a1,xs,rfl,w1,r1⟩:=za (a:=0) Rf hx
   obtain⟨k2,a2,ys,rfl,w2,r2⟩:=za (a:=0) m2 hy
   exact⟨k1,k2,a1,a2,xs,ys,rfl,w1.sq,w2.sq,q4.ok.ok _ _ e2 (.zip w1 w2 r1 r2)⟩
theorem cg {env:Env}{x:Str}:∀ (names:List (Str×NameKind)),
  (names.map fun (n,k)=>if (k == NameKind.free&&env.scope.kind == .function&&env.kindOf n == some .cell) then (n,NameKind.cell) else (n,k)).lookup x =
   (names.lookup x).map fun k=>if (k == NameKind.free&&env.scope.kind == .function&&env.kindOf x == some .cell) then NameKind.cell else k
 | []=>rfl
 | (n,k)::r=>by
  have ih:=cg (env:=env) (x:=x) r
  rw[List.map_cons]
  show List.lookup x ((if (k == NameKind.free&&env.scope.kind == .function&&env.kindOf n == some .cell)=true then (n,NameKind.cell) else (n,k))::_)=_
  by_cases hc:(k == NameKind.free&&env.scope.kind == .function&&env.kindOf n == some .cell)=true
  ·rw[if_pos hc,List.lookup_cons,List.lookup_cons]
   cases hx:x == n with
   | true=>
    have e:x=n:=eq_of_beq hx
    subst e
    show some NameKind.cell=some (if _ then _ else _)
    rw[if_pos hc]
   | false=>exact ih
  ·rw[if_neg hc,List.lookup_cons,List.lookup_cons]
   cases hx:x == n with
   | true=>
    have e:x=n:=eq_of_beq hx
    subst e
    show some k=some (if _ then _ else _)
    rw[if_neg hc]
   | false=>exact ih
theorem jx {scope:Scope}{env:Env}(h:∀ y∈scope.names,y.2=.free->∃ c,env.cells.lookup y.1=some c) :
  ∃ C9,closureFor scope env=pure C9/\(∀ x c,C9.lookup x=some c->env.cells.lookup x=some c)/\∀ y∈scope.names,y.2=.free->∃ c,C9.lookup y.1=some c:=by
 have key:∀ (names:List (Str×NameKind)) (acc:List (Str×Addr)),(∀ y∈names,y.2=.free->∃ c,env.cells.lookup y.1=some c)->(∀ x c,acc.lookup x=some c->env.cells.lookup x=some c)->
   ∃ C9,(forIn names acc fun (p:Str×NameKind) (r:List (Str×Addr))=>(if (p.2 == NameKind.free)=true then do let a <- cellOf env p.1;pure (ForInStep.yield ((p.1,a)::r)) else pure (ForInStep.yield r):Sem (ForInStep (List (Str×Addr)))))=pure C9/\(∀ x c,C9.lookup x=some c->env.cells.lookup x=some c)/\
    (∀ y∈names,y.2=.free->∃ c,C9.lookup y.1=some c)/\∀ x c,acc.lookup x=some c->∃ c',C9.lookup x=some c':=by
  intro names
  induction names with
  | nil=>intro acc _ h2;exact⟨acc,rfl,h2,fun y hy=>absurd hy (by simp),fun x c e=>⟨c,e⟩⟩
  | cons p names ih=>
   intro acc h1 h2
   rw[List.forIn_cons]
   by_cases hp:p.2=.free
   ·obtain⟨c,hc⟩:=h1 p (by simp) hp
    have hb:(p.2 == NameKind.free)=true:=by rw[hp];rfl
    have OK:∀ x c',((p.1,c)::acc).lookup x=some c'->env.cells.lookup x=some c':=by
     intro x c' e
     rw[List.lookup_cons] at e
     cases hx:x == p.1 with
     | true=>
      rw[hx] at e
      cases e
      rw[eq_of_beq hx]
      exact hc
     | false=>rw[hx] at e;exact h2 x c' e
    obtain⟨C9,e1,e2,e3,e4⟩:=ih ((p.1,c)::acc) (fun y hy=>h1 y (List.mem_cons_of_mem _ hy)) OK
    refine⟨C9,?_,e2,fun y hy hf=>?_,fun x c' e=>?_⟩
    ·rw[if_pos hb]
     have:cellOf env p.1=pure c:=by unfold cellOf;rw[hc]
     rw[this]
     exact e1
    ·rcases List.mem_cons.mp hy with rfl|hy
     ·exact e4 y.1 c (by rw[List.lookup_cons];simp)
     ·exact e3 y hy hf
    ·rcases hx:x == p.1 with _|_
     ·exact e4 x c' (by rw[List.lookup_cons,hx];exact e)
     ·exact e4 x c (by rw[List.lookup_cons,hx])
   ·have hb:¬ (p.2 == NameKind.free)=true:=fun z=>hp (eq_of_beq z)
    obtain⟨C9,e1,e2,e3,e4⟩:=ih acc (fun y hy=>h1 y (List.mem_cons_of_mem _ hy)) h2
    refine⟨C9,?_,e2,fun y hy hf=>?_,e4⟩
    ·rw[if_neg hb]
     exact e1
    ·rcases List.mem_cons.mp hy with rfl|hy
     ·exact absurd hf hp
     ·exact e3 y hy hf
 obtain⟨C9,e1,e2,e3,_⟩:=key scope.names [] h (fun x c e=>by cases e)
 refine⟨C9,?_,e2,e3⟩
 unfold closureFor
 exact congrArg (fun (m:Sem (List (Str×Addr)))=>m >>= fun r=>pure r) e1
structure FG (Z:Sg)(G:Gm)(scope:Scope)(G':Gm)(fr:List Nat):Prop where
 cm:G.cm=true
 kind:scope.kind=.function
 tr:G'.tr=false
 df:G'.df=false
 TN:G'.kd.length=G'.N.length
 Eb:∀ y∈scope.names,y.2≠.cell
 loc:∀ y∈scope.names,y.2=.local->scope.names.lookup y.1=some .local
 Rg:∀ y∈scope.names,y.2=.free->∃ i:Nat,G.N[i]? = some y.1/\(G.kd[i]? = some .cell∨G.kd[i]? = some .free)
 CI:∀ (j:Nat) (i:Nat),fr[j]? = some i->∃ x,G.N[i]? = some x/\G'.N[j]? = some x/\scope.names.lookup x=some .free/\(G.kd[i]? = some .cell∨G.kd[i]? = some .free)/\G'.kd[j]? = some (if (G.kd[i]? == some .cell)=true then .cell else .free)
 KU:fr.length<=G'.N.length
 DN:∀ (j:Nat) (x:Str),fr.length<=j->G'.N[j]? = some x->scope.names.lookup x=some .local/\G'.kd[j]? = some .local
 Fq:∀ x∈G'.N,(x == ("__debug__" : Str))=false/\(x == ("__classdict__" : Str))=false
 Cf:G'.N.Nodup
 gl:∀ n∈G'.gl,∃ x,Z.name n=some x/\scope.names.lookup x=some .globalImplicit
theorem gH {Z:Sg}{G:Gm}{scope:Scope}{G':Gm}{fr:List Nat}(h:bz Z G scope G' fr=true):FG Z G scope G' fr:=by
 unfold bz at h
 simp only[Bool.and_eq_true] at h
 obtain⟨⟨⟨⟨⟨⟨⟨⟨⟨⟨⟨⟨⟨h0,h1⟩,JL⟩,h2⟩,h3⟩,h4⟩,h5⟩,h6⟩,h7⟩,h8⟩,h9⟩,HD⟩,Jz⟩,Ko⟩:=h
 rw[List.all_eq_true] at h4 h5 h6 h7 h9 HD Ko
 refine⟨h0,eq_of_beq h1,by simpa using JL,by simpa using h2,eq_of_beq h3,fun y hy=>by simpa using h4 y hy,fun y hy e=>?_,fun y hy e=>?_,fun j i e=>?_,of_decide_eq_true h8,fun j x hj e=>?_,fun x hx=>by simpa using HD x hx,of_decide_eq_true Jz,fun n hn=>?_⟩
 ·have:=h5 y hy
  rw[e] at this
  simpa using this
 ·have:=h6 y hy
  rw[e] at this
  simp only[bne_self_eq_false,Bool.false_or,List.any_eq_true,Bool.and_eq_true,Bool.or_eq_true] at this
  obtain⟨i,_,hi,hk⟩:=this
  exact⟨i,eq_of_beq hi,hk.elim (fun z=>.inl (eq_of_beq z)) fun z=>.inr (eq_of_beq z)⟩
 ·have hj:j < fr.length:=(List.getElem?_eq_some_iff.mp e).1
  have:=h7 j (List.mem_range.mpr hj)
  simp only[e,Option.bind_some,Bool.and_eq_true,Bool.or_eq_true] at this
  obtain⟨⟨⟨a1,a2⟩,a3⟩,a4⟩:=this
  have OL:=eq_of_beq a1
  have LY:=eq_of_beq a2
  cases q:G'.N[j]? with
  | none=>rw[q] at LY;cases LY
  | some x=>
   rw[q] at LY OL
   exact⟨x,OL.symm,rfl,LY,a3.elim (fun z=>.inl (eq_of_beq z)) fun z=>.inr (eq_of_beq z),eq_of_beq a4⟩
 ·have CY:j < G'.N.length:=(List.getElem?_eq_some_iff.mp e).1
  have hm:j∈(List.range G'.N.length).drop fr.length:=by
   rw[List.mem_drop_iff_getElem]
   exact⟨j - fr.length,by simp;omega,by simp;omega⟩
  have:=h9 j hm
  rw[e] at this
  simp only[Option.bind_some,Bool.and_eq_true] at this
  exact⟨eq_of_beq this.1,eq_of_beq this.2⟩
 ·have:=Ko n hn
  cases q:Z.name n with
  | none=>rw[q] at this;cases this
  | some x=>
   rw[q] at this
   exact⟨x,rfl,eq_of_beq this⟩
noncomputable def FH (G:Gm)(fr:List Nat):List (Str×Nat):=fr.map fun i=>(G.N.getD i "",i)
theorem ze {scope:Scope}{G':Gm}{fr:List Nat}(s:FG Z G scope G' fr):(FH G fr).map (·.1)++G'.N.drop fr.length=G'.N:=by
 have e:(FH G fr).map (·.1)=G'.N.take fr.length:=by
  apply List.ext_getElem?
  intro j
  unfold FH
  rw[List.map_map,List.getElem?_map,List.getElem?_take]
  cases q:fr[j]? with
  | none=>
   have:¬ j < fr.length:=by
    intro z
    rw[List.getElem?_eq_getElem z] at q
    cases q
   rw[if_neg this]
   rfl
  | some i=>
   have:j < fr.length:=(List.getElem?_eq_some_iff.mp q).1
   rw[if_pos this]
   obtain⟨x,h1,h2,_⟩:=s.CI j i q
   rw[h2]
   show some (G.N.getD i "")=some x
   rw[List.getD_eq_getElem?_getD,h1]
   rfl
 rw[e,List.take_append_drop]
theorem dR (g:Cg Z CX cl xp X ex G)(ok:X.Ok){scope:Scope}{G':Gm}{fr:List Nat}(s:FG Z G scope G' fr):∃ C9,Dx X scope C9 (FH G fr) (G'.N.drop fr.length):=by
 have Fb:∀ y∈scope.names,y.2=.free->∃ c,X.env.cells.lookup y.1=some c:=fun y hy hf=>by
  obtain⟨i,h1,h2⟩:=s.Rg y hy hf
  have hk:=g.kd i y.1 h1
  exact ok.has y.1 (h2.elim (fun z=>.inl (hk.trans z)) fun z=>.inr (hk.trans z))
 obtain⟨C9,e1,e2,e3⟩:=jx Fb
 refine⟨C9,e1,s.kind,s.Eb,s.loc,e2,fun x hx=>?_,fun p hp=>?_⟩
 ·have hl:=cg (env:=X.env) (x:=x) scope.names
  have Dz:((scope.names.lookup x).map fun k=>if (k == NameKind.free&&X.env.scope.kind == .function&&X.env.kindOf x == some .cell)=true then NameKind.cell else k)=some .cell∨
    ((scope.names.lookup x).map fun k=>if (k == NameKind.free&&X.env.scope.kind == .function&&X.env.kindOf x == some .cell)=true then NameKind.cell else k)=some .free:=by
   rcases hx with hx|hx
   ·exact .inl (hl.symm.trans hx)
   ·exact .inr (hl.symm.trans hx)
  cases q:scope.names.lookup x with
  | none=>rw[q] at Dz;rcases Dz with z|z<;>cases z
  | some k=>
   have hm:(x,k)∈scope.names:=PySem.mem_of_lookup q
   have hk:k=.free:=by
    rw[q] at Dz
    rcases Dz with z|z
    ·have z':(if (k == NameKind.free&&X.env.scope.kind == .function&&X.env.kindOf x == some .cell)=true then NameKind.cell else k)=.cell:=Option.some.inj z
     split at z'
     ·rename_i hc
      simp only[Bool.and_eq_true] at hc
      exact eq_of_beq hc.1.1
     ·exact absurd z' (s.Eb _ hm)
    ·have z':(if (k == NameKind.free&&X.env.scope.kind == .function&&X.env.kindOf x == some .cell)=true then NameKind.cell else k)=.free:=Option.some.inj z
     split at z'
     ·cases z'
     ·exact z'
   exact e3 (x,k) hm hk
 ·unfold FH at hp
  rw[List.mem_map] at hp
  obtain⟨i,hi,rfl⟩:=hp
  obtain⟨j,hj⟩:=List.getElem?_of_mem hi
  obtain⟨x,h1,h2,h3,h4,h5⟩:=s.CI j i hj
  have hn:G.N.getD i "" = x:=by rw[List.getD_eq_getElem?_getD,h1];rfl
  show X.N[i]? = some (G.N.getD i "")/\_
  rw[hn]
  have hk:=g.kd i x h1
  refine⟨by rw[g.N];exact h1,h4.elim (fun z=>.inl (hk.trans z)) fun z=>.inr (hk.trans z),?_⟩
  have hl:=cg (env:=X.env) (x:=x) scope.names
  rw[h3] at hl
  have Rh:(relabel scope X.env).names.lookup x=some (if (NameKind.free == NameKind.free&&X.env.scope.kind == .function&&X.env.kindOf x == some .cell)=true then NameKind.cell else NameKind.free):=hl
  rw[Rh]
  split
  ·exact .inl rfl
  ·exact .inr rfl
theorem bA (g:Cg Z CX cl xp X ex G){scope:Scope}{G':Gm}{fr:List Nat}(s:FG Z G scope G' fr)(C9:List (Str×Addr))(C:Addr)(s3:Shared)(H3:Hp)(fp:List Addr) :
  Cg Z CX cl xp (Ff X scope C9 ((FH G fr).map (·.1)++G'.N.drop fr.length) C s3 H3 fp) (fun _=>False) G' where
 N:=ze s
 Cf:=s.Cf
 calm:=fun _=>g.calm s.cm
 fk:=s.kind
 un:=g.un
 own:=fun _=>PassesOwn.never
 kd:=fun j x hx=>by
  show (relabel scope X.env).names.lookup x=_
  have hl:=cg (env:=X.env) (x:=x) scope.names
  by_cases hj:j < fr.length
  ·obtain⟨y,h1,h2,h3,h4,h5⟩:=s.CI j fr[j] (by simp[hj])
   rw[hx] at h2
   cases h2
   rw[h3] at hl
   rw[h5]
   refine hl.trans ?_
   have hk:=g.kd fr[j] x h1
   show some (if (NameKind.free == NameKind.free&&X.env.scope.kind == .function&&X.env.kindOf x == some .cell)=true then NameKind.cell else NameKind.free)=_
   rw[hk,g.fk]
   rfl
  ·obtain⟨h1,h2⟩:=s.DN j x (by omega) hx
   rw[h1] at hl
   rw[h2]
   exact hl
 Fq:=fun j x hx=>s.Fq x (List.mem_of_getElem? hx)
 gl:=fun n hn x e=>by
  obtain⟨y,h1,h2⟩:=s.gl n hn
  rw[e] at h1
  cases h1
  show (relabel scope X.env).names.lookup x=_
  have hl:=cg (env:=X.env) (x:=x) scope.names
  rw[h2] at hl
  exact hl
 FV:=g.FV
 df:=fun z=>by rw[s.df] at z;cases z
 blt:=g.blt
 cst:=g.cst
 fns:=fun f hf _ x hx=>g.fns f hf (.inl s.cm) x hx
 DX:=fun f hf _ x hx=>g.DX f hf s.cm x hx
 Gv:=g.Gv
 FE:=g.FE
 Gw:=g.Gw
 FW:=g.FW
 KJ:=fun _ pins σ H s c C h' e vs _ z=>z.elim
 tr:=fun z=>by rw[s.tr] at z;cases z
 KN:=⟨fun _ _ _=>False,fun pins σ H s e s' _ h=>(g.Gx _ _ _ _ _ h).elim,fun c _ z=>z.elim⟩
 GH:=g.GH
 Gx:=g.Gx
end
abbrev CF:Str->Prop:=fun _=>False
theorem BK.Dj {α:Type}{ex:Str->Prop}{x:Res α}{k:α->Prop}(h:BK ex (L2.Dj x) k):BK CF x k:=by
 cases x with
 | ok a=>exact h
 | error e=>exact False.elim h
section
variable {K:PySem.W.Frag}{S:Addr->Prop}{H:Hp}{σ:St}{τ:Ev}{ex:Str->Prop}{cl:Nat->List D->Res D}{G G':Gm}{fr:List Nat}
noncomputable def E5 (G':Gm)(fr:List Nat)(τ:Ev):Ev:=fr.map (aj τ)++List.replicate (G'.N.length - fr.length) none
theorem rN (hl:fr.length<=G'.N.length):(E5 G' fr τ).length=G'.N.length:=by
 unfold E5
 rw[List.length_append,List.length_map,List.length_replicate]
 omega
theorem rO (Tg:List Str)(σ:St):(stC (FH G fr) Tg σ).length=fr.length+Tg.length:=by
 unfold stC FH
 rw[List.length_append,List.length_map,List.length_map,List.length_replicate]
theorem nT {j:Nat}{d:D}(h:aj (E5 G' fr τ) j=some d):∃ i,fr[j]? = some i/\aj τ i=some d:=by
 unfold aj E5 at h
 by_cases hj:j < fr.length
 ·rw[List.getElem?_append_left (by simpa using hj),List.getElem?_map,List.getElem?_eq_getElem hj] at h
  exact⟨fr[j],by simp[hj],h⟩
 ·rw[List.getElem?_append_right (by simpa using hj),List.getElem?_replicate] at h
  split at h<;>cases h
theorem rP {vs:List Nat}{B4:St}(hl:fr.length<=G'.N.length)(hs:Slots K S H σ τ (fr++vs))(hn:B4.length=G'.N.length)(Dc:∀ j,j < fr.length->B4[j]? = (stC (FH G fr) (G'.N.drop fr.length) σ)[j]?):JM K S H B4 (E5 G' fr τ):=by
 refine⟨by rw[rN hl,hn],fun j d h=>?_⟩
 obtain⟨i,hi,hd⟩:=nT h
 have hj:j < fr.length:=(List.getElem?_eq_some_iff.mp hi).1
 obtain⟨v,h1,h2⟩:=hs i (List.mem_append_left _ (List.mem_of_getElem? hi)) d hd
 refine⟨v,?_,h2⟩
 rw[Dc j hj]
 unfold stC FH
 rw[List.getElem?_append_left (by simpa using hj),List.getElem?_map,List.getElem?_map,hi]
 show some ((σ[i]?).join)=some (some v)
 rw[h1]
 rfl
noncomputable def bc (cl:Nat->List D->Res D)(T:Tg)(I:List IR)(E:IR)(Ri:Ev)(x:D):Res (Option D):=U (bH T x Ri) fun HL=>U (dh cl I HL) fun r=>if r=true then U (BM cl E HL) fun d=>.ok (some d) else .ok none
theorem ck {vs:List Nat}{fs:Ev->Res (List D)}{T:Tg}{I:List IR}{E:IR}{Kt:D->Prop}{Q:VK}(hl:fr.length<=G'.N.length)(ha:∀ i∈DN T,fr.length<=i)(hs:Slots K S H σ τ (fr++vs))
  (q:BK ex (U (fs τ) fun its=>BN (cN its.length) (U (Dj (ba (bc cl T I E (E5 G' fr τ)) its)) fun ds=>.ok (.lst true ds))) Kt)
  (fin:∀ A ys ds H',au H H'->H A=none->H' A=some (.lst ys)->BJ K (fun a=>nw S H a/\a≠A) H' ys ds->Kt (.lst true ds)->Q (.ref A) H') :
  mY (RI K ex vs fs) (stC (FH G fr) (G'.N.drop fr.length)) (gT K T) (RT K CF (ak I) (dh cl I)) (RD K CF (vars E) (BM cl E)) σ H Q:=by
 refine yZ (.refl _) hs.right (BK.U q) fun its J H1 e1 _ w1 q1 A hA=>?_
 obtain⟨gd,q1⟩:=BK.BN q1
 have q2:=BK.Dj (BK.U q1)
 have hsz:=gy gd
 have Rj:H A=none:=e1.free hA
 -- Mi is read M0 apart from Ij new list
 have EG:∀ a,nw S H a->H1 a≠none->nw S H a/\a≠A:=fun a h1 h2=>⟨h1,fun z=>h2 (by rw[z];exact hA)⟩
 have w2:DO K (fun a=>nw S H a/\a≠A) H1 J its:=w1.step (fun a xs h r=>⟨EG a h r.some,r⟩) fun a xs h=>h
 have Gf:Slots K (fun a=>nw S H a/\a≠A) H1 σ τ (fr++vs):=fun i hi d z=>by
  obtain⟨v,h1,h2⟩:=(hs.go e1) i hi d z
  exact⟨v,h1,h2.step (fun a xs h r=>⟨EG a h r.some,r⟩) fun a xs h=>h⟩
 refine⟨fun i m B4 H'=>m=its.length - i/\i<=its.length/\∃ ys acc,H' A=some (.lst ys)/\BJ K (fun a=>nw S H a/\a≠A) H' ys acc/\ys.length<=i/\au H1 H'/\B4.length=G'.N.length/\
   (∀ j,j < fr.length->B4[j]? = (stC (FH G fr) (G'.N.drop fr.length) σ)[j]?)/\BK CF (ba (bc cl T I E (E5 G' fr τ)) (its.drop i)) fun ds=>Kt (.lst true (acc++ds)),⟨its.length,by simp,Nat.zero_le _,[],[],av,.nil,Nat.le_refl _,.upd hA,?_,fun _ _=>rfl,?_⟩,?_⟩
 ·rw[rO,List.length_drop];omega
 ·rw[List.drop_zero]
  exact q2.mono fun ds z=>z.ok
 ·rintro i m B4 H' ⟨rfl,hi,ys,acc,hy,my,ly,e2,hn,Dc,q3⟩
  by_cases CY:i < its.length
  ·refine .inr ⟨(w2.mono (fun _ z=>z) e2).go CY,fun x H2 Rk=>?_⟩
   obtain⟨eH,mx⟩:=(w2.mono (fun _ z=>z) e2).GW Rk (d:=its[i]) (by simp[CY])
   have hy:=eH _ _ hy
   have my:=my.mono (fun _ z=>z) eH
   have e2:=e2.trans eH
   have hd:its.drop i=its[i]::its.drop (i+1):=List.drop_eq_getElem_cons CY
   rw[hd] at q3
   have q4:=BK.U q3
   have q5:BK CF (bH T its[i] (E5 G' fr τ)) _:=BK.U q4
   have sl:JM K (fun a=>nw S H a/\a≠A) H2 B4 (E5 G' fr τ):=rP (G:=G) (vs:=vs) (σ:=σ) hl (fun i hi d z=>by
    obtain⟨v,h1,h2⟩:=Gf i hi d z
    exact⟨v,h1,h2.mono (fun _ z=>z) e2⟩) hn Dc
   refine jZ T sl mx q5 fun BP EA Rl DZ hk q6=>?_
   have Lz:EA.length=G'.N.length:=DZ.trans hn
   have KW:∀ j,j < fr.length->EA[j]? = (stC (FH G fr) (G'.N.drop fr.length) σ)[j]?:=fun j hj=>by
    rw[hk j (fun z=>by have:=ha j z;omega)]
    exact Dc j hj
   have OM:∀ is,Slots K (fun a=>nw S H a/\a≠A) H2 EA BP is:=fun is i _ d z=>Rl.2 i d z
   refine gG (.refl _) (OM _) (BK.U q6) fun r H4 e4 _ q7=>?_
   cases r with
   | false=>
    rw[if_neg Bool.false_ne_true] at q7 ⊢
    have q8:BK CF (ba (bc cl T I E (E5 G' fr τ)) (its.drop (i+1))) fun ds=>Kt (.lst true (acc++ds)):=q7
    refine⟨its.length - (i+1),by omega,rfl,CY,ys,acc,e4 _ _ hy,my.mono (fun _ z=>z) e4,by omega,e2.trans e4,Lz,KW,q8⟩
   | true=>
    rw[if_pos rfl] at q7 ⊢
    refine aO e4 (OM _) (BK.U q7) fun d v H5 e5 TQ m5 q8=>?_
    have q9:BK CF (U (ba (bc cl T I E (E5 G' fr τ)) (its.drop (i+1))) fun r=>.ok (d::r)) fun ds=>Kt (.lst true (acc++ds)):=q8
    have Fg:=BK.U q9
    have ON:H5 A=some (.lst ys):=e5 _ _ hy
    refine⟨ys,ON,by omega,its.length - (i+1),by omega,rfl,CY,ys++[v],acc++[d],av,?_,by rw[List.length_append,List.length_singleton];omega,?_,Lz,KW,?_⟩
    ·have OP:∀ a (xs:LD),(nw S H a/\a≠A)->Rd H5 a xs.o->(nw S H a/\a≠A)/\Rd (upd H5 A (.lst (ys++[v]))) a xs.o:=fun a xs h r=>by
      refine⟨h,?_⟩
      unfold Rd
      rw[ai h.2]
      exact r
     have OQ:∀ a xs,CA K H5 a xs->CA K (upd H5 A (.lst (ys++[v]))) a xs:=fun a xs h=>h.upd ON
     have m6:BL K (fun a=>nw S H a/\a≠A) H5 v d:=m5.step (fun a xs h r=>⟨by
      rcases h with h|h
      ·exact h
      ·have:H a=none:=e1.free (e2.free h)
       exact⟨.inr this,fun z=>by rw[z,hy] at h;cases h⟩,r⟩) fun a xs h=>h
     exact(((my.mono (fun _ z=>z) e5).step OP OQ)).append (.cons (m6.step OP OQ) .nil)
    ·exact fun b o hb=>by
      have:b≠A:=by rintro rfl;rw[hA] at hb;cases hb
      rw[ai this]
      exact e5 _ _ (e2 _ _ hb)
    ·refine Fg.mono fun ds z=>?_
     have z':=z.ok
     rw[List.append_assoc]
     exact z'
  ·have e:i=its.length:=by omega
   subst e
   refine .inl ⟨(w2.mono (fun _ z=>z) e2).stop (Nat.le_refl _),?_⟩
   rw[List.drop_length] at q3
   have q4:=q3.ok
   rw[List.append_nil] at q4
   exact fin A ys acc H' (e1.trans e2) Rj hy my q4
end
section
variable {Z:Sg}{CX:C6}{cl:Nat->List D->Res D}{xp:XK->Hp->Str->Prop}{X:Cx}{ex:Str->Prop}{G G':Gm}{fr:List Nat}
theorem e6 {T:Tg}{s:Sr}{I:List IR}{E:IR}:BM cl (.comp G' fr T s I E)=fun τ=>U (dm cl s τ) fun its=>BN (cN its.length) (U (Dj (ba (bc cl T I E (E5 G' fr τ)) its)) fun ds=>.ok (.lst true ds)):=rfl
theorem wB (g:Cg Z CX cl xp X ex G){scope:Scope}{tg iter elt:Expr}{ifs:List Expr}{pos:Pos}{T:Tg}{s:Sr}{I:List IR}{E:IR}(hs:FG Z G scope G' fr)(hT:bB G' T tg=true)(ha:∀ i∈DN T,fr.length<=i)
  (hi:PI X tg iter (RI X.K ex (dw s) (dm cl s))) (ht:∀ X',Cg Z CX cl xp X' CF G'->G1 X' ifs (RT X'.K CF (ak I) (dh cl I))) (he:∀ X',Cg Z CX cl xp X' CF G'->PE X' elt (RD X'.K CF (vars E) (BM cl E)))
  (hf:∀ x,foldedSetIterable iter X.env x=pure x):PE X (.ListComp elt [⟨tg,iter,ifs,0⟩] scope pos) (RD X.K ex (fr++dw s) (BM cl (.comp G' fr T s I E))):=by
 intro pins s' σ H Q Iv h
 obtain⟨C9,S⟩:=dR g Iv.ok hs
 have p:=jP (pos:=pos) (elt:=elt) (ifs:=ifs) (tg:=tg) (g:=gT X.K T) (tt:=RT X.K CF (ak I) (dh cl I)) (te:=RD X.K CF (vars E) (BM cl E)) (g.calm hs.cm) S hi (fun C s H fp=>IT (bA g hs C9 C s H fp) T tg hT) (fun C s H fp=>ht _ (bA g hs C9 C s H fp)) (fun C s H fp=>he _ (bA g hs C9 C s H fp)) hf
 refine p pins s' σ H Q Iv ?_
 obtain⟨S0,τ,M1,q⟩:=h
 rw[e6] at q
 exact ck hs.KU ha M1 q fun A ys ds H' e hA HS m k=>k _ _ e (.lst (.inr hA) (.inl HS) (m.mono (fun _ z=>z.1) (.refl _)))
end
section
variable {Z:Sg}{CX:C6}{cl:Nat->List D->Res D}{xp:XK->Hp->Str->Prop}
theorem mz {e:Expr}{a:IR}{G:Gm}(h:BW Z G a e=true)(env:Env)(x:Value):foldedSetIterable e env x=pure x:=by
 cases e<;>first|rfl|(cases a<;>cases h)
theorem bN {e:Expr}{a:Sr}{G:Gm}(h:bR Z G a e=true)(env:Env)(x:Value):foldedSetIterable e env x=pure x:=by
 cases a with
 | val a=>exact mz (show BW Z G a e=true from h) env x
 | _=>cases e<;>first|rfl|cases h
theorem both {X:Cx}{ex:Str->Prop}{e:Expr}{is:List Nat}{f:Ev->Res D}(h:PE X e (RD X.K ex is f))(he:∀ whole,isTrue e X.env whole=(do let v <- whole;standAt e.pos;holding [v] (truthy v)):=by intro _;rfl) :
  PE X e (RD X.K ex is f)/\PT X e (RT X.K ex is fun τ=>U (f τ) aT):=⟨h,yG h he⟩
mutual
theorem snd:∀ (a:IR) (X:Cx) (ex:Str->Prop) (G:Gm) (e:Expr),Cg Z CX cl xp X ex G->BW Z G a e=true->PE X e (RD X.K ex (vars a) (BM cl a))/\PT X e (RT X.K ex (vars a) fun τ=>U (BM cl a τ) aT)
 | .c d,X,ex,G,e,g,h=>by
  cases e with
  | Constant k j pos=>exact both (Q7 h)
  | _=>first|exact af h|cases h
 | .g n d,X,ex,G,e,g,h=>by
  cases e with
  | Name x pos=>
   have h':(aU Z G n x&&Z.JG.any fun p=>p.1 == n&&mf p.2 d)=true:=h
   rw[Bool.and_eq_true] at h'
   exact both (Q8 g h'.1 h'.2)
  | _=>first|exact af h|cases h
 | .v i,X,ex,G,e,g,h=>by
  cases e with
  | Name x pos=>exact both (Q6 g h)
  | _=>first|exact af h|cases h
 | .bin op a b,X,ex,G,e,g,h=>by
  cases e with
  | BinOp l o r pos=>
   have h':(o == IJ op&&BW Z G a l&&BW Z G b r)=true:=h
   simp only[Bool.and_eq_true] at h'
   have e1:o=IJ op:=eq_of_beq h'.1.1
   subst e1
   exact both (yI (snd a X ex G l g h'.1.2).1 (snd b X ex G r g h'.2).1)
  | _=>first|exact af h|cases h
 | .neg a,X,ex,G,e,g,h=>by
  cases e with
  | UnaryOp o l pos=>
   cases o with
   | USub=>exact both (yJ (snd a X ex G l g h).1)
   | _=>first|exact af h|cases h
  | _=>first|exact af h|cases h
 | .cmp op a b,X,ex,G,e,g,h=>by
  cases e with
  | Compare l os rs pos=>
   match os,rs,h with
   | [o],[r],h=>
    have h':(o == IK op&&BW Z G a l&&BW Z G b r&&!behindInMarks o r)=true:=h
    simp only[Bool.and_eq_true] at h'
    have e1:o=IK op:=eq_of_beq h'.1.1.1
    subst e1
    exact yL g (snd a X ex G l g h'.1.1.2).1 (snd b X ex G r g h'.1.2).1 (by simpa using h'.2)
   | [],_,h=>first|exact af h|cases h
   | [_],[],h=>first|exact af h|cases h
   | [_],_::_::_,h=>first|exact af h|cases h
   | _::_::_,_,h=>first|exact af h|cases h
  | _=>first|exact af h|cases h
 | .chain op LI a b c,X,ex,G,e,g,h=>by cases e<;>exact af h
 | .EH a b,X,ex,G,e,g,h=>by
  cases e with
  | BoolOp o es pos=>
   match o,es,h with
   | .And,[l,r],h=>
    have h':(BW Z G a l&&BW Z G b r)=true:=h
    rw[Bool.and_eq_true] at h'
    obtain⟨pa,ta⟩:=snd a X ex G l g h'.1
    obtain⟨pb,tb⟩:=snd b X ex G r g h'.2
    exact⟨sZ pa (mK pb),tf ta (qK tb)⟩
   | .And,l::r::r'::rest,h=>
    have h':(BW Z G a l&&BW Z G b (.BoolOp .And (r::r'::rest) pos))=true:=h
    rw[Bool.and_eq_true] at h'
    obtain⟨pa,ta⟩:=snd a X ex G l g h'.1
    obtain⟨pb,tb⟩:=snd b X ex G _ g h'.2
    exact⟨sZ pa pb,tf ta (nQ (e:=l) tb)⟩
   | .And,[],h=>first|exact af h|cases h
   | .And,[_],h=>first|exact af h|cases h
   | .Or,_,h=>first|exact af h|cases h
  | _=>first|exact af h|cases h
 | .EI a b,X,ex,G,e,g,h=>by
  cases e with
  | BoolOp o es pos=>
   match o,es,h with
   | .Or,[l,r],h=>
    have h':(BW Z G a l&&BW Z G b r)=true:=h
    rw[Bool.and_eq_true] at h'
    obtain⟨pa,ta⟩:=snd a X ex G l g h'.1
    obtain⟨pb,tb⟩:=snd b X ex G r g h'.2
    exact⟨yM pa (mK pb),yO ta (vq tb)⟩
   | .Or,l::r::r'::rest,h=>
    have h':(BW Z G a l&&BW Z G b (.BoolOp .Or (r::r'::rest) pos))=true:=h
    rw[Bool.and_eq_true] at h'
    obtain⟨pa,ta⟩:=snd a X ex G l g h'.1
    obtain⟨pb,tb⟩:=snd b X ex G _ g h'.2
    exact⟨yM pa pb,yO ta (nQ (e:=l) tb)⟩
   | .Or,[],h=>first|exact af h|cases h
   | .Or,[_],h=>first|exact af h|cases h
   | .And,_,h=>first|exact af h|cases h
  | _=>first|exact af h|cases h
 | .FD a,X,ex,G,e,g,h=>by
  cases e with
  | UnaryOp o l pos=>
   cases o with
   | Not=>
    obtain⟨pa,ta⟩:=snd a X ex G l g h
    exact yN pa ta
   | _=>first|exact af h|cases h
  | _=>first|exact af h|cases h
 | .ite t a b,X,ex,G,e,g,h=>by cases e<;>exact af h
 | .tup es,X,ex,G,e,g,h=>by
  cases e with
  | Tuple l n pos=>exact both (yQ (fu es X ex G l g h))
  | _=>first|exact af h|cases h
 | .lst es,X,ex,G,e,g,h=>by
  cases e with
  | List l pos=>exact both (yR (fu es X ex G l g h))
  | _=>first|exact af h|cases h
 | .idx a i,X,ex,G,e,g,h=>by
  cases e with
  | Subscript o s pos=>
   have h':(bx s&&BW Z G a o&&BW Z G i s)=true:=by
    cases s<;>first|exact h|(rename_i l u st p;cases st<;>exact h)
   simp only[Bool.and_eq_true] at h'
   exact both (yS (snd a X ex G o g h'.1.2).1 (snd i X ex G s g h'.2).1 h'.1.1)
  | _=>first|exact af h|cases h
 | .sl a lo hi,X,ex,G,e,g,h=>by
  cases e with
  | Subscript o s pos=>
   match s,h with
   | .Slice l u none p,h=>
    have h':(BW Z G a o&&jv Z G lo l&&jv Z G hi u)=true:=h
    simp only[Bool.and_eq_true] at h'
    exact both (Bw (snd a X ex G o g h'.1.1).1 (rQ lo X ex G l g h'.1.2) (rQ hi X ex G u g h'.2))
   | .Slice _ _ (some _) _,h=>first|exact af h|cases h
   | .BoolOp ..,h=>first|exact af h|cases h
   | .NamedExpr ..,h=>first|exact af h|cases h
   | .BinOp ..,h=>first|exact af h|cases h
   | .UnaryOp ..,h=>first|exact af h|cases h
   | .Lambda ..,h=>first|exact af h|cases h
   | .IfExp ..,h=>first|exact af h|cases h
   | .Dict ..,h=>first|exact af h|cases h
   | .Set ..,h=>first|exact af h|cases h
   | .ListComp ..,h=>first|exact af h|cases h
   | .SetComp ..,h=>first|exact af h|cases h
   | .DictComp ..,h=>first|exact af h|cases h
   | .GeneratorExp ..,h=>first|exact af h|cases h
   | .Await ..,h=>first|exact af h|cases h
   | .Yield ..,h=>first|exact af h|cases h
   | .YieldFrom ..,h=>first|exact af h|cases h
   | .Compare ..,h=>first|exact af h|cases h
   | .Call ..,h=>first|exact af h|cases h
   | .FormattedValue ..,h=>first|exact af h|cases h
   | .JoinedStr ..,h=>first|exact af h|cases h
   | .Constant ..,h=>first|exact af h|cases h
   | .Attribute ..,h=>first|exact af h|cases h
   | .Subscript ..,h=>first|exact af h|cases h
   | .Starred ..,h=>first|exact af h|cases h
   | .Name ..,h=>first|exact af h|cases h
   | .List ..,h=>first|exact af h|cases h
   | .Tuple ..,h=>first|exact af h|cases h
  | _=>first|exact af h|cases h
 | .call f es,X,ex,G,e,g,h=>by
  cases e with
  | Call fn args DY pos=>
   cases fn with
   | Name x p=>
    cases DY with
    | nil=>
     have h':(aU Z G f x&&Z.FU G f&&aD Z G es args)=true:=h
     simp only[Bool.and_eq_true] at h'
     exact both (s_call g h'.1.1 h'.1.2 h'.2 (fu es X ex G args g h'.2))
    | cons _ _=>first|exact af h|cases h
   | _=>first|exact af h|cases h
  | _=>first|exact af h|cases h
 | .bi f es,X,ex,G,e,g,h=>by
  cases e with
  | Call fn args DY pos=>
   cases fn with
   | Name x p=>
    cases DY with
    | nil=>
     cases args with
     | nil=>first|exact af h|cases h
     | cons a args=>
      have h':(x == cA f&&G.EO (fN f)&&aD Z G es (a::args))=true:=h
      simp only[Bool.and_eq_true] at h'
      have e1:x=cA f:=eq_of_beq h'.1.1
      subst e1
      exact both (Bx g h'.1.2 h'.2 (fu es X ex G _ g h'.2))
    | cons _ _=>cases args<;>first|exact af h|cases h
   | _=>first|exact af h|cases h
  | _=>first|exact af h|cases h
 | .Hd a,X,ex,G,e,g,h=>by cases e<;>exact af h
 | .Dh,X,ex,G,e,g,h=>by
  have h:LN e=true:=by cases e<;>exact h
  obtain⟨pos,rfl⟩:=nO h
  exact both wt
 | .Cj a k,X,ex,G,e,g,h=>by
  have h:LO e (fun o s=>bx s&&BW Z G a o&&BW Z G k s)=true:=by cases e<;>exact h
  obtain⟨o,s,pos,rfl,q1⟩:=wj h
  simp only[Bool.and_eq_true] at q1
  exact both (wu g (snd a X ex G o g q1.1.2).1 (snd k X ex G s g q1.2).1 q1.1.1)
 | .FP n k a,X,ex,G,e,g,h=>by
  have h:LP e (fun l o r=>o == mi n&&BW Z G k l&&BW Z G a r&&!behindInMarks o r)=true:=by cases e<;>exact h
  obtain⟨l,o,r,pos,rfl,q3⟩:=wk h
  simp only[Bool.and_eq_true] at q3
  have e1:o=mi n:=eq_of_beq q3.1.1.1
  subst e1
  exact yW g (snd k X ex G l g q3.1.1.2).1 (snd a X ex G r g q3.1.2).1 (by simpa using q3.2)
 | .sset a,X,ex,G,e,g,h=>by cases e<;>exact af h
 | .Ea a,X,ex,G,e,g,h=>by
  have h:LQ e (fun x y e=>x == "len"&&G.gl.contains 0&&y == "set"&&G.gl.contains 12&&(notStar e&&G.cm)&&BW Z G a e)=true:=by cases e<;>exact h
  obtain⟨x,p,y,p',e',q',q,rfl,h⟩:=wm h
  have h:(x == "len"&&G.gl.contains 0&&y == "set"&&G.gl.contains 12&&(notStar e'&&G.cm)&&BW Z G a e')=true:=h
  simp only[Bool.and_eq_true] at h
  have e1:x = "len":=eq_of_beq h.1.1.1.1.1
  have e2:y = "set":=eq_of_beq h.1.1.1.2
  subst e1 e2
  exact both (wx g h.1.1.1.1.2 h.1.1.2 h.1.2.1 h.1.2.2 (snd a X ex G e' g h.2).1)
 | .EJ a,X,ex,G,e,g,h=>by
  have h:LR e (fun x o n l=>x == "sum"&&G.EO 1&&isNm o&&n == "values"&&l&&BW Z G a o)=true:=by cases e<;>exact h
  obtain⟨x,p,o,n,apos,BQ,q,rfl,h⟩:=wo h
  have h:(x == "sum"&&G.EO 1&&isNm o&&n == "values"&&(apos.endLine == BQ.line)&&BW Z G a o)=true:=h
  simp only[Bool.and_eq_true] at h
  have e1:x = "sum":=eq_of_beq h.1.1.1.1.1
  have e2:n = "values":=eq_of_beq h.1.1.2
  subst e1 e2
  exact both (wy g h.1.1.1.1.2 h.1.1.1.2 h.1.2 (snd a X ex G o g h.2).1)
 | .Dr a k d,X,ex,G,e,g,h=>by
  have h:LS e (fun o n l s f=>isNm o&&n == "get"&&l&&(notStar s&&notStar f)&&BW Z G a o&&BW Z G k s&&BW Z G d f)=true:=by cases e<;>exact h
  obtain⟨o,n,apos,s,f,BQ,rfl,h⟩:=wq h
  have h:(isNm o&&n == "get"&&(apos.endLine == BQ.line)&&(notStar s&&notStar f)&&BW Z G a o&&BW Z G k s&&BW Z G d f)=true:=h
  simp only[Bool.and_eq_true] at h
  obtain⟨⟨⟨⟨⟨⟨h1,h2⟩,h3⟩,h4,h5⟩,h6⟩,h7⟩,h8⟩:=h
  have e2:n = "get":=eq_of_beq h2
  subst e2
  exact both (rM g h1 h3 h4 h5 (snd a X ex G o g h6).1 (snd k X ex G s g h7).1 (snd d X ex G f g h8).1)
 | .FQ x a y,X,ex,G,e,g,h=>by
  have h:LM e (fun x' e' y'=>x == x'&&y == y'&&decide (x.length<=1000)&&BW Z G a e')=true:=by cases e<;>exact h
  obtain⟨x',e',y',h,he⟩:=wg h
  simp only[Bool.and_eq_true] at h
  have e1:=eq_of_beq h.1.1.1
  have e2:=eq_of_beq h.1.1.2
  subst e1 e2
  have pe:=yU (of_decide_eq_true h.1.2) he (snd a X ex G e' g h.2).1
  rcases he with ⟨j,p,q,pos,_,rfl⟩|⟨w,j,p,q,j',r,pos,_,rfl⟩
  ·exact both pe
  ·exact both pe
 | .Ew a ns tb,X,ex,G,e,g,h=>by
  cases e with
  | Call fn args DY pos=>
   cases fn with
   | Name x p=>
    match args,DY,h with
    | [o,y],[],h=>
     have h':(x == "isinstance"&&G.gl.contains 14&&notStar o&&nN Z G ns y&&tb.all (wc Z ns)&&BW Z G a o)=true:=h
     simp only[Bool.and_eq_true] at h'
     have e1:x = "isinstance":=eq_of_beq h'.1.1.1.1.1
     subst e1
     exact both (yT g h'.1.1.1.1.2 h'.1.1.1.2 h'.1.1.2 h'.1.2 (snd a X ex G o g h'.2).1)
    | [],_,h=>first|exact af h|cases h
    | [_],_,h=>first|exact af h|cases h
    | _::_::_::_,k,h=>cases k<;>first|exact af h|cases h
    | [_,_],_::_,h=>first|exact af h|cases h
   | _=>first|exact af h|cases h
  | _=>first|exact af h|cases h
 | .LJ a k,X,ex,G,e,g,h=>by cases e<;>exact af h
 | .Gp m o es,X,ex,G,e,g,h=>by
  cases e with
  | Call fn args DY pos=>
   cases fn with
   | Attribute oe name apos=>
    match args,DY,h with
    | a::args,[],h=>
     have h':(name == eR m&&eV oe&&apos.endLine == pos.line&&(decide ((a::args).length < 29)&&(G.cm||jt m))&&BW Z G o oe&&aD Z G es (a::args))=true:=h
     simp only[Bool.and_eq_true] at h'
     have e1:name=eR m:=eq_of_beq h'.1.1.1.1.1
     subst e1
     exact both (yV g h'.1.1.1.1.2 h'.1.1.1.2 (of_decide_eq_true h'.1.1.2.1) h'.1.1.2.2 h'.2 (snd o X ex G oe g h'.1.2).1 (fu es X ex G _ g h'.2))
    | [],_,h=>first|exact af h|cases h
    | _::_,_::_,h=>first|exact af h|cases h
   | _=>first|exact af h|cases h
  | _=>first|exact af h|cases h
 | .comp G' fr tg src ifs elt,X,ex,G,e,g,h=>by
  cases e with
  | ListComp el gens scope pos=>
   have h:mh gens (fun t it fs=>bz Z G scope G' fr&&bB G' tg t&&(DN tg).all (fun i=>decide (fr.length<=i))&&(bR Z G src it&&d8 src t)&&aD Z G' ifs fs&&BW Z G' elt el)=true:=h
   obtain⟨t,it,fs,rfl,h⟩:=gE h
   have h':(bz Z G scope G' fr&&bB G' tg t&&(DN tg).all (fun i=>decide (fr.length<=i))&&(bR Z G src it&&d8 src t)&&aD Z G' ifs fs&&BW Z G' elt el)=true:=h
   simp only[Bool.and_eq_true] at h'
   exact both (wB g (gH h'.1.1.1.1.1) h'.1.1.1.1.2 (fun i hi=>of_decide_eq_true (List.all_eq_true.mp h'.1.1.1.2 i hi)) (rS src X ex G it t g h'.1.1.2.1 h'.1.1.2.2)
    (fun X' g'=>rR ifs X' CF G' fs g' h'.1.2) (fun X' g'=>(snd elt X' CF G' el g' h'.2).1) (fun x=>bN h'.1.1.2.1 X.env x))
  | _=>first|exact af h|cases h
theorem fu:∀ (as:List IR) (X:Cx) (ex:Str->Prop) (G:Gm) (l:List Expr),Cg Z CX cl xp X ex G->aD Z G as l=true->PA X l (RA X.K ex (ak as) (aG cl as))
 | [],X,ex,G,l,g,h=>by
  cases l with
  | nil=>exact gm bG fun σ H Q ⟨S,τ,hs,q⟩=>q.ok _ _ (.refl _) .nil
  | cons _ _=>first|exact af h|cases h
 | a::as,X,ex,G,l,g,h=>by
  cases l with
  | nil=>first|exact af h|cases h
  | cons e l=>
   have h':(notStar e&&BW Z G a e&&aD Z G as l)=true:=h
   simp only[Bool.and_eq_true] at h'
   refine gm (aL (snd a X ex G e g h'.1.2).1 (fu as X ex G l g h'.2) (ah h'.1.1 _ _)) fun σ H Q ⟨S,τ,hs,q⟩=>?_
   refine aO (.refl _) hs.left (BK.U q) fun x v H1 e1 _ m1 q1=>?_
   refine iF e1 hs.right (BK.U q1) fun ds vs H2 e2 CU m2 q2=>?_
   exact q2.ok _ _ e2 (.cons (m1.later CU) m2)
theorem rQ:∀ (o:Option IR) (X:Cx) (ex:Str->Prop) (G:Gm) (e:Option Expr),Cg Z CX cl xp X ex G->jv Z G o e=true->PO X e (JI X.K ex (nC o) (gv cl o))
 | none,X,ex,G,e,g,h=>by
  cases e with
  | none=>
   intro pins s σ H Q I ⟨S,τ,hs,q⟩
   exact qT pins s σ H Q I (q.ok H (.refl _))
  | some _=>first|exact af h|cases h
 | some a,X,ex,G,e,g,h=>by
  cases e with
  | none=>first|exact af h|cases h
  | some e=>
   intro pins s σ H Q I ⟨S,τ,hs,q⟩
   refine qU (snd a X ex G e g h).1 pins s σ H Q I ?_
   refine aO (.refl _) hs (BK.U q) fun x v H1 e1 _ m1 q1=>?_
   cases x with
   | int i=>cases m1.Ca;exact⟨i,rfl,q1.ok _ e1⟩
   | _=>exact q1.no.elim
theorem rR:∀ (as:List IR) (X:Cx) (ex:Str->Prop) (G:Gm) (l:List Expr),Cg Z CX cl xp X ex G->aD Z G as l=true->G1 X l (RT X.K ex (ak as) (dh cl as))
 | [],X,ex,G,l,g,h=>by
  cases l with
  | nil=>intro pins s σ H Q I ⟨S,τ,hs,q⟩;exact ra pins s σ H Q I (q.ok H (.refl _))
  | cons _ _=>first|exact af h|cases h
 | a::as,X,ex,G,l,g,h=>by
  cases l with
  | nil=>first|exact af h|cases h
  | cons e l=>
   have h':(notStar e&&BW Z G a e&&aD Z G as l)=true:=h
   simp only[Bool.and_eq_true] at h'
   intro pins s σ H Q I ⟨S,τ,hs,q⟩
   refine mX (snd a X ex G e g h'.1.2).2 (rR as X ex G l g h'.2) pins s σ H Q I ?_
   refine gG (.refl _) hs.left (BK.U q) fun r H2 e2 _ k=>?_
   cases r with
   | true=>rw[if_pos rfl] at k ⊢;exact gG e2 hs.right k fun b H3 e3 _ z=>z H3 e3
   | false=>rw[if_neg Bool.false_ne_true] at k ⊢;exact k.ok H2 e2
theorem rS:∀ (s:Sr) (X:Cx) (ex:Str->Prop) (G:Gm) (e tg:Expr),Cg Z CX cl xp X ex G->bR Z G s e=true->d8 s tg=true->PI X tg e (RI X.K ex (dw s) (dm cl s))
 | .CM n,X,ex,G,e,tg,g,h,ht=>by
  cases e with
  | Call fn args DY pos=>
   cases fn with
   | Name x p=>
    match args,DY,h with
    | [a],[],h=>
     have h':(x == "range"&&G.gl.contains 15&&notStar a&&BW Z G n a)=true:=h
     simp only[Bool.and_eq_true] at h'
     have e1:x = "range":=eq_of_beq h'.1.1.1
     subst e1
     exact wA g h'.1.1.2 h'.1.2 (snd n X ex G a g h'.2).1
    | [],_,h=>first|exact af h|cases h
    | [_],_::_,h=>first|exact af h|cases h
    | _::_::_,_,h=>first|exact af h|cases h
   | _=>first|exact af h|cases h
  | _=>first|exact af h|cases h
 | .DW a b,X,ex,G,e,tg,g,h,ht=>by cases e<;>exact af h
 | .val a,X,ex,G,e,tg,g,h,ht=>y9 (snd a X ex G e g h).1
 | .zip a b,X,ex,G,e,tg,g,h,ht=>by
  cases tg with
  | Tuple TR tc tp=>
   cases e with
   | Call fn args DY pos=>
    cases fn with
    | Name x p=>
     match args,DY,h with
     | [l,r],[],h=>
      have h':(x == "zip"&&G.gl.contains 17&&notStar l&&notStar r&&BW Z G a l&&BW Z G b r)=true:=h
      simp only[Bool.and_eq_true] at h'
      have e1:x = "zip":=eq_of_beq h'.1.1.1.1.1
      subst e1
      exact zb g h'.1.1.1.1.2 h'.1.1.1.2 h'.1.1.2 (snd a X ex G l g h'.1.2).1 (snd b X ex G r g h'.2).1
     | [],_,h=>first|exact af h|cases h
     | [_],_,h=>first|exact af h|cases h
     | [_,_],_::_,h=>first|exact af h|cases h
     | _::_::_::_,_,h=>first|exact af h|cases h
    | _=>first|exact af h|cases h
   | _=>first|exact af h|cases h
  | _=>exact af ht
end
end
inductive Cc (K:PySem.W.Frag)(F:Addr->Prop)(H:Hp):St->Ev->List Addr->Prop where
 | nil:Cc K F H [] [] []
 | none {o:Option V}{σ:St}{τ:Ev}{f:List Addr}:Cc K F H σ τ f->Cc K F H (o::σ) (.none::τ) f
 | some {v:V}{d:D}{f:List Addr}{σ:St}{τ:Ev}{g:List Addr}:B3 K F H v d f->Cc K F H σ τ g->Cc K F H (.some v::σ) (.some d::τ) (f++g)
section
variable {K:PySem.W.Frag}{F F':Addr->Prop}{H H':Hp}{σ:St}{τ:Ev}{f:List Addr}
theorem Cc.step (hl:∀ a (u:LD),F a->Rd H a u.o->F' a/\Rd H' a u.o)(ht:∀ a xs,CA K H a xs->CA K H' a xs):∀ {σ:St}{τ:Ev}{f:List Addr},(∀ a∈f,¬ F a->H a≠Option.none->¬ F' a/\H' a=H a)->Cc K F H σ τ f->Cc K F' H' σ τ f
 | _,_,_,_,.nil=>.nil
 | _,_,_,k,.none h=>.none (Cc.step hl ht k h)
 | _,_,_,k,.some m h=>.some (m.step hl ht fun a ha=>k a (List.mem_append_left _ ha)) (Cc.step hl ht (fun a ha=>k a (List.mem_append_right _ ha)) h)
theorem Cc.own:∀ {σ:St}{τ:Ev}{f:List Addr},Cc K F H σ τ f->∀ a∈f,¬ F a/\∃ u,H a=.some u
 | _,_,_,.nil=>fun _ h=>absurd h (by simp)
 | _,_,_,.none h=>Cc.own h
 | _,_,_,.some m h=>fun a ha=>by
  rcases List.mem_append.mp ha with ha|ha
  ·exact m.own a ha
  ·exact Cc.own h a ha
theorem bf {o:Option D}{τ:Ev}{i:Nat}:aj (o::τ) (i+1)=aj τ i:=by unfold aj;simp
theorem bC {o:Option D}{τ:Ev}:aj (o::τ) 0=o:=by unfold aj;simp
theorem Cc.at:∀ {σ:St}{τ:Ev}{f:List Addr}{i:Nat}{d:D},Cc K F H σ τ f->aj τ i=.some d->∃ v fv g,σ[i]? = .some (.some v)/\B3 K F H v d fv/\Cc K F H σ (τ.set i .none) g/\f.Perm (fv++g)
 | _,_,_,i,d,.nil,h=>by simp[aj] at h
 | _,_,_,0,d,.none _,h=>by rw[bC] at h;cases h
 | _,_,_,0,d,.some m h',h=>by
  rw[bC] at h
  cases h
  exact⟨_,_,_,rfl,m,.none h',.refl _⟩
 | _,_,_,i+1,d,.none h',h=>by
  rw[bf] at h
  obtain⟨v,fv,g,h1,h2,h3,h4⟩:=Cc.at h' h
  exact⟨v,fv,g,by simpa using h1,h2,.none h3,h4⟩
 | _,_,_,i+1,d,.some (f:=f0) m h',h=>by
  rw[bf] at h
  obtain⟨v,fv,g,h1,h2,h3,h4⟩:=Cc.at h' h
  refine⟨v,fv,f0++g,by simpa using h1,h2,.some m h3,?_⟩
  refine(List.Perm.append_left f0 h4).trans ?_
  rw[<- List.append_assoc,<- List.append_assoc]
  exact List.Perm.append_right g List.perm_append_comm
theorem Cc.put:∀ {σ:St}{τ:Ev}{f:List Addr} (i:Nat) {v:V}{d:D}{fv:List Addr},Cc K F H σ τ f->B3 K F H v d fv->∃ g h,Cc K F H (σ.set i (.some v)) (τ.set i (.some d)) g/\(g++h).Perm (fv++f)
 | _,_,_,i,v,d,fv,.nil,m=>⟨[],_,.nil,.refl _⟩
 | _,_,_,0,v,d,fv,.none h,m=>⟨_,[],.some m h,by rw[List.append_nil]⟩
 | _,_,_,0,v,d,fv,.some (f:=f0) (g:=g0) m' h,m=>⟨_,f0,.some m h,by rw[List.append_assoc];exact List.Perm.append_left _ List.perm_append_comm⟩
 | _,_,_,i+1,v,d,fv,.none h,m=>by
  obtain⟨g,h',h1,h2⟩:=Cc.put i h m
  exact⟨g,h',.none h1,h2⟩
 | _,_,_,i+1,v,d,fv,.some (f:=f0) (g:=g0) m' h,m=>by
  obtain⟨g,h',h1,h2⟩:=Cc.put i h m
  refine⟨f0++g,h',.some m' h1,?_⟩
  rw[List.append_assoc]
  refine(List.Perm.append_left f0 h2).trans ?_
  rw[<- List.append_assoc,<- List.append_assoc]
  exact List.Perm.append_right g0 List.perm_append_comm
theorem Cc.slots {S:Addr->Prop}{is:List Nat}(h:Cc K F H σ τ f)(hF:∀ a,F a->S a)(hf:∀ a∈f,S a):Slots K S H σ τ is:=fun i hi d z=>by
 obtain⟨v,fv,g,h1,h2,h3,h4⟩:=h.at z
 exact⟨v,h1,h2.read hF fun a ha=>hf a (h4.mem_iff.mpr (List.mem_append_left _ ha))⟩
theorem Cc.freeze (is:List Nat):∀ {σ:St}{τ:Ev}{f:List Addr} (k:Nat),Cc K F H σ τ f->∃ fi g,f.Perm (fi++g)/\(∀ F':Addr->Prop,(∀ a,F a->F' a)->(∀ a∈fi,F' a)->(∀ a∈g,¬ F a->¬ F' a)->Cc K F' H σ (dO is k τ) g)/\
  ∀ F':Addr->Prop,(∀ a,F a->F' a)->(∀ a∈fi,F' a)->∀ i,is.contains (k+i)=true->∀ d,aj τ i=.some d->∃ v,σ[i]? = .some (.some v)/\BL K F' H v d
 | _,_,_,k,.nil=>⟨[],[],.refl _,fun _ _ _ _=>.nil,fun _ _ _ i _ d z=>by simp[aj] at z⟩
 | _,_,_,k,.none h=>by
  obtain⟨fi,g,h1,h2,h3⟩:=Cc.freeze is (k+1) h
  refine⟨fi,g,h1,fun F' a b c=>?_,fun F' a b i hi d z=>?_⟩
  ·unfold dO
   have e:(if is.contains k=true then Option.map er (Option.none:Option D) else Option.none)=Option.none:=by split<;>rfl
   rw[e]
   exact .none (h2 F' a b c)
  ·cases i with
   | zero=>rw[bC] at z;cases z
   | succ i=>
    rw[bf] at z
    obtain⟨v,q1,q2⟩:=h3 F' a b i (by rw[show k+1+i=k+(i+1) by omega];exact hi) d z
    exact⟨v,by simpa using q1,q2⟩
 | _,_,_,k,.some (v:=v) (d:=d0) (f:=f0) (g:=g0) m h=>by
  obtain⟨fi,g,h1,h2,h3⟩:=Cc.freeze is (k+1) h
  by_cases hc:is.contains k=true
  ·refine⟨f0++fi,g,by rw[List.append_assoc];exact List.Perm.append_left _ h1,fun F' a b c=>?_,fun F' a b i hi d z=>?_⟩
   ·unfold dO
    rw[if_pos hc]
    exact .some (f:=[]) ((m.read a fun x hx=>b x (List.mem_append_left _ hx)).frozen) (h2 F' a (fun x hx=>b x (List.mem_append_right _ hx)) c)
   ·cases i with
    | zero=>
     rw[bC] at z
     cases z
     exact⟨v,rfl,m.read a fun x hx=>b x (List.mem_append_left _ hx)⟩
    | succ i=>
     rw[bf] at z
     obtain⟨v,q1,q2⟩:=h3 F' a (fun x hx=>b x (List.mem_append_right _ hx)) i (by rw[show k+1+i=k+(i+1) by omega];exact hi) d z
     exact⟨v,by simpa using q1,q2⟩
  ·refine⟨fi,f0++g,?_,fun F' a b c=>?_,fun F' a b i hi d z=>?_⟩
   ·refine(List.Perm.append_left f0 h1).trans ?_
    rw[<- List.append_assoc,<- List.append_assoc]
    exact List.Perm.append_right g List.perm_append_comm
   ·unfold dO
    rw[if_neg hc]
    exact .some (m.step (fun x xs q r=>⟨a x q,r⟩) (fun x xs q=>q) fun x hx n _=>⟨c x (List.mem_append_left _ hx) n,rfl⟩) (h2 F' a b fun x hx=>c x (List.mem_append_right _ hx))
   ·cases i with
    | zero=>exact absurd hi hc
    | succ i=>
     rw[bf] at z
     obtain⟨v,q1,q2⟩:=h3 F' a b i (by rw[show k+1+i=k+(i+1) by omega];exact hi) d z
     exact⟨v,by simpa using q1,q2⟩
end
structure ES (F:Addr->Prop)(H:Hp)(f:List Addr)(F':Addr->Prop)(H':Hp):Prop where
 same:au H H'
 C8:∀ a,F a->F' a
 out:∀ a,F' a->F a∨a∈f∨H a=none
structure Ow (K:PySem.W.Frag)(F:Addr->Prop)(H:Hp)(f:List Addr)(F':Addr->Prop)(H':Hp)(σ:St)(v:V)(d:D)(fv:List Addr)(BP:Ev)(f':List Addr):Prop where
 Ef:ES F H f F' H'
 B9:DU F' H'
 rep:B3 K F' H' v d fv
 CT:Cc K F' H' σ BP f'
 Cf:(fv++f').Nodup
 mem:∀ a∈fv++f',a∈f∨H a=none
structure Ro (K:PySem.W.Frag)(F:Addr->Prop)(H:Hp)(f:List Addr)(F':Addr->Prop)(H':Hp)(σ:St)(v:List V)(d:List D)(fv:List Addr)(BP:Ev)(f':List Addr):Prop where
 Ef:ES F H f F' H'
 B9:DU F' H'
 rep:BO K F' H' v d fv
 CT:Cc K F' H' σ BP f'
 Cf:(fv++f').Nodup
 mem:∀ a∈fv++f',a∈f∨H a=none
section
variable {K:PySem.W.Frag}{F F' JN:Addr->Prop}{H H' IW:Hp}{f f':List Addr}
theorem ES.refl:ES F H f F H:=⟨.refl _,fun _ h=>h,fun _ h=>.inl h⟩
theorem ES.trans (a:ES F H f F' H')(b:ES F' H' f' JN IW)(hf:∀ x∈f',x∈f∨H x=none):ES F H f JN IW:=⟨a.same.trans b.same,fun x h=>b.C8 x (a.C8 x h),fun x h=>by
 rcases b.out x h with h|h|h
 ·exact a.out x h
 ·rcases hf x h with h|h
  ·exact .inr (.inl h)
  ·exact .inr (.inr h)
 ·exact .inr (.inr (a.same.free h))⟩
theorem B3.Ef {v:V}{d:D}{fv:List Addr}(m:B3 K F H v d fv)(s:ES F H f F' H')(h:∀ a∈fv,a∉f):B3 K F' H' v d fv:=
 m.step (fun a xs q r=>⟨s.C8 a q,s.same.rd r⟩) (fun a xs q=>s.same.Dq q) fun a ha n hn=>by
  obtain⟨_,xs,e⟩:=m.own a ha
  refine⟨fun z=>?_,(s.same _ _ e).trans e.symm⟩
  rcases s.out a z with z|z|z
  ·exact n z
  ·exact h a ha z
  ·exact hn z
theorem BO.Ef {v:List V}{d:List D}{fv:List Addr}(m:BO K F H v d fv)(s:ES F H f F' H')(h:∀ a∈fv,a∉f):BO K F' H' v d fv:=
 m.step (fun a xs q r=>⟨s.C8 a q,s.same.rd r⟩) (fun a xs q=>s.same.Dq q) fun a ha n hn=>by
  obtain⟨_,xs,e⟩:=m.own a ha
  refine⟨fun z=>?_,(s.same _ _ e).trans e.symm⟩
  rcases s.out a z with z|z|z
  ·exact n z
  ·exact h a ha z
  ·exact hn z
end
def RO (K:PySem.W.Frag)(ex:Str->Prop)(g:Ev->Res (D×Ev)):TE:=fun σ H Q=>∃ F τ f,DU F H/\Cc K F H σ τ f/\f.Nodup/\BK ex (g τ) fun p=>∀ v H' F' fv f',Ow K F H f F' H' σ v p.1 fv p.2 f'->Q v H'
def JO (K:PySem.W.Frag)(ex:Str->Prop)(g:Ev->Res (List D×Ev)):TA:=fun σ H Q=>∃ F τ f,DU F H/\Cc K F H σ τ f/\f.Nodup/\BK ex (g τ) fun p=>∀ v H' F' fv f',Ro K F H f F' H' σ v p.1 fv p.2 f'->Q v H'
abbrev Kn (K:PySem.W.Frag)(S:Addr->Prop)(H:Hp)(Q:VK):List D->Prop:=fun ds=>∀ p ys H',au H H'->H p=none->H' p=some (.lst ys)->BJ K (fun a=>nw S H a/\a≠p) H' ys ds->Q (.ref p) H'
def RN (K:PySem.W.Frag)(ex:Str->Prop)(is:List Nat)(f:Ev->Res (List D)):TE:=fun σ H Q=>∃ S τ,Slots K S H σ τ is/\BK ex (f τ) (Kn K S H Q)
noncomputable def dD:D->Res (List D)
 | .lst _ ds=>.ok ds
 | _=>BR
section
variable {K:PySem.W.Frag}{F F':Addr->Prop}{H H':Hp}{σ:St}{τ:Ev}{f:List Addr}{ex:Str->Prop}{S:Addr->Prop}
theorem nU {vs ws:List V}{ds:List D}{p:Addr}{H2:Hp}(m:BJ K (nw S H) H2 vs ds)(hp:H2 p=none):BJ K (fun a=>nw S H a/\a≠p) (upd H2 p (.lst ws)) vs ds:=
 m.step (fun a xs h r=>by
  have EN:a≠p:=fun z=>r.some (by rw[z];exact hp)
  refine⟨⟨h,EN⟩,?_⟩
  unfold Rd
  rw[ai EN]
  exact r) fun a xs h=>(au.upd hp).Dq h
theorem grow (P:Addr->Prop)(B9:DU F H)(r:Cc K F H σ τ f)(e:au H H') :
  DU (fun a=>F a∨(P a/\H a=none/\H' a≠none)) H'/\Cc K (fun a=>F a∨(P a/\H a=none/\H' a≠none)) H' σ τ f/\ES F H f (fun a=>F a∨(P a/\H a=none/\H' a≠none)) H':=by
 refine⟨fun a h=>?_,r.step (fun a xs q rd=>⟨.inl q,e.rd rd⟩) (fun a xs q=>e.Dq q) fun a ha n hn=>⟨fun z=>?_,?_⟩,⟨e,fun a h=>.inl h,fun a h=>?_⟩⟩
 ·rcases h with h|h
  ·intro z
   exact B9 a h (e.free z)
  ·exact h.2.2
 ·rcases z with z|z
  ·exact n z
  ·exact hn z.2.1
 ·obtain⟨_,xs,q⟩:=r.own a ha
  exact(e _ _ q).trans q.symm
 ·rcases h with h|h
  ·exact .inl h
  ·exact .inr (.inr h.2.1)
theorem d4 (B9:DU F H)(r:Cc K F H σ τ f)(e:au H H'):DU F H'/\Cc K F H' σ τ f/\ES F H f F H':=by
 refine⟨fun a h z=>B9 a h (e.free z),r.step (fun a xs q rd=>⟨q,e.rd rd⟩) (fun a xs q=>e.Dq q) fun a ha n hn=>⟨n,?_⟩,⟨e,fun a h=>h,fun a h=>.inl h⟩⟩
 obtain⟨_,xs,q⟩:=r.own a ha
 exact(e _ _ q).trans q.symm
theorem cC (is:List Nat)(B9:DU F H)(r:Cc K F H σ τ f)(nd:f.Nodup):∃ F1 g,DU F1 H/\Cc K F1 H σ (B6 is τ) g/\g.Nodup/\ES F H f F1 H/\(∀ a∈g,a∈f)/\Slots K F1 H σ τ is:=by
 obtain⟨fi,g,h1,h2,h3⟩:=r.freeze is 0
 have FX:(fi++g).Nodup:=h1.nodup_iff.mp nd
 have JP:∀ a∈g,a∉fi:=fun a ha hb=>(List.nodup_append.mp FX).2.2 a hb a ha rfl
 have OR:∀ a∈fi,a∈f:=fun a ha=>h1.mem_iff.mpr (List.mem_append_left _ ha)
 have Rp:∀ a∈g,a∈f:=fun a ha=>h1.mem_iff.mpr (List.mem_append_right _ ha)
 refine⟨fun a=>F a∨a∈fi,g,fun a h=>?_,h2 _ (fun a h=>.inl h) (fun a h=>.inr h) (fun a ha n z=>?_),(List.nodup_append.mp FX).2.1,⟨.refl _,fun a h=>.inl h,fun a h=>?_⟩,Rp,fun i hi d z=>?_⟩
 ·rcases h with h|h
  ·exact B9 a h
  ·obtain⟨_,xs,q⟩:=r.own a (OR a h)
   rw[q];simp
 ·rcases z with z|z
  ·exact n z
  ·exact JP a ha z
 ·rcases h with h|h
  ·exact .inl h
  ·exact .inr (.inl (OR a h))
 ·exact h3 _ (fun a h=>.inl h) (fun a h=>.inr h) i (by simpa using hi) d z
theorem aJ {is:List Nat}(r:Cc K F H σ τ f):Slots K (fun _=>True) H σ τ is:=r.slots (fun _ _=>trivial) fun _ _=>trivial
theorem BL.fix {v:V}{d:D}(m:BL K (L2.nw F H) H' v d):BL K (fun a=>F a∨(True/\H a=none/\H' a≠none)) H' v d:=m.step (fun a xs h r=>⟨h.elim (fun z=>.inl z) fun z=>.inr ⟨trivial,z,r.some⟩,r⟩) fun a xs h=>h
end
section
variable {X:Cx}{ex:Str->Prop}{cl:Nat->List D->Res D}
theorem LZ {i:Nat}{e:Expr}(he:PE X e (qI i))(mv:Bool):PE X e (RO X.K ex (CS cl mv (.v i))):=by
 refine ay he fun σ H Q ⟨F,τ,f,B9,r,nd,q⟩=>?_
 rw[yB] at q
 cases z:aj τ i with
 | none=>rw[z] at q;exact q.no.elim
 | some d=>
  rw[z] at q
  obtain⟨v,fv,g,h1,h2,h3,h4⟩:=r.at z
  have FX:(fv++g).Nodup:=h4.nodup_iff.mp nd
  cases mv with
  | true=>
   have q':=(show BK ex (.ok (d,τ.set i none):Res (D×Ev)) _ from q).ok
   exact⟨v,h1,q' v H F fv g ⟨.refl,B9,h2,h3,FX,fun a ha=>.inl (h4.mem_iff.mpr ha)⟩⟩
  | false=>
   have q':=(show BK ex (.ok (er d,τ.set i (some (er d))):Res (D×Ev)) _ from q).ok
   have JP:∀ a∈g,a∉fv:=fun a ha hb=>(List.nodup_append.mp FX).2.2 a hb a ha rfl
   have m1:B3 X.K (fun a=>F a∨a∈fv) H v (er d) []:=(h2.read (fun a h=>.inl h) (fun a h=>.inr h)).frozen
   have r1:Cc X.K (fun a=>F a∨a∈fv) H σ (τ.set i none) g:=h3.step (fun a xs h r=>⟨.inl h,r⟩) (fun a xs h=>h) fun a ha n _=>⟨fun z=>z.elim n (JP a ha),rfl⟩
   obtain⟨g',h',r2,p2⟩:=r1.put i m1
   have Dc:σ.set i (some v)=σ:=by
    apply List.ext_getElem?
    intro j
    rw[List.getElem?_set]
    by_cases hj:i=j
    ·subst hj
     have CY:i < σ.length:=(List.getElem?_eq_some_iff.mp h1).1
     rw[if_pos rfl,if_pos CY,h1]
    ·rw[if_neg hj]
   rw[Dc,List.set_set] at r2
   rw[List.nil_append] at p2
   have Hm:(g'++h').Nodup:=p2.nodup_iff.mpr (List.nodup_append.mp FX).2.1
   refine⟨v,h1,q' v H _ [] g' ⟨⟨.refl _,fun a h=>.inl h,fun a h=>?_⟩,fun a h=>?_,m1,r2,(List.nodup_append.mp Hm).1,fun a ha=>?_⟩⟩
   ·exact h.elim (fun z=>.inl z) fun z=>.inr (.inl (h4.mem_iff.mpr (List.mem_append_left _ z)))
   ·rcases h with h|h
    ·exact B9 a h
    ·obtain⟨_,xs,e⟩:=h2.own a h
     rw[e];simp
   ·have:a∈g:=p2.mem_iff.mp (List.mem_append_left _ (by simpa using ha))
    exact .inl (h4.mem_iff.mpr (List.mem_append_right _ this))
theorem Fs {l:List Expr}{n:Nat}{pos:Pos}{g:Ev->Res (List D×Ev)}(h:PA X l (JO X.K ex g)):PE X (.Tuple l n pos) (RO X.K ex fun τ=>U (g τ) fun p=>BN (aY p.1.length) (.ok (.tup p.1,p.2))):=by
 refine ay (jb h) fun σ H Q ⟨F,τ,f,B9,r,nd,q⟩=>⟨F,τ,f,B9,r,nd,(BK.U q).mono fun p hp vs H1 F1 fv f1 o=>?_⟩
 obtain⟨gd,hp⟩:=BK.BN hp
 refine⟨by rw[o.rep.length];exact aQ gd,fun p' Hn=>hp.ok _ _ F1 fv f1 ?_⟩
 have e:au H1 (upd H1 p' (.tup vs)):=.upd Hn
 obtain⟨k1,k2,k3⟩:=d4 o.B9 o.CT e
 refine⟨o.Ef.trans k3 (fun x hx=>o.mem x (List.mem_append_right _ hx)),k1,.tup (.inl (.inl av)) (o.rep.Ef k3 fun a ha hb=>(List.nodup_append.mp o.Cf).2.2 a ha a hb rfl),k2,o.Cf,o.mem⟩
theorem Ft {l:List Expr}{pos:Pos}{g:Ev->Res (List D×Ev)}(h:PA X l (JO X.K ex g)):PE X (.List l pos) (RO X.K ex fun τ=>U (g τ) fun p=>BN (aY p.1.length) (.ok (.lst true p.1,p.2))):=by
 refine ay (mV h) fun σ H Q ⟨F,τ,f,B9,r,nd,q⟩=>⟨F,τ,f,B9,r,nd,(BK.U q).mono fun p hp vs H1 F1 fv f1 o=>?_⟩
 obtain⟨gd,hp⟩:=BK.BN hp
 refine⟨by rw[o.rep.length];exact aQ gd,fun p' Hn=>hp.ok _ _ F1 (p'::fv) f1 ?_⟩
 have e:au H1 (upd H1 p' (.lst vs)):=.upd Hn
 obtain⟨k1,k2,k3⟩:=d4 o.B9 o.CT e
 refine⟨o.Ef.trans k3 (fun x hx=>o.mem x (List.mem_append_right _ hx)),k1,.DC (fun z=>o.B9 _ z Hn) av (o.rep.Ef k3 fun a ha hb=>(List.nodup_append.mp o.Cf).2.2 a ha a hb rfl),k2,?_,fun a ha=>?_⟩
 ·rw[List.cons_append,List.nodup_cons]
  refine⟨fun z=>?_,o.Cf⟩
  rcases List.mem_append.mp z with z|z
  ·obtain⟨_,xs,e⟩:=o.rep.own _ z
   rw[Hn] at e;cases e
  ·obtain⟨_,xs,e⟩:=o.CT.own _ z
   rw[Hn] at e;cases e
 ·rw[List.cons_append] at ha
  rcases List.mem_cons.mp ha with rfl|ha
  ·exact .inr (o.Ef.same.free Hn)
  ·exact o.mem a ha
theorem wC:PA X [] (JO X.K ex fun τ=>.ok ([],τ)):=gm bG fun σ H Q ⟨F,τ,f,B9,r,nd,q⟩=>q.ok [] H F [] f ⟨.refl,B9,.nil,r,nd,fun a ha=>.inl ha⟩
theorem rT {e:Expr}{l:List Expr}{ga:Ev->Res (D×Ev)}{gs:Ev->Res (List D×Ev)}(hn:notStar e=true)(ha:PE X e (RO X.K ex ga))(hr:PA X l (JO X.K ex gs)) :
  PA X (e::l) (JO X.K ex fun τ=>U (ga τ) fun p=>U (gs p.2) fun q=>.ok (p.1::q.1,q.2)):=by
 refine gm (aL ha hr (ah hn _ _)) fun σ H Q ⟨F,τ,f,B9,r,nd,q⟩=>⟨F,τ,f,B9,r,nd,(BK.U q).mono fun p hp v H1 F1 fv f1 o=>?_⟩
 refine⟨F1,p.2,f1,o.B9,o.CT,(List.nodup_append.mp o.Cf).2.1,(BK.U hp).mono fun p' Hn vs H2 F2 Rq f2 o2=>?_⟩
 have JP:∀ a∈fv,a∉f1:=fun a h1 h2=>(List.nodup_append.mp o.Cf).2.2 a h1 a h2 rfl
 have m2:=o.rep.Ef o2.Ef JP
 refine Hn.ok (v::vs) H2 F2 (fv++Rq) f2 ⟨o.Ef.trans o2.Ef (fun x hx=>o.mem x (List.mem_append_right _ hx)),o2.B9,.cons m2 o2.rep,o2.CT,?_,fun a ha=>?_⟩
 ·rw[List.append_assoc]
  refine List.nodup_append.mpr ⟨(List.nodup_append.mp o.Cf).1,o2.Cf,fun a h1 b h2 e=>?_⟩
  subst e
  rcases o2.mem a h2 with z|z
  ·exact JP a h1 z
  ·obtain⟨_,xs,e⟩:=o.rep.own a h1
   rw[z] at e;cases e
 ·rw[List.append_assoc] at ha
  rcases List.mem_append.mp ha with ha|ha
  ·exact o.mem a (List.mem_append_left _ ha)
  ·rcases o2.mem a ha with z|z
   ·exact o.mem a (List.mem_append_right _ z)
   ·exact .inr (o.Ef.same.free z)
end
section
variable {Z:Sg}{CX:C6}{cl:Nat->List D->Res D}{xp:XK->Hp->Str->Prop}{X:Cx}{ex:Str->Prop}{G:Gm}
def M3 (K:PySem.W.Frag)(ex:Str->Prop)(cl:Nat->List D->Res D)(f:Nat)(vs:List V)(H:Hp)(Q:VK):Prop:=∃ F ds,DU F H/\BJ K F H vs ds/\BK ex (cl f (BV ds)) fun d=>∀ v H' F' fv,Out K F H F' H' v d fv->Q v H'
theorem nV (g:Cg Z CX cl xp X ex G){f:Nat}{x:Str}{p pos:Pos}{es:List IR}{args:List Expr}{t:TA}(h1:aU Z G f x=true)(h2:Z.FU G f=true)(Cb:aD Z G es args=true)(h:PA X args t)
  (h0:args=[]->∀ σ H (Q:List V->Hp->Prop),t σ H Q->Q [] H):PE X (.Call (.Name x p) args [] pos) (fun σ H Q=>t σ H fun vs H1=>M3 X.K ex cl f vs H1 Q):=by
 obtain⟨k1,k2,k3,k4⟩:=b9 g h1
 obtain⟨k,JK,fd,ps,hm,Eu,hb,F,hr,hlen⟩:=(g.fns f (dP h2).1 (dP h2).2 x k2).ex
 obtain⟨E,hP,hE⟩:=g.KN
 intro pins s σ H Q I q
 have fin:∀ (us:List Value) (s1:Shared) (vs:List V) (H1:Hp),Inv X pins σ H1 s1->Vals vs us->M3 X.K ex cl f vs H1 Q->wpAny (model X.prog X.w) X.A (call (.ref JK) us) (EP X pins σ Q) X.xe s1:=by
  intro us s1 vs H1 I1 r ⟨Fc,ds,B9,m,q1⟩
  have hl:=hlen ex _ _ q1
  rw[bo] at hl
  refine gF F hr hb hP g.GH I1 r (by rw[m.length];exact hl) B9 m ?_
  cases z:cl f (BV ds) with
  | error er=>
   rw[z] at q1
   cases er with
   | stuck=>exact q1.no.elim
   | exc c=>exact hE c _ q1
  | ok d=>
   rw[z] at q1
   exact q1.ok
 refine wpAny_Call_Name_kw (bO I k1 hm ?_ k4)
 cases args with
 | nil=>
  cases es with
  | cons _ _=>cases Cb
  | nil=>exact PySem.W.callWith_K0 I.Eo Eu (fin [] s [] H I .nil (h0 rfl σ H _ q))
 | cons e l=>
  cases es with
  | nil=>cases Cb
  | cons a es=>
   have B8:(notStar e&&BW Z G a e&&aD Z G es l)=true:=Cb
   simp only[Bool.and_eq_true] at B8
   refine PySem.W.callWith_K (h₀:=X.base) I.ok.mod.GF Eu (B7 (h pos pins s σ H _ I q) fun us s1 ⟨vs,H1,I1,r,q1⟩=>⟨I1.Eo,?_⟩) (ah B8.1.1 l X.env) (aX Z G (es:=es) pos X.env B8.2)
   exact fin us s1 vs H1 I1 r q1
theorem B3.D4 {K:PySem.W.Frag}{F F':Addr->Prop}{H:Hp}{v:V}{d:D}{fv:List Addr}(m:B3 K F H v d fv)(n:aw d=true):B3 K F' H v d []:=(m.read (S:=fun _=>True) (fun _ _=>trivial) fun _ _=>trivial).free n
theorem Eg (g:Cg Z CX cl xp X ex G){f:Nat}{x:Str}{p pos:Pos}{es:List IR}{args:List Expr}(h1:aU Z G f x=true)(h2:Z.FU G f=true)(Cb:aD Z G es args=true)(mv:Bool) :
  PE X (.Call (.Name x p) args [] pos) (RO X.K ex (CS cl mv (.call f es))):=by
 have pa:=fu es X ex G args g Cb
 have pe:=nV (p:=p) (pos:=pos) g h1 h2 Cb pa (fun e σ H Q ⟨S,τ,hs,q⟩=>by
  subst e
  cases es with
  | nil=>exact q.ok [] H (.refl _) .nil
  | cons _ _=>cases Cb)
 refine ay pe fun σ H Q ⟨F,τ,fo,B9,r,nd,q⟩=>?_
 have q':BK ex (U (aG cl es τ) fun ds=>U (cl f (BV ds)) fun d=>if aw d=true then .ok (d,τ) else .ok (d,B6 (ak es) τ)) (fun p=>∀ v H' F' fv f',Ow X.K F H fo F' H' σ v p.1 fv p.2 f'->Q v H'):=q
 -- read without M4 up
 have borrow:(∀ ds,aG cl es τ=.ok ds->BK ex (cl f (BV ds)) fun d=>aw d=true/\∀ v H' F' fv f',Ow X.K F H fo F' H' σ v d fv τ f'->Q v H')->BK ex (aG cl es τ) (fun _=>True)->RA X.K ex (ak es) (aG cl es) σ H (fun vs H1=>M3 X.K ex cl f vs H1 Q):=by
  intro hk BY
  refine iF (.refl _) (aJ r) BY.eq fun ds vs H1 e1 _ m1 q1=>?_
  refine⟨fun a=>H1 a≠none,ds,fun a h=>h,m1.step (fun a xs h rd=>⟨rd.some,rd⟩) fun a xs h=>h,(hk ds q1.1).mono fun d hd v H' F' fv o=>?_⟩
  obtain⟨k1,k2,k3⟩:=d4 B9 r (e1.trans o.same)
  exact hd.2 v H' F [] fo ⟨k3,k1,o.rep.D4 hd.1,k2,by simpa using nd,fun a ha=>.inl (by simpa using ha)⟩
 cases z:aG cl es τ with
 | error er=>
  rw[z] at q'
  cases er with
  | stuck=>exact q'.no.elim
  | exc c=>exact borrow (fun ds h=>by rw[z] at h;cases h) (by rw[z];exact q')
 | ok ds=>
  rw[z] at q'
  have q1:BK ex (U (cl f (BV ds)) fun d=>if aw d=true then .ok (d,τ) else .ok (d,B6 (ak es) τ)) (fun p=>∀ v H' F' fv f',Ow X.K F H fo F' H' σ v p.1 fv p.2 f'->Q v H'):=q'
  cases zc:cl f (BV ds) with
  | error er=>
   rw[zc] at q1
   cases er with
   | stuck=>exact q1.no.elim
   | exc c=>exact borrow (fun ds' h=>by rw[z] at h;cases h;rw[zc];exact q1) (by rw[z];trivial)
  | ok d=>
   rw[zc] at q1
   have q2:BK ex (if aw d=true then .ok (d,τ) else .ok (d,B6 (ak es) τ)) (fun p=>∀ v H' F' fv f',Ow X.K F H fo F' H' σ v p.1 fv p.2 f'->Q v H'):=q1
   by_cases hl:aw d=true
   ·rw[if_pos hl] at q2
    exact borrow (fun ds' h=>by rw[z] at h;cases h;rw[zc];exact⟨hl,q2.ok⟩) (by rw[z];trivial)
   ·rw[if_neg hl] at q2
    obtain⟨F1,gg,b1,b2,b3,b4,b5,b6⟩:=cC (ak es) B9 r nd
    refine iF (Kt:=fun ds'=>ds'=ds) (.refl _) b6 (by rw[z];rfl) fun ds' vs H1 e1 _ m1 e=>?_
    subst e
    have hm:BJ X.K (fun a=>F1 a∨(True/\H a=none/\H1 a≠none)) H1 vs ds':=m1.step (fun a xs h r=>⟨h.elim (fun z=>.inl z) fun z=>.inr ⟨trivial,z,r.some⟩,r⟩) fun a xs h=>h
    obtain⟨c1,c2,c3⟩:=grow (fun _=>True) b1 b2 e1
    refine⟨_,ds',c1,hm,?_⟩
    rw[zc]
    intro v H' F' fv o
    have s1:ES (fun a=>F1 a∨(True/\H a=none/\H1 a≠none)) H1 gg F' H':=⟨o.same,o.C8,fun a h=>(o.out a h).elim (fun z=>.inl z) fun z=>.inr (.inr z)⟩
    have r2:Cc X.K F' H' σ (B6 (ak es) τ) gg:=c2.step (fun a xs q rd=>⟨o.C8 a q,o.same.rd rd⟩) (fun a xs q=>o.same.Dq q) fun a ha n hn=>by
     obtain⟨_,xs,e⟩:=c2.own a ha
     refine⟨fun z=>?_,(o.same _ _ e).trans e.symm⟩
     rcases o.out a z with z|z
     ·exact n z
     ·exact hn z
    refine q2.ok v H' F' fv gg ⟨(b4.trans c3 (fun x hx=>.inl (b5 x hx))).trans s1 (fun x hx=>.inl (b5 x hx)),o.B9,o.rep,r2,?_,fun a ha=>?_⟩
    ·refine List.nodup_append.mpr ⟨o.Cf,b3,fun a h1 b h2 e=>?_⟩
     subst e
     obtain⟨_,xs,e⟩:=c2.own a h2
     rw[o.new a h1] at e
     cases e
    ·rcases List.mem_append.mp ha with ha|ha
     ·exact .inr (e1.free (o.new a ha))
     ·exact .inl (b5 a ha)
theorem aH {a:IR}{e:Expr}(he:PE X e (RD X.K ex (vars a) (BM cl a)))(hN:aW a=true->PE X e (RN X.K ex (vars a) fun τ=>U (BM cl a τ) dD)):PE X e (RO X.K ex fun τ=>U (BM cl a τ) fun d=>.ok (aN a d τ)):=by
 intro pins s σ H Q I h
 obtain⟨F,τ,fo,B9,r,nd,q⟩:=h
 replace q:BK ex (U (BM cl a τ) fun d=>.ok (aN a d τ)) (fun p=>∀ v H' F' fv f',Ow X.K F H fo F' H' σ v p.1 fv p.2 f'->Q v H'):=q
 have rd:RD X.K ex (vars a) (BM cl a) σ H Q->wpAny (model X.prog X.w) X.A (eval e X.env) (EP X pins σ Q) X.xe s:=fun h=>he pins s σ H Q I h
 cases z:BM cl a τ with
 | error er=>
  rw[z] at q
  cases er with
  | stuck=>exact q.no.elim
  | exc c=>exact rd ⟨fun _=>True,τ,aJ r,by rw[z];exact q⟩
 | ok d=>
  rw[z] at q
  have q1:∀ v H' F' fv f',Ow X.K F H fo F' H' σ v (aN a d τ).1 fv (aN a d τ).2 f'->Q v H':=q
  by_cases hl:aw d=true
  ·unfold aN at q1
   rw[if_pos hl] at q1
   refine rd ⟨fun _=>True,τ,aJ r,?_⟩
   rw[z]
   intro v H' e m
   obtain⟨k1,k2,k3⟩:=d4 B9 r e
   exact q1 v H' F [] fo ⟨k3,k1,m.free hl,k2,by simpa using nd,fun a ha=>.inl (by simpa using ha)⟩
  ·have other:aN a d τ=(er d,B6 (vars a) τ)->wpAny (model X.prog X.w) X.A (eval e X.env) (EP X pins σ Q) X.xe s:=fun hk=>by
    rw[hk] at q1
    obtain⟨F1,gg,b1,b2,b3,b4,b5,b6⟩:=cC (vars a) B9 r nd
    refine rd ⟨F1,τ,b6,?_⟩
    rw[z]
    intro v H' e m
    obtain⟨c1,c2,c3⟩:=grow (fun _=>True) b1 b2 e
    exact q1 v H' _ [] gg ⟨b4.trans c3 (fun x hx=>.inl (b5 x hx)),c1,m.fix.frozen,c2,by simpa using b3,fun a ha=>.inl (b5 a (by simpa using ha))⟩
   by_cases hn:aW a=true
   ·cases d with
    | lst o ds=>
     by_cases hi:aq ds=true
     ·have hk:aN a (.lst o ds) τ=(.lst true ds,τ):=by
       unfold aN
       rw[if_neg hl,hn]
       show (if aq ds=true then _ else _)=_
       rw[if_pos hi]
      rw[hk] at q1
      refine hN hn pins s σ H Q I ⟨fun _=>True,τ,aJ r,?_⟩
      show BK ex (U (BM cl a τ) dD) _
      rw[z]
      intro p ys H' e hp hy m
      obtain⟨k1,k2,k3⟩:=d4 B9 r e
      refine q1 (.ref p) H' F [p] fo ⟨k3,k1,.DC (fun zz=>B9 p zz hp) hy (m.free hi),k2,?_,fun a ha=>?_⟩
      ·rw[List.singleton_append,List.nodup_cons]
       refine⟨fun zz=>?_,nd⟩
       obtain⟨_,xs,e⟩:=r.own p zz
       rw[hp] at e;cases e
      ·rw[List.singleton_append] at ha
       rcases List.mem_cons.mp ha with rfl|ha
       ·exact .inr hp
       ·exact .inl ha
     ·have hk:aN a (.lst o ds) τ=(.lst true (BV ds),B6 (vars a) τ):=by
       unfold aN
       rw[if_neg hl,hn]
       show (if aq ds=true then _ else _)=_
       rw[if_neg hi]
      rw[hk] at q1
      obtain⟨F1,gg,b1,b2,b3,b4,b5,b6⟩:=cC (vars a) B9 r nd
      refine hN hn pins s σ H Q I ⟨F1,τ,b6,?_⟩
      show BK ex (U (BM cl a τ) dD) _
      rw[z]
      intro p ys H' e hp hy m
      obtain⟨c1,c2,c3⟩:=grow (fun a=>a≠p) b1 b2 e
      have m2:BJ X.K (fun a=>F1 a∨(a≠p/\H a=none/\H' a≠none)) H' ys ds:=m.step (fun a xs h r=>⟨h.1.elim (fun z=>.inl z) fun z=>.inr ⟨h.2,z,r.some⟩,r⟩) fun a xs h=>h
      refine q1 (.ref p) H' _ [p] gg ⟨b4.trans c3 (fun x hx=>.inl (b5 x hx)),c1,.DC (fun zz=>?_) hy m2.frozen,c2,?_,fun a ha=>?_⟩
      ·rcases zz with zz|zz
       ·exact b1 p zz hp
       ·exact zz.1 rfl
      ·rw[List.singleton_append,List.nodup_cons]
       refine⟨fun zz=>?_,b3⟩
       obtain⟨_,xs,e⟩:=b2.own p zz
       rw[hp] at e;cases e
      ·rw[List.singleton_append] at ha
       rcases List.mem_cons.mp ha with rfl|ha
       ·exact .inr hp
       ·exact .inl (b5 a ha)
    | _=>
     refine other ?_
     unfold aN
     rw[if_neg hl,hn]
   ·have DZ:aW a=false:=by simpa using hn
    refine other ?_
    unfold aN
    rw[if_neg hl,DZ]
theorem zg {a b:Expr}{pos:Pos}{va vb:List Nat}{fa fb:Ev->Res D}(ha:PE X a (RD X.K ex va fa))(hb:PE X b (RD X.K ex vb fb)) :
  PE X (.BinOp a .Add b pos) (RN X.K ex (va++vb) fun τ=>U (U (fa τ) fun x=>U (fb τ) fun y=>DT .add x y) dD):=by
 refine ay (sS jU ha hb) fun σ H Q ⟨S,τ,hs,q⟩=>?_
 refine aO (.refl _) hs.left (BK.U (BK.U q)) fun x v H1 e1 _ m1 q1=>?_
 refine aO e1 hs.right (BK.U q1) fun y w H2 e2 CU m2 q2=>?_
 have stuck:∀ {P:Prop},DT .add x y=BR->P:=fun z=>by rw[z] at q2;exact q2.no.elim
 cases x with
 | int a=>cases y with
  | int b=>exact q2.ok.no.elim
  | _=>exact stuck rfl
 | str a=>cases y with
  | str b=>exact(BK.BN q2).2.ok.no.elim
  | _=>exact stuck rfl
 | lst o a=>cases y with
  | lst o' b=>
   obtain⟨p,xs,rfl,h1,n1⟩:=m1.Ha
   obtain⟨p',ys,rfl,h2,n2⟩:=m2.Ha
   obtain⟨gd,q3⟩:=BK.BN q2
   have g':=aQ gd
   have l1:=n1.length
   have l2:=n2.length
   have JL:Ls X.K H2 p xs:=h1.elim (fun z=>.inl (CU.rd z)) .inr
   exact⟨p,p',xs,ys,rfl,rfl,JL,h2,by omega,fun z hz=>q3.ok.ok z _ _ (e2.trans (.upd hz)) (e2.free hz) av (nU ((n1.later CU).append n2) hz)⟩
  | _=>exact stuck rfl
 | _=>exact stuck rfl
theorem By {a:Expr}{lo hi:Option Expr}{pos p2:Pos}{va vl vh:List Nat}{fa:Ev->Res D}{fl fh:Ev->Res (Option Int)}(ha:PE X a (RD X.K ex va fa))(hl:PO X lo (JI X.K ex vl fl))(hh:PO X hi (JI X.K ex vh fh)) :
  PE X (.Subscript a (.Slice lo hi none p2) pos) (RN X.K ex (va++vl++vh) fun τ=>U (U (fa τ) fun x=>U (fl τ) fun l=>U (fh τ) fun h=>gr x l h) dD):=by
 refine ay (ib jN ha hl hh) fun σ H Q ⟨S,τ,hs,q⟩=>?_
 refine aO (.refl _) hs.left.left (BK.U (BK.U q)) fun x v H1 e1 _ m1 q1=>?_
 refine rL e1 hs.left.right (BK.U q1) fun l H2 e2 CU q2=>?_
 refine rL e2 hs.right (BK.U q2) fun h H3 e3 Hl q3=>?_
 cases x with
 | lst o ds=>
  obtain⟨p,xs,rfl,h1,n1⟩:=m1.CH
  exact⟨p,xs,rfl,(CU.trans Hl).seq h1,fun z hz=>q3.ok.ok z _ _ (e3.trans (.upd hz)) (e3.free hz) av (nU (jW l h (n1.later (CU.trans Hl))) hz)⟩
 | str _=>exact(BK.BN q3).2.ok.no.elim
 | _=>exact q3.no.elim
theorem fx (hc:X.calm=true):bW X (.type "list") (fun xs H Q=>(∃ p ys,xs=[.ref p]/\(Dd X.K H p ys∨De X.K H p ys)/\∀ l,H l=none->Q (.ref l) (upd H l (.lst ys)))∨∃ z:Str,xs=[.str z]/\z.length<=sizeLine/\∀ l,H l=none->Q (.ref l) (upd H l (.lst (c9 z)))):=by
 intro pins s σ H xs us Q I r h
 rcases h with h|h
 ·exact cy pins s σ H xs us Q I r h
 ·exact cZ hc pins s σ H xs us Q I r h
theorem wD (g:Cg Z CX cl xp X ex G){p pos:Pos}{es:List IR}{a:Expr}{args:List Expr}(hg:G.EO (fN .list)=true)(Cb:aD Z G es (a::args)=true)(h:PA X (a::args) (RA X.K ex (ak es) (aG cl es))) :
  PE X (.Call (.Name (cA .list) p) (a::args) [] pos) (RN X.K ex (ak es) fun τ=>U (U (aG cl es τ) fun ds=>bX .list ds) dD):=by
 obtain⟨k1,k2,k3,k4⟩:=c7 g (nM .list) (gC hg)
 cases es with
 | nil=>cases Cb
 | cons b es=>
  have B8:(notStar a&&BW Z G b a&&aD Z G es args)=true:=Cb
  simp only[Bool.and_eq_true] at B8
  refine ay (dJ (fx (g.calm (gD hg))) k1 k2 (jX .list) h k3 k4 (ah B8.1.1 args X.env) (aX Z G (es:=es) pos X.env B8.2)) fun σ H Q ⟨S,τ,hs,q⟩=>?_
  refine iF (.refl _) hs (BK.U (BK.U q)) fun ds vs H1 e1 _ m1 q1=>?_
  have stuck:∀ {P:Prop},bX .list ds=BR->P:=fun z=>by rw[z] at q1;exact q1.no.elim
  match ds,m1 with
  | [],_=>exact stuck rfl
  | d::_::_,_=>exact stuck (by cases d<;>rfl)
  | [d],m1=>
   obtain⟨x,rfl,hd⟩:=m1.IL
   cases d with
   | tup ds=>
    obtain⟨a,ys,rfl,q',m⟩:=hd.CZ
    exact .inl ⟨a,ys,rfl,.inr q',fun z hz=>q1.ok.ok z _ _ (e1.trans (.upd hz)) (e1.free hz) av (nU m hz)⟩
   | lst o ds=>
    obtain⟨a,ys,rfl,q',m⟩:=hd.CH
    exact .inl ⟨a,ys,rfl,.inl q',fun z hz=>q1.ok.ok z _ _ (e1.trans (.upd hz)) (e1.free hz) av (nU m hz)⟩
   | str z=>
    cases hd.Cr
    obtain⟨gz,q1⟩:=BK.BN q1
    exact .inr ⟨z,rfl,aQ gz,fun l hl=>q1.ok.ok l _ _ (e1.trans (.upd hl)) (e1.free hl) av (nU (fL z) hl)⟩
   | _=>exact stuck rfl
end
section
variable {Z:Sg}{CX:C6}{cl:Nat->List D->Res D}{xp:XK->Hp->Str->Prop}
theorem fR {X:Cx}{ex:Str->Prop}{G:Gm}(g:Cg Z CX cl xp X ex G){i:Nat}{x:Str}{pos:Pos}(h:cP G i x=true):PE X (.Name x pos) (qI i):=by
 unfold cP at h
 rw[Bool.and_eq_true] at h
 have hx:G.N[i]? = some x:=eq_of_beq h.1
 have hk:=g.kd i x hx
 have hv:J3 X.env.scope x:=by
  have h2:=h.2
  rw[Bool.or_eq_true,Bool.or_eq_true] at h2
  rcases h2 with (h2|h2)|h2
  ·exact .inl (hk.trans (eq_of_beq h2))
  ·exact .inr (.inl (hk.trans (eq_of_beq h2)))
  ·exact .inr (.inr (hk.trans (eq_of_beq h2)))
 exact mH (i:=i) (by rw[g.N];exact hx) hv (g.Fq i x hx).1 (g.Fq i x hx).2
theorem wF {X:Cx}{ex:Str->Prop}{G G':Gm}{fr:List Nat}(g:Cg Z CX cl xp X ex G){scope:Scope}{tg iter elt:Expr}{ifs:List Expr}{pos:Pos}{T:Tg}{s:Sr}{I:List IR}{E:IR}(hs:FG Z G scope G' fr)(hT:bB G' T tg=true)(ha:∀ i∈DN T,fr.length<=i)
  (hi:bR Z G s iter=true/\d8 s tg=true) (ht:aD Z G' I ifs=true) (he:BW Z G' E elt=true) :
  PE X (.ListComp elt [⟨tg,iter,ifs,0⟩] scope pos) (RN X.K ex (vars (.comp G' fr T s I E)) fun τ=>U (BM cl (.comp G' fr T s I E) τ) dD):=by
 intro pins s' σ H Q Iv h
 obtain⟨C9,S⟩:=dR g Iv.ok hs
 have p:=jP (pos:=pos) (elt:=elt) (ifs:=ifs) (tg:=tg) (g:=gT X.K T) (tt:=RT X.K CF (ak I) (dh cl I)) (te:=RD X.K CF (vars E) (BM cl E)) (g.calm hs.cm) S (rS s X ex G iter tg g hi.1 hi.2) (fun C s H fp=>IT (bA g hs C9 C s H fp) T tg hT)
  (fun C s H fp=>rR I _ CF G' ifs (bA g hs C9 C s H fp) ht) (fun C s H fp=>(snd E _ CF G' elt (bA g hs C9 C s H fp) he).1) (fun x=>bN hi.1 X.env x)
 refine p pins s' σ H Q Iv ?_
 obtain⟨S0,τ,M1,q⟩:=h
 have q':=BK.U (show BK ex (U (BM cl (.comp G' fr T s I E) τ) dD) _ from q)
 rw[e6] at q'
 exact ck hs.KU ha M1 q' fun A ys ds H' e hA HS m k=>k.ok A ys H' e hA HS m
theorem DG:∀ (a:IR) (X:Cx) (ex:Str->Prop) (G:Gm) (e:Expr),Cg Z CX cl xp X ex G->BW Z G a e=true->aW a=true->PE X e (RN X.K ex (vars a) fun τ=>U (BM cl a τ) dD):=by
 intro a X ex G e g h n
 cases a with
 | bin op a b=>
  cases op with
  | add=>
   cases e with
   | BinOp l o r pos=>
    have h':(o == IJ .add&&BW Z G a l&&BW Z G b r)=true:=h
    simp only[Bool.and_eq_true] at h'
    have e1:o=IJ .add:=eq_of_beq h'.1.1
    subst e1
    exact zg (snd a X ex G l g h'.1.2).1 (snd b X ex G r g h'.2).1
   | _=>first|exact af h|cases h
  | _=>cases n
 | sl a lo hi=>
  cases e with
  | Subscript o s pos=>
   cases s with
   | Slice l u st p=>
    cases st with
    | none=>
     have h':(BW Z G a o&&jv Z G lo l&&jv Z G hi u)=true:=h
     simp only[Bool.and_eq_true] at h'
     exact By (snd a X ex G o g h'.1.1).1 (rQ lo X ex G l g h'.1.2) (rQ hi X ex G u g h'.2)
    | some _=>first|exact af h|cases h
   | _=>first|exact af h|cases h
  | _=>first|exact af h|cases h
 | bi f es=>
  cases f with
  | list=>
   cases e with
   | Call fn args DY pos=>
    cases fn with
    | Name x p=>
     cases DY with
     | nil=>
      cases args with
      | nil=>first|exact af h|cases h
      | cons a args=>
       have h':(x == cA .list&&G.EO (fN .list)&&aD Z G es (a::args))=true:=h
       simp only[Bool.and_eq_true] at h'
       have e1:x=cA .list:=eq_of_beq h'.1.1
       subst e1
       exact wD g h'.1.2 h'.2 (fu es X ex G _ g h'.2)
     | cons _ _=>cases args<;>first|exact af h|cases h
    | _=>first|exact af h|cases h
   | _=>first|exact af h|cases h
  | _=>cases n
 | comp G' fr tg src ifs elt=>
  cases e with
  | ListComp el gens scope pos=>
   have h:mh gens (fun t it fs=>bz Z G scope G' fr&&bB G' tg t&&(DN tg).all (fun i=>decide (fr.length<=i))&&(bR Z G src it&&d8 src t)&&aD Z G' ifs fs&&BW Z G' elt el)=true:=h
   obtain⟨t,it,fs,rfl,h⟩:=gE h
   have h':(bz Z G scope G' fr&&bB G' tg t&&(DN tg).all (fun i=>decide (fr.length<=i))&&(bR Z G src it&&d8 src t)&&aD Z G' ifs fs&&BW Z G' elt el)=true:=h
   simp only[Bool.and_eq_true] at h'
   exact wF g (gH h'.1.1.1.1.1) h'.1.1.1.1.2 (fun i hi=>of_decide_eq_true (List.all_eq_true.mp h'.1.1.1.2 i hi)) h'.1.1.2 h'.1.2 h'.2
  | _=>first|exact af h|cases h
 | _=>cases n
theorem Eh {X:Cx}{ex:Str->Prop}{pos:Pos}(mv:Bool):PE X (.Dict [] [] pos) (RO X.K ex (CS cl mv .Dh)):=by
 refine ay il fun σ H Q ⟨F,τ,fo,B9,r,nd,q⟩=>fun p hp=>?_
 have q':∀ v H' F' fv f',Ow X.K F H fo F' H' σ v (.BU true [] []) fv τ f'->Q v H':=q
 have e:au H (upd H p (.dK [])):=.upd hp
 obtain⟨k1,k2,k3⟩:=d4 B9 r e
 have nF:¬ F p:=fun z=>B9 p z hp
 have Rr:p∉fo:=fun z=>by
  obtain⟨_,u,eu⟩:=r.own p z
  rw[hp] at eu;cases eu
 exact q' _ _ F [p] fo ⟨k3,k1,.Ec (kvs:=[]) nF av rfl .nil,k2,by rw[List.singleton_append,List.nodup_cons];exact⟨Rr,nd⟩,fun a ha=>by
  rcases List.mem_append.mp ha with ha|ha
  ·rw[List.mem_singleton.mp ha];exact .inr hp
  ·exact .inl ha⟩
mutual
theorem KY:∀ (a:IR) (mv:Bool) (X:Cx) (ex:Str->Prop) (G:Gm) (e:Expr),Cg Z CX cl xp X ex G->BW Z G a e=true->PE X e (RO X.K ex (CS cl mv a))
 | .v i,mv,X,ex,G,e,g,h=>by
  cases e with
  | Name x pos=>exact LZ (fR g h) mv
  | _=>first|exact af h|cases h
 | .tup es,mv,X,ex,G,e,g,h=>by
  cases e with
  | Tuple l n pos=>exact Fs (wG es mv X ex G l g h)
  | _=>first|exact af h|cases h
 | .lst es,mv,X,ex,G,e,g,h=>by
  cases e with
  | List l pos=>exact Ft (wG es mv X ex G l g h)
  | _=>first|exact af h|cases h
 | .ite t a b,mv,X,ex,G,e,g,h=>by cases e<;>exact af h
 | .call f es,mv,X,ex,G,e,g,h=>by
  cases e with
  | Call fn args DY pos=>
   cases fn with
   | Name x p=>
    cases DY with
    | nil=>
     have h':(aU Z G f x&&Z.FU G f&&aD Z G es args)=true:=h
     simp only[Bool.and_eq_true] at h'
     exact Eg g h'.1.1 h'.1.2 h'.2 mv
    | cons _ _=>first|exact af h|cases h
   | _=>first|exact af h|cases h
  | _=>first|exact af h|cases h
 | .c d,mv,X,ex,G,e,g,h=>aH (snd _ X ex G e g h).1 (DG _ X ex G e g h)
 | .g n d,mv,X,ex,G,e,g,h=>aH (snd _ X ex G e g h).1 (DG _ X ex G e g h)
 | .bin op a b,mv,X,ex,G,e,g,h=>aH (snd _ X ex G e g h).1 (DG _ X ex G e g h)
 | .neg a,mv,X,ex,G,e,g,h=>aH (snd _ X ex G e g h).1 (DG _ X ex G e g h)
 | .cmp op a b,mv,X,ex,G,e,g,h=>aH (snd _ X ex G e g h).1 (DG _ X ex G e g h)
 | .chain op LI a b c,mv,X,ex,G,e,g,h=>aH (snd _ X ex G e g h).1 (DG _ X ex G e g h)
 | .EH a b,mv,X,ex,G,e,g,h=>aH (snd _ X ex G e g h).1 (DG _ X ex G e g h)
 | .EI a b,mv,X,ex,G,e,g,h=>aH (snd _ X ex G e g h).1 (DG _ X ex G e g h)
 | .FD a,mv,X,ex,G,e,g,h=>aH (snd _ X ex G e g h).1 (DG _ X ex G e g h)
 | .idx a i,mv,X,ex,G,e,g,h=>aH (snd _ X ex G e g h).1 (DG _ X ex G e g h)
 | .sl a lo hi,mv,X,ex,G,e,g,h=>aH (snd _ X ex G e g h).1 (DG _ X ex G e g h)
 | .bi f es,mv,X,ex,G,e,g,h=>aH (snd _ X ex G e g h).1 (DG _ X ex G e g h)
 | .Ew a ns tb,mv,X,ex,G,e,g,h=>aH (snd _ X ex G e g h).1 (DG _ X ex G e g h)
 | .LJ a k,mv,X,ex,G,e,g,h=>aH (snd _ X ex G e g h).1 (DG _ X ex G e g h)
 | .FQ x a y,mv,X,ex,G,e,g,h=>aH (snd _ X ex G e g h).1 (DG _ X ex G e g h)
 | .Cj a k,mv,X,ex,G,e,g,h=>aH (snd _ X ex G e g h).1 (DG _ X ex G e g h)
 | .FP n k a,mv,X,ex,G,e,g,h=>aH (snd _ X ex G e g h).1 (DG _ X ex G e g h)
 | .sset a,mv,X,ex,G,e,g,h=>aH (snd _ X ex G e g h).1 (DG _ X ex G e g h)
 | .Ea a,mv,X,ex,G,e,g,h=>aH (snd _ X ex G e g h).1 (DG _ X ex G e g h)
 | .EJ a,mv,X,ex,G,e,g,h=>aH (snd _ X ex G e g h).1 (DG _ X ex G e g h)
 | .Dr a k d,mv,X,ex,G,e,g,h=>aH (snd _ X ex G e g h).1 (DG _ X ex G e g h)
 | .Dh,mv,X,ex,G,e,g,h=>by
  have h:LN e=true:=by cases e<;>exact h
  obtain⟨pos,rfl⟩:=nO h
  exact Eh mv
 | .Hd a,mv,X,ex,G,e,g,h=>aH (snd _ X ex G e g h).1 (DG _ X ex G e g h)
 | .Gp m o es,mv,X,ex,G,e,g,h=>aH (snd _ X ex G e g h).1 (DG _ X ex G e g h)
 | .comp G' fr tg src ifs elt,mv,X,ex,G,e,g,h=>aH (snd _ X ex G e g h).1 (DG _ X ex G e g h)
theorem wG:∀ (as:List IR) (mv:Bool) (X:Cx) (ex:Str->Prop) (G:Gm) (l:List Expr),Cg Z CX cl xp X ex G->aD Z G as l=true->PA X l (JO X.K ex (eQ cl mv as))
 | [],mv,X,ex,G,l,g,h=>by
  cases l with
  | nil=>exact wC
  | cons _ _=>first|exact af h|cases h
 | a::as,mv,X,ex,G,l,g,h=>by
  cases l with
  | nil=>first|exact af h|cases h
  | cons e l=>
   have h':(notStar e&&BW Z G a e&&aD Z G as l)=true:=h
   simp only[Bool.and_eq_true] at h'
   exact rT h'.1.1 (KY a mv X ex G e g h'.1.2) (wG as mv X ex G l g h'.2)
end
end
structure Bs (io:Option Nat) where
 F:Addr->Prop
 H:Hp
 L:Addr->LD->Prop
 T:Addr->List V ⊕ Str->Prop
 N:Option Addr:=none
structure Cz (K:PySem.W.Frag){io:Option Nat}(B:Bs io)(F:Addr->Prop)(H:Hp)(σ:St)(τ:Ev)(f:List Addr):Prop where
 B9:DU F H
 CT:Cc K F H σ τ f
 Cf:f.Nodup
 same:au B.H H
 own:∀ a∈f,B.H a=none
 C8:∀ a,B.F a->F a
 out:∀ a,F a->B.F a∨B.H a=none
 pin:∀ a xs,B.L a xs->F a/\Rd H a xs.o
 FY:∀ a xs,B.T a xs->CA K H a xs
 nm:∀ j a,io=some j->B.N=some a->σ[j]? = some (some (.ref a))
noncomputable def Fk (K:PySem.W.Frag){io:Option Nat}(B:Bs io)(Dn:Ends):Fl->Prop
 | .nx τ=>∀ σ H F f,Cz K B F H σ τ f->Dn.nx σ H
 | .bk τ=>∀ σ H F f,Cz K B F H σ τ f->Dn.bk σ H
 | .ct τ=>∀ σ H F f,Cz K B F H σ τ f->Dn.ct σ H
 | .rt d=>∀ v H F fv,Out K B.F B.H F H v d fv->Dn.rt v H
def RS (K:PySem.W.Frag)(io:Option Nat)(ex:Str->Prop)(g:Ev->Res Fl):TS:=fun Dn σ H=>∃ (B:Bs io),∃ F τ f,Cz K B F H σ τ f/\BK ex (g τ) (Fk K B Dn)
section
variable {K:PySem.W.Frag}{io:Option Nat}{B:Bs io}{F F':Addr->Prop}{H H':Hp}{σ:St}{τ BP:Ev}{f f':List Addr}{ex:Str->Prop}
theorem Cz.Ef (m:Cz K B F H σ τ f)(s:ES F H f F' H')(B9:DU F' H')(r:Cc K F' H' σ BP f')(nd:f'.Nodup)(hm:∀ a∈f',a∈f∨H a=none):Cz K B F' H' σ BP f' where
 B9:=B9
 CT:=r
 Cf:=nd
 same:=m.same.trans s.same
 own:=fun a ha=>(hm a ha).elim (m.own a) fun z=>m.same.free z
 C8:=fun a h=>s.C8 a (m.C8 a h)
 out:=fun a h=>by
  rcases s.out a h with h|h|h
  ·exact m.out a h
  ·exact .inr (m.own a h)
  ·exact .inr (m.same.free h)
 pin:=fun a xs h=>⟨s.C8 a (m.pin a xs h).1,s.same.rd (m.pin a xs h).2⟩
 FY:=fun a xs h=>s.same.Dq (m.FY a xs h)
 nm:=m.nm
theorem Cz.ow {v:V}{d:D}{fv:List Addr}(m:Cz K B F H σ τ f)(o:Ow K F H f F' H' σ v d fv BP f'):Cz K B F' H' σ BP f'/\∀ a∈fv,B.H a=none:=
 ⟨m.Ef o.Ef o.B9 o.CT (List.nodup_append.mp o.Cf).2.1 fun a ha=>o.mem a (List.mem_append_right _ ha),fun a ha=>(o.mem a (List.mem_append_left _ ha)).elim (m.own a) fun z=>m.same.free z⟩
theorem Cz.grow (m:Cz K B F H σ τ f)(e:au H H'):Cz K B F H' σ τ f:=by
 obtain⟨k1,k2,k3⟩:=d4 m.B9 m.CT e
 exact m.Ef k3 k1 k2 m.Cf fun a ha=>.inl ha
theorem Cz.ro {g:Ev->Res (D×Ev)}{Kt:D×Ev->Prop}{Q:VK}(m:Cz K B F H σ τ f)(h:BK ex (g τ) Kt)(k:∀ p v H' F' fv f',Ow K F H f F' H' σ v p.1 fv p.2 f'->Kt p->Q v H'):RO K ex g σ H Q:=
 ⟨F,τ,f,m.B9,m.CT,m.Cf,h.mono fun p hp v H' F' fv f' o=>k p v H' F' fv f' o hp⟩
theorem Cz.rt {is:List Nat}{g:Ev->Res Bool}{Kt:Bool->Prop}{Q:Bool->Hp->Prop}(m:Cz K B F H σ τ f)(h:BK ex (g τ) Kt)(k:∀ b H',Cz K B F H' σ τ f->au H H'->Kt b->Q b H'):RT K ex is g σ H Q:=
 gG (.refl _) (aJ m.CT) h fun b H2 e2 _ hb=>k b H2 (m.grow e2) e2 hb
theorem Cz.rd {is:List Nat}{g:Ev->Res D}{Kt:D->Prop}{Q:VK}(m:Cz K B F H σ τ f)(h:BK ex (g τ) Kt)(k:∀ d v H',Cz K B F H' σ τ f->au H H'->BL K (nw (fun _=>True) H) H' v d->Kt d->Q v H'):RD K ex is g σ H Q:=
 aO (.refl _) (aJ m.CT) h fun b v H2 e2 _ mv hb=>k b v H2 (m.grow e2) e2 mv hb
mutual
theorem nW:∀ (t:Tg) {σ:St}{τ:Ev}{f:List Addr}{v:V}{d:D}{fv:List Addr}{Kt:Ev->Prop}{Q:St->Hp->Prop},Cc K F H σ τ f->B3 K F H v d fv->(fv++f).Nodup->BK ex (bH t d τ) Kt->
  (∀ BP B4 f',Cc K F H B4 BP f'->f'.Nodup->(∀ a∈f',a∈fv++f)->(∀ j,j∉DN t->B4[j]? = σ[j]?)->Kt BP->Q B4 H)->gT K t v σ H Q
 | .nm i,σ,τ,f,v,d,fv,Kt,Q,r,m,nd,h,k=>by
  obtain⟨g,h',r2,p2⟩:=r.put i m
  have Hm:(g++h').Nodup:=p2.nodup_iff.mpr nd
  exact k (τ.set i (some d)) (σ.set i (some v)) g r2 (List.nodup_append.mp Hm).1 (fun a ha=>p2.mem_iff.mp (List.mem_append_left _ ha)) (fun j hj=>List.getElem?_set_ne (fun z=>hj (by rw[<- z];exact List.mem_singleton.mpr rfl))) h.ok
 | .tp ts,σ,τ,f,v,d,fv,Kt,Q,r,m,nd,h,k=>by
  cases m with
  | tup h1 h2=>
   obtain⟨gd,h⟩:=BK.BN h
   have g':=of_decide_eq_true gd
   exact⟨_,_,rfl,.inl h1,by rw[h2.length];exact g',dE ts r h2 nd h k⟩
  | FA h0 h1 h2=>
   obtain⟨gd,h⟩:=BK.BN h
   have g':=of_decide_eq_true gd
   exact⟨_,_,rfl,.inr (.inl h1),by rw[h2.length];exact g',dE ts r h2 nd h k⟩
  | lstK h1 h2=>
   obtain⟨gd,h⟩:=BK.BN h
   have g':=of_decide_eq_true gd
   exact⟨_,_,rfl,.inr h1.sq,by rw[h2.length];exact g',dE ts r h2 nd h k⟩
  | DC h0 h1 h2=>
   obtain⟨gd,h⟩:=BK.BN h
   have g':=of_decide_eq_true gd
   rw[List.cons_append,List.nodup_cons] at nd
   exact⟨_,_,rfl,.inr (.inl (.inl h1)),by rw[h2.length];exact g',dE ts r h2 nd.2 h fun BP B4 f' a1 a2 a3 a5 a4=>k BP B4 f' a1 a2 (fun x hx=>by rw[List.cons_append];exact List.mem_cons_of_mem _ (a3 x hx)) a5 a4⟩
  | _=>exact h.no.elim
theorem dE:∀ (ts:List Tg) {σ:St}{τ:Ev}{f:List Addr}{vs:List V}{ds:List D}{fv:List Addr}{Kt:Ev->Prop}{Q:St->Hp->Prop},Cc K F H σ τ f->BO K F H vs ds fv->(fv++f).Nodup->BK ex (dv ts ds τ) Kt->
  (∀ BP B4 f',Cc K F H B4 BP f'->f'.Nodup->(∀ a∈f',a∈fv++f)->(∀ j,j∉iD ts->B4[j]? = σ[j]?)->Kt BP->Q B4 H)->KS K ts vs σ H Q
 | [],σ,τ,f,vs,ds,fv,Kt,Q,r,m,nd,h,k=>by
  cases m with
  | nil=>exact⟨rfl,k τ σ f r (by simpa using nd) (fun a ha=>by simpa using ha) (fun _ _=>rfl) h.ok⟩
  | cons _ _=>exact h.no.elim
 | t::ts,σ,τ,f,vs,ds,fv,Kt,Q,r,m,nd,h,k=>by
  cases m with
  | nil=>exact h.no.elim
  | cons m1 m2=>
   rename_i v d f1 vs ds f2
   have FX:(f2++(f1++f)).Nodup:=by
    refine(List.Perm.nodup_iff ?_).mp nd
    rw[<- List.append_assoc]
    exact List.Perm.append_right f List.perm_append_comm
   refine⟨_,_,rfl,nW t r m1 (List.nodup_append.mp FX).2.1 (BK.U h) fun BP B4 f' r' M5 D3 LX h'=>?_⟩
   refine dE ts r' m2 (List.nodup_append.mpr ⟨(List.nodup_append.mp FX).1,M5,fun a h1 b h2 e=>(List.nodup_append.mp FX).2.2 a h1 b (D3 b h2) e⟩) h' fun IU IV IY Rt M6 Gh M7 MZ=>k IU IV IY Rt M6 (fun a ha=>?_) (fun j hj=>(M7 j fun z=>hj (List.mem_append_right _ z)).trans (LX j fun z=>hj (List.mem_append_left _ z))) MZ
   rcases List.mem_append.mp (Gh a ha) with z|z
   ·exact List.mem_append_left _ (List.mem_append_right _ z)
   ·rcases List.mem_append.mp (D3 a z) with z|z
    ·exact List.mem_append_left _ (List.mem_append_left _ z)
    ·exact List.mem_append_right _ z
end
theorem Cz.gT {t:Tg}{v:V}{d:D}{fv:List Addr}{Kt:Ev->Prop}{Q:St->Hp->Prop}(m:Cz K B F H σ τ f)(mv:B3 K F H v d fv)(nd:(fv++f).Nodup)(hb:∀ a∈fv,B.H a=none)(FI:∀ j∈DN t,io≠some j)(h:BK ex (bH t d τ) Kt)
  (k:∀ BP B4 f',Cz K B F H B4 BP f'->Kt BP->Q B4 H):L2.gT K t v σ H Q:=
 nW t m.CT mv nd h fun BP B4 f' r' M5 hm hj h'=>k BP B4 f' ⟨m.B9,r',M5,m.same,fun a ha=>(List.mem_append.mp (hm a ha)).elim (hb a) (m.own a),m.C8,m.out,m.pin,m.FY,fun j a e1 e2=>(hj j fun z=>FI j z e1).trans (m.nm j a e1 e2)⟩ h'
theorem Cz.write {i:Nat}{ds ds':List D}{w:V}{d:D}{fv:List Addr}{l:Addr}{xs ys:List V}(m:Cz K B F H σ τ f)(hs:aj τ i=some (.lst true ds))(Dc:σ[i]? = some (some (.ref l)))(hl:H l=some (.lst xs))(mw:B3 K F H w d fv)(nd:(fv++f).Nodup)(hb:∀ a∈fv,B.H a=none)
  (hy:∀ fi,BO K F H xs ds fi->∃ fl h,BO K F H ys ds' fl/\(fl++h).Perm (fv++fi)):∃ f',Cz K B F (upd H l (.lst ys)) σ (τ.set i (some (.lst true ds'))) f':=by
 obtain⟨v,fs,g,h1,h2,h3,h4⟩:=m.CT.at hs
 rw[Dc] at h1
 cases h1
 cases h2 with
 | @DC a QP Ru fi hF hH hm=>
  rw[hl] at hH
  cases hH
  obtain⟨fl,h,D3,hp⟩:=hy fi hm
  have IZ:((l::fi)++g).Nodup:=h4.nodup_iff.mp m.Cf
  have L0:(fv++((l::fi)++g)).Nodup:=(List.Perm.append_left fv h4).nodup_iff.mp nd
  have lg:l∉g:=by
   rw[List.cons_append,List.nodup_cons] at IZ
   exact fun z=>IZ.1 (List.mem_append_right _ z)
  have Rv:l∉fi:=by
   rw[List.cons_append,List.nodup_cons] at IZ
   exact fun z=>IZ.1 (List.mem_append_left _ z)
  have Rx:l∉fv:=fun z=>(List.nodup_append.mp L0).2.2 l z l (by simp) rfl
  have I0:∀ a∈fl,a∈fv++fi:=fun a ha=>hp.mem_iff.mp (List.mem_append_left _ ha)
  have OS:l∉fl:=fun z=>(List.mem_append.mp (I0 l z)).elim Rx Rv
  have sl:∀ a (u:LD),F a->Rd H a u.o->F a/\Rd (upd H l (.lst ys)) a u.o:=fun a xs h r=>by
   refine⟨h,?_⟩
   have:a≠l:=fun z=>hF (by rw[<- z];exact h)
   unfold Rd
   rw[ai this]
   exact r
  have st:∀ a xs,CA K H a xs->CA K (upd H l (.lst ys)) a xs:=fun a xs h=>h.upd hl
  have r1:Cc K F (upd H l (.lst ys)) σ (τ.set i none) g:=h3.step sl st fun a ha n _=>⟨n,ai fun z=>lg (by rw[<- z];exact ha)⟩
  have m1:B3 K F (upd H l (.lst ys)) (.ref l) (.lst true ds') (l::fl):=.DC hF av (D3.step sl st fun a ha n _=>⟨n,ai fun z=>OS (by rw[<- z];exact ha)⟩)
  obtain⟨g',h',r2,p2⟩:=r1.put i m1
  have FJ:σ.set i (some (.ref l))=σ:=by
   apply List.ext_getElem?
   intro j
   rw[List.getElem?_set]
   by_cases hj:i=j
   ·subst hj
    have CY:i < σ.length:=(List.getElem?_eq_some_iff.mp Dc).1
    rw[if_pos rfl,if_pos CY,Dc]
   ·rw[if_neg hj]
  rw[FJ,List.set_set] at r2
  have Ry:((l::fl)++g).Nodup:=by
   rw[List.cons_append,List.nodup_cons]
   refine⟨fun z=>(List.mem_append.mp z).elim OS lg,List.nodup_append.mpr ⟨?_,(List.nodup_append.mp IZ).2.1,fun a h1 b h2 e=>?_⟩⟩
   ·have:(fl++h).Nodup:=hp.nodup_iff.mpr (List.nodup_append.mpr ⟨(List.nodup_append.mp L0).1,(List.nodup_cons.mp (List.nodup_append.mp IZ).1).2,fun a h1 b h2 e=>(List.nodup_append.mp L0).2.2 a h1 b (List.mem_append_left _ (List.mem_cons_of_mem _ h2)) e⟩)
    exact(List.nodup_append.mp this).1
   ·subst e
    rcases List.mem_append.mp (I0 a h1) with z|z
    ·exact(List.nodup_append.mp L0).2.2 a z a (List.mem_append_right _ h2) rfl
    ·exact(List.nodup_append.mp IZ).2.2 a (List.mem_cons_of_mem _ z) a h2 rfl
  have Hm:(g'++h').Nodup:=p2.nodup_iff.mpr Ry
  have lB:B.H l=none:=m.own l (h4.mem_iff.mpr (by simp))
  refine⟨g',fun a h=>?_,r2,(List.nodup_append.mp Hm).1,fun b o Ja=>?_,fun a ha=>?_,m.C8,m.out,fun a xs h=>⟨(m.pin a xs h).1,(sl a xs (m.pin a xs h).1 (m.pin a xs h).2).2⟩,fun a xs h=>st a xs (m.FY a xs h),m.nm⟩
  ·have:a≠l:=fun z=>hF (by rw[<- z];exact h)
   rw[ai this]
   exact m.B9 a h
  ·have:b≠l:=fun z=>by rw[z,lB] at Ja;cases Ja
   rw[ai this]
   exact m.same _ _ Ja
  ·have:a∈(l::fl)++g:=p2.mem_iff.mp (List.mem_append_left _ ha)
   rcases List.mem_append.mp this with z|z
   ·rcases List.mem_cons.mp z with rfl|z
    ·exact lB
    ·rcases List.mem_append.mp (I0 a z) with z|z
     ·exact hb a z
     ·exact m.own a (h4.mem_iff.mpr (List.mem_append_left _ (List.mem_cons_of_mem _ z)))
   ·exact m.own a (h4.mem_iff.mpr (List.mem_append_right _ z))
theorem BO.snoc {w:V}{d:D}{fv:List Addr}(mw:B3 K F H w d fv){xs:List V}{ds:List D}{fi:List Addr}(m:BO K F H xs ds fi):∃ fl h,BO K F H (xs++[w]) (ds++[d]) fl/\(fl++h).Perm (fv++fi):=
 ⟨fi++(fv++[]),[],m.append (.cons mw .nil),by rw[List.append_nil,List.append_nil];exact List.perm_append_comm⟩
end
noncomputable def notTuple:Expr->Bool
 | .Tuple ..=>false
 | _=>true
noncomputable def gI:Expr->Bool
 | .ListComp ..=>false
 | .SetComp ..=>false
 | .DictComp ..=>false
 | _=>true
noncomputable def isName:Expr->Bool
 | .Name ..=>true
 | _=>false
noncomputable def isTup:Expr->Bool
 | .Tuple ..=>true
 | _=>false
noncomputable def L1:Option Expr->(Str->Bool)->Bool
 | some (.Call (.Name x _) [.Constant (.str _) _ _] [] _),k=>k x
 | _,_=>false
theorem wH {e:Option Expr}{k:Str->Bool}(h:L1 e k=true):∃ x np w j p BQ,e=some (.Call (.Name x np) [.Constant (.str w) j p] [] BQ)/\k x=true:=by
 unfold L1 at h
 split at h
 ·exact⟨_,_,_,_,_,_,rfl,h⟩
 ·cases h
noncomputable def wI (G:Gm)(i:Nat)(x:Str):Bool:=(G.N[i]? == some x&&(G.kd[i]? == some .local||(G.df&&G.kd[i]? == some .cell)))&&G.io != some i
noncomputable def rev:Stmt->(Option Expr->Bool)->Bool
 | .Raise e none _,k=>k e
 | _,_=>false
theorem wJ {s:Stmt}{k:Option Expr->Bool}(h:rev s k=true):∃ e pos,s=.Raise e none pos/\k e=true:=by
 unfold rev at h
 split at h
 ·exact⟨_,_,rfl,h⟩
 ·cases h
noncomputable def L3:Option Expr->(Str->Expr->Bool)->Bool
 | some (.Call (.Name x _) [a] [] _),k=>k x a
 | _,_=>false
theorem wK {e:Option Expr}{k:Str->Expr->Bool}(h:L3 e k=true):∃ x np a BQ,e=some (.Call (.Name x np) [a] [] BQ)/\k x a=true:=by
 unfold L3 at h
 split at h
 ·exact⟨_,_,_,_,rfl,h⟩
 ·cases h
noncomputable def KZ:Stmt->(Str->Str->List Expr->Str->Str->Stmt->List Stmt->Bool)->Bool
 | .Try [.Assign [.Name xi _] (.Call (.Name xf _) args [] _) _] [.ExceptHandler (some (.Name xc _)) (some y) (b0::r) _] [] [] _,k=>k xi xf args xc y b0 r
 | _,_=>false
theorem wL {s:Stmt}{k:Str->Str->List Expr->Str->Str->Stmt->List Stmt->Bool}(h:KZ s k=true):∃ xi pi xf pf args pc pa xc np y b0 r hp pos,s=.Try [.Assign [.Name xi pi] (.Call (.Name xf pf) args [] pc) pa] [.ExceptHandler (some (.Name xc np)) (some y) (b0::r) hp] [] [] pos/\k xi xf args xc y b0 r=true:=by
 unfold KZ at h
 split at h
 ·exact⟨_,_,_,_,_,_,_,_,_,_,_,_,_,_,rfl,h⟩
 ·cases h
noncomputable def HU:Stmt->(Expr->Str->List Expr->Bool)->Bool
 | .Assign [t] (.Call (.Name xf _) args [] _) _,k=>k t xf args
 | _,_=>false
theorem nX {s:Stmt}{k:Expr->Str->List Expr->Bool}(h:HU s k=true):∃ t xf p args q pos,s=.Assign [t] (.Call (.Name xf p) args [] q) pos/\k t xf args=true:=by
 unfold HU at h
 split at h
 ·exact⟨_,_,_,_,_,_,rfl,h⟩
 ·cases h
noncomputable def K0:Stmt->(Str->Str->Bool->Str->Bool)->Bool
 | .Expr (.Call (.Attribute (.Name x _) name apos) [.Name y _] [] BQ) _,k=>k x name (apos.endLine == BQ.line) y
 | _,_=>false
theorem wM {s:Stmt}{k:Str->Str->Bool->Str->Bool}(h:K0 s k=true):∃ x px name apos y py BQ pos,s=.Expr (.Call (.Attribute (.Name x px) name apos) [.Name y py] [] BQ) pos/\k x name (apos.endLine == BQ.line) y=true:=by
 unfold K0 at h
 split at h
 ·exact⟨_,_,_,_,_,_,_,_,rfl,h⟩
 ·cases h
mutual
noncomputable def jy (Z:Sg)(G:Gm):IS->Stmt->Bool
 | .asg tg e,.Assign [t] v _=>bB G tg t&&BW Z G e v&&(isName t||(isTup t&&notTuple v))
 | .CQ i k e,.Assign [.Subscript (.Name x _) s _] v _=>cP G i x&&bx s&&BW Z G k s&&BW Z G e v
 | .app i e,.Expr (.Call (.Attribute (.Name x _) name apos) [v] [] BQ) _=>cP G i x&&name == "append"&&apos.endLine == BQ.line&&notStar v&&BW Z G e v
 | .IH j e,s=>HU s fun t xf args=>isName t&&bB G (.nm j) t&&xf == "dict"&&G.EO 19&&aD Z G [e] args
 | .E0 i j,s=>K0 s fun x n l y=>cP G i x&&n == "update"&&l&&cP G j y&&decide (i≠j)
 | .FT j f es i,s=>HU s fun t xf args=>isName t&&bB G (.nm j) t&&G.cm&&(aU Z G f xf&&Z.DX.contains f)&&aD Z G (es++[.v i]) args&&!(ak es).contains i&&G.io != some i&&decide (i≠j)
 | .pass,.Expr (.Constant (.str _) _ _) _=>true
 | .exp e,.Expr v _=>gI v&&BW Z G e v
 | .ret e,.Return (some v) _=>BW Z G e v
 | .He,.Return none _=>true
 | .Cq t a b,.If c x y _=>BW Z G t c&&cn Z G a x&&cn Z G b y
 | .Cs tg s body,.For t it b [] _=>((G.cm&&G.rs)&&bB G tg t)&&(bR Z G s it&&d8 s t)&&cn Z G body b
 | .brk,.Break _=>true
 | .cnt,.Continue _=>true
 | .pass,.Pass _=>true
 | .never,_=>true
 | .CD n c e,s=>rev s fun o=>L3 o fun x a=>G.rs&&G.cm&&aU Z G n x&&x == c&&Z.rc.contains (n,c)&&aD Z {G with rs:=false,tr:=false} [e] [a]
 | .E1 i f es n cs k hd,s=>KZ s fun xi xf args xc y b0 r=>G.tr&&G.cm&&wI G i xi&&aU Z G f xf&&Z.FU G f&&aD Z {G with rs:=false,tr:=false} es args&&aU Z G n xc&&cs.all (fun c=>Z.xm.contains (c,n))&&(G.N[k]? == some y&&G.io != some k)&&G.kd[k]? == some .local&&cn Z {G with cm:=false,rs:=false,tr:=false} hd (b0::r)
 | .C5 n c _,.Raise e none _=>L1 e fun x=>G.rs&&G.cm&&aU Z G n x&&x == c&&Z.rc.contains (n,c)
 | _,_=>false
noncomputable def cn (Z:Sg)(G:Gm):List IS->List Stmt->Bool
 | [],[]=>true
 | a::as,s::ss=>jy Z G a s&&cn Z G as ss
 | _,_=>false
end
section
variable {Z:Sg}{CX:C6}{cl:Nat->List D->Res D}{xp:XK->Hp->Str->Prop}{X:Cx}{ex:Str->Prop}{G:Gm}
theorem ti {tg:Tg}{t:Expr}(ht:bB G tg t=true){ga:Ev->Res (D×Ev)}{Dn:Ends}{σ:St}{H:Hp}(h:RS X.K G.io ex (fun τ=>U (ga τ) fun p=>U (bH tg p.1 p.2) fun BP=>.ok (.nx BP)) Dn σ H):vA (RO X.K ex ga) (gT X.K tg) Dn σ H:=by
 obtain⟨B,F,τ,f,m,q⟩:=h
 refine m.ro (BK.U q) fun p v H' F' fv f' o hp=>?_
 obtain⟨m',hb⟩:=m.ow o
 exact m'.gT o.rep o.Cf hb (dC tg t ht) (BK.U hp) fun BP B4 IY Ho h'=>h'.ok _ _ _ _ Ho
theorem Ei (g:Cg Z CX cl xp X ex G){tg:Tg}{e:IR}{t v:Expr}{pos:Pos}(ht:bB G tg t=true)(hv:BW Z G e v=true)(hc:(isName t||(isTup t&&notTuple v))=true):PS X (.Assign [t] v pos) (RS X.K G.io ex (C1 cl (.asg tg e))):=by
 have pe:=KY e false X ex G v g hv
 have pg:=IT g tg t ht
 cases t with
 | Name x px=>
  cases tg with
  | tp _=>cases ht
  | nm i=>
   have Et:(G.N[i]? == some x&&(G.kd[i]? == some .local||(G.df&&G.kd[i]? == some .cell)))=true:=(Bool.and_eq_true_iff.mp ht).1
   rw[Bool.and_eq_true,Bool.or_eq_true,Bool.and_eq_true] at Et
   have hx:G.N[i]? = some x:=eq_of_beq Et.1
   have hk:=g.kd i x hx
   have E6:Loc X.env.scope x:=Et.2.elim (fun z=>.inl (hk.trans (eq_of_beq z))) fun z=>.inr (hk.trans (eq_of_beq z.2))
   have Fx:X.fn x=true∨X.env.scope.names.lookup x=some .local:=Et.2.elim (fun z=>.inr (hk.trans (eq_of_beq z))) fun z=>.inl (g.df z.1 x)
   have plain:swapsWith v (some (.Name x px)) pos.line X.env=pure false->PS X (.Assign [.Name x px] v pos) (RS X.K G.io ex (C1 cl (.asg (.nm i) e))):=fun hs=>
    aR (iZ (i:=i) (by rw[g.N];exact g.Cf) (by rw[g.N];exact hx) E6 pe hs Fx) fun Dn σ H h=>ti ht h
   cases v with
   | ListComp el gens scope Hq=>
    have Kp:swapsWith (.ListComp el gens scope Hq) (some (.Name x px)) pos.line X.env=pure (X.env.blockKind == .function&&X.env.kindOf x == some .local&&px.line == Hq.line&&!(scope.names.any fun (n,k)=>n == x&&(k == .local||k == .cell))):=rfl
    cases hb:(X.env.blockKind == .function&&X.env.kindOf x == some .local&&px.line == Hq.line&&!(scope.names.any fun (n,k)=>n == x&&(k == .local||k == .cell))) with
    | false=>exact plain (by rw[Kp,hb])
    | true=>
     rw[hb] at Kp
     have Rz:X.env.kindOf x=some .local:=by
      simp only[Bool.and_eq_true] at hb
      exact eq_of_beq hb.1.1.2
     cases e with
     | comp G' fr T src ifs elt=>
      have hv:mh gens (fun t it fs=>bz Z G scope G' fr&&bB G' T t&&(DN T).all (fun i=>decide (fr.length<=i))&&(bR Z G src it&&d8 src t)&&aD Z G' ifs fs&&BW Z G' elt el)=true:=hv
      obtain⟨t,it,fs,rfl,hv⟩:=gE hv
      have h':(bz Z G scope G' fr&&bB G' T t&&(DN T).all (fun i=>decide (fr.length<=i))&&(bR Z G src it&&d8 src t)&&aD Z G' ifs fs&&BW Z G' elt el)=true:=hv
      simp only[Bool.and_eq_true] at h'
      have hs:=gH h'.1.1.1.1.1
      have hT:=h'.1.1.1.1.2
      have ha:∀ i∈DN T,fr.length<=i:=fun i hi=>of_decide_eq_true (List.all_eq_true.mp h'.1.1.1.2 i hi)
      intro pins s' σ H Dn Iv h
      obtain⟨C9,S⟩:=dR g Iv.ok hs
      have p:=rb (py:=px) (spos:=pos) (i:=i) (pos:=Hq) (elt:=el) (ifs:=fs) (tg:=t) (g:=gT X.K T) (tt:=RT X.K CF (ak ifs) (dh cl ifs)) (te:=RD X.K CF (vars elt) (BM cl elt)) (g.calm hs.cm) (by rw[g.N];exact g.Cf) (by rw[g.N];exact hx) Rz S (rS src X ex G it t g h'.1.1.2.1 h'.1.1.2.2) (fun C s H fp=>IT (bA g hs C9 C s H fp) T t hT)
       (fun C s H fp=>rR ifs _ CF G' fs (bA g hs C9 C s H fp) h'.1.2) (fun C s H fp=>(snd elt _ CF G' el (bA g hs C9 C s H fp) h'.2).1) Kp (fun x=>bN h'.1.1.2.1 X.env x)
      refine p pins s' σ H Dn Iv ?_
      obtain⟨B,F,τ,f,m,q⟩:=h
      -- as one RB is kept
      have q0:BK ex (U (U (BM cl (.comp G' fr T src ifs elt) τ) fun d=>.ok (aN (.comp G' fr T src ifs elt) d τ)) fun p=>U (bH (.nm i) p.1 p.2) fun BP=>.ok (.nx BP)) (Fk X.K B Dn):=q
      have q1:=BK.U (BK.U q0)
      have fin:∀ (d:D) (v:V) (H':Hp) (F':Addr->Prop) (fv f':List Addr),Ow X.K F H f F' H' σ v (aN (.comp G' fr T src ifs elt) d τ).1 fv (aN (.comp G' fr T src ifs elt) d τ).2 f'->(∀ (p:D×Ev),p=aN (.comp G' fr T src ifs elt) d τ->BK ex (U (bH (.nm i) p.1 p.2) fun BP=>.ok (.nx BP)) (Fk X.K B Dn))->Dn.nx (σ.set i (some v)) H':=by
       intro d v H' F' fv f' o hp
       obtain⟨m',Fi⟩:=m.ow o
       have:=m'.gT (t:=.nm i) (Q:=Dn.nx) o.rep o.Cf Fi (dC _ _ ht) (BK.U (hp _ rfl)) fun BP B4 IY Ho h'=>h'.ok _ _ _ _ Ho
       exact this
      cases z:BM cl (.comp G' fr T src ifs elt) τ with
      | error er=>
       rw[z] at q1
       cases er with
       | stuck=>exact q1.no.elim
       | exc c=>
        refine ck (S:=fun _=>True) (τ:=τ) (ex:=ex) (Kt:=fun _=>False) hs.KU ha (aJ m.CT) ?_ fun A ys ds H' e hA HS mm k=>k.elim
        show BK ex (BM cl (.comp G' fr T src ifs elt) τ) _
        rw[z]
        exact q1
      | ok d=>
       rw[z] at q1
       have q2:=q1.ok.ok
       obtain⟨o',ds,rfl⟩:∃ o ds,d=.lst o ds:=by
        have zz:=z
        rw[e6] at zz
        obtain⟨its,_,zz⟩:=bI zz
        obtain⟨_,zz⟩:=gw zz
        obtain⟨ds,_,zz⟩:=bI zz
        cases zz
        exact⟨true,ds,rfl⟩
       by_cases hi:aq ds=true
       ·have Eu:aN (.comp G' fr T src ifs elt) (.lst o' ds) τ=(.lst true ds,τ):=by
         unfold aN
         rw[if_neg (show ¬ aw (.lst o' ds)=true by intro z;cases z)]
         show (if aq ds=true then _ else _)=_
         rw[if_pos hi]
        refine ck (S:=fun _=>True) (τ:=τ) (ex:=ex) (Kt:=fun d'=>∃ Hr,d'=.lst Hr ds) hs.KU ha (aJ m.CT) ?_ fun A ys ds' H' e hA HS mm k=>?_
        ·show BK ex (BM cl (.comp G' fr T src ifs elt) τ) _
         rw[z]
         exact⟨o',rfl⟩
        ·obtain⟨Hr,k⟩:=k
         cases k
         obtain⟨k1,k2,k3⟩:=d4 m.B9 m.CT e
         refine fin (.lst o' ds) (.ref A) H' F [A] f ?_ (fun p hp=>by subst hp;exact q2)
         rw[Eu]
         refine⟨k3,k1,.DC (fun zz=>m.B9 A zz hA) HS (mm.free hi),k2,?_,fun a ha=>?_⟩
         ·rw[List.singleton_append,List.nodup_cons]
          refine⟨fun zz=>?_,m.Cf⟩
          obtain⟨_,xs,e⟩:=m.CT.own A zz
          rw[hA] at e;cases e
         ·rw[List.singleton_append] at ha
          rcases List.mem_cons.mp ha with rfl|ha
          ·exact .inr hA
          ·exact .inl ha
       ·have Eu:aN (.comp G' fr T src ifs elt) (.lst o' ds) τ=(.lst true (BV ds),B6 (vars (.comp G' fr T src ifs elt)) τ):=by
         unfold aN
         rw[if_neg (show ¬ aw (.lst o' ds)=true by intro z;cases z)]
         show (if aq ds=true then _ else _)=_
         rw[if_neg hi]
        obtain⟨F1,gg,b1,b2,b3,b4,b5,b6⟩:=cC (vars (.comp G' fr T src ifs elt)) m.B9 m.CT m.Cf
        refine ck (S:=F1) (τ:=τ) (ex:=ex) (Kt:=fun d'=>∃ Hr,d'=.lst Hr ds) hs.KU ha b6 ?_ fun A ys ds' H' e hA HS mm k=>?_
        ·show BK ex (BM cl (.comp G' fr T src ifs elt) τ) _
         rw[z]
         exact⟨o',rfl⟩
        ·obtain⟨Hr,k⟩:=k
         cases k
         obtain⟨c1,c2,c3⟩:=grow (fun a=>a≠A) b1 b2 e
         have m2:BJ X.K (fun a=>F1 a∨(a≠A/\H a=none/\H' a≠none)) H' ys ds:=mm.step (fun a xs h r=>⟨h.1.elim (fun z=>.inl z) fun z=>.inr ⟨h.2,z,r.some⟩,r⟩) fun a xs h=>h
         refine fin (.lst o' ds) (.ref A) H' (fun a=>F1 a∨(a≠A/\H a=none/\H' a≠none)) [A] gg ?_ (fun p hp=>by subst hp;exact q2)
         rw[Eu]
         refine⟨b4.trans c3 (fun x hx=>.inl (b5 x hx)),c1,.DC (fun zz=>?_) HS m2.frozen,c2,?_,fun a ha=>?_⟩
         ·rcases zz with zz|zz
          ·exact b1 A zz hA
          ·exact zz.1 rfl
         ·rw[List.singleton_append,List.nodup_cons]
          refine⟨fun zz=>?_,b3⟩
          obtain⟨_,xs,e⟩:=b2.own A zz
          rw[hA] at e;cases e
         ·rw[List.singleton_append] at ha
          rcases List.mem_cons.mp ha with rfl|ha
          ·exact .inr hA
          ·exact .inl (b5 a ha)
     | _=>first|exact af hv|cases hv
   | SetComp _ _ _ _=>cases e<;>first|exact af hv|cases hv
   | DictComp _ _ _ _ _=>cases e<;>first|exact af hv|cases hv
   | _=>exact plain rfl
 | Tuple ts k px=>
  have Ep:notTuple v=true:=hc
  refine aR (vB pe pg ?_ ?_ rfl) fun Dn σ H h=>ti ht h
  ·cases v<;>rfl
  ·cases v<;>first|rfl|cases Ep
 | _=>cases hc
end
theorem CA.M8 {K:PySem.W.Frag}{H:Hp}{a l:Addr}{xs:List V ⊕ Str}{ys zs:List (Key×V)}(hl:H l=some (.dK ys))(h:CA K H a xs):CA K (L2.upd H l (.dK zs)) a xs:=by
 cases xs with
 | inl xs=>
  rcases h with h|h
  ·have:a≠l:=by
    rintro rfl
    rcases h with h|⟨o,h⟩<;>(rw[hl] at h;cases h)
   refine .inl ?_
   unfold Rd
   rw[ai this]
   exact h
  ·exact .inr h
 | inr c=>
  obtain⟨C,o,vs,h0,h1,h2,h3⟩:=h
  have:a≠l:=by
   rintro rfl
   rw[hl] at h2;cases h2
  exact⟨C,o,vs,h0,h1,by rw[ai this];exact h2,h3⟩
theorem BO.RC {K:PySem.W.Frag}{F:Addr->Prop}{H:Hp}{vs:List V}{ds:List D}{f:List Addr}(h:BO K F H vs ds f)(n:aq ds=true):f=[]:=by
 refine BO.rec (motive_1:=fun _ d f _=>aw d=true->f=[]) (motive_2:=fun _ d f _=>aq d=true->f=[]) (fun _=>rfl) (fun _ _=>rfl) (fun _ _=>rfl) (fun _ _=>rfl) (fun _ _=>rfl) (fun _ _ i z=>i z) (fun _ _ _ _ _=>rfl) (fun _ _ _ _=>rfl) (fun _ _ _ _ z=>af z) (fun _ _ _ _ _ _=>rfl) (fun _ _ _ _ _ z=>af z) (fun _=>rfl) (fun {v d f vs ds g} _ _ i j z=>?_) h n
 have z':=Bool.and_eq_true_iff.mp (show (aw d&&aq ds)=true from z)
 rw[i z'.1,j z'.2]
 rfl
theorem dG {K:PySem.W.Frag}{F:Addr->Prop}{H:Hp}{σ:St}{τ:Ev}{f:List Addr}{i:Nat}{ks:List Key}{ds:List D}(r:Cc K F H σ τ f)(hs:aj τ i=some (.BU true ks ds))(n:aq ds=true) :
  ∃ l kvs g,σ[i]? = some (some (.ref l))/\¬ F l/\H l=some (.dK kvs)/\kvs.map (·.1)=ks/\BO K F H (kvs.map (·.2)) ds []/\Cc K F H σ (τ.set i none) g/\f.Perm (l::g):=by
 obtain⟨v,fs,g,h1,h2,h3,h4⟩:=r.at hs
 cases h2 with
 | @Ec a kvs _ _ fi hF hH hk hm=>
  have e:=hm.RC n
  subst e
  exact⟨a,kvs,g,h1,hF,hH,hk,hm,h3,h4⟩
theorem Cz.Gy {K:PySem.W.Frag}{io:Option Nat}{B:Bs io}{F:Addr->Prop}{H:Hp}{σ:St}{τ:Ev}{f g:List Addr}{i:Nat}{l:Addr}{kvs kvs':List (Key×V)}{ER:List Key}{ds':List D}(m:Cz K B F H σ τ f)(Dc:σ[i]? = some (some (.ref l)))(hF:¬ F l)(hl:H l=some (.dK kvs))(hr:Cc K F H σ (τ.set i none) g)(h4:f.Perm (l::g))
  (hk:kvs'.map (·.1)=ER) (hm:BO K F H (kvs'.map (·.2)) ds' []):∃ f',Cz K B F (upd H l (.dK kvs')) σ (τ.set i (some (.BU true ER ds'))) f':=by
 have Gz:(l::g).Nodup:=h4.nodup_iff.mp m.Cf
 have lg:l∉g:=(List.nodup_cons.mp Gz).1
 have sl:∀ a (u:LD),F a->Rd H a u.o->F a/\Rd (upd H l (.dK kvs')) a u.o:=fun a xs h r=>by
  refine⟨h,?_⟩
  have:a≠l:=fun z=>hF (by rw[<- z];exact h)
  unfold Rd
  rw[ai this]
  exact r
 have st:∀ a xs,CA K H a xs->CA K (upd H l (.dK kvs')) a xs:=fun a xs h=>h.M8 hl
 have r1:Cc K F (upd H l (.dK kvs')) σ (τ.set i none) g:=hr.step sl st fun a ha n _=>⟨n,ai fun z=>lg (by rw[<- z];exact ha)⟩
 have m1:B3 K F (upd H l (.dK kvs')) (.ref l) (.BU true ER ds') [l]:=.Ec hF av hk (hm.step sl st bq)
 obtain⟨g',h',r2,p2⟩:=r1.put i m1
 have FJ:σ.set i (some (.ref l))=σ:=by
  apply List.ext_getElem?
  intro j
  rw[List.getElem?_set]
  by_cases hj:i=j
  ·subst hj
   rw[if_pos rfl,if_pos (List.getElem?_eq_some_iff.mp Dc).1,Dc]
  ·rw[if_neg hj]
 rw[FJ,List.set_set] at r2
 have Hm:(g'++h').Nodup:=p2.nodup_iff.mpr Gz
 have lB:B.H l=none:=m.own l (h4.mem_iff.mpr (by simp))
 refine⟨g',fun a h=>?_,r2,(List.nodup_append.mp Hm).1,fun b o Ja=>?_,fun a ha=>m.own a (h4.mem_iff.mpr (p2.mem_iff.mp (List.mem_append_left _ ha))),m.C8,m.out,fun a xs h=>⟨(m.pin a xs h).1,(sl a xs (m.pin a xs h).1 (m.pin a xs h).2).2⟩,fun a xs h=>st a xs (m.FY a xs h),m.nm⟩
 ·have:a≠l:=fun z=>hF (by rw[<- z];exact h)
  rw[ai this]
  exact m.B9 a h
 ·have:b≠l:=fun z=>by rw[z,lB] at Ja;cases Ja
  rw[ai this]
  exact m.same _ _ Ja
section
variable {K:PySem.W.Frag}{S:Addr->Prop}{H:Hp}
theorem has_any (kvs:List (Key×V))(q:Key):(kvs.any fun kv=>decide (kv.1=q))=ir (kvs.map (·.1)) q:=by
 unfold ir
 rw[List.any_map]
 rfl
theorem tj (kvs:List (Key×V))(q:Key)(v:V):(putK kvs q v).map (·.1)=bJ (kvs.map (·.1)) q:=by
 unfold putK bJ
 rw[has_any]
 by_cases h:ir (kvs.map (·.1)) q=true
 ·rw[if_pos h,if_pos h,List.map_map]
  refine List.map_congr_left fun kv _=>?_
  show (if kv.1=q then (kv.1,v) else kv).1=kv.1
  split<;>rfl
 ·rw[if_neg h,if_neg h,List.map_append]
  rfl
theorem tm (q:Key){v:V}{d:D}(mv:BL K S H v d){kvs:List (Key×V)}{ds:List D}(m:BJ K S H (kvs.map (·.2)) ds):BJ K S H ((putK kvs q v).map (·.2)) (bt (kvs.map (·.1)) ds q d):=by
 unfold putK bt
 rw[has_any]
 by_cases h:ir (kvs.map (·.1)) q=true
 ·rw[if_pos h,if_pos h,List.map_map]
  clear h
  induction kvs generalizing ds with
  | nil=>
   cases m
   exact .nil
  | cons p kvs ih=>
   rw[List.map_cons] at m
   cases ds with
   | nil=>exact absurd m.length (by simp)
   | cons e ds=>
    cases m with
    | cons m1 m2=>
     rw[List.map_cons,List.map_cons,List.zipWith_cons_cons]
     refine .cons ?_ (ih m2)
     show BL K S H (if p.1=q then (p.1,v) else p).2 (if p.1=q then d else e)
     split
     ·exact mv
     ·exact m1
 ·rw[if_neg h,if_neg h,List.map_append]
  exact m.append (.cons mv .nil)
theorem nY {ks:List Key}{ds:List D}{q:Key}{d:D}(h1:aq ds=true)(h2:aw d=true):aq (bt ks ds q d)=true:=by
 unfold bt
 rw[a8] at h1
 rw[a8,List.all_eq_true]
 rw[List.all_eq_true] at h1
 intro x hx
 split at hx
 ·rw[List.mem_iff_getElem?] at hx
  obtain⟨i,hi⟩:=hx
  rw[List.getElem?_zipWith] at hi
  split at hi
  ·rename_i a b e1 e2
   cases hi
   split
   ·exact h2
   ·exact h1 _ (List.mem_of_getElem? e2)
  ·cases hi
 ·rcases List.mem_append.mp hx with hx|hx
  ·exact h1 x hx
  ·rw[List.mem_singleton.mp hx];exact h2
end
section
variable {Z:Sg}{CX:C6}{cl:Nat->List D->Res D}{xp:XK->Hp->Str->Prop}{X:Cx}{ex:Str->Prop}{G:Gm}
theorem DH (g:Cg Z CX cl xp X ex G){i:Nat}{k e:IR}{x:Str}{p sp pos:Pos}{s v:Expr}(h1:cP G i x=true)(h2:bx s=true)(h3:BW Z G k s=true)(h4:BW Z G e v=true) :
  PS X (.Assign [.Subscript (.Name x p) s sp] v pos) (RS X.K G.io ex (C1 cl (.CQ i k e))):=by
 have hu:=g.un
 refine aR (rj (by omega) (fR g h1) (snd k X ex G s g h3).1 (snd e X ex G v g h4).1 (by cases v<;>rfl)) fun Dn σ H h=>?_
 obtain⟨B,F,τ,f,m,q⟩:=h
 have q0:BK ex (U (BM cl e τ) fun d=>match aj τ i with|some (.BU true ks ds)=>U (BM cl k τ) fun y=>(match bY y with|some q=>BN (aw d&&aq ds&&cN ks.length) (.ok (.nx (τ.set i (some (.BU true (bJ ks q) (bt ks ds q d))))))|none=>BR)|_=>BR) (Fk X.K B Dn):=q
 refine m.rd (BK.U q0) fun d w H1 m1 e1 mw q1=>?_
 cases z0:aj τ i with
 | none=>rw[z0] at q1;exact q1.no.elim
 | some d0=>
  rw[z0] at q1
  cases d0 with
  | BU ow ks ds=>
   cases ow with
   | false=>exact q1.no.elim
   | true=>
    obtain⟨v0,M9,_⟩:∃ v0,σ[i]? = some (some v0)/\True:=by
     obtain⟨v0,_,_,h,_⟩:=m1.CT.at z0
     exact⟨v0,h,trivial⟩
    refine⟨v0,M9,m1.rd (BK.U q1) fun y w2 H2 m2 e2 RE q2=>?_⟩
    cases hk:bY y with
    | none=>simp only[hk] at q2;exact q2.no.elim
    | some qk=>
     simp only[hk] at q2
     obtain⟨gd,q2⟩:=BK.BN q2
     rw[Bool.and_eq_true,Bool.and_eq_true] at gd
     obtain⟨l,kvs,g0,Dc,hF,hl,Jb,hm,hr,hp⟩:=dG m2.CT z0 gd.1.2
     rw[M9] at Dc
     cases Dc
     subst Jb
     have RF:BJ X.K (fun _=>True) H2 (kvs.map (·.2)) ds:=hm.read (fun _ _=>trivial) fun _ _=>trivial
     have RG:BL X.K (fun _=>True) H2 w d:=mw.mono (fun _ _=>trivial) e2
     have RH:BO X.K F H2 ((putK kvs qk w).map (·.2)) (bt (kvs.map (·.1)) ds qk d) []:=(tm qk RG RF).free (nY gd.1.2 gd.1.1)
     obtain⟨f',m3⟩:=m2.Gy M9 hF hl hr hp (tj kvs qk w) RH
     have hlen:kvs.length < sizeLine:=by
      have:=gy gd.2
      rwa [List.length_map] at this
     exact⟨l,_,rfl,.inl ⟨kvs,qk,hl,cT RE hk,hlen,rfl⟩,q2.ok _ _ _ _ m3⟩
  | _=>exact q1.no.elim
end
section
variable {Z:Sg}{CX:C6}{cl:Nat->List D->Res D}{xp:XK->Hp->Str->Prop}{X:Cx}{ex:Str->Prop}{G:Gm}
theorem wN {K:PySem.W.Frag}{F:Addr->Prop}{H:Hp}{σ:St}{τ:Ev}{f:List Addr}{i:Nat}{ds:List D}(r:Cc K F H σ τ f)(hs:aj τ i=some (.lst true ds)):∃ l xs,σ[i]? = some (some (.ref l))/\H l=some (.lst xs)/\xs.length=ds.length:=by
 obtain⟨v,fs,g,h1,h2,h3,h4⟩:=r.at hs
 cases h2 with
 | DC hF hH hm=>exact⟨_,_,h1,hH,hm.length⟩
end
theorem j5 {K:PySem.W.Frag}{h:Heap}{C:Addr}{OT:List Value}{newId:String}(X:K.In h)(q:PySem.W.excIn K C OT newId=true):∃ bm N nm qn bs hdct sn sub ab col dd k0 k1 k2 k3 k5 mN,
  h.get? C=some (excClassObj nm qn C N bs bm hdct sn sub ab col dd k0 k1 k2 k3 k5 newId)/\h.Ns N mN/\mN "__init__" = none/\OwnTail h OT bm:=by
 unfold PySem.W.excIn at q;split at q
 ·rename_i dd cd sl ho;split at q
  ·rename_i C' bm k0 k1 k2 k3 n k5 hm hs;simp only[Bool.and_eq_true,beq_iff_eq,Bool.not_eq_true'] at q
   obtain⟨⟨⟨⟨⟨rfl,rfl⟩,K1⟩,ht⟩,BY⟩,JQ⟩:=q;obtain⟨nm,bs,mro,ns,qn,hd,sn,sub,ab,col,del⟩:=cd
   dsimp only at hm K1 BY JQ;subst hm K1
   obtain⟨l⟩:=sl
   have hs:l=[k0,k1,k2,k3,some (.builtin n),k5]:=hs
   subst hs
   exact⟨bm,ns,nm,qn,bs,hd,sn,sub,ab,col,dd,k0,k1,k2,k3,k5,_,X _ _ ho,.of_isNs (PySem.W.isNs_of_in X BY),PySem.W.nsMap_none_of_in X BY JQ,PySem.W.tail_of_in X ht⟩
  ·cases q
 ·cases q
section
variable {Z:Sg}{CX:C6}{cl:Nat->List D->Res D}{xp:XK->Hp->Str->Prop}{X:Cx}{ex:Str->Prop}{G:Gm}
theorem nZ (g:Cg Z CX cl xp X ex G){n:Nat}{c w w':Str}{np BQ pos p1:Pos}{j:Nat}(K2:G.rs=true)(DP:G.cm=true)(hx:aU Z G n c=true)(hc:(n,c)∈Z.rc) :
  PS X (.Raise (some (.Call (.Name c np) [.Constant (.str w) j p1] [] BQ)) none pos) (RS X.K G.io ex (C1 cl (.C5 n c w'))):=by
 obtain⟨k1,k2,k3,k4⟩:=b9 g hx
 obtain⟨_,C,hm,hn,hq⟩:=g.FW n c hc
 intro pins s σ H Dn I ⟨B,F,τ,f,m,q⟩
 have q:ex c:=q
 obtain⟨bm,N,nm,qn,bs,hdct,sn,sub,ab,col,dd,k0,M',Na,Nb,k5,mN,e1,e2,e3,e4⟩:=j5 I.ok.mod.GF hq
 refine wpAny_Raise_call_subT (C:=C) (nm:=nm) (q:=qn) (N:=N) (bs:=bs) (bm:=bm) (hdct:=hdct) (sn:=sn) (sub:=sub) (ab:=ab) (col:=col) (dd:=dd) (k0:=k0) (k1:=M') (k2:=Na) (k3:=Nb) (k5:=k5)
  PySem.F.excBase_ValueError (mN:=mN) (e4.hasType PySem.F.excBase_ValueError.hasBase) (I.ok.hd (g.calm DP)) rfl e3 (bO I k1 hm ⟨rfl,?_⟩ k4)
 have pa:PA X [.Constant (.str w) j p1] (eD (tC (.str w)) mU):=aL eA bG rfl
 refine Calls.evalArgs_plain (wpAny_mono (pa BQ pins s σ H (fun vs H'=>vs=[.str w]) I rfl) (fun us s2 ⟨vs,H1,I1,r,hv⟩=>⟨rfl,?_,I1.bk _ _ e1,e2.keeps I1.bk,e4.keeps I1.bk,fun h' e hx=>g.KJ K2 pins σ H1 s2 c C h' e us I1 q hn hx⟩) fun _ _ y=>y)
 subst hv
 rw[<- r.length]
 exact(by decide:1<=sizeLine)
end
section
variable {X:Cx}{pins:List (Addr×Obj)}{σ:St}{H:Hp}{s:Shared}
theorem wO {M:Model}{A:Around}{E:Value->Shared->Prop}{i:Nat}{x:Str}{v:V}{Q:Unit->Shared->Prop}(I:Inv X pins σ H s)(hN:X.N.Nodup)(hi:X.N[i]? = some x)(hk:X.env.kindOf x=some .local)(Dc:σ[i]? = some (some v))
  (h:∀ s',Inv X pins (σ.set i none) H s'->Q () s'):wpAny M A (unbindName X.env x) Q E s:=by
 obtain⟨m,hn,hl⟩:=id I.loc
 have EW:(X.env.scope.kind == .class||(X.env.scope.kind == .module&&X.env.locals != X.env.globals))=false:=by rw[I.ok.kind];rfl
 have F0:=I.F0
 obtain⟨u,_,q⟩:=hl i x v hi Dc (.inl hk)
 have hv:m x=some u:=by
  rcases q with ⟨_,e⟩|⟨k,_⟩
  ·exact e
  ·rw[hk] at k;rcases k with k|k<;>cases k
 refine wpAny_unbindName_local hk hn hv EW fun h' w DZ hs=>?_
 obtain⟨oL,_,_,N0,_⟩:=id hn
 refine h _ ⟨I.ok,I.os,I.bare,⟨fun b o e n hb hx=>?_,fun b o e n hb hx=>?_,I.base.free,fun b o e hx=>?_,I.base.C2,I.base.CJ,I.base.DK⟩,⟨_,DZ,fun j y v' e1 e2 e3=>?_⟩,fun y c e=>?_,I.free,I.CB,fun p hp=>?_,fun b ob e=>?_,by simpa using I.len⟩
 ·exact(hs.2 b (Nat.ne_of_lt (Nat.lt_of_lt_of_le (Heap.lt_size e) I.ok.above))).trans (I.base.keep b o e n hb hx)
 ·obtain⟨sl,e1⟩:=I.base.slot b o e n hb hx
  exact⟨sl,(hs.2 b (Nat.ne_of_lt (Nat.lt_of_lt_of_le (Heap.lt_size e) I.ok.above))).trans e1⟩
 ·obtain⟨o',e1⟩:=I.base.there b o e hx
  exact⟨o',(hs.2 b (Nat.ne_of_lt (Nat.lt_of_lt_of_le (Heap.lt_size e) I.ok.above))).trans e1⟩
 ·have hj:j≠i:=by
   rintro rfl
   have CY:j < σ.length:=(List.getElem?_eq_some_iff.mp Dc).1
   rw[List.getElem?_set_self CY] at e2
   cases e2
  rw[List.getElem?_set_ne (Ne.symm hj)] at e2
  obtain⟨u',r',q⟩:=hl j y v' e1 e2 e3
  refine⟨u',r',?_⟩
  rcases q with ⟨k,e⟩|⟨k,c,e,z⟩
  ·refine .inl ⟨k,?_⟩
   have:y≠x:=fun e=>hj (ez hN e1 (e ▸ hi))
   simp[this,e]
  ·exact .inr ⟨k,c,e,z.sameBut hs (F0 y c e)⟩
 ·obtain⟨w',z⟩:=I.cell y c e
  exact⟨w',z.sameBut hs (F0 y c e)⟩
 ·obtain⟨e,n,ne,nf,d⟩:=I.pin p hp
  exact⟨(hs.2 p.1 ne).trans e,n,ne,nf,d⟩
 ·refine(I.BY b ob e).Dk (fun c w' hc q=>(hs.2 c ?_).trans q) (fun _ q=>q) fun _ _ q=>q
  rintro rfl
  rcases hc with rfl|hc
  ·rw[I.free] at e;cases e
  ·rw[I.free] at hc;cases hc
theorem wQ {M:Model}{A:Around}{E:Value->Shared->Prop}{i:Nat}{x:Str}{pos:Pos}{Q:Unit->Shared->Prop}(I:Inv X pins σ H s)(hN:X.N.Nodup)(hi:X.N[i]? = some x)(hk:X.env.kindOf x=some .local)
  (h:∀ s',Inv X pins (σ.set i none) H s'->Q () s'):wpAny M A (do bindName X.env x .none;unbindBehindTheSuite X.env x pos) Q E s:=by
 have GV:i < σ.length:=by rw[I.len];exact(List.getElem?_eq_some_iff.mp hi).1
 unfold bindName unbindBehindTheSuite
 refine wpAny_bind (wpAny_bind (wpAny_holding (wpAny_point (wpAny_bind (cJ (v:=.B5) I hN hi (.inl hk) rfl (fun s1 I1=>wpAny_point (wpAny_onRaise (wO I1 hN hi hk (v:=.B5) (by rw[List.getElem?_set_self GV]) fun s2 I2=>?_))) (.inr hk))))))
 rw[List.set_set] at I2
 exact h s2 I2
theorem Inv.K3 {a:Addr}{o:Obj}{u:HO}(I:Inv X pins σ H s)(ha:s.heap.get? a=some o)(n:H a=none)(hu:aP X.prog X.w (upd H a (.B6 o u)) s.heap a u)(n0:∀ ob,X.Ck.heap.get? a=some ob->X.Dt a=none->a∉X.ex->False)
  (Nc:X.Dt a=none) (nl:a≠X.env.locals) (nc:∀ x c,X.env.cells.lookup x=some c->c≠a) (np:∀ p∈X.pn++pins,p.1≠a):Inv X pins σ (upd H a (.B6 o u)) s:=by
 refine⟨I.ok,I.os,I.bare,⟨I.base.keep,I.base.slot,fun b ob e z hx=>?_,I.base.there,fun b xs e=>?_,fun b ob v e=>?_,fun b ps e=>?_⟩,I.loc,I.cell,?_,fun x c e=>?_,fun p hp=>?_,fun b ob e=>?_,I.len⟩
 ·have:b≠a:=by rintro rfl;exact n0 ob e z hx
  rw[ai this]
  exact I.base.free b ob e z hx
 ·have:b≠a:=by rintro rfl;rw[Nc] at e;cases e
  rw[ai this];exact I.base.C2 b xs e
 ·have:b≠a:=by rintro rfl;rw[Nc] at e;cases e
  rw[ai this];exact I.base.CJ b ob v e
 ·have:b≠a:=by rintro rfl;rw[Nc] at e;cases e
  obtain⟨more,z⟩:=I.base.DK b ps e
  exact⟨more,by rw[ai this];exact z⟩
 ·rw[ai (Ne.symm nl)];exact I.free
 ·rw[ai (nc x c e)];exact I.CB x c e
 ·obtain⟨e,z,r⟩:=I.pin p hp
  exact⟨e,by rw[ai (np p hp)];exact z,r⟩
 ·by_cases hb:b=a
  ·subst hb
   rw[av] at e
   cases e
   exact⟨ha,hu⟩
  ·rw[ai hb] at e
   exact(I.BY b ob e).Dk (fun _ _ _ z=>z) (fun c z=>by rw[ai (az z n)];exact z) fun c xs z=>by rw[ai (az z n)];exact z
theorem j6 {H1 H':Hp}{s1 s':Shared}{B:Heap}{a:Addr}{cls a0:Value}{h5:Heap}(I:Inv X pins σ H1 s1)(os:s'.os=s1.os)(bare:AllBare s'.gens)(un:Un (CI X.stack) [] H1 H' s1.heap s'.heap)(hB:Cm X.prog X.w H' B)(sm:au H1 H')
  (kB:∀ b o,s1.heap.get? b=some o->H1 b=none->b∉CI X.stack->B.get? b=some o) (fl:Heap.FlyingW B X.stack a cls a0 h5) (up:s'.heap.UpToSlots h5):Inv X pins σ H' {s' with heap:=h5}:=by
 refine I.F3 (s':={s' with heap:=h5}) os ⟨fun b o e n nf _=>fl.1 _ _ (kB b o e n nf),fun b o e n hf _=>?_,un.free,fun b o e _=>?_,fun b xs e=>sm _ _ e,fun b o u e=>sm _ _ e,fun b ps e=>⟨#[],by rw[sm _ _ e];simp⟩⟩ (hB.kept fl.1) bare (fun b z=>absurd z (by simp))
 ·obtain⟨sl,h1⟩:=un.slot b o e n hf (by simp)
  obtain⟨_,o',DA,nf⟩:=I.stack.mem hf
  rw[e] at DA
  cases DA
  obtain⟨Hw,h2⟩:=up b _ h1 nf
  exact⟨Hw,h2⟩
 ·cases q:H1 b with
  | none=>
   by_cases hf:b∈CI X.stack
   ·obtain⟨sl,h1⟩:=un.slot b o e q hf (by simp)
    obtain⟨_,o',DA,nf⟩:=I.stack.mem hf
    rw[e] at DA
    cases DA
    obtain⟨Hw,h2⟩:=up b _ h1 nf
    exact⟨_,h2⟩
   ·exact⟨_,fl.1 _ _ (kB b o e q hf)⟩
  | some u=>
   obtain⟨ob,ho⟩:=(hB b u (sm _ _ q)).at
   exact⟨_,fl.1 _ _ ho⟩
end
theorem Cc.drop {K:PySem.W.Frag}{F:Addr->Prop}{H:Hp}{o:Option V}:∀ {σ:St}{τ:Ev}{f:List Addr} (i:Nat),Cc K F H σ τ f->f.Nodup->∃ g,Cc K F H (σ.set i o) (τ.set i Option.none) g/\g.Nodup/\∀ a∈g,a∈f
 | _,_,_,i,.nil,nd=>⟨[],.nil,nd,fun _ h=>h⟩
 | _,_,_,0,.none h,nd=>⟨_,.none h,nd,fun _ h=>h⟩
 | _,_,_,0,.some m h,nd=>⟨_,.none h,(List.nodup_append.mp nd).2.1,fun _ h=>List.mem_append_right _ h⟩
 | _,_,_,i+1,.none h,nd=>by
  obtain⟨g,h1,h2,h3⟩:=Cc.drop (o:=o) i h nd
  exact⟨g,.none h1,h2,h3⟩
 | _,_,_,i+1,.some (f:=f0) m h,nd=>by
  obtain⟨RJ,Hm,RK⟩:=List.nodup_append.mp nd
  obtain⟨g,h1,h2,h3⟩:=Cc.drop (o:=o) i h Hm
  exact⟨f0++g,.some m h1,List.nodup_append.mpr ⟨RJ,h2,fun a ha b hb=>RK a ha b (h3 b hb)⟩,fun a ha=>(List.mem_append.mp ha).elim (List.mem_append_left _) fun z=>List.mem_append_right _ (h3 a z)⟩
theorem iK {K:PySem.W.Frag}{F:Addr->Prop}{H:Hp}:∀ {σ:St}{n:Nat},σ.length=n->Cc K F H σ (List.replicate n none) []
 | [],0,_=>.nil
 | _::σ,n+1,h=>.none (iK (by simpa using h))
noncomputable def cD (X:Cx)(a:Addr):Cx:={X with A:=X.A.mark (some (.ref a)),calm:=false,xe:=fun _ _=>False}
section
variable {X:Cx}{pins E9:List (Addr×Obj)}{σ:St}{H:Hp}{s:Shared}{E:Value->Shared->Prop}{a:Addr}
theorem fS (I:Inv X pins σ H s):Inv (cD X a) pins σ H s:=
 ⟨⟨I.ok.mod,I.ok.kind,I.ok.glob,I.ok.blt,I.ok.above,I.ok.inj,I.ok.has,I.ok.Ii,(fun z=>nomatch z),I.ok.frames,I.ok.BR,I.ok.Jw,I.ok.bs,I.ok.Fw,I.ok.ET,I.ok.EU,I.ok.CO,I.ok.D7⟩,I.os,I.bare,I.base,I.loc,I.cell,I.free,I.CB,I.pin,I.BY,I.len⟩
theorem iL (ok:X.Ok)(I:Inv (cD X a) pins σ H s):Inv X pins σ H s:=
 ⟨ok,I.os,I.bare,I.base,I.loc,I.cell,I.free,I.CB,I.pin,I.BY,I.len⟩
end
section
variable {Z:Sg}{CX:C6}{cl:Nat->List D->Res D}{xp:XK->Hp->Str->Prop}{X:Cx}{ex:Str->Prop}{G:Gm}{pins:List (Addr×Obj)}{a:Addr}
theorem j7 (g:Cg Z CX cl xp X ex G):Cg Z CX cl xp X.CF CF {G with rs:=false,tr:=false} where
 N:=g.N
 Cf:=g.Cf
 calm:=g.calm
 fk:=g.fk
 un:=g.un
 own:=fun z=>by cases z
 kd:=g.kd
 Fq:=g.Fq
 gl:=g.gl
 FV:=g.FV
 df:=g.df
 blt:=g.blt
 cst:=g.cst
 fns:=g.fns
 DX:=g.DX
 Gv:=g.Gv
 FE:=g.FE
 Gw:=g.Gw
 FW:=g.FW
 KJ:=fun z=>by cases z
 tr:=fun z=>by cases z
 KN:=⟨fun _ _ _=>False,fun pins σ H s e s' _ h=>(g.Gx _ _ _ _ _ h).elim,fun c _ z=>z.elim⟩
 GH:=g.GH
 Gx:=g.Gx
theorem mB (g:Cg Z CX cl xp X ex G)(F7:∀ f∈Z.fns,f∈Z.pl->∀ x,Z.name f=some x->HQ X.prog X.w X.K X.mg X.base CX (X.A.mark (some (.ref a))) cl xp f x):Cg Z CX cl xp (cD X a) CF {G with cm:=false,rs:=false,tr:=false} where
 N:=g.N
 Cf:=g.Cf
 calm:=fun z=>by cases z
 fk:=g.fk
 un:=g.un
 own:=fun z=>by cases z
 kd:=g.kd
 Fq:=g.Fq
 gl:=g.gl
 FV:=g.FV
 df:=g.df
 blt:=g.blt
 cst:=g.cst
 fns:=fun f hf h x hx=>F7 f hf (h.elim (fun z=>by cases z) id) x hx
 DX:=fun f hf h=>by cases h
 Gv:=g.Gv
 FE:=g.FE
 Gw:=g.Gw
 FW:=g.FW
 KJ:=fun z=>by cases z
 tr:=fun z=>by cases z
 KN:=⟨fun _ _ _=>False,fun pins σ H s e s' _ h=>(g.Gx _ _ _ _ _ h).elim,fun c _ z=>z.elim⟩
 GH:=g.GH
 Gx:=g.Gx
theorem mC (g:Cg Z CX cl xp X ex G){n:Nat}{c:Str}{e:IR}{a:Expr}{np BQ pos:Pos}(K2:G.rs=true)(DP:G.cm=true)(hx:aU Z G n c=true)(hc:(n,c)∈Z.rc)(Cb:aD Z {G with rs:=false,tr:=false} [e] [a]=true) :
  PS X (.Raise (some (.Call (.Name c np) [a] [] BQ)) none pos) (RS X.K G.io ex (C1 cl (.CD n c e))):=by
 obtain⟨k1,k2,k3,k4⟩:=b9 g hx
 obtain⟨_,C,hm,hn,hq⟩:=g.FW n c hc
 intro pins s σ H Dn I ⟨B,F,τ,f,m,q⟩
 have q:BK ex (U (Dj (BM cl e τ)) fun _=>.error (.exc c)) (Fk X.K B Dn):=q
 have pa:=fu [e] X.CF CF _ [a] (j7 g) Cb
 cases z:BM cl e τ with
 | error er=>rw[z] at q;exact q.no.elim
 | ok d=>
  rw[z] at q
  have q:ex c:=q
  obtain⟨bm,N,nm,qn,bs,hdct,sn,sub,ab,col,dd,k0,M',Na,Nb,k5,mN,e1,e2,e3,e4⟩:=j5 I.ok.mod.GF hq
  refine wpAny_Raise_call_subT (C:=C) (nm:=nm) (q:=qn) (N:=N) (bs:=bs) (bm:=bm) (hdct:=hdct) (sn:=sn) (sub:=sub) (ab:=ab) (col:=col) (dd:=dd) (k0:=k0) (k1:=M') (k2:=Na) (k3:=Nb) (k5:=k5)
   PySem.F.excBase_ValueError (mN:=mN) (e4.hasType PySem.F.excBase_ValueError.hasBase) (I.ok.hd (g.calm DP)) (aX Z _ BQ X.env Cb) e3 (bO I k1 hm ⟨rfl,?_⟩ k4)
  have Nd:RA X.K CF (ak [e]) (aG cl [e]) σ H (fun vs _=>vs.length=1):=by
   refine⟨fun _=>True,τ,aJ m.CT,?_⟩
   show BK CF (U (BM cl e τ) fun d=>U (aG cl [] τ) fun ds=>.ok (d::ds)) _
   rw[z]
   intro vs H' _ r
   exact r.length
  have B8:(notStar a&&BW Z {G with rs:=false,tr:=false} e a&&aD Z {G with rs:=false,tr:=false} [] [])=true:=Cb
  simp only[Bool.and_eq_true] at B8
  have e0:=ah B8.1.1 [] X.env
  have OU:=pa BQ pins s σ H _ (I.DL _) Nd
  rw[show starEach [a] X.CF.env=(false,eval a X.env)::starEach [] X.env from e0] at OU
  rw[e0]
  refine Calls.evalArgs_plain (wpAny_mono OU (fun us s2 ⟨vs,H1,I1,r,hv⟩=>⟨rfl,?_,I1.CP.bk _ _ e1,e2.keeps I1.CP.bk,e4.keeps I1.CP.bk,fun h' e hx=>g.KJ K2 pins σ H1 s2 c C h' e us I1.CP q hn hx⟩) fun _ _ y=>y.elim)
  rw[<- r.length,hv]
  exact(by decide:1<=sizeLine)
theorem n6 {k:Nat}{f:Nat}{fa:Addr}{fd:FuncData}{ps:List Str}{E:XK}{pins:List (Addr×Obj)}{σ:St}{H:Hp}{s:Shared}{Q:VK}{E':Value->Shared->Prop}{us:List Value}{vs:List V}{ds:List D}{Fc:Addr->Prop}
  (F:Df X.prog X.w X.K X.mg X.base CX k fa fd ps (Hh X.K cl xp f ps)) (hr:CW k X.A) (hb:Binds X.K fd ps [])
  (hh:∀ (outer:List Env) (H:Hp) (s:Shared) (E:XK) (e:Value) (s':Shared),Cm X.prog X.w H s.heap->(∀ b∈CI outer,H b=none)->CX outer (aC s.heap H) s E e s'->CX outer H s E e s')
  (I:Inv X pins σ H s) (hx:∀ (e:Value) (s':Shared),CX X.stack H s E e s'->E' e s') (r:Vals vs us) (hl:vs.length=ps.length) (B9:DU Fc H) (m:BJ X.K Fc H vs ds)
  (q:BK (xp E (aC s.heap H)) (cl f (BV ds)) fun d=>∀ v H' F' fv,Out X.K Fc H F' H' v d fv->Q v H'):wpAny (model X.prog X.w) X.A (call (.ref fa) us) (EP X pins σ Q) E' s:=by
 have Er:Hh X.K cl xp f ps vs (aC s.heap H) (fun v H'=>Ee s.heap (aC s.heap H) H'->Q v (b8 H H')) E:=
  ⟨hl,jq _ _,_,ds,fun a h=>h.2,ee I.BY m,q.mono fun d hd v H' F' fv o p=>hd v _ _ fv (eh I.BY B9 p o)⟩
 have Gj:(us++([]:List Value)).length=ps.length:=by rw[List.append_nil,<- r.length];exact hl
 have bd:=hb s us I.Eo Gj
 rw[List.append_nil] at bd
 refine wpAny_call (codeAny_mono (F.run X.A X.stack s (aC s.heap H) ⟨us,[]⟩ us vs _ E hr I.HR bd r Er) fun r' s' hq=>?_)
 cases r' with
 | error e=>exact hx e s' (hh X.stack H s E e s' I.BY I.Dv.D7 hq)
 | ok fl=>
  cases fl with
  | ret u=>
   obtain⟨v,H',a1,a2,a3,a4,a5,a6⟩:=hq
   exact I.after (Q:=Q) ⟨v,b8 H H',a1,a2,gB I.BY a3,eS I.BY a4 (cB a3) (fs:=CI X.stack) (fun b o _ e n f=>a3.keep b o e n f (by simp)) I.Dv.D7,a5,a6 (cB a3)⟩
  | next=>exact False.elim hq
  | brk=>exact False.elim hq
  | cont=>exact False.elim hq
theorem gJ (g:Cg Z CX cl xp X ex G)(tr:Hk Z CX cl xp X){f:Nat}{x:Str}{p pos:Pos}{es:List IR}{args:List Expr}(h1:aU Z G f x=true)(h2:Z.FU G f=true)(Cb:aD Z {G with rs:=false,tr:=false} es args=true)
  {pins:List (Addr×Obj)}{s:Shared}{σ:St}{H:Hp} (I:Inv X pins σ H s) {τ:Ev}{S:Addr->Prop} (hs:Slots X.K S H σ τ (ak es)) {ds:List D} (hd:aG cl es τ=.ok ds) {Q:VK}{E':Value->Shared->Prop}
  (BY:∀ vs H1,au H H1->BJ X.K (nw S H) H1 vs ds->∃ Fc,DU Fc H1/\BJ X.K Fc H1 vs ds/\∀ d,cl f (BV ds)=.ok d->∀ v H' F' fv,Out X.K Fc H1 F' H' v d fv->Q v H')
  (OV:cl f (BV ds)≠BR) (Nf:∀ c,cl f (BV ds)=.error (.exc c)->∃ C,PySem.W.nsIn X.K mainGlobals c=some (some (.ref C))/\∀ (H1:Hp) (s1:Shared) (e:Value) (s':Shared),au H H1->Inv X pins σ H1 s1->C7 X.prog X.w X.stack H1 s1 (fun cls _ _=>cls=.ref C) e s'->E' e s') :
  wpAny (model X.prog X.w) X.A (eval (.Call (.Name x p) args [] pos) X.env) (EP X pins σ Q) E' s:=by
 obtain⟨k1,k2,k3,k4⟩:=b9 g h1
 obtain⟨k,JK,fd,ps,hm,Eu,hb,F,hr,hlen⟩:=(g.fns f (dP h2).1 (dP h2).2 x k2).ex
 have pa:=fu es X.CF CF _ args (j7 g) Cb
 have RL:ds.length=ps.length:=by
  rw[<- bo]
  refine hlen (fun _=>True) (BV ds) (fun _=>True) ?_
  cases z:cl f (BV ds) with
  | ok d=>trivial
  | error er=>
   cases er with
   | stuck=>exact absurd z OV
   | exc c=>trivial
 have fin:∀ (us:List Value) (s1:Shared) (vs:List V) (H1:Hp),Inv X pins σ H1 s1->Vals vs us->au H H1->BJ X.K (nw S H) H1 vs ds->wpAny (model X.prog X.w) X.A (call (.ref JK) us) (EP X pins σ Q) E' s1:=by
  intro us s1 vs H1 I1 r e1 m0
  obtain⟨Fc,B9,mm,hq⟩:=BY vs H1 e1 m0
  have hl:vs.length=ps.length:=by rw[mm.length];exact RL
  cases z:cl f (BV ds) with
  | error er=>
   cases er with
   | stuck=>exact absurd z OV
   | exc c=>
    obtain⟨C,hC,hx⟩:=Nf c z
    exact n6 (E:=fun cls _ _=>cls=.ref C) F hr hb g.GH I1 (fun e s' h'=>hx H1 s1 e s' e1 I1 (tr.cx _ _ _ _ _ _ h')) r hl B9 mm (by rw[z];exact tr.xp c C _ hC)
  | ok d=>
   refine wpAny_mono (gF (X:=X.CF) (Q:=Q) (E:=fun _ _ _=>False) F hr hb (fun E9 B4 H' s' e Fd I' h'=>(g.Gx _ _ _ _ _ h').elim) g.GH (I1.DL _) r hl B9 mm (by rw[z];exact fun v H' F' fv o=>hq d z v H' F' fv o)) (fun _ _ ⟨v,H',I',rv,q⟩=>⟨v,H',I'.CP,rv,q⟩) fun _ _ y=>y.elim
 have Nd:RA X.K CF (ak es) (aG cl es) σ H (fun vs H1=>au H H1/\BJ X.K (nw S H) H1 vs ds):=by
  refine⟨S,τ,hs,?_⟩
  rw[hd]
  exact fun vs H' e r=>⟨e,r⟩
 refine wpAny_Call_Name_kw (bO I k1 hm ?_ k4)
 cases args with
 | nil=>
  cases es with
  | cons _ _=>cases Cb
  | nil=>
   cases hd
   exact PySem.W.callWith_K0 I.Eo Eu (fin [] s [] H I .nil (.refl _) .nil)
 | cons e l=>
  cases es with
  | nil=>cases Cb
  | cons a es=>
   have B8:(notStar e&&BW Z {G with rs:=false,tr:=false} a e&&aD Z {G with rs:=false,tr:=false} es l)=true:=Cb
   simp only[Bool.and_eq_true] at B8
   refine PySem.W.callWith_K (h₀:=X.base) I.ok.mod.GF Eu (wpAny_mono (pa pos pins s σ H _ (I.DL _) Nd) (fun us s1 ⟨vs,H1,I1,r,q1⟩=>⟨I1.CP.Eo,?_⟩) fun _ _ y=>y.elim) (ah B8.1.1 l X.env) (aX Z _ (es:=es) pos X.env B8.2)
   exact fin us s1 vs H1 I1.CP r q1.1 q1.2
end
section
variable {Z:Sg}{CX:C6}{cl:Nat->List D->Res D}{xp:XK->Hp->Str->Prop}{X:Cx}{ex:Str->Prop}{G:Gm}{pins:List (Addr×Obj)}
theorem n8 (g:Cg Z CX cl xp X ex G)(tr:Hk Z CX cl xp X){H1:Hp}{s1 s':Shared}{σ:St}{e:Value}{B:Bs G.io}{F:Addr->Prop}{τ:Ev}{f:List Addr}(m:Cz X.K B F H1 σ τ f)(I2:Inv X pins σ H1 s1)
  {hd:List IS}{n k:Nat}{c x y:Str}{np Jc:Pos}{b0:Stmt}{HV:List Stmt}{Dn:Ends}{C C':Addr} (hc:C7 X.prog X.w X.stack H1 s1 (fun cls _ _=>cls=.ref C) e s')
  (h2:aU Z G n x=true) (hn:PySem.W.nsIn X.K mainGlobals c=some (some (.ref C))) (JR:nameIn X.K C=some c) (hm:X.mg x=some (.ref C')) (hex:PySem.W.exmOne X.K (.ref C) (.ref C')=some true) (h4:G.N[k]? = some y) (h5:G.kd[k]? = some .local) (JS:G.io≠some k)
  (E7:∀ a:Addr,Ey (cD X a) (b0::HV) (RS X.K G.io CF (aB cl hd)))
  (q:BK ex (U (Dj (aB cl hd (τ.set k (some (.exc c))))) fun|.nx BP=>.ok (.nx (BP.set k none))|_=>BR) (Fk X.K B Dn)) :
  wpAny (model X.prog X.w) X.A (noteFrame e X.env) (fun _ s2=>wpAny (model X.prog X.w) X.A (setFlight e none) (fun _ s3=>wpAny (model X.prog X.w) X.A (handleBy e X.env [.ExceptHandler (some (.Name x np)) (some y) (b0::HV) Jc]) (SP X pins Dn) X.xe s3) X.xe s2) X.xe s':=by
 have Cb:=tr.st
 have JT:=tr.fr
 have lt:=tr.lt
 obtain⟨a,cls,a0,H',Bh,he,os,bare,un,hB,sm,kB,fl,EW⟩:=hc
 subst he EW
 obtain⟨k1,k2,k3,k4⟩:=b9 g h2
 have hk:X.env.kindOf y=some .local:=(g.kd k y h4).trans h5
 have OW:X.N.Nodup:=by rw[g.N];exact g.Cf
 have hi:X.N[k]? = some y:=by rw[g.N];exact h4
 have ok:=I2.ok
 have RM:Heap.FlyingW Bh (X.env::X.outer) a (.ref C) a0 s'.heap:=Cb ▸ fl
 refine wpAny_looks_onW (A:=X.A) (by rw[<- Cb];exact ok.frames) JT RM fun TU K4 OX=>?_
 refine wpAny_landsW K4 fun Ng Nh OY=>?_
 have I5:Inv X pins σ H' {s' with heap:=Ng}:=j6 I2 os bare un hB sm kB (show Heap.FlyingW Bh X.stack a (.ref C) a0 Ng from Cb ▸ Nh) (OX.trans OY)
 have J5:Inv (cD X a) pins σ H' {s' with heap:=Ng}:=fS I5
 refine wpAny_handleBy_cons (codeAny_handlers_test (bO J5 k1 hm ?_ k4)) (by intro q;cases q)
 obtain⟨RP,RQ,RU⟩:=Nh.there
 refine(PySem.W.exm_one J5.Eo (IX.type ⟨RP,RQ,RU⟩) hex).here ?_
 refine codeAny_handlers_suite_as ?_
 refine lands_againW Nh fun JU K5 RV=>?_
 have I6:Inv X pins σ H' {s' with heap:=JU}:=j6 I2 os bare un hB sm kB (show Heap.FlyingW Bh X.stack a (.ref C) a0 JU from Cb ▸ K5) ((OX.trans OY).trans RV)
 obtain⟨oe,vs,K6,RW,L4,_⟩:=K5.first
 have na:H' a=none:=by
  cases z:H' a with
  | none=>rfl
  | some u=>
   obtain⟨ob,ho⟩:=(hB a u z).at
   rw[K5.2.1] at ho;cases ho
 have OZ:∀ b,b∉X.fs->b≠X.env.locals->b∉CI X.stack:=fun b h1 h2 z=>by
  rw[Cb] at z
  unfold CI at z
  rcases List.mem_filterMap.mp z with ⟨env,hm,hf⟩
  rcases List.mem_cons.mp hm with rfl|hm
  ·rw[JT] at hf;exact h2 (Option.some.inj hf).symm
  ·exact h1 (List.mem_filterMap.mpr ⟨env,hm,hf⟩)
 have nl:a≠X.env.locals:=by
  rintro rfl
  obtain⟨m,⟨o,es,ep,ho,hd,_⟩,_⟩:=I6.loc
  have ho:JU.get? X.env.locals=some o:=ho
  rw[K6] at ho;cases ho
  rw[L4] at hd;cases hd
 have RX:Inv (cD X a) pins σ (upd H' a (.B6 oe XU)) {s' with heap:=JU}:=by
  refine(fS I6).K3 K6 na ⟨trivial,⟨_,K6⟩,fun _ _ _ _=>trivial⟩ (fun ob e z hx=>?_) ?_ nl (fun y c e z=>?_) fun p hp z=>?_
  ·by_cases hf:a∈X.fs
   ·obtain⟨sl,e1⟩:=I6.base.slot a ob e z hf hx
    have e1:JU.get? a=_:=e1
    obtain⟨_,o',DA,nf⟩:=ok.CO.mem hf
    rw[show X.Ck.heap.get? a=_ from e] at DA;cases DA
    rw[K6] at e1;cases e1
    exact nf _ L4
   ·have e1:=I2.base.keep a ob e z hf hx
    have e2:=I2.base.free a ob e z hx
    have:=kB a ob e1 e2 (OZ a hf nl)
    rw[K5.2.1] at this;cases this
  ·show X.Dt a=none
   cases z:X.Dt a with
   | none=>rfl
   | some u=>
    exfalso
    rcases lt a u z with ⟨ob,v,rfl⟩|⟨xs,rfl⟩
    ·have:=I6.base.CJ a ob v z;rw[na] at this;cases this
    ·have:=I6.base.C2 a xs z;rw[na] at this;cases this
  ·subst z
   obtain⟨v,o,ho,hd⟩:=I6.cell y c e
   have ho:JU.get? c=some o:=ho
   rw[K6] at ho;cases ho
   rw[L4] at hd;cases hd
  ·subst z
   obtain⟨e1,e2,e3,e4,_⟩:=I2.pin p hp
   have:=kB p.1 p.2 e1 e2 (OZ _ e4 e3)
   rw[K5.2.1] at this;cases this
 refine cJ (X:=cD X a) (v:=.ref a) RX OW hi (.inl hk) rfl (fun s7 I7=>?_) (.inr hk)
 have RY:au H1 (upd H' a (.B6 oe XU)):=by
  intro b o e
  have hb:=sm b o e
  rw[ai (az hb na)]
  exact hb
 have xo:CA X.K (upd H' a (.B6 oe XU)) a (.inr c):=⟨C,oe,vs,hn,JR,av,RW,L4⟩
 have mg:=m.grow RY
 obtain⟨g',h',r0,p0⟩:=mg.CT.put k (B3.exc (F:=F) xo)
 have p0:(g'++h').Perm f:=p0
 have Gz:(g'++h').Nodup:=p0.nodup_iff.mpr mg.Cf
 have RZ:Cz X.K B F (upd H' a (.B6 oe XU)) (σ.set k (some (.ref a))) (τ.set k (some (.exc c))) g':=
  ⟨mg.B9,r0,(List.nodup_append.mp Gz).1,mg.same,fun b hb=>mg.own b (p0.subset (List.mem_append_left _ hb)),mg.C8,mg.out,mg.pin,mg.FY,fun j a e1 e2=>(List.getElem?_set_ne (fun z=>JS (by rw[z];exact e1))).trans (mg.nm j a e1 e2)⟩
 have q2:BK CF (aB cl hd (τ.set k (some (.exc c)))) (Fk X.K B {nx:=fun Ni H8=>∃ F8 K7 f8,Cz X.K B F8 H8 Ni K7 f8/\Fk X.K B Dn (.nx (K7.set k none)),rt:=fun _ _=>False}):=by
  cases z:aB cl hd (τ.set k (some (.exc c))) with
  | error er=>rw[z] at q;exact q.no.elim
  | ok r=>
   rw[z] at q
   cases r with
   | nx K7=>exact fun Ni H8 F8 f8 m8=>⟨F8,K7,f8,m8,q.ok⟩
   | _=>exact q.no.elim
 refine wpAny_mono (E7 a pins s7 _ _ _ I7 ⟨B,F,_,g',RZ,q2⟩) (fun fw s8 hs=>?_) fun _ _ z=>z.elim
 cases fw with
 | next=>
  obtain⟨Ni,H8,I8,F8,K7,f8,m8,q8⟩:=hs
  refine wQ (iL ok I8) OW hi hk fun s9 I9=>?_
  obtain⟨g8,r9,n9,m9⟩:=Cc.drop (o:=none) k m8.CT m8.Cf
  exact⟨_,_,I9,q8 _ _ F8 g8 ⟨m8.B9,r9,n9,m8.same,fun b hb=>m8.own b (m9 b hb),m8.C8,m8.out,m8.pin,m8.FY,fun j a e1 e2=>(List.getElem?_set_ne (fun z=>JS (by rw[z];exact e1))).trans (m8.nm j a e1 e2)⟩⟩
 | brk=>obtain⟨_,_,_,z⟩:=hs;exact z.elim
 | cont=>obtain⟨_,_,_,z⟩:=hs;exact z.elim
 | ret u=>obtain⟨_,_,_,_,_,z⟩:=hs;exact z.elim
theorem Cz.put {io:Option Nat}{B:Bs io}{F:Addr->Prop}{H:Hp}{σ:St}{τ:Ev}{f fv:List Addr}{v:V}{d:D}(i:Nat)(m:Cz X.K B F H σ τ f)(mv:B3 X.K F H v d fv)(nd:(fv++f).Nodup)(hb:∀ a∈fv,B.H a=none)(FI:io≠some i):∃ f',Cz X.K B F H (σ.set i (some v)) (τ.set i (some d)) f':=by
 obtain⟨g',h',r0,p0⟩:=m.CT.put i mv
 have Gz:(g'++h').Nodup:=p0.nodup_iff.mpr nd
 exact⟨g',m.B9,r0,(List.nodup_append.mp Gz).1,m.same,fun b Fi=>(List.mem_append.mp (p0.subset (List.mem_append_left _ Fi))).elim (hb b) (m.own b),m.C8,m.out,m.pin,m.FY,fun j a e1 e2=>(List.getElem?_set_ne (fun z=>FI (by rw[z];exact e1))).trans (m.nm j a e1 e2)⟩
theorem DI (g:Cg Z CX cl xp X ex G){i f n k:Nat}{es:List IR}{cs:List Str}{hd:List IS}{st:Stmt}
  (h:KZ st (fun xi xf args xc y b0 r=>G.tr&&G.cm&&wI G i xi&&aU Z G f xf&&Z.FU G f&&aD Z {G with rs:=false,tr:=false} es args&&aU Z G n xc&&cs.all (fun c=>Z.xm.contains (c,n))&&(G.N[k]? == some y&&G.io != some k)&&G.kd[k]? == some .local&&cn Z {G with cm:=false,rs:=false,tr:=false} hd (b0::r))=true)
  (E7:Hk Z CX cl xp X->∀ (a:Addr) (ss:List Stmt),cn Z {G with cm:=false,rs:=false,tr:=false} hd ss=true->Ey (cD X a) ss (RS X.K G.io CF (aB cl hd))):PS X st (RS X.K G.io ex (C1 cl (.E1 i f es n cs k hd))):=by
 obtain⟨xi,pi,xf,pf,args,pc,pa,xc,np,y,b0,r,hp,pos,rfl,h0⟩:=wL h
 simp only[Bool.and_eq_true] at h0
 obtain⟨⟨⟨⟨⟨⟨⟨⟨⟨⟨ht,DP⟩,hi⟩,hf⟩,Fx⟩,Cb⟩,hn⟩,K8⟩,HF,JS⟩,Jd⟩,R3⟩:=h0
 have tr:=g.tr ht
 have HF:=eq_of_beq HF
 have Jd:=eq_of_beq Jd
 rw[List.all_eq_true] at K8
 obtain⟨q1,q2,q3,q4⟩:=b9 g hn
 have Gg:(G.N[i]? == some xi&&(G.kd[i]? == some .local||(G.df&&G.kd[i]? == some .cell)))=true:=(Bool.and_eq_true_iff.mp hi).1
 have FI:G.io≠some i:=by simpa using(Bool.and_eq_true_iff.mp hi).2
 have JS:G.io≠some k:=by simpa using JS
 rw[Bool.and_eq_true,Bool.or_eq_true,Bool.and_eq_true] at Gg
 have hx:G.N[i]? = some xi:=eq_of_beq Gg.1
 have Nj:=g.kd i xi hx
 have E6:Loc X.env.scope xi:=Gg.2.elim (fun z=>.inl (Nj.trans (eq_of_beq z))) fun z=>.inr (Nj.trans (eq_of_beq z.2))
 have Nk:X.fn xi=true∨X.env.scope.names.lookup xi=some .local:=Gg.2.elim (fun z=>.inr (Nj.trans (eq_of_beq z))) fun z=>.inl (g.df z.1 xi)
 intro pins s σ H Dn I ⟨B,F,τ,fo,m,q⟩
 have q:BK ex (U (Dj (aG cl es τ)) fun ds=>match cl f (BV ds) with
  | .ok d=>if aw d=true then .ok (.nx (τ.set i (some d))) else .ok (.nx ((B6 (ak es) τ).set i (some d)))
  | .error (.exc c)=>BN (cs.contains c) (U (Dj (aB cl hd (τ.set k (some (.exc c))))) fun
   | .nx BP=>.ok (.nx (BP.set k none))
   | _=>BR)
  | .error .stuck=>BR) (Fk X.K B Dn):=q
 cases zd:aG cl es τ with
 | error er=>rw[zd] at q;exact q.no.elim
 | ok ds=>
  rw[zd] at q
  have q:BK ex (match cl f (BV ds) with
   | .ok d=>if aw d=true then .ok (.nx (τ.set i (some d))) else .ok (.nx ((B6 (ak es) τ).set i (some d)))
   | .error (.exc c)=>BN (cs.contains c) (U (Dj (aB cl hd (τ.set k (some (.exc c))))) fun
    | .nx BP=>.ok (.nx (BP.set k none))
    | _=>BR)
   | .error .stuck=>BR) (Fk X.K B Dn):=q
  refine wpAny_Try_except (wpAny_execs_cons (wpAny_Assign_Name ?_ rfl))
  have done:∀ {v:Value}{s1:Shared},EP X pins σ (fun v H'=>Dn.nx (σ.set i (some v)) H') v s1->wpAny (model X.prog X.w) X.A (storeName X.env xi v) (fun _ s2=>wpAny (model X.prog X.w) X.A (execs [] X.env) (fun fl BZ=>match fl with|.next=>wpAny (model X.prog X.w) X.A (execs [] X.env) (SP X pins Dn) X.xe BZ|fl=>SP X pins Dn fl BZ) (fun e BZ=>wpAny (model X.prog X.w) X.A (noteFrame e X.env) (fun _ DB=>wpAny (model X.prog X.w) X.A (setFlight e none) (fun _ EE=>wpAny (model X.prog X.w) X.A (handleBy e X.env [.ExceptHandler (some (.Name xc np)) (some y) (b0::r) hp]) (SP X pins Dn) X.xe EE) X.xe DB) X.xe BZ) s2) (fun e BZ=>wpAny (model X.prog X.w) X.A (noteFrame e X.env) (fun _ DB=>wpAny (model X.prog X.w) X.A (setFlight e none) (fun _ EE=>wpAny (model X.prog X.w) X.A (handleBy e X.env [.ExceptHandler (some (.Name xc np)) (some y) (b0::r) hp]) (SP X pins Dn) X.xe EE) X.xe DB) X.xe BZ) s1:=by
   intro v s1 ⟨x,H1,I1,r1,qq⟩
   exact cJ I1 (by rw[g.N];exact g.Cf) (by rw[g.N];exact hx) E6 r1 (fun s2 I2=>wpAny_execs_nil (wpAny_execs_nil ⟨_,_,I2,qq⟩)) Nk
  have wide:∀ (vs:List V) (H1:Hp),BJ X.K (nw (fun _=>True) H) H1 vs ds->BJ X.K (fun a=>H1 a≠none) H1 vs ds:=fun vs H1 m0=>m0.step (fun a xs h rd=>⟨rd.some,rd⟩) fun a xs h=>h
  cases zc:cl f (BV ds) with
  | error er=>
   rw[zc] at q
   cases er with
   | stuck=>exact q.no.elim
   | exc c=>
    obtain⟨Lp,q⟩:=BK.BN q
    have hc:(c,n)∈Z.xm:=by simpa using K8 c (by simpa using Lp)
    obtain⟨C,C',hC,_,JR,hm,hex⟩:=g.Gw c n xc hc q2
    refine wpAny_mono (gJ (p:=pf) (pos:=pc) (Q:=fun _ _=>False) g tr hf Fx Cb I (aJ m.CT) zd (fun vs H1 e1 m0=>⟨fun a=>H1 a≠none,fun a h=>h,wide vs H1 m0,fun d hd=>by rw[zc] at hd;cases hd⟩) (by rw[zc];intro z;cases z) (fun c' Ep=>?_)) (fun v s1 ⟨_,_,_,_,z⟩=>z.elim) fun _ _ z=>z
    rw[zc] at Ep
    cases Ep
    exact⟨C,hC,fun H1 s1 e s' e1 I1 hx=>n8 g tr (m.grow e1) I1 hx hn hC JR hm hex HF Jd JS (fun a=>E7 tr a _ R3) q⟩
  | ok d=>
   rw[zc] at q
   have q:BK ex (if aw d=true then .ok (.nx (τ.set i (some d))) else .ok (.nx ((B6 (ak es) τ).set i (some d)))) (Fk X.K B Dn):=q
   have HW:∀ c,cl f (BV ds)=.error (.exc c)->∀ {P:Prop},P:=fun c z=>by rw[zc] at z;cases z
   by_cases hl:aw d=true
   ·rw[if_pos hl] at q
    have q:Fk X.K B Dn (.nx (τ.set i (some d))):=q.ok
    refine wpAny_mono (gJ (p:=pf) (pos:=pc) g tr hf Fx Cb I (aJ m.CT) zd (fun vs H1 e1 m0=>⟨fun a=>H1 a≠none,fun a h=>h,wide vs H1 m0,fun d' hd v H' F' fv o=>?_⟩) (by rw[zc];intro z;cases z) (fun c' Ep=>HW c' Ep)) (fun v s1 z=>done z) fun _ _ z=>z
    rw[zc] at hd
    cases hd
    obtain⟨f',m'⟩:=(m.grow (e1.trans o.same)).put i (o.rep.D4 hl) (by simpa using m.Cf) (fun a ha=>absurd ha (by simp)) FI
    exact q _ _ _ _ m'
   ·rw[if_neg hl] at q
    have q:Fk X.K B Dn (.nx ((B6 (ak es) τ).set i (some d))):=q.ok
    obtain⟨F1,gg,b1,b2,b3,b4,b5,b6⟩:=cC (ak es) m.B9 m.CT m.Cf
    refine wpAny_mono (gJ (p:=pf) (pos:=pc) g tr hf Fx Cb I b6 zd (fun vs H1 e1 m0=>?_) (by rw[zc];intro z;cases z) (fun c' Ep=>HW c' Ep)) (fun v s1 z=>done z) fun _ _ z=>z
    have R4:BJ X.K (fun a=>F1 a∨(True/\H a=none/\H1 a≠none)) H1 vs ds:=m0.step (fun a xs h r=>⟨h.elim (fun z=>.inl z) fun z=>.inr ⟨trivial,z,r.some⟩,r⟩) fun a xs h=>h
    obtain⟨c1,c2,c3⟩:=grow (fun _=>True) b1 b2 e1
    refine⟨_,c1,R4,fun d' hd v H' F' fv o=>?_⟩
    rw[zc] at hd
    cases hd
    have s1:ES (fun a=>F1 a∨(True/\H a=none/\H1 a≠none)) H1 gg F' H':=⟨o.same,o.C8,fun a h=>(o.out a h).elim (fun z=>.inl z) fun z=>.inr (.inr z)⟩
    have r2:Cc X.K F' H' σ (B6 (ak es) τ) gg:=c2.step (fun a xs q rd=>⟨o.C8 a q,o.same.rd rd⟩) (fun a xs q=>o.same.Dq q) fun a ha n hn=>by
     obtain⟨_,xs,e⟩:=c2.own a ha
     refine⟨fun z=>?_,(o.same _ _ e).trans e.symm⟩
     rcases o.out a z with z|z
     ·exact n z
     ·exact hn z
    have ow:Ow X.K F H fo F' H' σ v d fv (B6 (ak es) τ) gg:=by
     refine⟨(b4.trans c3 (fun x hx=>.inl (b5 x hx))).trans s1 (fun x hx=>.inl (b5 x hx)),o.B9,o.rep,r2,?_,fun a ha=>?_⟩
     ·refine List.nodup_append.mpr ⟨o.Cf,b3,fun a h1 b h2 e=>?_⟩
      subst e
      obtain⟨_,xs,e⟩:=c2.own a h2
      rw[o.new a h1] at e
      cases e
     ·rcases List.mem_append.mp ha with ha|ha
      ·exact .inr (e1.free (o.new a ha))
      ·exact .inl (b5 a ha)
    obtain⟨mo,hb⟩:=m.ow ow
    obtain⟨f',m'⟩:=mo.put i ow.rep ow.Cf hb FI
    exact q _ _ _ _ m'
end
theorem aZ {a b:Addr}{H:Hp}(h:b≠a):rm a H b=H b:=if_neg h
theorem bT {a:Addr}{H:Hp}:rm a H a=none:=if_pos rfl
theorem j8 {a b:Addr}{H:Hp}{u:HO}(h:rm a H b=some u):H b=some u/\b≠a:=by
 by_cases e:b=a
 ·rw[e,bT] at h;cases h
 ·rw[aZ e] at h;exact⟨h,e⟩
theorem zh {a:Addr}{H:Hp}:au (rm a H) H:=fun b u h=>(j8 h).1
section
variable {P:Program}{w:World}{H H':Hp}{h g:Heap}{a:Addr}{kvs:List (Key×V)}
theorem tq (x:Cm P w H h)(e:H a=some (.dK kvs)):Cm P w (rm a H) h:=fun b o q=>by
 obtain⟨q1,q2⟩:=j8 q
 refine(x b o q1).Dk (fun _ _ _ z=>z) (fun c z=>?_) fun c xs z=>?_
 ·rw[aZ (by rintro rfl;rw[e] at z;cases z)];exact z
 ·rw[aZ (by rintro rfl;rw[e] at z;cases z)];exact z
theorem tu (x:Cm P w H h)(n:H a=none)(y:aP P w H' h a (.dK kvs)):Cm P w (upd H a (.dK kvs)) h:=fun b o q=>by
 by_cases hb:b=a
 ·subst hb
  rw[av] at q
  cases q
  exact dz rfl y
 ·rw[ai hb] at q
  exact(x b o q).Dk (fun _ _ _ z=>z) (fun c z=>by rw[ai (az z n)];exact z) fun c xs z=>by rw[ai (az z n)];exact z
theorem zk (n:H a=none):rm a (upd H a (.dK kvs))=H:=by
 funext b
 by_cases hb:b=a
 ·rw[hb,bT,n]
 ·rw[aZ hb,ai hb]
end
section
variable {K:PySem.W.Frag}{F F':Addr->Prop}{H H':Hp}{a:Addr}{kvs:List (Key×V)}
theorem jz (e:H a=some (.dK kvs)){b:Addr}{xs:List V ⊕ Str}(h:CA K H b xs):CA K (rm a H) b xs:=by
 cases xs with
 | inl xs=>
  rcases h with h|h
  ·have:b≠a:=by
    rintro rfl
    rcases h with h|⟨o,h⟩<;>(rw[e] at h;cases h)
   refine .inl ?_
   unfold Rd
   rw[aZ this]
   exact h
  ·exact .inr h
 | inr c=>
  obtain⟨C,o,vs,h0,h1,h2,h3⟩:=h
  have:b≠a:=by
   rintro rfl
   rw[e] at h2;cases h2
  exact⟨C,o,vs,h0,h1,by rw[aZ this];exact h2,h3⟩
theorem og {b:Addr}{u:HO}(n:b≠a)(h:Rd H b u):Rd (rm a H) b u:=by
 unfold Rd
 rw[aZ n]
 exact h
theorem wR {v:V}{d:D}{fv:List Addr}(o:Out K F H F' H' v d fv)(hs:au H (rm a H'))(nF:¬ F' a)(nf:a∉fv)(e:H' a=some (.dK kvs)):Out K F H F' (rm a H') v d fv:=by
 have ne:∀ b,F' b->b≠a:=fun b hb z=>nF (z ▸ hb)
 refine⟨fun b hb=>by rw[aZ (ne b hb)];exact o.B9 b hb,hs,o.rep.step (fun b u hb r=>⟨hb,og (ne b hb) r⟩) (fun b xs r=>jz e r) fun b hb n1 n2=>⟨n1,aZ fun z=>nf (z ▸ hb)⟩,o.Cf,o.new,o.C8,o.out⟩
theorem wU {v:V}{d:D}{fv:List Addr}(o:Out K F H F' H' v d fv)(n:H' a=none):Out K F H F' (upd H' a (.dK kvs)) v d fv:=by
 have e:au H' (upd H' a (.dK kvs)):=.upd n
 refine⟨fun b hb z=>o.B9 b hb (e.free z),o.same.trans e,o.rep.step (fun b u hb r=>⟨hb,e.rd r⟩) (fun b xs r=>e.Dq r) fun b hb n1 n2=>⟨n1,ai fun z=>n2 (z ▸ n)⟩,o.Cf,o.new,o.C8,o.out⟩
end
theorem rV {d:D}(h:ny d=true):aw d=true:=by cases d<;>first|rfl|cases h
theorem bh:∀ {ds:List D},aI ds=true->aq ds=true
 | [],_=>rfl
 | d::ds,h=>by
  have h':(ny d&&aI ds)=true:=h
  rw[Bool.and_eq_true] at h'
  show (aw d&&aq ds)=true
  rw[rV h'.1,bh h'.2]
  rfl
theorem BL.sc {K:PySem.W.Frag}{S S':Addr->Prop}{H H':Hp}{v:V}{d:D}(h:BL K S H v d)(s:ny d=true):BL K S' H' v d:=by
 cases h with
 | B5=>exact .B5
 | bl b=>exact .bl b
 | int i=>exact .int i
 | str x=>exact .str x
 | _=>cases s
theorem BJ.sc {K:PySem.W.Frag}{S S':Addr->Prop}{H H':Hp}{vs:List V}{ds:List D}(h:BJ K S H vs ds)(s:aI ds=true):BJ K S' H' vs ds:=by
 revert s
 refine BJ.ind (P:=fun vs ds=>aI ds=true->BJ K S' H' vs ds) (fun _=>.nil) (fun v d vs ds a b j s=>?_) h
 have h':(ny d&&aI ds)=true:=s
 rw[Bool.and_eq_true] at h'
 exact .cons (a.sc h'.1) (j h'.2)
noncomputable def L5 (K:PySem.W.Frag)(ex:Str->Prop)(cl:Nat->List D->Res D)(i:Nat):List IR->TA
 | []=>eD (qI i) mU
 | e::es=>eD (RD K ex (vars e) (BM cl e)) (L5 K ex cl i es)
theorem oh {K:PySem.W.Frag}{ex:Str->Prop}{cl:Nat->List D->Res D}{i:Nat}{v0:V}{S:Addr->Prop}{σ:St}{τ:Ev}{H:Hp}(hv:σ[i]? = some (some v0)):∀ (es:List IR) {H1:Hp}{Kt:List D->Prop}{Q:List V->Hp->Prop},au H H1->Slots K S H σ τ (ak es)->BK ex (aG cl es τ) Kt->
  (∀ ds vs H2,au H H2->au H1 H2->BJ K (nw S H) H2 vs ds->Kt ds->Q (vs++[v0]) H2)->L5 K ex cl i es σ H1 Q
 | [],H1,Kt,Q,e,hs,h,k=>⟨v0,hv,k [] [] H1 e (.refl _) .nil h.ok⟩
 | a::es,H1,Kt,Q,e,hs,h,k=>by
  refine aO e hs.left (BK.U (show BK ex (U (BM cl a τ) fun d=>U (aG cl es τ) fun ds=>.ok (d::ds)) Kt from h)) fun x v H2 e2 CU m q=>?_
  exact oh hv es e2 hs.right (BK.U q) fun ds vs H3 e3 Hl ms kt=>k (x::ds) (v::vs) H3 e3 (CU.trans Hl) (.cons (m.mono (fun _ z=>z) Hl) ms) kt.ok
section
variable {Z:Sg}{CX:C6}{cl:Nat->List D->Res D}{xp:XK->Hp->Str->Prop}{X:Cx}{ex:Str->Prop}{G:Gm}
theorem tw (g:Cg Z CX cl xp X ex G){i:Nat}:∀ (es:List IR) (args:List Expr),aD Z G (es++[.v i]) args=true->PA X args (L5 X.K ex cl i es)
 | [],args,h=>by
  match args,h with
  | [e],h=>
   have h':(notStar e&&BW Z G (.v i) e&&aD Z G [] [])=true:=h
   simp only[Bool.and_eq_true] at h'
   cases e with
   | Name x p=>exact aL (fR g h'.1.2) bG (ah h'.1.1 _ _)
   | _=>exact af h'.1.2
  | [],h=>cases h
  | _::_::_,h=>
   have h':=(Bool.and_eq_true_iff.mp h).2
   cases h'
 | a::es,args,h=>by
  match args,h with
  | e::l,h=>
   have h':(notStar e&&BW Z G a e&&aD Z G (es++[.v i]) l)=true:=h
   simp only[Bool.and_eq_true] at h'
   exact aL (snd a X ex G e g h'.1.2).1 (tw g es l h'.2) (ah h'.1.1 _ _)
  | [],h=>cases h
def O0 (K:PySem.W.Frag)(cl:Nat->List D->Res D)(f:Nat)(vs:List V)(H:Hp)(Q:VK):Prop:=∃ a F ws ds kvs es,vs=ws++[.ref a]/\KH K a F H ws ds kvs es/\
 ∃ d ER DV,cl f (BV ds++[.BU false (kvs.map (·.1)) es])=.ok (.tup [d,.BU false ER DV])/\aI DV=true/\∀ v H' F' fv kvs',IP K a F H F' H' v d fv kvs' ER DV->Q v H'
theorem om (g:Cg Z CX cl xp X ex G){k:Nat}{f:Nat}{fa:Addr}{fd:FuncData}{ps:List Str}{pins:List (Addr×Obj)}{σ:St}{H:Hp}{s:Shared}{Q:VK}{us:List Value}{vs:List V}
  (F:Df X.prog X.w X.K X.mg X.base CX k fa fd ps (KI X.K cl f ps)) (hr:CW k X.A) (hb:Binds X.K fd ps []) (hlen:∀ ds r,cl f ds=.ok r->ds.length=ps.length)
  (I:Inv X pins σ H s) (r:Vals vs us) (q:O0 X.K cl f vs H Q):wpAny (model X.prog X.w) X.A (call (.ref fa) us) (EP X pins σ Q) X.xe s:=by
 obtain⟨a,Fc,ws,ds,kvs,es,rfl,A,d,ER,DV,hc,Nl,q⟩:=q
 have hl:(ws++[V.ref a]).length=ps.length:=by
  have:=hlen _ _ hc
  rw[List.length_append,bo] at this
  rw[List.length_append,A.ws.length]
  exact this
 have x1:Cm X.prog X.w (rm a H) s.heap:=tq I.BY A.at_
 have na:aC s.heap (rm a H) a=none:=bg bT
 have x2:Cm X.prog X.w (upd (aC s.heap (rm a H)) a (.dK kvs)) s.heap:=tu (jr x1) na (I.BY a _ A.at_)
 have nb:∀ b,H b=none->upd (aC s.heap (rm a H)) a (.dK kvs) b=none:=fun b e=>by
  have hb:b≠a:=by rintro rfl;rw[A.at_] at e;cases e
  rw[ai hb]
  exact bg (by rw[aZ hb];exact e)
 have e0:=I.Dv
 have env:EY X.prog X.w X.K X.mg X.base X.A X.stack s (upd (aC s.heap (rm a H)) a (.dK kvs)):=⟨e0.frames,e0.mod,fun b o e=>⟨(e0.bs b o e).1,nb b (e0.bs b o e).2⟩,e0.Fw,e0.CO,fun b hb=>nb b (e0.D7 b hb),x2,e0.bare⟩
 have Nm:∀ b,Fc b->b≠a:=fun b hb z=>A.nF (z ▸ hb)
 have K9:∀ {vs:List V}{ds:List D},BJ X.K Fc H vs ds->BJ X.K (fun b=>Fc b/\aC s.heap (rm a H) b≠none) (upd (aC s.heap (rm a H)) a (.dK kvs)) vs ds:=fun m=>
  (ee x1 (m.step (S':=Fc) (H':=rm a H) (fun b u hb rd=>⟨hb,og (Nm b hb) rd⟩) fun b xs h=>jz A.at_ h)).mono (fun _ h=>h) (.upd na)
 have Gj:(us++([]:List Value)).length=ps.length:=by rw[List.append_nil,<- r.length];exact hl
 have bd:=hb s us I.Eo Gj
 rw[List.append_nil] at bd
 have Er:KI X.K cl f ps (ws++[.ref a]) (upd (aC s.heap (rm a H)) a (.dK kvs)) (fun v H'=>∃ F' fv kvs',IP X.K a (fun b=>Fc b/\aC s.heap (rm a H) b≠none) (upd (aC s.heap (rm a H)) a (.dK kvs)) F' H' v d fv kvs' ER DV) (fun _ _ _=>False):=
  ⟨hl,a,_,ws,ds,kvs,es,rfl,⟨fun b hb=>by rw[ai (Nm b hb.1)];exact hb.2,fun z=>A.nF z.1,av,K9 A.ws,K9 A.vs,A.lf⟩,d,ER,DV,hc,Nl,fun v H' F' fv kvs' o=>⟨F',fv,kvs',o⟩⟩
 refine wpAny_call (codeAny_mono (F.run X.A X.stack s _ ⟨us,[]⟩ us _ _ _ hr env bd r Er) fun r' s' hq=>?_)
 cases r' with
 | error e=>exact(g.Gx _ _ _ _ _ hq).elim
 | ok fl=>
  cases fl with
  | ret u=>
   obtain⟨v,H',a1,a2,a3,a4,a5,F',fv,kvs',o⟩:=hq
   have oo:=o.out
   rw[zk na] at oo
   have Nn:au (aC s.heap (rm a H)) (rm a H'):=fun b u e=>by
    have hb:b≠a:=by rintro rfl;rw[na] at e;cases e
    rw[aZ hb]
    exact oo.same b u e
   have p:Ee s.heap (aC s.heap (rm a H)) (rm a H'):=⟨fun b o u e=>Nn _ _ e,fun b xs e=>Nn _ _ e,fun b o e n=>by
    by_cases hb:b=a
    ·rw[hb];exact bT
    ·rw[aZ hb]
     exact a3.free b o e (by rw[ai hb];exact n) (by simp)⟩
   have o2:=eh x1 (fun b hb=>by rw[aZ (Nm b hb)];exact A.B9 b hb) p (wR oo Nn o.nF o.nf o.at_)
   have nr:b8 (rm a H) (rm a H') a=none:=by rw[res_none bT];exact bT
   have o3:=wU (kvs:=kvs') o2 nr
   have hE:∀ b,b≠a->H b=none->H' b=upd (b8 (rm a H) (rm a H')) a (.dK kvs') b:=fun b hb e=>by
    rw[ai hb,res_none (by rw[aZ hb];exact e),aZ hb]
   have La:∀ b,H b=none->b≠a:=fun b e z=>by rw[z,A.at_] at e;cases e
   have un:Un (CI X.stack) [] H (upd (b8 (rm a H) (rm a H')) a (.dK kvs')) s.heap s'.heap:=⟨fun b o e n=>a3.keep b o e (nb b n),fun b o e n=>a3.slot b o e (nb b n),fun b o e n hx=>by
    rw[<- hE b (La b n) n]
    exact a3.free b o e (nb b n) hx,a3.there,fun b xs e=>?_,fun b o u e=>?_,fun b ps e=>⟨#[],?_⟩⟩
   ·have BY:Cm X.prog X.w (upd (b8 (rm a H) (rm a H')) a (.dK kvs')) s'.heap:=
     tu (eS x1 (tq a4 o.at_) p (fs:=CI X.stack) (fun b o hH e n f=>a3.keep b o e (by
      have hb:b≠a:=by rintro rfl;exact hH bT
      rw[ai hb];exact n) f (by simp)) fun b hb=>by rw[aZ (La b (e0.D7 b hb))];exact e0.D7 b hb) nr (a4 a _ o.at_)
    refine I.after (Q:=Q) ⟨v,_,a1,a2,un,BY,a5,q v _ _ fv kvs' ⟨o3,fun z=>z.elim A.nF o.nF,o.nf,av,o.ks,?_⟩⟩
    exact o.vs.sc Nl
   ·rw[ai (by rintro rfl;rw[A.at_] at e;cases e),res_some (by rw[aZ (by rintro rfl;rw[A.at_] at e;cases e)];exact e)]
   ·rw[ai (by rintro rfl;rw[A.at_] at e;cases e),res_some (by rw[aZ (by rintro rfl;rw[A.at_] at e;cases e)];exact e)]
   ·rw[ai (by rintro rfl;rw[A.at_] at e;cases e),res_some (by rw[aZ (by rintro rfl;rw[A.at_] at e;cases e)];exact e)]
    simp
  | next=>exact False.elim hq
  | brk=>exact False.elim hq
  | cont=>exact False.elim hq
theorem e9 (is:List Nat):∀ (τ:Ev) (k i:Nat),is.contains (k+i)=false->aj (dO is k τ) i=aj τ i
 | [],k,i,h=>rfl
 | o::τ,k,0,h=>by
  unfold dO
  rw[bC,bC,if_neg (by rw[show k=k+0 from rfl,h];simp)]
 | o::τ,k,i+1,h=>by
  unfold dO
  rw[bf,bf]
  exact e9 is τ (k+1) i (by rw[<- h];congr 1;omega)
theorem oq (g:Cg Z CX cl xp X ex G){f i:Nat}{x:Str}{p pos:Pos}{es:List IR}{args:List Expr}(h1:aU Z G f x=true)(hf:f∈Z.DX)(DP:G.cm=true)(Cb:aD Z G (es++[.v i]) args=true) :
  PE X (.Call (.Name x p) args [] pos) (fun σ H Q=>L5 X.K ex cl i es σ H fun vs H1=>O0 X.K cl f vs H1 Q):=by
 obtain⟨k1,k2,k3,k4⟩:=b9 g h1
 obtain⟨k,JK,fd,ps,hm,Eu,hb,F,hr,hlen⟩:=(g.DX f hf DP x k2).ex
 intro pins s σ H Q I q
 have pa:=tw g es args Cb
 refine wpAny_Call_Name_kw (bO I k1 hm ?_ k4)
 obtain⟨a,r,he⟩:∃ a r,es++[.v i]=a::r:=by cases es<;>exact⟨_,_,rfl⟩
 rw[he] at Cb
 cases args with
 | nil=>cases Cb
 | cons e l=>
  have B8:(notStar e&&BW Z G a e&&aD Z G r l)=true:=Cb
  simp only[Bool.and_eq_true] at B8
  refine PySem.W.callWith_K (h₀:=X.base) I.ok.mod.GF Eu (B7 (pa pos pins s σ H _ I q) fun us s1 ⟨vs,H1,I1,r,q1⟩=>⟨I1.Eo,?_⟩) (ah B8.1.1 l X.env) (aX Z G (es:=r) pos X.env B8.2)
  exact om g F hr hb hlen I1 r q1
theorem DQ (g:Cg Z CX cl xp X ex G){j f i:Nat}{es:List IR}{st:Stmt}(h:HU st (fun t xf args=>isName t&&bB G (.nm j) t&&G.cm&&(aU Z G f xf&&Z.DX.contains f)&&aD Z G (es++[.v i]) args&&!(ak es).contains i&&G.io != some i&&decide (i≠j))=true) :
  PS X st (RS X.K G.io ex (C1 cl (.FT j f es i))):=by
 obtain⟨t,xf,p,args,qp,pos,rfl,h0⟩:=nX h
 simp only[Bool.and_eq_true] at h0
 obtain⟨⟨⟨⟨⟨⟨⟨hn,hT⟩,DP⟩,hf,R5⟩,Cb⟩,JQ⟩,FI⟩,O1⟩:=h0
 cases t with
 | Name y py=>
  have Et:(G.N[j]? == some y&&(G.kd[j]? == some .local||(G.df&&G.kd[j]? == some .cell)))=true:=(Bool.and_eq_true_iff.mp hT).1
  have Np:G.io≠some j:=by simpa using(Bool.and_eq_true_iff.mp hT).2
  rw[Bool.and_eq_true,Bool.or_eq_true,Bool.and_eq_true] at Et
  have hx:G.N[j]? = some y:=eq_of_beq Et.1
  have hk:=g.kd j y hx
  have E6:Loc X.env.scope y:=Et.2.elim (fun z=>.inl (hk.trans (eq_of_beq z))) fun z=>.inr (hk.trans (eq_of_beq z.2))
  have Fx:X.fn y=true∨X.env.scope.names.lookup y=some .local:=Et.2.elim (fun z=>.inr (hk.trans (eq_of_beq z))) fun z=>.inl (g.df z.1 y)
  have JQ:(ak es).contains i=false:=by simpa using JQ
  refine aR (iZ (i:=j) (by rw[g.N];exact g.Cf) (by rw[g.N];exact hx) E6 (oq (p:=p) (pos:=qp) g hf (by simpa using R5) DP Cb) rfl Fx) fun Dn σ H hh=>?_
  obtain⟨B,F,τ,fo,m,q⟩:=hh
  have q0:BK ex (match aj τ i with|some (.BU true ks vs)=>BN (aI vs) (U (aG cl es τ) fun ds=>U (Dj (cl f (BV ds++[.BU false ks vs]))) (l7 j i (B6 (ak es) τ)))|_=>BR) (Fk X.K B Dn):=q
  cases zs:aj τ i with
  | none=>rw[zs] at q0;exact q0.no.elim
  | some dd=>
   rw[zs] at q0
   cases dd with
   | BU ow ks Nq=>
    cases ow with
    | false=>exact q0.no.elim
    | true=>
     obtain⟨gd,q1⟩:=BK.BN q0
     obtain⟨F1,gg,b1,b2,b3,b4,b5,b6⟩:=cC (ak es) m.B9 m.CT m.Cf
     have zf:aj (B6 (ak es) τ) i=some (.BU true ks Nq):=(e9 (ak es) τ 0 i (by rw[Nat.zero_add];exact JQ)).trans zs
     obtain⟨a,kvs,g1,Dc,TV,R6,Jb,O6,_,_⟩:=dG b2 zf (bh gd)
     refine oh Dc es (.refl _) b6 (BK.U q1) fun ds ws H2 e2 _ ms q2=>?_
     obtain⟨c1,c2,c3⟩:=grow (fun _=>True) b1 b2 e2
     obtain⟨a',kvs',g0,FJ,O7,Nr,R7,Nt,r0,p0⟩:=dG c2 zf (bh gd)
     rw[Dc] at FJ
     cases FJ
     have O8:=e2 _ _ R6
     rw[Nr] at O8
     cases O8
     have m2:Cz X.K B (fun b=>F1 b∨(True/\H b=none/\H2 b≠none)) H2 σ (B6 (ak es) τ) gg:=m.Ef (b4.trans c3 (fun x hx=>.inl (b5 x hx))) c1 c2 b3 fun b hb=>.inl (b5 b hb)
     cases zc:cl f (BV ds++[.BU false ks Nq]) with
     | error er=>rw[zc] at q2;exact q2.no.elim
     | ok rr=>
      rw[zc] at q2
      have q3:BK ex (l7 j i (B6 (ak es) τ) rr) (Fk X.K B Dn):=q2
      obtain⟨d,Je,Hs,rfl⟩:∃ d Je Hs,rr=.tup [d,.BU false Je Hs]:=by
       unfold l7 at q3
       split at q3
       ·exact⟨_,_,_,rfl⟩
       ·exact q3.no.elim
      obtain⟨O9,q4⟩:=BK.BN (show BK ex (BN (aI Hs) (.ok (.nx (((B6 (ak es) τ).set i (some (.BU true Je Hs))).set j (some d))))) (Fk X.K B Dn) from q3)
      refine⟨a,_,ws,ds,kvs,Nq,rfl,⟨c1,O7,Nr,ms.step (fun b xs h r=>⟨h.elim (fun z=>.inl z) fun z=>.inr ⟨trivial,z,r.some⟩,r⟩) fun b xs h=>h,(Nt.read (S:=fun _=>True) (fun _ _=>trivial) fun _ _=>trivial).sc gd,gd⟩,d,Je,Hs,by rw[Jb];exact zc,O9,fun v H' F' fv Lb o=>?_⟩
      have Gz:(a::g0).Nodup:=p0.nodup_iff.mp m2.Cf
      have ag:a∉g0:=(List.nodup_cons.mp Gz).1
      have hl:∀ b (u:LD),(F1 b∨(True/\H b=none/\H2 b≠none))->Rd H2 b u.o->F' b/\Rd H' b u.o:=fun b u hb r=>⟨o.out.C8 b hb,o.out.same.rd (og (fun z=>O7 (z ▸ hb)) r)⟩
      have ht:∀ b xs,CA X.K H2 b xs->CA X.K H' b xs:=fun b xs h=>o.out.same.Dq (jz Nr h)
      have r3:Cc X.K F' H' σ ((B6 (ak es) τ).set i none) g0:=r0.step hl ht fun b hb n1 n2=>by
       have JV:b≠a:=fun z=>ag (z ▸ hb)
       refine⟨fun z=>?_,?_⟩
       ·rcases o.out.out b z with z|z
        ·exact n1 z
        ·rw[aZ JV] at z;exact n2 z
       ·obtain⟨_,u,hu⟩:=r0.own b hb
        rw[hu]
        exact o.out.same b u (by rw[aZ JV];exact hu)
      have m1:B3 X.K F' H' (.ref a) (.BU true Je Hs) [a]:=.Ec o.nF o.at_ o.ks (BJ.free (bh O9) o.vs)
      obtain⟨g',h',r4,p4⟩:=r3.put i m1
      have Nu:σ.set i (some (.ref a))=σ:=by
       apply List.ext_getElem?
       intro j
       rw[List.getElem?_set]
       by_cases hj:i=j
       ·subst hj
        rw[if_pos rfl,if_pos (List.getElem?_eq_some_iff.mp Dc).1,Dc]
       ·rw[if_neg hj]
      rw[Nu,List.set_set] at r4
      have O':(g'++h').Nodup:=p4.nodup_iff.mpr Gz
      have in4:∀ b∈g',b=a∨b∈g0:=fun b hb=>List.mem_cons.mp (p4.mem_iff.mp (List.mem_append_left _ hb))
      have Jf:∀ b,b=a∨b∈g0->B.H b=none/\∃ u,H2 b=some u:=fun b hb=>by
       have Pa:b∈gg:=p0.mem_iff.mpr (List.mem_cons.mpr hb)
       exact⟨m2.own b Pa,(c2.own b Pa).2⟩
      have mF:Cz X.K B F' H' σ ((B6 (ak es) τ).set i (some (.BU true Je Hs))) g':=⟨o.out.B9,r4,(List.nodup_append.mp O').1,fun b u e=>o.out.same b u (by
        rw[aZ (fun z=>by rw[z,(Jf a (.inl rfl)).1] at e;cases e)]
        exact m2.same b u e),fun b hb=>(Jf b (in4 b hb)).1,fun b hb=>o.out.C8 b (m2.C8 b hb),fun b hb=>by
        rcases o.out.out b hb with z|z
        ·exact m2.out b z
        ·have JV:b≠a:=fun y=>o.nF (by rw[<- y];exact hb)
         rw[aZ JV] at z
         exact .inr (m2.same.free z),fun b xs hb=>hl b xs (m2.pin b xs hb).1 (m2.pin b xs hb).2,fun b xs hb=>ht b xs (m2.FY b xs hb),m2.nm⟩
      have Lc:∀ b∈fv,H2 b=none:=fun b hb=>by
       have:=o.out.new b hb
       have JV:b≠a:=fun z=>o.nf (by rw[<- z];exact hb)
       rwa [aZ JV] at this
      obtain⟨f5,m5⟩:=mF.put j o.out.rep (List.nodup_append.mpr ⟨o.out.Cf,(List.nodup_append.mp O').1,fun b h1 c h2 e=>by
       subst e
       obtain⟨u,hu⟩:=(Jf b (in4 b h2)).2
       rw[Lc b h1] at hu
       cases hu⟩) (fun b hb=>m2.same.free (Lc b hb)) Np
      exact q4.ok _ _ _ _ m5
   | _=>exact q0.no.elim
 | _=>cases hn
end
section
variable {K:PySem.W.Frag}{S:Addr->Prop}{H:Hp}
theorem rW:∀ {ds:List D}{ps:List (Key×D)}{xs:List V},BJ K S H xs ds->du ds=some ps->∃ as kvs,xs=as.map V.ref/\D0 K H as kvs/\kvs.map (·.1)=ps.map (·.1)/\BJ K S H (kvs.map (·.2)) (ps.map (·.2)):=by
 intro ds
 induction ds with
 | nil=>
  intro ps xs m h
  cases h
  cases m
  exact⟨[],[],rfl,.nil,rfl,.nil⟩
 | cons d r ih=>
  intro ps xs m h
  cases m with
  | cons m1 m2=>
   unfold du at h
   split at h
   ·rename_i _ e;cases e
   ·rename_i _ k v r' e
    cases e
    split at h
    ·rename_i q TX hq R8
     cases h
     obtain⟨as,kvs,rfl,h1,h2,h3⟩:=ih m2 R8
     obtain⟨a,ys,rfl,ht,mt⟩:=m1.CZ
     cases mt with
     | cons n1 mt=>
      cases mt with
      | cons n2 mt=>
       cases mt
       have ek:=cT n1 hq
       subst ek
       exact⟨a::as,(q,_)::kvs,rfl,.cons ht h1,by rw[List.map_cons,List.map_cons,h2],.cons n2 h3⟩
    ·cases h
   ·cases h
theorem gK:∀ (more:List (Key×V)) (ps:List (Key×D)) (kvs:List (Key×V)) (ds:List D),more.map (·.1)=ps.map (·.1)->BJ K S H (more.map (·.2)) (ps.map (·.2))->BJ K S H (kvs.map (·.2)) ds->
  (bL kvs more).map (·.1)=(DD ps (kvs.map (·.1)) ds).1/\BJ K S H ((bL kvs more).map (·.2)) (DD ps (kvs.map (·.1)) ds).2
 | [],[],kvs,ds,_,_,m=>⟨rfl,m⟩
 | p::more,[],_,_,h,_,_=>by cases h
 | [],q::ps,_,_,h,_,_=>by cases h
 | (k,v)::more,(q,d)::ps,kvs,ds,h,m1,m=>by
  rw[List.map_cons,List.map_cons,List.cons.injEq] at h
  have e:k=q:=h.1
  subst e
  cases m1 with
  | cons n1 n2=>
   have:=gK more ps (putK kvs k v) (bt (kvs.map (·.1)) ds k d) h.2 n2 (tm k n1 m)
   rw[tj] at this
   exact this
end
theorem jA:∀ (ps:List (Key×D)) (ks:List Key) (ds:List D),aq (ps.map (·.2))=true->aq ds=true->aq (DD ps ks ds).2=true
 | [],ks,ds,_,h=>h
 | (q,d)::ps,ks,ds,h1,h2=>by
  have h':(aw d&&aq (ps.map (·.2)))=true:=h1
  rw[Bool.and_eq_true] at h'
  exact jA ps _ _ h'.2 (nY h2 h'.1)
theorem j9:∀ {ks:List Key}{ds:List D},ks.length=ds.length->(ks.zip ds).map (·.1)=ks/\(ks.zip ds).map (·.2)=ds
 | [],[],_=>⟨rfl,rfl⟩
 | k::ks,d::ds,h=>by
  obtain⟨h1,h2⟩:=j9 (ks:=ks) (ds:=ds) (by simpa using h)
  rw[List.zip_cons_cons,List.map_cons,List.map_cons,h1,h2]
  exact⟨rfl,rfl⟩
 | [],_::_,h=>by cases h
 | _::_,[],h=>by cases h
section
variable {Z:Sg}{CX:C6}{cl:Nat->List D->Res D}{xp:XK->Hp->Str->Prop}{X:Cx}{ex:Str->Prop}{G:Gm}
theorem Ej (g:Cg Z CX cl xp X ex G){j:Nat}{e:IR}{st:Stmt}(h:HU st (fun t xf args=>isName t&&bB G (.nm j) t&&xf == "dict"&&G.EO 19&&aD Z G [e] args)=true):PS X st (RS X.K G.io ex (C1 cl (.IH j e))):=by
 obtain⟨t,xf,p,args,qp,pos,rfl,h0⟩:=nX h
 simp only[Bool.and_eq_true] at h0
 obtain⟨⟨⟨⟨hn,hT⟩,R9⟩,Pb⟩,Cb⟩:=h0
 have e1:xf = "dict":=eq_of_beq R9
 subst e1
 obtain⟨k1,k2,k3,k4⟩:=c7 g (show bb[19]? = some ("dict" : Str) from rfl) (gC Pb)
 match args,Cb with
 | [],Cb=>cases Cb
 | _::_::_,Cb=>exact af (Bool.and_eq_true_iff.mp Cb).2
 | [a],Cb=>
  have B8:(notStar a&&BW Z G e a&&aD Z G [] [])=true:=Cb
  simp only[Bool.and_eq_true] at B8
  cases t with
  | Name y py=>
   have Et:(G.N[j]? == some y&&(G.kd[j]? == some .local||(G.df&&G.kd[j]? == some .cell)))=true:=(Bool.and_eq_true_iff.mp hT).1
   have Np:G.io≠some j:=by simpa using(Bool.and_eq_true_iff.mp hT).2
   rw[Bool.and_eq_true,Bool.or_eq_true,Bool.and_eq_true] at Et
   have hx:G.N[j]? = some y:=eq_of_beq Et.1
   have hk:=g.kd j y hx
   have E6:Loc X.env.scope y:=Et.2.elim (fun z=>.inl (hk.trans (eq_of_beq z))) fun z=>.inr (hk.trans (eq_of_beq z.2))
   have Fx:X.fn y=true∨X.env.scope.names.lookup y=some .local:=Et.2.elim (fun z=>.inr (hk.trans (eq_of_beq z))) fun z=>.inl (g.df z.1 y)
   refine aR (iZ (i:=j) (by rw[g.N];exact g.Cf) (by rw[g.N];exact hx) E6 (dJ (T:="dict") (ji (g.calm (gD Pb))) k1 k2 (by decide +kernel) (aL (snd e X ex G a g B8.1.2).1 bG (ah B8.1.1 _ _)) k3 k4 (ah B8.1.1 _ _) rfl) rfl Fx) fun Dn σ H hh=>?_
   obtain⟨B,F,τ,f,m,q⟩:=hh
   have q0:BK ex (U (BM cl e τ) fun d=>U (l5 j τ d) fun BP=>.ok (.nx BP)) (Fk X.K B Dn):=q
   refine m.rd (BK.U q0) fun d v H1 m1 e1 mv q1=>?_
   cases d with
   | lst o ds=>
    obtain⟨p,xs,rfl,hq,mm⟩:=mv.CH
    have q2:BK ex (U (match du ds with|some ps=>BN (aI (ps.map (·.2))) (.ok (τ.set j (some (.BU true (DD ps [] []).1 (DD ps [] []).2))))|none=>BR) fun BP=>.ok (.nx BP)) (Fk X.K B Dn):=q1
    cases z:du ds with
    | none=>rw[z] at q2;exact q2.no.elim
    | some ps=>
     rw[z] at q2
     obtain⟨gd,q3⟩:=BK.BN (BK.U q2)
     obtain⟨as,kvs,rfl,hp,hk,hv⟩:=rW mm z
     refine⟨p,as,kvs,rfl,hq,hp,fun a ha=>?_⟩
     obtain⟨r1,r2⟩:=gK kvs ps [] [] hk hv .nil
     have lf:aq (DD ps [] []).2=true:=jA ps [] [] (bh gd) rfl
     have sm:au H1 (upd H1 a (.dK (bL [] kvs))):=.upd ha
     have m2:=m1.grow sm
     have mr:B3 X.K F (upd H1 a (.dK (bL [] kvs))) (.ref a) (.BU true (DD ps [] []).1 (DD ps [] []).2) [a]:=.Ec (fun z=>m1.B9 a z ha) av r1 (BJ.free lf (r2.mono (S':=fun _=>True) (fun _ _=>trivial) sm))
     have na:a∉f:=fun z=>by
      obtain⟨_,u,hu⟩:=m1.CT.own a z
      rw[ha] at hu;cases hu
     obtain⟨f',m3⟩:=m2.put j mr (by rw[List.singleton_append,List.nodup_cons];exact⟨na,m1.Cf⟩) (fun b hb=>by rw[List.mem_singleton.mp hb];exact m1.same.free ha) Np
     exact q3.ok.ok _ _ _ _ m3
   | _=>exact q1.no.elim
  | _=>cases hn
theorem DJ (g:Cg Z CX cl xp X ex G){i j:Nat}{st:Stmt}(h:K0 st (fun x n l y=>cP G i x&&n == "update"&&l&&cP G j y&&decide (i≠j))=true):PS X st (RS X.K G.io ex (C1 cl (.E0 i j))):=by
 obtain⟨x,px,n,apos,y,py,BQ,pos,rfl,h0⟩:=wM h
 simp only[Bool.and_eq_true] at h0
 obtain⟨⟨⟨⟨h1,h2⟩,h3⟩,h4⟩,h5⟩:=h0
 have e1:n = "update":=eq_of_beq h2
 subst e1
 have O1:i≠j:=of_decide_eq_true h5
 refine aR (gf (rC (fR g h1) (fR g h4) rfl h3 rfl)) fun Dn σ H hh=>?_
 obtain⟨B,F,τ,f,m,q⟩:=hh
 have q0:BK ex (U (nA i τ (aj τ i) (aj τ j)) fun BP=>.ok (.nx BP)) (Fk X.K B Dn):=q
 cases zi:aj τ i with
 | none=>rw[zi] at q0;exact q0.no.elim
 | some di=>
  cases zj:aj τ j with
  | none=>
   rw[zi,zj] at q0
   cases di with
   | BU ow ks ds=>cases ow<;>exact q0.no.elim
   | _=>exact q0.no.elim
  | some dj=>
   rw[zi,zj] at q0
   cases di with
   | BU ow ks ds=>
    cases ow with
    | false=>exact q0.no.elim
    | true=>
     cases dj with
     | BU oj Gr Gs=>
      obtain⟨gd,q1⟩:=BK.BN (BK.U (show BK ex (U (BN (aI ds&&aI Gs&&aY (ks.length+Gr.length)) (.ok (τ.set i (some (.BU true (DD (Gr.zip Gs) ks ds).1 (DD (Gr.zip Gs) ks ds).2))))) fun BP=>.ok (.nx BP)) (Fk X.K B Dn) from q0))
      rw[Bool.and_eq_true,Bool.and_eq_true] at gd
      obtain⟨l,kvs,g0,Dc,hF,hl,Jb,hm,hr,hp⟩:=dG m.CT zi (bh gd.1.1)
      have Gz:(l::g0).Nodup:=hp.nodup_iff.mp m.Cf
      have Sa:aj (τ.set i none) j=some (.BU oj Gr Gs):=by
       rw[fQ,if_neg fun z=>O1 z.1]
       exact zj
      obtain⟨vj,fj,gj,Nv,mj,_,pj⟩:=hr.at Sa
      obtain⟨b,more,rfl,rd,Jd,Pc⟩:=(mj.read (S:=fun _=>True) (fun _ _=>trivial) fun _ _=>trivial).E3
      have Sb:l≠b:=by
       rintro rfl
       cases mj with
       | Gk h0 _ _ _=>exact hF h0
       | Ec h0 _ _ _=>exact(List.nodup_cons.mp Gz).1 (pj.mem_iff.mpr (by simp))
      subst Jb
      have Ld:Gr.length=Gs.length:=by rw[<- Jd,List.length_map,<- Pc.length,List.length_map]
      obtain⟨z1,z2⟩:=j9 Ld
      obtain⟨r1,r2⟩:=gK more (Gr.zip Gs) kvs ds (by rw[z1,Jd]) (by rw[z2];exact Pc) (hm.read (S:=fun _=>True) (fun _ _=>trivial) fun _ _=>trivial)
      have lf:aq (DD (Gr.zip Gs) (kvs.map (·.1)) ds).2=true:=jA _ _ _ (by rw[z2];exact bh gd.1.2) (bh gd.1.1)
      obtain⟨f',m3⟩:=m.Gy (kvs':=bL kvs more) Dc hF hl hr hp r1 (BJ.free lf r2)
      refine⟨.ref l,Dc,l,rfl,.inl ⟨kvs,.inl hl⟩,.ref b,Nv,l,b,kvs,more,rfl,rfl,Sb,hl,rd,?_,q1.ok.ok _ _ _ _ m3⟩
      have:=aQ gd.2
      rw[List.length_map,<- Jd,List.length_map] at this
      exact this
     | _=>exact q0.no.elim
   | _=>exact q0.no.elim
end
section
variable {Z:Sg}{CX:C6}{cl:Nat->List D->Res D}{xp:XK->Hp->Str->Prop}{X:Cx}{ex:Str->Prop}{G:Gm}
theorem Ek (g:Cg Z CX cl xp X ex G){i:Nat}{e:IR}{x:Str}{p apos BQ pos:Pos}{v:Expr}(h1:cP G i x=true)(h2:(apos.endLine == BQ.line)=true)(h3:notStar v=true)(h4:BW Z G e v=true) :
  PS X (.Expr (.Call (.Attribute (.Name x p) "append" apos) [v] [] BQ) pos) (RS X.K G.io ex (C1 cl (.app i e))):=by
 have pa:PA X [v] (eD (RO X.K ex (CS cl false e)) mU):=aL (KY e false X ex G v g h4) bG (ah h3 _ _)
 have EB:((backTo BQ (starEach [v] X.env)).all (fun x=>!x.1)&&(backToKw BQ (keywordEach [] X.env)).all (fun x=>x.1.isSome)&&decide ([v].length+([]:List Keyword).length+(if ([]:List Keyword).isEmpty then 0 else 1) < 30))=true:=by
  rw[ah h3]
  rfl
 refine aR (gf (jO PySem.F.plainAttrs_list PySem.F.slot_list_append PySem.F.type_list_append fG (fR g h1) pa rfl EB h2 (ah h3 _ _) rfl)) fun Dn σ H h=>?_
 obtain⟨B,F,τ,f,m,q⟩:=h
 have q0:BK ex (match aj τ i with|some (.lst _ _)=>(U (CS cl false e τ) fun p=>(match aj p.2 i with|some (.lst true ds)=>BN (cN ds.length) (.ok (.nx (p.2.set i (some (.lst true (ds++[p.1]))))))|_=>BR))|_=>BR) (Fk X.K B Dn):=q
 cases z0:aj τ i with
 | none=>rw[z0] at q0;exact q0.no.elim
 | some d0=>
  rw[z0] at q0
  cases d0 with
  | lst o0 Ru=>
   obtain⟨v0,TY,g0,a1,a2,a3,a4⟩:=m.CT.at z0
   have hq:∃ l xs,v0=.ref l/\Dd X.K H l xs:=by
    cases a2 with
    | FA _ b1 _=>exact⟨_,_,rfl,.inl b1⟩
    | lstK b1 _=>exact⟨_,_,rfl,b1.sq⟩
    | DC _ b1 _=>exact⟨_,_,rfl,.inl (.inl b1)⟩
   obtain⟨l,Sd,rfl,hq⟩:=hq
   refine⟨.ref l,a1,.inl ⟨rfl,Sd,hq⟩,m.ro (BK.U q0) fun p v H' F' fv f' o hp=>?_⟩
   obtain⟨m',hb⟩:=m.ow o
   cases zs:aj p.2 i with
   | none=>rw[zs] at hp;exact hp.no.elim
   | some d=>
    rw[zs] at hp
    cases d with
    | lst ow ds=>
     cases ow with
     | false=>exact hp.no.elim
     | true=>
      obtain⟨gd,hp⟩:=BK.BN hp
      obtain⟨l',xs,Dc,hl,hlen⟩:=wN m'.CT zs
      rw[a1] at Dc
      cases Dc
      obtain⟨IY,m3⟩:=m'.write (ys:=xs++[v]) (ds':=ds++[p.1]) zs a1 hl o.rep o.Cf hb fun fi hm=>hm.snoc o.rep
      exact⟨l,xs,v,rfl,rfl,hl,by rw[hlen];exact gy gd,hp.ok _ _ _ _ m3⟩
    | _=>exact hp.no.elim
  | _=>exact q0.no.elim
theorem Fk.HX {K:PySem.W.Frag}{io:Option Nat}{B:Bs io}{F F':Addr->Prop}{H H':Hp}{σ:St}{τ BP:Ev}{f f':List Addr}{v:V}{d:D}{fv:List Addr}(m:Cz K B F H σ τ f)(o:Ow K F H f F' H' σ v d fv BP f'):Out K B.F B.H F' H' v d fv:=by
 obtain⟨m',hb⟩:=m.ow o
 exact⟨m'.B9,m'.same,o.rep,(List.nodup_append.mp o.Cf).1,hb,m'.C8,m'.out⟩
theorem El (g:Cg Z CX cl xp X ex G){e:IR}{v:Expr}{pos:Pos}(h:BW Z G e v=true):PS X (.Return (some v) pos) (RS X.K G.io ex (C1 cl (.ret e))):=by
 refine aR (mO (KY e true X ex G v g h)) fun Dn σ H ⟨B,F,τ,f,m,q⟩=>?_
 exact m.ro (BK.U q) fun p v H' F' fv f' o hp=>hp.ok _ _ _ _ (Fk.HX m o)
theorem rX {pos:Pos}:PS X (.Return none pos) (RS X.K G.io ex (C1 cl .He)):=
 aR qM fun Dn σ H ⟨B,F,τ,f,m,q⟩=>q.ok .B5 H F [] ⟨m.B9,m.same,.B5,List.nodup_nil,fun a ha=>absurd ha (by simp),m.C8,m.out⟩
theorem wV (g:Cg Z CX cl xp X ex G){e:IR}{v:Expr}{pos:Pos}(hc:gI v=true)(h:BW Z G e v=true):PS X (.Expr v pos) (RS X.K G.io ex (C1 cl (.exp e))):=by
 refine aR (gf (snd e X ex G v g h).1 (by cases v<;>first|rfl|cases hc)) fun Dn σ H ⟨B,F,τ,f,m,q⟩=>?_
 exact m.rd (BK.U q) fun d v H' m' _ _ hd=>hd.ok _ _ _ _ m'
theorem Fu {c:Expr}{x y:List Stmt}{pos:Pos}{t:IR}{a b:List IS}(hc:PT X c (RT X.K ex (vars t) fun τ=>U (BM cl t τ) aT))(ha:Ey X x (RS X.K G.io ex (aB cl a)))(hb:Ey X y (RS X.K G.io ex (aB cl b))):PS X (.If c x y pos) (RS X.K G.io ex (C1 cl (.Cq t a b))):=by
 refine aR (xY hc ha hb) fun Dn σ H ⟨B,F,τ,f,m,q⟩=>?_
 refine m.rt (BK.U q) fun r H' m' _ hr=>?_
 cases r with
 | true=>rw[if_pos rfl] at hr ⊢;exact⟨B,F,τ,f,m',hr⟩
 | false=>rw[if_neg Bool.false_ne_true] at hr ⊢;exact⟨B,F,τ,f,m',hr⟩
theorem Cz.less {K:PySem.W.Frag}{io:Option Nat}{B:Bs io}{L:Addr->LD->Prop}{T:Addr->List V ⊕ Str->Prop}{F:Addr->Prop}{H:Hp}{σ:St}{τ:Ev}{f:List Addr}(m:Cz K (⟨B.F,B.H,fun a xs=>B.L a xs∨L a xs,fun a xs=>B.T a xs∨T a xs,B.N⟩:Bs io) F H σ τ f):Cz K B F H σ τ f:=
 ⟨m.B9,m.CT,m.Cf,m.same,m.own,m.C8,m.out,fun a xs h=>m.pin a xs (.inl h),fun a xs h=>m.FY a xs (.inl h),m.nm⟩
theorem iM:∀ (ds:List D) (i:Nat),(BV ds).drop i=BV (ds.drop i):=by
 intro ds i
 rw[bP,bP,List.map_drop]
theorem iN {J:It}{K:PySem.W.Frag}{io:Option Nat}{B:Bs io}{F:Addr->Prop}{H:Hp}{σ:St}{τ:Ev}{f:List Addr}{T:Tg}{body:List IS}{its:List D}{Dn:Ends}(FI:∀ j∈DN T,io≠some j)(m:Cz K B F H σ τ f)(w:DO K F H J its)
  (q:BK ex (forM (fun x τ=>U (bH T x τ) fun BP=>aB cl body BP) (BV its) τ) (Fk K B Dn)) :
  ∃ W:Nat->Nat->St->Hp->Prop,(∃ m,W 0 m σ H)/\∀ i m σ H,W i m σ H->(J.stop i H/\Dn.nx σ H)∨(J.go i H/\∃ N:St->Hp->Prop,(∀ B4 H',N B4 H'->∃ m',m' < m/\W (i+1) m' B4 H')/\
   ∀ x H',J.GW i H x H'->gT K T x σ H' fun EA H2=>RS K io ex (aB cl body) {Dn with nx:=N,ct:=N,bk:=Dn.nx} EA H2):=by
 let B':Bs io:=⟨B.F,B.H,fun a xs=>B.L a xs∨(F a/\Rd H a xs.o),fun a xs=>B.T a xs∨CA K H a xs,B.N⟩
 have m0:Cz K B' F H σ τ f:=⟨m.B9,m.CT,m.Cf,m.same,m.own,m.C8,m.out,fun a xs h=>h.elim (m.pin a xs) id,fun a xs h=>h.elim (m.FY a xs) id,m.nm⟩
 let bd:D->Ev->Res Fl:=fun x τ=>U (bH T x τ) fun BP=>aB cl body BP
 refine⟨fun i n σ H=>n=its.length - i/\i<=its.length/\∃ F τ f,Cz K B' F H σ τ f/\BK ex (forM bd ((BV its).drop i) τ) (Fk K B Dn),⟨its.length,by simp,Nat.zero_le _,F,τ,f,m0,by rw[List.drop_zero];exact q⟩,?_⟩
 rintro i n N2 H1 ⟨rfl,hi,F1,HL,f1,m1,q1⟩
 have w1:DO K F1 H1 J its:=w.step (fun a xs h r=>m1.pin a xs (.inr ⟨h,r⟩)) fun a xs h=>m1.FY a xs (.inr h)
 by_cases CY:i < its.length
 ·refine .inr ⟨w1.go CY,fun σ H=>∃ F τ f,Cz K B' F H σ τ f/\BK ex (forM bd ((BV its).drop (i+1)) τ) (Fk K B Dn),fun B4 H' h=>⟨its.length - (i+1),by omega,rfl,CY,h⟩,fun x H' y=>?_⟩
  obtain⟨eH,mx⟩:=w1.GW y (d:=its[i]) (by simp[CY])
  have m1:=m1.grow eH
  have hd:(BV its).drop i=er its[i]::(BV its).drop (i+1):=by
   rw[iM,List.drop_eq_getElem_cons CY,BV,iM]
  rw[hd] at q1
  have q2:=BK.U q1
  refine m1.gT mx.frozen (by simpa using m1.Cf) (fun a ha=>absurd ha (by simp)) FI (BK.U q2) fun BP B4 f' m' h'=>?_
  refine⟨B',F1,BP,f',m',h'.mono fun r hr=>?_⟩
  cases r with
  | nx BP=>exact fun B4 H' F' f' Ho=>⟨F',BP,f',Ho,hr⟩
  | ct BP=>exact fun B4 H' F' f' Ho=>⟨F',BP,f',Ho,hr⟩
  | bk BP=>exact fun B4 H' F' f' Ho=>hr.ok _ _ _ _ Ho.less
  | rt d=>exact fun v H' F' fv o=>hr.ok _ _ _ _ o
 ·have e:i=its.length:=by omega
  subst e
  refine .inl ⟨w1.stop (Nat.le_refl _),?_⟩
  have:(BV its).drop its.length=[]:=by rw[<- bo its,List.drop_length]
  rw[this] at q1
  exact q1.ok _ _ _ _ m1.less
theorem rY (a b:Int):BV (bM a b)=bM a b:=by
 unfold bM
 rw[bP,List.map_map]
 rfl
noncomputable def tE (cl:Nat->List D->Res D):Sr->Ev->Res (Int×Int)
 | .CM n,τ=>U (BM cl n τ) fun|.int i=>BN (bK i) (.ok (0,i))|_=>BR
 | .DW a b,τ=>U (BM cl a τ) fun x=>U (BM cl b τ) fun y=>match x,y with|.int i,.int j=>BN (bK i&&bK j) (.ok (i,j))|_,_=>BR
 | _,_=>BR
def Sf (K:PySem.W.Frag)(ex:Str->Prop)(is:List Nat)(f:Ev->Res (Int×Int)):TI:=fun σ H R=>∃ S τ,Slots K S H σ τ is/\BK ex (f τ) fun p=>∀ H',au H H'->R (J7 p.1 (p.2 - p.1).toNat) H'
noncomputable def ou:Sr->Bool
 | .CM _=>true
 | .DW _ _=>true
 | _=>false
theorem ox {s:Sr}(h:ou s=true){τ:Ev}{k:List D->Prop}(q:BK ex (dm cl s τ) k):BK ex (tE cl s τ) fun p=>k (bM p.1 p.2):=by
 cases s with
 | CM n=>
  refine BK.mk ((BK.U (show BK ex (U (BM cl n τ) fun|.int i=>BN (bK i) (.ok (bM 0 i))|_=>BR) k from q)).mono fun d hd=>?_)
  cases d with
  | int i=>
   obtain⟨gd,hd⟩:=BK.BN hd
   show BK ex (BN (bK i) (.ok (0,i))) _
   unfold BN
   rw[if_pos gd]
   exact hd.ok
  | _=>exact hd.no.elim
 | DW a b=>
  refine BK.mk ((BK.U (show BK ex (U (BM cl a τ) fun x=>U (BM cl b τ) fun y=>match x,y with|.int i,.int j=>BN (bK i&&bK j) (.ok (bM i j))|_,_=>BR) k from q)).mono fun d hd=>BK.mk ((BK.U hd).mono fun e he=>?_))
  cases d with
  | int i=>
   cases e with
   | int j=>
    obtain⟨gd,he⟩:=BK.BN he
    show BK ex (BN (bK i&&bK j) (.ok (i,j))) _
    unfold BN
    rw[if_pos gd]
    exact he.ok
   | _=>exact he.no.elim
  | _=>cases e<;>exact he.no.elim
 | _=>first|exact af h|cases h
theorem Bz:∀ (s:Sr) (X:Cx) (ex:Str->Prop) (G:Gm) (e tg:Expr),Cg Z CX cl xp X ex G->bR Z G s e=true->ou s=true->PI X tg e (Sf X.K ex (dw s) (tE cl s)):=by
 intro s X ex G e tg g h hr
 cases s with
 | CM n=>
  cases e with
  | Call fn args DY pos=>
   cases fn with
   | Name x p=>
    match args,DY,h with
    | [a],[],h=>
     have h':(x == "range"&&G.gl.contains 15&&notStar a&&BW Z G n a)=true:=h
     simp only[Bool.and_eq_true] at h'
     have e1:x = "range":=eq_of_beq h'.1.1.1
     subst e1
     obtain⟨k1,k2,_,_⟩:=c7 g (show bb[15]? = some ("range" : Str) from rfl) h'.1.1.2
     refine jc (fB k1 k2 (aL (snd n X ex G a g h'.2).1 bG (ah h'.1.2 _ _)) (ah h'.1.2 _ _)) fun σ H Q ⟨S,τ,hs,q⟩=>?_
     refine aO (.refl _) hs (BK.U q) fun x v H1 e1 _ m1 q1=>?_
     cases x with
     | int i=>
      cases m1.Ca
      obtain⟨gd,q1⟩:=BK.BN q1
      have GI : -(2 ^ 62)<=i/\i < 2 ^ 62:=of_decide_eq_true gd
      refine⟨i,rfl,GI.1,GI.2,?_⟩
      have:=q1.ok _ e1
      rw[show (0,i).2 - (0,i).1=i from Int.sub_zero i] at this
      exact this
     | _=>exact q1.no.elim
    | [],_,h=>first|exact af h|cases h
    | [_],_::_,h=>first|exact af h|cases h
    | _::_::_,_,h=>first|exact af h|cases h
   | _=>first|exact af h|cases h
  | _=>first|exact af h|cases h
 | DW a b=>cases e<;>exact af h
 | _=>cases hr
theorem Em (g:Cg Z CX cl xp X ex G){t it:Expr}{x:List Stmt}{pos:Pos}{T:Tg}{s:Sr}{a:List IS}(HE:(G.cm=true/\G.rs=true)/\bB G T t=true)(LW:bR Z G s it=true/\d8 s t=true)(ha:Ey X x (RS X.K G.io ex (aB cl a))):PS X (.For t it x [] pos) (RS X.K G.io ex (C1 cl (.Cs T s a))):=by
 have hT:=HE.2
 have hs:=LW.1
 by_cases hr:ou s=true
 ·refine aR (mT (g.own HE.1.2) (g.calm HE.1.1) (Bz s X ex G it t g hs hr) (IT g T t hT) ha (fun x=>bN hs X.env x)) fun Dn σ H ⟨B,F,τ,f,m,q⟩=>?_
  have q0:BK ex (U (jn cl s τ) fun p=>forM (fun x τ=>U (bH T x τ) fun BP=>aB cl a BP) p.1 p.2) (Fk X.K B Dn):=q
  have base:BK ex (dm cl s τ) fun its=>BK ex (forM (fun x τ=>U (bH T x τ) fun BP=>aB cl a BP) its τ) (Fk X.K B Dn):=by
   cases s with
   | CM u=>exact(BK.U (show BK ex (U (dm cl (.CM u) τ) fun its=>.ok (its,τ)) _ from BK.U q0)).mono fun its h=>h.ok
   | DW u v=>exact(BK.U (show BK ex (U (dm cl (.DW u v) τ) fun its=>.ok (its,τ)) _ from BK.U q0)).mono fun its h=>h.ok
   | _=>cases hr
  exact⟨fun _=>True,τ,aJ m.CT,(ox hr base).mono fun p hp H1 e1=>iN (dC T t hT) (m.grow e1) (.FK p.1 p.2) (by rw[rY];exact hp)⟩
 ·refine aR (mT (g.own HE.1.2) (g.calm HE.1.1) (rS s X ex G it t g hs LW.2) (IT g T t hT) ha (fun x=>bN hs X.env x)) fun Dn σ H ⟨B,F,τ,f,m,q⟩=>?_
  have q0:BK ex (U (jn cl s τ) fun p=>forM (fun x τ=>U (bH T x τ) fun BP=>aB cl a BP) p.1 p.2) (Fk X.K B Dn):=q
  have q1:=BK.U q0
  have Nw:jn cl s τ=(U (dm cl s τ) fun its=>.ok (BV its,B6 (dw s) τ)):=by
   cases s with
   | val u=>rfl
   | zip u v=>rfl
   | _=>exact absurd rfl hr
  rw[Nw] at q1
  obtain⟨F1,gg,b1,b2,b3,b4,b5,b6⟩:=cC (dw s) m.B9 m.CT m.Cf
  refine yZ (.refl _) b6 (BK.U q1) fun its J H1 e1 _ w1 hk=>?_
  obtain⟨c1,c2,c3⟩:=grow (fun _=>True) b1 b2 e1
  have m2:Cz X.K B (fun a=>F1 a∨(True/\H a=none/\H1 a≠none)) H1 σ (B6 (dw s) τ) gg:=m.Ef (b4.trans c3 (fun x hx=>.inl (b5 x hx))) c1 c2 b3 fun a ha=>.inl (b5 a ha)
  exact iN (dC T t hT) m2 (w1.step (fun a xs h r=>⟨h.elim (fun z=>.inl z) fun z=>.inr ⟨trivial,z,r.some⟩,r⟩) fun a xs h=>h) hk.ok
mutual
theorem Nx:∀ (a:IS) (X:Cx) (ex:Str->Prop) (G:Gm) (s:Stmt),Cg Z CX cl xp X ex G->jy Z G a s=true->PS X s (RS X.K G.io ex (C1 cl a))
 | .asg tg e,X,ex,G,s,g,h=>by
  cases s with
  | Assign ts v pos=>
   match ts,h with
   | [t],h=>
    have h':(bB G tg t&&BW Z G e v&&(isName t||(isTup t&&notTuple v)))=true:=h
    simp only[Bool.and_eq_true] at h'
    exact Ei g h'.1.1 h'.1.2 h'.2
   | [],h=>first|exact af h|cases h
   | _::_::_,h=>first|exact af h|cases h
  | _=>first|exact af h|cases h
 | .par i j a b,X,ex,G,s,g,h=>by cases s<;>first|exact af h|cases h
 | .HK i k e,X,ex,G,s,g,h=>by cases s<;>first|exact af h|cases h
 | .CQ i k e,X,ex,G,s,g,h=>by
  cases s with
  | Assign ts v pos=>
   cases ts with
   | nil=>first|exact af h|cases h
   | cons t ts=>
    cases ts with
    | cons _ _=>cases t<;>first|exact af h|cases h|(rename_i o _ _;cases o<;>cases h)
    | nil=>
     cases t with
     | Subscript o s sp=>
      cases o with
      | Name x p=>
       have h':(cP G i x&&bx s&&BW Z G k s&&BW Z G e v)=true:=h
       simp only[Bool.and_eq_true] at h'
       exact DH g h'.1.1.1 h'.1.1.2 h'.1.2 h'.2
      | _=>first|exact af h|cases h
     | _=>first|exact af h|cases h
  | _=>first|exact af h|cases h
 | .ext i e,X,ex,G,s,g,h=>by cases s<;>first|exact af h|cases h
 | .ins i k e,X,ex,G,s,g,h=>by cases s<;>first|exact af h|cases h
 | .app i e,X,ex,G,s,g,h=>by
  cases s with
  | Expr v pos=>
   cases v with
   | Call fn args DY BQ=>
    cases fn with
    | Attribute o name apos=>
     cases o with
     | Name x p=>
      match args,DY,h with
      | [v],[],h=>
       have h':(cP G i x&&name == "append"&&apos.endLine == BQ.line&&notStar v&&BW Z G e v)=true:=h
       simp only[Bool.and_eq_true] at h'
       have e1:name = "append":=eq_of_beq h'.1.1.1.2
       subst e1
       exact Ek g h'.1.1.1.1 h'.1.1.2 h'.1.2 h'.2
      | [],_,h=>first|exact af h|cases h
      | [_],_::_,h=>first|exact af h|cases h
      | _::_::_,_,h=>first|exact af h|cases h
     | _=>first|exact af h|cases h
    | _=>first|exact af h|cases h
   | _=>first|exact af h|cases h
  | _=>first|exact af h|cases h
 | .OG i,X,ex,G,s,g,h=>by cases s<;>first|exact af h|cases h
 | .pop j i,X,ex,G,s,g,h=>by cases s<;>first|exact af h|cases h
 | .IH j e,X,ex,G,s,g,h=>by
  have h1:HU s (fun t xf args=>isName t&&bB G (.nm j) t&&xf == "dict"&&G.EO 19&&aD Z G [e] args)=true:=by cases s<;>exact h
  exact Ej g h1
 | .E0 i j,X,ex,G,s,g,h=>by
  have h1:K0 s (fun x n l y=>cP G i x&&n == "update"&&l&&cP G j y&&decide (i≠j))=true:=by cases s<;>exact h
  exact DJ g h1
 | .FT j f es i,X,ex,G,s,g,h=>by
  have h1:HU s (fun t xf args=>isName t&&bB G (.nm j) t&&G.cm&&(aU Z G f xf&&Z.DX.contains f)&&aD Z G (es++[.v i]) args&&!(ak es).contains i&&G.io != some i&&decide (i≠j))=true:=by cases s<;>exact h
  exact DQ g h1
 | .OH i,X,ex,G,s,g,h=>by cases s<;>first|exact af h|cases h
 | .Ky _ _ _,X,ex,G,s,g,h=>by cases s<;>first|exact af h|cases h
 | .exp e,X,ex,G,s,g,h=>by
  cases s with
  | Expr v pos=>
   have h':(gI v&&BW Z G e v)=true:=by cases v<;>first|exact h|(rename_i c _ _;cases c<;>exact h)
   simp only[Bool.and_eq_true] at h'
   exact wV g h'.1 h'.2
  | _=>first|exact af h|cases h
 | .ret e,X,ex,G,s,g,h=>by
  cases s with
  | Return v pos=>
   cases v with
   | none=>first|exact af h|cases h
   | some v=>exact El g h
  | _=>first|exact af h|cases h
 | .He,X,ex,G,s,g,h=>by
  cases s with
  | Return v pos=>
   cases v with
   | none=>exact rX
   | some v=>first|exact af h|cases h
  | _=>first|exact af h|cases h
 | .Cq t a b,X,ex,G,s,g,h=>by
  cases s with
  | If c x y pos=>
   have h':(BW Z G t c&&cn Z G a x&&cn Z G b y)=true:=h
   simp only[Bool.and_eq_true] at h'
   exact Fu (snd t X ex G c g h'.1.1).2 (oy a X ex G x g h'.1.2) (oy b X ex G y g h'.2)
  | _=>first|exact af h|cases h
 | .Cs tg s body,X,ex,G,st,g,h=>by
  cases st with
  | For t it b Si pos=>
   cases Si with
   | cons _ _=>first|exact af h|cases h
   | nil=>
    have h':(((G.cm&&G.rs)&&bB G tg t)&&(bR Z G s it&&d8 s t)&&cn Z G body b)=true:=h
    simp only[Bool.and_eq_true] at h'
    exact Em g h'.1.1 h'.1.2 (oy body X ex G b g h'.2)
  | _=>first|exact af h|cases h
 | .Gq t body,X,ex,G,s,g,h=>by cases s<;>first|exact af h|cases h
 | .brk,X,ex,G,s,g,h=>by
  cases s with
  | Break pos=>exact aR mM fun Dn σ H ⟨B,F,τ,f,m,q⟩=>q.ok _ _ _ _ m
  | _=>first|exact af h|cases h
 | .cnt,X,ex,G,s,g,h=>by
  cases s with
  | Continue pos=>exact aR hW fun Dn σ H ⟨B,F,τ,f,m,q⟩=>q.ok _ _ _ _ m
  | _=>first|exact af h|cases h
 | .pass,X,ex,G,s,g,h=>by
  cases s with
  | Pass pos=>exact aR qL fun Dn σ H ⟨B,F,τ,f,m,q⟩=>q.ok _ _ _ _ m
  | Expr v pos=>
   cases v with
   | Constant c j p=>
    cases c with
    | str z=>exact aR vy fun Dn σ H ⟨B,F,τ,f,m,q⟩=>q.ok _ _ _ _ m
    | _=>first|exact af h|cases h
   | _=>first|exact af h|cases h
  | _=>first|exact af h|cases h
 | .C5 n c w,X,ex,G,s,g,h=>by
  cases s with
  | Raise e cause pos=>
   cases cause with
   | some _=>exact af h
   | none=>
    have h:L1 e (fun x=>G.rs&&G.cm&&aU Z G n x&&x == c&&Z.rc.contains (n,c))=true:=h
    obtain⟨x,np,w',j,p,BQ,rfl,h⟩:=wH h
    have h':(G.rs&&G.cm&&aU Z G n x&&x == c&&Z.rc.contains (n,c))=true:=h
    simp only[Bool.and_eq_true] at h'
    have e:=eq_of_beq h'.1.2
    subst e
    exact nZ g h'.1.1.1.1 h'.1.1.1.2 h'.1.1.2 (by simpa using h'.2)
  | _=>exact af h
 | .Kz body n cs i hd,X,ex,G,s,g,h=>by cases s<;>exact af h
 | .CD n c e,X,ex,G,s,g,h=>by
  have h1:rev s (fun o=>L3 o fun x a=>G.rs&&G.cm&&aU Z G n x&&x == c&&Z.rc.contains (n,c)&&aD Z {G with rs:=false,tr:=false} [e] [a])=true:=by cases s<;>exact h
  obtain⟨o,pos,rfl,h2⟩:=wJ h1
  obtain⟨x,np,a,BQ,rfl,h3⟩:=wK h2
  simp only[Bool.and_eq_true] at h3
  obtain⟨⟨⟨⟨⟨K2,DP⟩,hx⟩,Nf⟩,Sj⟩,Cb⟩:=h3
  have e:=eq_of_beq Nf
  subst e
  exact mC g K2 DP hx (by simpa using Sj) Cb
 | .E1 i f es n cs k hd,X,ex,G,s,g,h=>by
  have h1:KZ s (fun xi xf args xc y b0 r=>G.tr&&G.cm&&wI G i xi&&aU Z G f xf&&Z.FU G f&&aD Z {G with rs:=false,tr:=false} es args&&aU Z G n xc&&cs.all (fun c=>Z.xm.contains (c,n))&&(G.N[k]? == some y&&G.io != some k)&&G.kd[k]? == some .local&&cn Z {G with cm:=false,rs:=false,tr:=false} hd (b0::r))=true:=by cases s<;>exact h
  exact DI g h1 fun tr a ss Sk=>oy hd (cD X a) CF {G with cm:=false,rs:=false,tr:=false} ss (mB g (tr.pl a)) Sk
 | .never,X,ex,G,s,g,h=>aR mP fun Dn σ H ⟨B,F,τ,f,m,q⟩=>q.no.elim
theorem oy:∀ (as:List IS) (X:Cx) (ex:Str->Prop) (G:Gm) (ss:List Stmt),Cg Z CX cl xp X ex G->cn Z G as ss=true->Ey X ss (RS X.K G.io ex (aB cl as))
 | [],X,ex,G,ss,g,h=>by
  cases ss with
  | nil=>exact cR gc fun Dn σ H ⟨B,F,τ,f,m,q⟩=>q.ok _ _ _ _ m
  | cons _ _=>first|exact af h|cases h
 | a::as,X,ex,G,ss,g,h=>by
  cases ss with
  | nil=>first|exact af h|cases h
  | cons s ss=>
   have h':(jy Z G a s&&cn Z G as ss)=true:=h
   simp only[Bool.and_eq_true] at h'
   refine cR (dt (Nx a X ex G s g h'.1) (oy as X ex G ss g h'.2)) fun Dn σ H ⟨B,F,τ,f,m,q⟩=>?_
   refine⟨B,F,τ,f,m,(BK.U q).mono fun r hr=>?_⟩
   cases r with
   | nx BP=>exact fun B4 H' F' f' m'=>⟨B,F',BP,f',m',hr⟩
   | ct BP=>exact hr.ok
   | bk BP=>exact hr.ok
   | rt d=>exact hr.ok
end
end
section
variable {P:Program}{w:World}
theorem gL {outer:List Env}{H:Hp}{s:Shared}{E:XK}{e:Value}{s':Shared}(x:Cm P w H s.heap)(fr:∀ b∈CI outer,H b=none)(h:C7 P w outer (aC s.heap H) s E e s'):C7 P w outer H s E e s':=by
 obtain⟨a,cls,a0,H',B,h1,h2,h3,h4,h5,_,h6,h7,h8⟩:=h
 exact⟨a,cls,a0,b8 H H',B,h1,h2,h3,gB x h4,eS x h5 (cB h4) (fun b o _=>h6 b o) fr,iC,fun b o e n f=>h6 b o e (bg n) f,h7,h8⟩
theorem gM {outer:List Env}{H:Hp}{s:Shared}{e:Value}{s':Shared}:¬ C7 P w outer H s (fun _ _ _=>False) e s':=fun ⟨_,_,_,_,_,_,_,_,_,_,_,_,_,z⟩=>z
variable {K:PySem.W.Frag}{mg:Str->Option Value}{base:Heap}{N:List Str}{qual:Str}{scope:Scope}{f:Addr}{cd:Value}{A:Around}{outer:List Env}{s:Shared}{H:Hp}{E:XK}
theorem tF {H':Hp}{B:Heap}{s2:Shared}{a:Addr}{cls a0:Value}(lt:IM H)(os:s2.os=s.os)(bare:AllBare s2.gens)(fl:Heap.FlyingW B outer a cls a0 s2.heap)(hB:Cm P w H' B)
  (kB:∀ b o,s.heap.get? b=some o->H b=none->b∉CI outer->B.get? b=some o) (hs:∀ b o,s.heap.get? b=some o->H b=none->b∈CI outer->∃ sl,s2.heap.get? b=some {o with slots:=sl})
  (fr:∀ b o,s.heap.get? b=some o->H b=none->H' b=none) (pz:∀ b o u,H b=some (.B6 o u)->H' b=some (.B6 o u)) (pt:∀ b xs,H b=some (.tup xs)->H' b=some (.tup xs)) (hE:E cls none H0):C7 P w outer H s E (.ref a) s2:=by
 refine⟨a,cls,a0,H',B,rfl,os,bare,⟨fun b o e n nf _=>fl.1 _ _ (kB b o e n nf),fun b o e n hf _=>hs b o e n hf,fun b o e n _=>fr b o e n,fun b o e _=>?_,pt,pz,fun b ps e=>?_⟩,hB,fun b o e=>(lt b o e).elim (fun ⟨ob,u,z⟩=>by subst z;exact pz _ _ _ e) fun ⟨xs,z⟩=>by subst z;exact pt _ _ e,kB,fl,hE⟩
 ·cases q:H b with
  | none=>
   by_cases hf:b∈CI outer
   ·obtain⟨sl,h⟩:=hs b o e q hf
    exact⟨_,h⟩
   ·exact⟨_,fl.1 _ _ (kB b o e q hf)⟩
  | some u=>
   have:∃ u',H' b=some u':=by
    rcases lt b u q with ⟨ob,v,rfl⟩|⟨xs,rfl⟩
    ·exact⟨_,pz _ _ _ q⟩
    ·exact⟨_,pt _ _ q⟩
   obtain⟨u',hu⟩:=this
   obtain⟨ob,ho⟩:=(hB b u' hu).at
   exact⟨_,fl.1 _ _ ho⟩
 ·rcases lt b _ e with ⟨ob,v,z⟩|⟨xs,z⟩<;>cases z
theorem tH {b:Addr}{o:Obj}(e:s.heap.get? b=some o)(n:b∉CI outer):b∉CI (envOfC qual scope s.heap.objs.size f cd::outer):=fun z=>by
 unfold CI at z n
 rcases List.mem_filterMap.mp z with ⟨env,hm,hf⟩
 rcases List.mem_cons.mp hm with rfl|hm
 ·have h1:s.heap.objs.size=b:=Option.some.inj hf
  have h2:=Heap.lt_size e
  rw[h1] at h2
  exact Nat.lt_irrefl _ h2
 ·exact n (List.mem_filterMap.mpr ⟨env,hm,hf⟩)
theorem rZ (lt:IM H){ex:Str->Prop}(hE:∀ c C,ex c->PySem.W.nsIn K mainGlobals c=some (some (.ref C))->E (.ref C) none H0) :
  Passes (C7 P w) (cw (C7 P w) P w K mg base N qual scope f cd A outer s H E) (fun cls _ _=>∃ c C,ex c/\PySem.W.nsIn K mainGlobals c=some (some (.ref C))/\cls=.ref C):=by
 intro pins σ H1 s1 e s' I ⟨a,cls,a0,H',B,he,os,bare,un,hB,_,kB,fl,c,C,hc,hn,EW⟩
 subst he EW
 have I':=I.F3 os un (hB.kept fl.1) bare (fun b z=>absurd z (by simp))
 show wpAny _ _ (leaving _ (.ref a)) _ _ s'
 refine wpAny_leaves_onW (show (A.deeper (envOfC qual scope s.heap.objs.size f cd)).frames=some (envOfC qual scope s.heap.objs.size f cd::outer) from I.ok.frames) rfl fl fun h' Sl up=>?_
 refine tF lt I'.os I'.bare Sl hB (fun b o e n nf=>?_) (fun b o e n hf=>?_) (fun b o e n=>I'.base.free b o e n (by simp[cw])) I'.base.CJ I'.base.C2 (hE c C hc hn)
 ·exact kB b o (I.base.keep b o e n nf (by simp[cw])) (I.base.free b o e n (by simp[cw])) (tH e nf)
 ·obtain⟨sl,h1⟩:=I'.base.slot b o e n hf (by simp[cw])
  obtain⟨_,o',DA,nf⟩:=I.ok.CO.mem hf
  have DA:s.heap.get? b=some o':=DA
  rw[e] at DA
  cases DA
  obtain⟨Hw,h2⟩:=up b _ h1 nf
  exact⟨Hw,h2⟩
theorem oz (lt:IM H){pins:List (Addr×Obj)}{σ:St}{H1:Hp}{s1:Shared}{C e:Addr}{h':Heap}{vs:List Value}(hE:E (.ref C) none H0)
  (I:Inv (cw (C7 P w) P w K mg base N qual scope f cd A outer s H E) pins σ H1 s1) (hx:Heap.MadeExcOf s1.heap h' e (.ref C) vs) :
  (cw (C7 P w) P w K mg base N qual scope f cd A outer s H E).xe (.ref e) {s1 with heap:=h'}:=by
 have Ny:∀ env∈(cw (C7 P w) P w K mg base N qual scope f cd A outer s H E).stack,∀ b,env.frame=some b->b∈CI (cw (C7 P w) P w K mg base N qual scope f cd A outer s H E).stack:=fun env he b hb=>List.mem_filterMap.mpr ⟨env,he,hb⟩
 show wpAny _ _ (leaving _ (.ref e)) _ _ _
 refine wpAny_leaves_madeW (base:=PySem.W.hideAll s1.heap (CI (cw (C7 P w) P w K mg base N qual scope f cd A outer s H E).stack)) (h:=s1.heap) (show (A.deeper (envOfC qual scope s.heap.objs.size f cd)).frames=some (envOfC qual scope s.heap.objs.size f cd::outer) from I.ok.frames) rfl (fun b o q=>PySem.W.of_hideAll _ q) (PySem.W.funFrames_hide I.stack Ny) hx fun h2 t fl _ _ up=>?_
 have Ih:∀ b u o,H1 b=some u->s1.heap.get? b=some o->(PySem.W.hideAll s1.heap (CI (cw (C7 P w) P w K mg base N qual scope f cd A outer s H E).stack)).get? b=some o:=fun b u o hu ho=>PySem.W.hideAll_get _ ho fun z=>by
  rw[I.D8 b z] at hu;cases hu
 refine tF (H':=H1) lt I.os I.bare fl (fun b o hb=>?_) (fun b o he n nf=>?_) (fun b o he n hf=>?_) (fun b o e n=>I.base.free b o e n (by simp[cw])) I.base.CJ I.base.C2 hE
 ·refine(I.BY b o hb).Dk (fun c u hc hu=>?_) (fun _ z=>z) fun _ _ z=>z
  rcases hc with rfl|hc
  ·exact Ih _ _ _ hb hu
  ·exact Ih _ _ _ hc hu
 ·exact PySem.W.hideAll_get _ (I.base.keep b o he n nf (by simp[cw])) (tH he nf)
 ·obtain⟨sl,h1⟩:=I.base.slot b o he n hf (by simp[cw])
  obtain⟨_,o',DA,nf⟩:=I.ok.CO.mem hf
  have DA:s.heap.get? b=some o':=DA
  rw[he] at DA
  cases DA
  obtain⟨Hw,h3⟩:=up b _ (hx.keeps b _ h1) nf
  exact⟨Hw,h3⟩
end
def Pd (K:PySem.W.Frag){io:Option Nat}(B:Bs io)(ex:Str->Prop)(g:Ev->Res Fl):TS:=fun Dn σ H=>∃ F τ f,Cz K B F H σ τ f/\BK ex (g τ) (Fk K B Dn)
noncomputable def oA (Z:Sg)(G:Gm):List IS->List Stmt->Bool
 | [],[]=>true
 | a::as,s::ss=>jy Z G a s&&oA Z G as ss
 | _,_=>false
section
variable {Z:Sg}{cl:Nat->List D->Res D}{X:Cx}{ex:Str->Prop}{G:Gm}
theorem Pe (g:Cg Z (C7 X.prog X.w) cl (Fp X.K) X ex G)(Cb:X.stack=X.env::X.outer)(JT:X.env.frame=some X.env.locals)(lt:IM X.Dt)(F7:∀ a:Addr,∀ f∈Z.fns,f∈Z.pl->∀ x,Z.name f=some x->HQ X.prog X.w X.K X.mg X.base (C7 X.prog X.w) (X.A.mark (some (.ref a))) cl (Fp X.K) f x)
  {B0:Bs G.io} (Sm:B0.N=none) (Sn:B0.H=X.Dt) (So:DU B0.F B0.H) (Ss:∀ a xs,¬ B0.L a xs) (Su:∀ a xs,¬ B0.T a xs):∀ (as:List IS) (ss:List Stmt),oA Z G as ss=true->Ey X ss (Pd X.K B0 ex (aB cl as))
 | [],ss,h=>by
  cases ss with
  | nil=>exact cR gc fun Dn σ H ⟨F,τ,f,m,q⟩=>q.ok _ _ _ _ m
  | cons _ _=>cases h
 | a::as,ss,h=>by
  cases ss with
  | nil=>cases h
  | cons s ss=>
   have h':(jy Z G a s&&oA Z G as ss)=true:=h
   rw[Bool.and_eq_true] at h'
   have p1:PS X s (Pd X.K B0 ex (C1 cl a)):=by
    exact aR (Nx a X ex G s g h'.1) fun Dn σ H ⟨F,τ,f,m,q⟩=>⟨B0,F,τ,f,m,q⟩
   refine cR (dt p1 (Pe g Cb JT lt F7 Sm Sn So Ss Su as ss h'.2)) fun Dn σ H ⟨F,τ,f,m,q⟩=>?_
   refine⟨F,τ,f,m,(BK.U q).mono fun r hr=>?_⟩
   cases r with
   | nx BP=>exact fun B4 H' F' f' m'=>⟨F',BP,f',m',hr⟩
   | ct BP=>exact hr.ok
   | bk BP=>exact hr.ok
   | rt d=>exact hr.ok
end
noncomputable def ka (Z:Sg)(fn:Fn)(ps:List Str)(st:Stmt):Bool:=
 (ax st).kind == .function&&!(ax st).isCoroutine&&!(ax st).isGenerator&&decide (fn.G.N.Nodup)&&fn.G.N.take ps.length == ps
&&ps.all (fun x=>(ax st).names.lookup x == some .local||(ax st).names.lookup x == some .cell)&&(ax st).names.all (fun y=>y.2 != .free)
&&(List.range fn.G.N.length).all (fun i=>(fn.G.N[i]?).bind ((ax st).names.lookup ·) == fn.G.kd[i]?)
&&fn.G.N.all (fun x=>!(x == "__debug__")&&!(x == "__classdict__"))
&&fn.G.gl.all (fun n=>match Z.name n with|some x=>(ax st).names.lookup x == some .globalImplicit|none=>false)
&&decide (ps.length=fn.np)
noncomputable def aV (Z:Sg)(fn:Fn)(ps:List Str)(st:Stmt):Bool:=ka Z fn ps st&&(fn.io.isNone&&oA Z fn.G fn.body (aM st))
noncomputable def L6:List Stmt->(Expr->Bool)->Bool
 | [.Return (some v) _],k=>k v
 | _,_=>false
theorem wW {ss:List Stmt}{k:Expr->Bool}(h:L6 ss k=true):∃ v pos,ss=[.Return (some v) pos]/\k v=true:=by
 unfold L6 at h
 split at h
 ·exact⟨_,_,rfl,h⟩
 ·cases h
noncomputable def fT (Z:Sg)(G:Gm)(e:IR):List IS->List Stmt->Bool
 | [],ss=>L6 ss fun v=>BW Z G e v
 | a::as,s::ss=>jy Z G a s&&fT Z G e as ss
 | _,_=>false
noncomputable def ei (Z:Sg)(fn:Fn)(ps:List Str)(st:Stmt):Bool:=ka Z fn ps st&&(match fn.io with
 | some e=>fT Z fn.G e fn.body (aM st)&&fn.G.io == some (fn.np - 1)&&decide (0 < fn.np)&&!fn.G.tr
 | none=>false)
structure GA (Z:Sg)(fn:Fn)(ps:List Str)(st:Stmt):Prop where
 sc:D9 fn.G.N ps (ax st)
 kd:∀ (i:Nat) (x:Str),fn.G.N[i]? = some x->(ax st).names.lookup x=fn.G.kd[i]?
 Fq:∀ x∈fn.G.N,(x == ("__debug__" : Str))=false/\(x == ("__classdict__" : Str))=false
 gl:∀ n∈fn.G.gl,∀ x,Z.name n=some x->(ax st).names.lookup x=some .globalImplicit
 np:ps.length=fn.np
structure Fv (Z:Sg)(fn:Fn)(ps:List Str)(st:Stmt):Prop extends GA Z fn ps st where
 pl:fn.io=none
 body:oA Z fn.G fn.body (aM st)=true
structure GB (Z:Sg)(fn:Fn)(ps:List Str)(st:Stmt):Prop extends GA Z fn ps st where
 ex:∃ e,fn.io=some e/\fT Z fn.G e fn.body (aM st)=true/\fn.G.io=some (fn.np - 1)/\0 < fn.np/\fn.G.tr=false
theorem iO {Z:Sg}{fn:Fn}{ps:List Str}{st:Stmt}(h:ka Z fn ps st=true):GA Z fn ps st:=by
 unfold ka at h
 simp only[Bool.and_eq_true] at h
 obtain⟨⟨⟨⟨⟨⟨⟨⟨⟨⟨h1,h2⟩,h3⟩,h4⟩,h5⟩,h6⟩,h7⟩,h8⟩,h9⟩,HD⟩,Jz⟩:=h
 rw[List.all_eq_true] at h6 h7 h8 h9 HD
 refine⟨⟨eq_of_beq h1,by simpa using h2,by simpa using h3,of_decide_eq_true h4,eq_of_beq h5,fun x hx=>?_,fun y hy=>by simpa using h7 y hy⟩,fun i x hx=>?_,fun x hx=>by simpa using h9 x hx,fun n hn x hx=>?_,of_decide_eq_true Jz⟩
 ·have:=h6 x hx
  rw[Bool.or_eq_true] at this
  exact this.elim (fun z=>.inl (eq_of_beq z)) fun z=>.inr (eq_of_beq z)
 ·have CY:i < fn.G.N.length:=(List.getElem?_eq_some_iff.mp hx).1
  have:=eq_of_beq (h8 i (List.mem_range.mpr CY))
  rw[hx] at this
  exact this
 ·have:=HD n hn
  rw[hx] at this
  exact eq_of_beq this
theorem iP {Z:Sg}{fn:Fn}{ps:List Str}{st:Stmt}(h:aV Z fn ps st=true):Fv Z fn ps st:=by
 unfold aV at h
 rw[Bool.and_eq_true,Bool.and_eq_true] at h
 exact⟨iO h.1,Option.isNone_iff_eq_none.mp h.2.1,h.2.2⟩
theorem oB {Z:Sg}{fn:Fn}{ps:List Str}{st:Stmt}(h:ei Z fn ps st=true):GB Z fn ps st:=by
 unfold ei at h
 rw[Bool.and_eq_true] at h
 obtain⟨h1,h2⟩:=h
 refine⟨iO h1,?_⟩
 cases z:fn.io with
 | none=>rw[z] at h2;cases h2
 | some e=>
  rw[z] at h2
  have h2:(fT Z fn.G e fn.body (aM st)&&fn.G.io == some (fn.np - 1)&&decide (0 < fn.np)&&!fn.G.tr)=true:=h2
  simp only[Bool.and_eq_true] at h2
  exact⟨e,rfl,h2.1.1.1,eq_of_beq h2.1.1.2,of_decide_eq_true h2.1.2,by simpa using h2.2⟩
structure GC (K:PySem.W.Frag)(mg:Str->Option Value)(Z:Sg)(T:Tb)(f:Nat)(x:Str):Prop where
 ex:∃ (fn:Fn) (st:Stmt) (fa:Addr) (fd:FuncData) (ps:List Str),T f=some fn/\HA K x x st fa fd/\mg x=some (.ref fa)/\Binds K fd ps []/\GB Z fn ps st
structure Cn (K:PySem.W.Frag)(mg:Str->Option Value)(Z:Sg)(T:Tb)(f:Nat)(x:Str):Prop where
 ex:∃ (fn:Fn) (st:Stmt) (fa:Addr) (fd:FuncData) (ps:List Str),T f=some fn/\HA K x x st fa fd/\mg x=some (.ref fa)/\Binds K fd ps []/\Fv Z fn ps st
section
variable {P:Program}{w:World}{K:PySem.W.Frag}{mg:Str->Option Value}{base:Heap}{Z:Sg}{T:Tb}
def Ce (mg:Str->Option Value)(x:Str)(v:V):Prop:=(∃ C,v=.ref C/\mg x=some (.ref C))∨(∃ T,v=.ty T/\mg x=none/\bootBuiltins x=some (.type T))
structure D5 (K:PySem.W.Frag)(mg:Str->Option Value)(Z:Sg)(T:Tb):Prop where
 FV:∀ n x,Z.name n=some x->x≠"__name__"/\(x == ("__debug__" : Str))=false
 blt:∀ (n:Nat) (x:Str),bb[n]? = some x->mg x=none
 cst:∀ n d x,(n,d)∈Z.JG->Z.name n=some x->∃ u v,mg x=some u/\RelV v u/\∀ S H,BL K S H v d
 fns:∀ f∈Z.fns,∀ x,Z.name f=some x->Cn K mg Z T f x
 DX:∀ f∈Z.DX,∀ x,Z.name f=some x->GC K mg Z T f x
 Pf:∀ f∈Z.pl,∀ fn,T f=some fn->fn.G.cm=false
 Gv:∀ n∈Z.cls,∀ x,Z.name n=some x->∃ v,Ce mg x v
 FE:∀ c n b x,(c,n,b)∈Z.xt->Z.name n=some x->∃ C,PySem.W.nsIn K mainGlobals c=some (some (.ref C))/\ExcAt K C/\∀ v,Ce mg x v->PySem.W.kitOne K (.ref C) (vv v)=some b
 Gw:∀ c n x,(c,n)∈Z.xm->Z.name n=some x->∃ C C',PySem.W.nsIn K mainGlobals c=some (some (.ref C))/\PySem.W.nsIn K mainGlobals x=some (some (.ref C'))/\nameIn K C=some c/\mg x=some (.ref C')/\PySem.W.exmOne K (.ref C) (.ref C')=some true
 FW:∀ n c,(n,c)∈Z.rc->Z.name n=some c/\∃ C,mg c=some (.ref C)/\PySem.W.nsIn K mainGlobals c=some (some (.ref C))/\PySem.W.excIn K C JH "ValueError.__new__" = true
theorem fU {F:Addr->Prop}{H:Hp}:∀ {vs:List V}{ds:List D} (n:Nat),BJ K F H vs ds->Cc K F H (vs.map some++List.replicate n none) ((BV ds).map some++List.replicate n none) []
 | [],[],n,.nil=>by
  induction n with
  | zero=>exact .nil
  | succ n ih=>exact .none ih
 | v::vs,d::ds,n,.cons h1 h2=>.some (f:=[]) h1.frozen (fU n h2)
structure Rm (n:Nat)(A:Around):Prop where
 dp:A.depth+3*n+5 < recursionLimit
 un:A.units+16*n+200 < cLine
theorem Rm.room {n:Nat}{A:Around}(r:Rm n A)(hn:n < 900)(h:A.handled=none):CW n A:=⟨fun _=>h,by have:=r.dp;rw[Nat.mod_eq_of_lt (by omega)];exact this,by have:=r.un;rw[Nat.mod_eq_of_lt (by omega)];exact this⟩
theorem Rm.HY {n:Nat}{A:Around}(r:Rm n A)(hn:n < 900):CW (1000+n) A:=⟨fun z=>by omega,by have:=r.dp;rw[show (1000+n) % 1000=n by omega];exact this,by have:=r.un;rw[show (1000+n) % 1000=n by omega];exact this⟩
theorem Rm.of {n k:Nat}{A:Around}(r:CW k A)(h:k % 1000=n):Rm n A:=⟨by have:=r.dp;rw[h] at this;exact this,by have:=r.un;rw[h] at this;exact this⟩
theorem gN (t:D5 K mg Z T){n k:Nat}{f:Nat}{fn:Fn}{x:Str}{st:Stmt}{fa:Addr}{fd:FuncData}{ps:List Str}(hk:k % 1000=n)(hn:n < 900)(h1:T f=some fn)(h2:HA K x x st fa fd)(h5:Fv Z fn ps st)(hp:k < 1000∨fn.G.cm=false)
  (ih:∀ (A:Around),Rm n A->∀ f∈Z.fns,(A.handled=none∨f∈Z.pl)->∀ x,Z.name f=some x->HQ P w K mg base (C7 P w) A (aa T n) (Fp K) f x)
  (Jg:∀ (A:Around),Rm n A->∀ f∈Z.DX,A.handled=none->∀ x,Z.name f=some x->LU P w K mg base (C7 P w) A (aa T n) f x) :
  Df P w K mg base (C7 P w) (k+1) fa fd ps (Hh K (aa T (n+1)) (Fp K) f ps):=by
 have DR:∀ ds,aa T (n+1) f ds=cH (aa T n) fn ds:=fun ds=>by
  show (match T f with|some fn=>(match fn.io with|none=>cH (aa T n) fn ds|some e=>cI (aa T n) fn e ds)|none=>BR)=_
  rw[h1]
  show (match fn.io with|none=>cH (aa T n) fn ds|some e=>cI (aa T n) fn e ds)=_
  rw[h5.pl]
 obtain⟨oc,od,kV,doc,pm,an,DM,ct,GX,rfl,lk,F4⟩:=h2.ex
 refine sT lk F4 h5.sc (by omega) (fun vs H Q E h=>h.1) fun A outer s H vs Q E hr Er=>?_
 obtain⟨hl,lt,F,ds,B9,m,q⟩:=Er
 have DP:fn.G.cm=true->A.handled=none:=fun z=>hp.elim (fun h=>hr.hd h) fun h=>by rw[h] at z;cases z
 refine⟨_,Pe (Z:=Z) (cl:=aa T n) (ex:=Fp K E H) (G:=fn.G) (B0:=⟨F,H,fun _ _=>False,fun _ _=>False,none⟩) ?_ rfl rfl lt (fun a f' D6 Jh x' Dz=>ih ((A.deeper (envOfC x (ax st) s.heap.objs.size fa DM)).mark (some (.ref a))) ⟨(Rm.of hr hk).dp,(Rm.of hr hk).un⟩ f' D6 (.inr Jh) x' Dz) rfl rfl B9 (fun _ _ z=>z) (fun _ _ z=>z) fn.body (aM st) h5.body,?_⟩
 ·refine⟨rfl,h5.sc.nd,fun z=>by show A.handled.isNone=true;rw[DP z];rfl,h5.sc.kind,?_,fun _=>PassesOwn.leaving,fun i y hy=>h5.kd i y hy,fun i y hy=>h5.Fq y (List.mem_of_getElem? hy),fun m hm y hy=>h5.gl m hm y hy,t.FV,fun _ _=>rfl,t.blt,t.cst,?_,fun f' D6 z x' Dz=>Jg _ (Rm.of hr hk) f' D6 (DP z) x' Dz,t.Gv,t.FE,t.Gw,t.FW,?_,?_,?_,?_,?_⟩
  ·have:=hr.un
   show (A.deeper _).units+42 < cLine
   omega
  ·exact fun f' D6 hc x' Dz=>ih _ (Rm.of hr hk) f' D6 (hc.elim (fun z=>.inl (DP z)) .inr) x' Dz
  ·exact fun _ pins σ H1 s1 c C h' e vs I hex hn hx=>oz lt (hex C hn) I hx
  ·exact fun _=>⟨rfl,rfl,lt,fun a f' D6 Jh x' Dz=>ih ((A.deeper (envOfC x (ax st) s.heap.objs.size fa DM)).mark (some (.ref a))) ⟨(Rm.of hr hk).dp,(Rm.of hr hk).un⟩ f' D6 (.inr Jh) x' Dz,fun _ _ _ _ _ _ z=>z,fun c C H' hC TZ Pg=>by rw[hC] at Pg;cases Pg;rfl⟩
  ·exact⟨_,rZ (ex:=Fp K E H) lt fun c C hc hn=>hc C hn,fun c H' hc C hn=>⟨c,C,hc,hn,rfl⟩⟩
  ·exact fun outer H s E e s' x fr h=>gL x fr h
  ·exact fun H outer s e s'=>gM
 ·rw[DR] at q
  obtain⟨gd,q⟩:=BK.BN q
  have GI:(BV ds).length=fn.np:=of_decide_eq_true gd
  have DZ:fn.G.N.length - vs.length=fn.G.N.length - fn.np:=by rw[m.length,<- bo ds,GI]
  refine⟨F,(BV ds).map some++List.replicate (fn.G.N.length - fn.np) none,[],⟨B9,?_,List.nodup_nil,.refl _,fun a ha=>absurd ha (by simp),fun a h=>h,fun a h=>.inl h,fun a xs h=>h.elim,fun a xs h=>h.elim,fun _ _ _ z=>by cases z⟩,(BK.U q).mono fun r hr=>?_⟩
  ·show Cc K F H (start fn.G.N vs) _ []
   unfold start
   rw[DZ]
   exact fU _ m
  ·cases r with
   | nx BP=>exact fun B4 H' F' f' m'=>hr.ok .B5 H' F' [] ⟨m'.B9,m'.same,.B5,List.nodup_nil,fun a ha=>absurd ha (by simp),m'.C8,m'.out⟩
   | rt d=>exact fun v H' F' fv o=>hr.ok v H' F' fv o
   | bk BP=>exact hr.no.elim
   | ct BP=>exact hr.no.elim
theorem iQ {F:Addr->Prop}{H:Hp}{a:Addr}{d:D}(hd:B3 K F H (.ref a) d [a]):∀ {vs:List V}{ds:List D} (n:Nat),BJ K F H vs ds->Cc K F H ((vs++[V.ref a]).map some++List.replicate n none) ((BV ds++[d]).map some++List.replicate n none) [a]
 | [],[],n,.nil=>by
  have h0:Cc K F H (List.replicate n none) (List.replicate n none) []:=iK (by simp)
  exact .some (f:=[a]) (g:=[]) hd h0
 | v::vs,d::ds,n,.cons h1 h2=>.some (f:=[]) h1.frozen (iQ hd n h2)
theorem fV (o:Bool)(ks:List Key)(es:List D):∀ ds:List D,l8 (ds++[.BU o ks es])=ds++[.BU true ks es]
 | []=>rfl
 | [d]=>rfl
 | d::d'::ds=>by
  show d::l8 (d'::ds++[.BU o ks es])=_
  rw[fV o ks es (d'::ds)]
  rfl
def Ph (K:PySem.W.Frag){io:Option Nat}(B:Bs io)(cl:Nat->List D->Res D)(e:IR)(as:List IS):TS:=fun Dn σ H=>∃ F τ f,Cz K B F H σ τ f/\BK CF (aB cl as τ) fun r=>∃ BP,r=.nx BP/\BK CF (CS cl true e BP) fun p=>
 ∀ B4 F' H' JN IW v fv f' IY,Cz K B F' H' B4 BP f'->Ow K F' H' f' JN IW B4 v p.1 fv p.2 IY->Dn.rt v IW
theorem Pj {CX:C6}{cl:Nat->List D->Res D}{xp:XK->Hp->Str->Prop}{X:Cx}{G:Gm}(g:Cg Z CX cl xp X CF G)(B:Bs G.io){e:IR}:∀ (as:List IS) (ss:List Stmt),fT Z G e as ss=true->Ey X ss (Ph X.K B cl e as)
 | [],ss,h=>by
  obtain⟨v,pos,rfl,hv⟩:=wW (show L6 ss (fun v=>BW Z G e v)=true by cases ss<;>exact h)
  have p1:PS X (.Return (some v) pos) (Ph X.K B cl e []):=aR (mO (KY e true X CF G v g hv)) fun Dn σ H ⟨F,τ,f,m,q⟩=>by
   obtain⟨BP,e',q'⟩:=q.ok
   cases e'
   exact m.ro q' fun p v H' F' fv f' o hp=>hp σ F H F' H' v fv f f' m o
  exact cR (dt p1 gc) fun Dn σ H ⟨F,τ,f,m,q⟩=>⟨F,τ,f,m,q⟩
 | a::as,ss,h=>by
  cases ss with
  | nil=>cases h
  | cons s ss=>
   have h':(jy Z G a s&&fT Z G e as ss)=true:=h
   rw[Bool.and_eq_true] at h'
   refine cR (dt (Nx a X CF G s g h'.1) (Pj g B as ss h'.2)) fun Dn σ H ⟨F,τ,f,m,q⟩=>?_
   refine⟨B,F,τ,f,m,(BK.U q).mono fun r hr=>?_⟩
   cases r with
   | nx BP=>exact fun B4 H' F' f' m'=>⟨F',BP,f',m',hr⟩
   | ct BP=>obtain⟨_,z,_⟩:=hr.ok;cases z
   | bk BP=>obtain⟨_,z,_⟩:=hr.ok;cases z
   | rt d=>obtain⟨_,z,_⟩:=hr.ok;cases z
theorem oC (t:D5 K mg Z T){n k:Nat}{f:Nat}{fn:Fn}{x:Str}{st:Stmt}{fa:Addr}{fd:FuncData}{ps:List Str}(hk:k % 1000=n)(hn:n < 900)(h1:T f=some fn)(h2:HA K x x st fa fd)(h5:GB Z fn ps st)(hp:k < 1000)
  (ih:∀ (A:Around),Rm n A->∀ f∈Z.fns,(A.handled=none∨f∈Z.pl)->∀ x,Z.name f=some x->HQ P w K mg base (C7 P w) A (aa T n) (Fp K) f x)
  (Jg:∀ (A:Around),Rm n A->∀ f∈Z.DX,A.handled=none->∀ x,Z.name f=some x->LU P w K mg base (C7 P w) A (aa T n) f x) :
  Df P w K mg base (C7 P w) (k+1) fa fd ps (KI K (aa T (n+1)) f ps):=by
 obtain⟨e,FI,F9,Pk,Jc,JE⟩:=h5.ex
 have DR:∀ ds,aa T (n+1) f ds=cI (aa T n) fn e ds:=fun ds=>by
  show (match T f with|some fn=>(match fn.io with|none=>cH (aa T n) fn ds|some e=>cI (aa T n) fn e ds)|none=>BR)=_
  rw[h1]
  show (match fn.io with|none=>cH (aa T n) fn ds|some e=>cI (aa T n) fn e ds)=_
  rw[FI]
 obtain⟨oc,od,kV,doc,pm,an,DM,ct,GX,rfl,lk,F4⟩:=h2.ex
 refine sT lk F4 h5.sc (by omega) (fun vs H Q E h=>h.1) fun A outer s H vs Q E hr Er=>?_
 obtain⟨hl,a,F,ws,ds,kvs,es,rfl,AI,d,ER,DV,hc,Nl,q⟩:=Er
 have DP:A.handled=none:=hr.hd hp
 refine⟨_,Pj (Z:=Z) (CX:=C7 P w) (cl:=aa T n) (xp:=Fp K) (G:=fn.G) ?_ ⟨F,rm a H,fun _ _=>False,fun _ _=>False,some a⟩ fn.body (aM st) F9,?_⟩
 ·refine⟨rfl,h5.sc.nd,fun z=>by show A.handled.isNone=true;rw[DP];rfl,h5.sc.kind,?_,fun _=>PassesOwn.leaving,fun i y hy=>h5.kd i y hy,fun i y hy=>h5.Fq y (List.mem_of_getElem? hy),fun m hm y hy=>h5.gl m hm y hy,t.FV,fun _ _=>rfl,t.blt,t.cst,fun f' D6 hc x' Dz=>ih _ (Rm.of hr hk) f' D6 (.inl DP) x' Dz,fun f' D6 z x' Dz=>Jg _ (Rm.of hr hk) f' D6 DP x' Dz,t.Gv,t.FE,t.Gw,t.FW,fun _ pins σ H1 s1 c C h' e vs I hex hn hx=>hex.elim,(fun z=>by rw[JE] at z;cases z),⟨fun _ _ _=>False,fun pins σ H s e s' _ h=>(gM h).elim,fun c H z=>z.elim⟩,fun outer H s E e s' x fr h=>gL x fr h,fun H outer s e s'=>gM⟩
  have:=hr.un
  show (A.deeper _).units+42 < cLine
  omega
 ·rw[DR] at hc
  unfold cI at hc
  obtain⟨gd,hc⟩:=gw hc
  have GI:(BV ds++[D.BU false (kvs.map (·.1)) es]).length=fn.np:=of_decide_eq_true gd
  rw[fV] at hc
  obtain⟨r,Sw,hc⟩:=bI hc
  have Pl:ws.length=fn.np - 1:=by
   rw[List.length_append,bo] at GI
   rw[AI.ws.length,<- GI]
   simp
  have DZ:fn.G.N.length - (ws++[V.ref a]).length=fn.G.N.length - fn.np:=by
   rw[List.length_append,Pl]
   show fn.G.N.length - (fn.np - 1+1)=_
   rw[Nat.sub_add_cancel Jc]
  have m0:B3 K F H (.ref a) (.BU true (kvs.map (·.1)) es) [a]:=.Ec AI.nF AI.at_ rfl (BJ.free (bh AI.lf) AI.vs)
  refine⟨F,(BV ds++[D.BU true (kvs.map (·.1)) es]).map some++List.replicate (fn.G.N.length - fn.np) none,[a],⟨AI.B9,?_,by simp,zh,fun b hb=>by rw[List.mem_singleton.mp hb];exact bT,fun b h=>h,fun b h=>.inl h,fun b xs h=>h.elim,fun b xs h=>h.elim,fun j b e1 e2=>?_⟩,?_⟩
  ·show Cc K F H (start fn.G.N (ws++[.ref a])) _ [a]
   unfold start
   rw[DZ]
   exact iQ m0 _ AI.ws
  ·rw[Pk] at e1
   cases e1
   cases e2
   show (start fn.G.N (ws++[.ref a]))[fn.np - 1]? = _
   unfold start
   rw[<- Pl,List.map_append,List.append_assoc,List.getElem?_append_right (by simp)]
   simp
  ·rw[Sw]
   cases r with
   | nx BP=>
    obtain⟨p,Sy,hc⟩:=bI (show U (CS (aa T n) true e BP) (KC (fn.np - 1))=.ok _ from hc)
    refine⟨BP,rfl,?_⟩
    rw[Sy]
    intro B4 F' H' JN IW v fv f' IY m o
    unfold KC at hc
    split at hc
    ·rename_i Je T1 zs
     obtain⟨gs,hc⟩:=gw hc
     cases hc
     obtain⟨mo,hb⟩:=m.ow o
     obtain⟨l,Lb,g1,Dc,hF,hH,Jb,O6,HN,Sz⟩:=dG mo.CT zs (bh gs)
     have JR:=mo.nm _ _ Pk rfl
     rw[Dc] at JR
     cases JR
     refine q v IW JN fv Lb ⟨Fk.HX m o,hF,fun z=>?_,hH,Jb,(O6.read (S:=fun _=>True) (fun _ _=>trivial) fun _ _=>trivial).sc gs⟩
     exact(List.nodup_append.mp o.Cf).2.2 _ z _ (Sz.mem_iff.mpr (List.mem_cons.mpr (.inl rfl))) rfl
    ·cases hc
   | bk _=>cases hc
   | ct _=>cases hc
   | rt _=>cases hc
theorem fg (t:D5 K mg Z T):∀ (n:Nat),n < 900->(∀ (A:Around),Rm n A->∀ f∈Z.fns,(A.handled=none∨f∈Z.pl)->∀ x,Z.name f=some x->HQ P w K mg base (C7 P w) A (aa T n) (Fp K) f x)/\
  ∀ (A:Around),Rm n A->∀ f∈Z.DX,A.handled=none->∀ x,Z.name f=some x->LU P w K mg base (C7 P w) A (aa T n) f x
 | 0,h9=>by
  refine⟨fun A hr f hf hc x hx=>?_,fun A hr f hf hc x hx=>?_⟩
  ·obtain⟨fn,st,fa,fd,ps,h1,h2,h3,h4,h5⟩:=(t.fns f hf x hx).ex
   have no:∀ vs H Q E,¬ Hh K (aa T 0) (Fp K) f ps vs H Q E:=fun vs H Q E ⟨_,_,F,ds,_,_,h⟩=>h
   exact⟨1000+0,fa,fd,ps,h3,h2.kp,h4,⟨fun vs H Q E h=>h.1,fun A outer s H args us vs Q E _ _ _ _ h=>(no _ _ _ _ h).elim⟩,hr.HY h9,fun ex ds k h=>h.elim⟩
  ·obtain⟨fn,st,fa,fd,ps,h1,h2,h3,h4,h5⟩:=(t.DX f hf x hx).ex
   have no:∀ vs H Q E,¬ KI K (aa T 0) f ps vs H Q E:=fun vs H Q E ⟨_,a,F,ws,ds,kvs,es,_,_,d,ER,DV,h,_⟩=>by cases h
   exact⟨0,fa,fd,ps,h3,h2.kp,h4,⟨fun vs H Q E h=>h.1,fun A outer s H args us vs Q E _ _ _ _ h=>(no _ _ _ _ h).elim⟩,hr.room h9 hc,fun ds r h=>by cases h⟩
 | n+1,h9=>by
  obtain⟨ih,Jg⟩:=fg t n (by omega)
  refine⟨fun A hr f hf hc x hx=>?_,fun A hr f hf hc x hx=>?_⟩
  ·obtain⟨fn,st,fa,fd,ps,h1,h2,h3,h4,h5⟩:=(t.fns f hf x hx).ex
   have hlen:∀ (ex:Str->Prop) ds (k:D->Prop),BK ex (aa T (n+1) f ds) k->ds.length=ps.length:=fun ex ds k h=>by
    have DR:aa T (n+1) f ds=cH (aa T n) fn ds:=by
     show (match T f with|some fn=>(match fn.io with|none=>cH (aa T n) fn ds|some e=>cI (aa T n) fn e ds)|none=>BR)=_
     rw[h1]
     show (match fn.io with|none=>cH (aa T n) fn ds|some e=>cI (aa T n) fn e ds)=_
     rw[h5.pl]
    rw[DR] at h
    obtain⟨gd,_⟩:=BK.BN h
    rw[of_decide_eq_true gd,h5.np]
   by_cases F7:f∈Z.pl
   ·exact⟨1000+n+1,fa,fd,ps,h3,h2.kp,h4,gN t (k:=1000+n) (n:=n) (by omega) (by omega) h1 h2 h5 (.inr (t.Pf f F7 fn h1)) ih Jg,hr.HY h9,hlen⟩
   ·exact⟨n+1,fa,fd,ps,h3,h2.kp,h4,gN t (k:=n) (n:=n) (by omega) (by omega) h1 h2 h5 (.inl (by omega)) ih Jg,hr.room h9 (hc.elim id fun z=>absurd z F7),hlen⟩
  ·obtain⟨fn,st,fa,fd,ps,h1,h2,h3,h4,h5⟩:=(t.DX f hf x hx).ex
   obtain⟨e,FI,_⟩:=h5.ex
   refine⟨n+1,fa,fd,ps,h3,h2.kp,h4,oC t (k:=n) (n:=n) (by omega) (by omega) h1 h2 h5 (by omega) ih Jg,hr.room h9 hc,fun ds r h=>?_⟩
   have DR:aa T (n+1) f ds=cI (aa T n) fn e ds:=by
    show (match T f with|some fn=>(match fn.io with|none=>cH (aa T n) fn ds|some e=>cI (aa T n) fn e ds)|none=>BR)=_
    rw[h1]
    show (match fn.io with|none=>cH (aa T n) fn ds|some e=>cI (aa T n) fn e ds)=_
    rw[FI]
   rw[DR] at h
   obtain⟨gd,_⟩:=gw h
   rw[of_decide_eq_true gd,h5.np]
theorem r6 (t:D5 K mg Z T)(n:Nat)(hn:n < 900):∀ (A:Around),Rm n A->∀ f∈Z.fns,(A.handled=none∨f∈Z.pl)->∀ x,Z.name f=some x->HQ P w K mg base (C7 P w) A (aa T n) (Fp K) f x:=(fg t n hn).1
end
section
variable {P:Program}{w:World}{K:PySem.W.Frag}{mg:Str->Option Value}{base:Heap}{Z:Sg}{T:Tb}
theorem Ce.fn {mg:Str->Option Value}{x:Str}{v v':V}(h:Ce mg x v)(h':Ce mg x v'):v=v':=by
 rcases h with ⟨C,rfl,h1⟩|⟨T,rfl,h1,h2⟩<;>rcases h' with ⟨C',rfl,k1⟩|⟨T',rfl,k1,k2⟩
 ·rw[h1] at k1;cases k1;rfl
 ·rw[h1] at k1;cases k1
 ·rw[h1] at k1;cases k1
 ·rw[h2] at k2;cases k2;rfl
noncomputable def JW (K:PySem.W.Frag)(cl:Nat->List D->Res D)(f:Nat)(ps:List Str):Sp:=fun vs H Q E=>vs.length=ps.length/\∃ F ds,DU F H/\BJ K F H vs ds/\
 BK CF (cl f (BV ds)) fun d=>∀ v H' F' fv,Out K F H F' H' v d fv->Q v H'
theorem oD {cl:Nat->List D->Res D}{k f:Nat}{fa:Addr}{fd:FuncData}{ps:List Str}(F:Df P w K mg base (C7 P w) k fa fd ps (Hh K cl (Fp K) f ps)):Df P w K mg base (C7 P w) k fa fd ps (JW K cl f ps):=by
 refine⟨fun vs H Q E h=>h.1,fun A outer s H args us vs Q E hr e0 bd r Er=>?_⟩
 obtain⟨hl,Fc,ds,B9,m,q⟩:=Er
 have e1:EY P w K mg base A outer s (aC s.heap H):=⟨e0.frames,e0.mod,fun b o e=>⟨(e0.bs b o e).1,bg (e0.bs b o e).2⟩,e0.Fw,e0.CO,fun b hb=>bg (e0.D7 b hb),jr e0.BY,e0.bare⟩
 have hq:BK (Fp K E (aC s.heap H)) (cl f (BV ds)) fun d=>∀ v H' F' fv,Out K Fc H F' H' v d fv->Q v H':=by
  cases z:cl f (BV ds) with
  | ok d=>rw[z] at q;exact q
  | error er=>
   rw[z] at q
   cases er with
   | stuck=>exact q.no.elim
   | exc c=>exact False.elim q
 have hs:Hh K cl (Fp K) f ps vs (aC s.heap H) (fun v H'=>Ee s.heap (aC s.heap H) H'->Q v (b8 H H')) E:=
  ⟨hl,jq _ _,_,ds,fun a h=>h.2,ee e0.BY m,hq.mono fun d hd v H' F' fv o p=>hd v _ _ fv (eh e0.BY B9 p o)⟩
 refine codeAny_mono (F.run A outer s (aC s.heap H) args us vs _ E hr e1 bd r hs) fun r' s' hq=>?_
 cases r' with
 | error e=>exact gL e0.BY e0.D7 hq
 | ok fl=>
  cases fl with
  | ret u=>
   obtain⟨v,H',a1,a2,a3,a4,a5,a6⟩:=hq
   exact⟨v,b8 H H',a1,a2,gB e0.BY a3,eS e0.BY a4 (cB a3) (fs:=CI outer) (fun b o _ e n f=>a3.keep b o e n f (by simp)) e0.D7,a5,a6 (cB a3)⟩
  | next=>exact hq
  | brk=>exact hq
  | cont=>exact hq
theorem wX (t:D5 K mg Z T)(n:Nat)(hn:n < 900){f:Nat}{fn:Fn}{x:Str}{st:Stmt}{fa:Addr}{fd:FuncData}{ps:List Str}(h1:T f=some fn)(h2:HA K x x st fa fd)(h5:Fv Z fn ps st):Df P w K mg base (C7 P w) (n+1) fa fd ps (JW K (aa T (n+1)) f ps):=
 oD (gN t (k:=n) (n:=n) (by omega) hn h1 h2 h5 (.inl (by omega)) (r6 t n hn) (fg t n hn).2)
theorem wY {f n:Nat}{x:Str}{a:Addr}{H:Hp}{ns:List Int}(hS:Ls K H a (ns.map V.int))(hl:aa T n f [.lst false (ns.map .int)]=.ok (.bl true)) :
  JW K (aa T n) f [x] [.ref a] H (fun v _=>v=.bl true) fun _ _ _=>False:=by
 have m:BJ K (fun a=>H a≠none) H [.ref a] [.lst false (ns.map .int)]:=by
  refine .cons ?_ .nil
  rcases hS with hS|hS
  ·exact .lst hS.some hS (BJ.ofInts ns)
  ·exact .lstK hS (BJ.ofInts ns)
 refine⟨rfl,fun a=>H a≠none,[.lst false (ns.map .int)],fun a h=>h,m,?_⟩
 have he:BV [.lst false (ns.map .int)]=[D.lst false (ns.map .int)]:=by
  rw[BV,BV,er,bP,List.map_map]
  rfl
 rw[he,hl]
 intro v H' F' fv o
 cases o.rep
 rfl
theorem oE {l:PySem.W.OpenLaw}{q:Program}{loose:List Str}{XP:(Str->Option Value)->Heap->Prop}{YP:World->Heap->Prop}{d:DefRec}{K:Params->PySem.W.Frag}{T:Tb}{n f:Nat}{x:Str}(hn:l.most=some 63)(Ke:d.params.defaults=[])(hr:CW (n+1) callerA)
  (hY:∀ (w:World) (h:Heap),YP w h->(K w.params).In h)
  (F:∀ (w:World) (mg:Str->Option Value) (fa:Addr) (h:Heap),(K w.params).In h->h.Ns mainGlobals mg->mg d.name=some (.ref fa)->
   ∃ fd:FuncData,(∀ (s:Shared) (u:Value),BindsTo s fd ⟨[u],[]⟩ [(x,u)])/\∀ base:Heap,(K w.params).In base->base.Ns mainGlobals mg->Df l.prog w (K w.params) mg base (C7 l.prog w) (n+1) fa fd [x] (JW (K w.params) (aa T (n+1)) f [x]))
  (hl:∀ ns:List Int,ns.length<=63->aa T (n+1) f [.lst false (ns.map .int)]=.ok (.bl true)) :
  PySem.W.WalkO q loose XP YP l.row.toRowW d [] (fun f vs=>PySem.call f vs):=
 L2.qZ (n:=63) (k:=n+1) (x:=x) (CX:=fun w=>C7 l.prog w) (sp:=fun w=>JW (K w.params) (aa T (n+1)) f [x]) hn (by decide) Ke hr hY F (fun w H a ns h1 _ hS=>wY hS (hl ns h1)) fun _ _ _ _ _ z=>gM z
end
namespace Ev
section
variable {α β:Type}{cl:Nat->List D->Res D}{τ:Ev}{mv:Bool}
theorem kb {a:α}{f:α->Res β}:U (.ok a) f=f a:=rfl
theorem tI {x:Res α}:BN true x=x:=rfl
theorem Pm {d:D}:BM cl (.c d) τ=.ok d:=rfl
theorem Pn {n:Nat}{d:D}:BM cl (.g n d) τ=.ok d:=rfl
theorem Po {i:Nat}:BM cl (.v i) τ=(match aj τ i with|some d=>.ok d|none=>BR):=rfl
noncomputable def zl (cl:Nat->List D->Res D)(op:Gn)(b:IR)(τ:Ev)(x:D):Res D:=U (BM cl b τ) (DT op x)
theorem oF {op:Gn}{b:IR}{x:D}:zl cl op b τ x=U (BM cl b τ) (DT op x):=rfl
theorem tJ {op:Gn}{a b:IR}:BM cl (.bin op a b) τ=U (BM cl a τ) (zl cl op b τ):=rfl
noncomputable def zm:D->Res D
 | .int i=>.ok (.int (-i))
 | _=>BR
theorem tK {a:IR}:BM cl (.neg a) τ=U (BM cl a τ) zm:=rfl
theorem oG {i:Int}:zm (.int i)=.ok (.int (-i)):=rfl
noncomputable def Nz (r:Bool):Res D:=.ok (.bl r)
theorem tL {r:Bool}:Nz r=.ok (.bl r):=rfl
noncomputable def oH (op:FC)(x y:D):Res D:=U (EK op x y) Nz
theorem kc {op:FC}{x y:D}:oH op x y=U (EK op x y) Nz:=rfl
noncomputable def zo (cl:Nat->List D->Res D)(op:FC)(b:IR)(τ:Ev)(x:D):Res D:=U (BM cl b τ) (oH op x)
theorem oI {op:FC}{b:IR}{x:D}:zo cl op b τ x=U (BM cl b τ) (oH op x):=rfl
theorem tM {op:FC}{a b:IR}:BM cl (.cmp op a b) τ=U (BM cl a τ) (zo cl op b τ):=rfl
noncomputable def oJ (cl:Nat->List D->Res D)(b:IR)(τ:Ev)(x:D)(r:Bool):Res D:=if r=true then BM cl b τ else .ok x
theorem ke {b:IR}{x:D}{r:Bool}:oJ cl b τ x r=if r=true then BM cl b τ else .ok x:=rfl
noncomputable def zp (cl:Nat->List D->Res D)(b:IR)(τ:Ev)(x:D):Res D:=U (aT x) (oJ cl b τ x)
theorem oK {b:IR}{x:D}:zp cl b τ x=U (aT x) (oJ cl b τ x):=rfl
theorem tN {a b:IR}:BM cl (.EH a b) τ=U (BM cl a τ) (zp cl b τ):=rfl
noncomputable def wZ (cl:Nat->List D->Res D)(b:IR)(τ:Ev)(x:D)(r:Bool):Res D:=if r=true then .ok x else BM cl b τ
theorem oM {b:IR}{x:D}{r:Bool}:wZ cl b τ x r=if r=true then .ok x else BM cl b τ:=rfl
noncomputable def Pp (cl:Nat->List D->Res D)(b:IR)(τ:Ev)(x:D):Res D:=U (aT x) (wZ cl b τ x)
theorem tO {b:IR}{x:D}:Pp cl b τ x=U (aT x) (wZ cl b τ x):=rfl
theorem zq {a b:IR}:BM cl (.EI a b) τ=U (BM cl a τ) (Pp cl b τ):=rfl
noncomputable def tupK (ds:List D):Res D:=BN (aY ds.length) (.ok (.tup ds))
theorem oO {ds:List D}:tupK ds=BN (aY ds.length) (.ok (.tup ds)):=rfl
theorem tQ {es:List IR}:BM cl (.tup es) τ=U (aG cl es τ) tupK:=rfl
noncomputable def lstK (ds:List D):Res D:=BN (aY ds.length) (.ok (.lst true ds))
theorem oP {ds:List D}:lstK ds=BN (aY ds.length) (.ok (.lst true ds)):=rfl
theorem tR {es:List IR}:BM cl (.lst es) τ=U (aG cl es τ) lstK:=rfl
noncomputable def zr (cl:Nat->List D->Res D)(i:IR)(τ:Ev)(x:D):Res D:=U (BM cl i τ) (bu x)
theorem oQ {i:IR}{x:D}:zr cl i τ x=U (BM cl i τ) (bu x):=rfl
theorem tU {a i:IR}:BM cl (.idx a i) τ=U (BM cl a τ) (zr cl i τ):=rfl
noncomputable def w8 (cl:Nat->List D->Res D)(hi:Option IR)(τ:Ev)(x:D)(l:Option Int):Res D:=U (gv cl hi τ) (gr x l)
theorem oR {hi:Option IR}{x:D}{l:Option Int}:w8 cl hi τ x l=U (gv cl hi τ) (gr x l):=rfl
noncomputable def Pq (cl:Nat->List D->Res D)(lo hi:Option IR)(τ:Ev)(x:D):Res D:=U (gv cl lo τ) (w8 cl hi τ x)
theorem tV {lo hi:Option IR}{x:D}:Pq cl lo hi τ x=U (gv cl lo τ) (w8 cl hi τ x):=rfl
theorem zt {a:IR}{lo hi:Option IR}:BM cl (.sl a lo hi) τ=U (BM cl a τ) (Pq cl lo hi τ):=rfl
noncomputable def tX (cl:Nat->List D->Res D)(f:Nat)(ds:List D):Res D:=cl f (BV ds)
theorem kg {f:Nat}{ds:List D}:tX cl f ds=cl f (BV ds):=rfl
theorem oS {f:Nat}{es:List IR}:BM cl (.call f es) τ=U (aG cl es τ) (tX cl f):=rfl
theorem zu {f:Bi}{es:List IR}:BM cl (.bi f es) τ=U (aG cl es τ) (bX f):=rfl
noncomputable def tY (cl:Nat->List D->Res D)(k:IR)(τ:Ev)(x:D):Res D:=U (BM cl k τ) (iu x)
theorem kh {k:IR}{x:D}:tY cl k τ x=U (BM cl k τ) (iu x):=rfl
theorem oT {a k:IR}:BM cl (.Cj a k) τ=U (BM cl a τ) (tY cl k τ):=rfl
noncomputable def w9 (n:Bool)(y x:D):Res D:=iw n x y
noncomputable def zw (cl:Nat->List D->Res D)(n:Bool)(a:IR)(τ:Ev)(y:D):Res D:=U (BM cl a τ) (w9 n y)
theorem oU {n:Bool}{a:IR}{y:D}:zw cl n a τ y=U (BM cl a τ) (w9 n y):=rfl
theorem tZ {n:Bool}{k a:IR}:BM cl (.FP n k a) τ=U (BM cl k τ) (zw cl n a τ):=rfl
theorem oV {a:IR}:BM cl (.Ea a) τ=U (BM cl a τ) jS:=rfl
theorem oW {a:IR}:BM cl (.EJ a) τ=U (BM cl a τ) jR:=rfl
noncomputable def xa (x y z:D):Res D:=jk x y z
noncomputable def xb (cl:Nat->List D->Res D)(e:IR)(τ:Ev)(x y:D):Res D:=U (BM cl e τ) (xa x y)
theorem oX {e:IR}{x y:D}:xb cl e τ x y=U (BM cl e τ) (xa x y):=rfl
noncomputable def zx (cl:Nat->List D->Res D)(k e:IR)(τ:Ev)(x:D):Res D:=BN (jj x) (U (BM cl k τ) (xb cl e τ x))
theorem ki {a k e:IR}:BM cl (.Dr a k e) τ=U (BM cl a τ) (zx cl k e τ):=rfl
noncomputable def zA (cl:Nat->List D->Res D)(m:Mt)(es:List IR)(τ:Ev)(x:D):Res D:=BN (dg x) (U (aG cl es τ) (eP m x))
theorem oY {m:Mt}{es:List IR}{x:D}:zA cl m es τ x=BN (dg x) (U (aG cl es τ) (eP m x)):=rfl
theorem ua {m:Mt}{o:IR}{es:List IR}:BM cl (.Gp m o es) τ=U (BM cl o τ) (zA cl m es τ):=rfl
noncomputable def xg (ds:List D):Res D:=.ok (.lst true ds)
theorem oZ {ds:List D}:xg ds=.ok (.lst true ds):=rfl
noncomputable def ub (cl:Nat->List D->Res D)(G:Gm)(fr:List Nat)(T:Tg)(I:List IR)(E:IR)(τ:Ev)(its:List D):Res D:=BN (cN its.length) (U (Dj (ba (bc cl T I E (E5 G fr τ)) its)) xg)
theorem kj {G:Gm}{fr:List Nat}{T:Tg}{I:List IR}{E:IR}{its:List D}:ub cl G fr T I E τ its=BN (cN its.length) (U (Dj (ba (bc cl T I E (E5 G fr τ)) its)) xg):=rfl
theorem o4 {G:Gm}{fr:List Nat}{T:Tg}{s:Sr}{I:List IR}{E:IR}:BM cl (.comp G fr T s I E) τ=U (dm cl s τ) (ub cl G fr T I E τ):=rfl
theorem zB:aG cl [] τ=.ok []:=rfl
noncomputable def o5 (d:D)(ds:List D):Res (List D):=.ok (d::ds)
theorem kl {d:D}{ds:List D}:o5 d ds=.ok (d::ds):=rfl
noncomputable def Pt (cl:Nat->List D->Res D)(es:List IR)(τ:Ev)(d:D):Res (List D):=U (aG cl es τ) (o5 d)
theorem uc {es:List IR}{d:D}:Pt cl es τ d=U (aG cl es τ) (o5 d):=rfl
theorem zC {e:IR}{es:List IR}:aG cl (e::es) τ=U (BM cl e τ) (Pt cl es τ):=rfl
noncomputable def zD:D->Res (Option Int)
 | .int i=>.ok (some i)
 | _=>BR
theorem o6 {i:Int}:zD (.int i)=.ok (some i):=rfl
theorem zE:gv cl none τ=.ok none:=rfl
theorem zF {e:IR}:gv cl (some e) τ=U (BM cl e τ) zD:=rfl
theorem zG:dh cl [] τ=.ok true:=rfl
noncomputable def Pu (cl:Nat->List D->Res D)(es:List IR)(τ:Ev)(r:Bool):Res Bool:=if r=true then dh cl es τ else .ok false
theorem ud {es:List IR}{r:Bool}:Pu cl es τ r=if r=true then dh cl es τ else .ok false:=rfl
theorem zH {e:IR}{es:List IR}:dh cl (e::es) τ=U (U (BM cl e τ) aT) (Pu cl es τ):=rfl
noncomputable def ue:D->Res (List D)
 | .int i=>BN (bK i) (.ok (bM 0 i))
 | _=>BR
theorem ko {i:Int}:ue (.int i)=BN (bK i) (.ok (bM 0 i)):=rfl
theorem zI {n:IR}:dm cl (.CM n) τ=U (BM cl n τ) ue:=rfl
theorem uf {e:IR}:dm cl (.val e) τ=U (BM cl e τ) gu:=rfl
theorem zJ {o:Bool}{ds:List D}:gu (.lst o ds)=.ok ds:=rfl
theorem Pw {t:IR}:KA cl t τ=U (BM cl t τ) aT:=rfl
theorem LZ {i:Nat}:CS cl mv (.v i) τ=(match aj τ i with|some d=>if mv=true then .ok (d,τ.set i none) else .ok (er d,τ.set i (some (er d)))|none=>BR):=rfl
noncomputable def ug (p:List D×Ev):Res (D×Ev):=BN (aY p.1.length) (.ok (.tup p.1,p.2))
theorem kq {p:List D×Ev}:ug p=BN (aY p.1.length) (.ok (.tup p.1,p.2)):=rfl
theorem Fs {es:List IR}:CS cl mv (.tup es) τ=U (eQ cl mv es τ) ug:=rfl
noncomputable def uh (p:List D×Ev):Res (D×Ev):=BN (aY p.1.length) (.ok (.lst true p.1,p.2))
theorem kr {p:List D×Ev}:uh p=BN (aY p.1.length) (.ok (.lst true p.1,p.2)):=rfl
theorem Ft {es:List IR}:CS cl mv (.lst es) τ=U (eQ cl mv es τ) uh:=rfl
noncomputable def gO (es:List IR)(τ:Ev)(d:D):Res (D×Ev):=if aw d=true then .ok (d,τ) else .ok (d,B6 (ak es) τ)
theorem fW {es:List IR}{d:D}:gO es τ d=if aw d=true then .ok (d,τ) else .ok (d,B6 (ak es) τ):=rfl
noncomputable def o7 (cl:Nat->List D->Res D)(f:Nat)(es:List IR)(τ:Ev)(ds:List D):Res (D×Ev):=U (cl f (BV ds)) (gO es τ)
theorem iR {f:Nat}{es:List IR}{ds:List D}:o7 cl f es τ ds=U (cl f (BV ds)) (gO es τ):=rfl
theorem Eg {f:Nat}{es:List IR}:CS cl mv (.call f es) τ=U (aG cl es τ) (o7 cl f es τ):=rfl
noncomputable def c8 (e:IR)(τ:Ev)(d:D):Res (D×Ev):=.ok (aN e d τ)
theorem ku {e:IR}{d:D}:c8 e τ d=.ok (aN e d τ):=rfl
theorem Px {d:D}:CS cl mv (.c d) τ=U (BM cl (.c d) τ) (c8 (.c d) τ):=rfl
theorem Py {n:Nat}{d:D}:CS cl mv (.g n d) τ=U (BM cl (.g n d) τ) (c8 (.g n d) τ):=rfl
theorem ui {op:Gn}{a b:IR}:CS cl mv (.bin op a b) τ=U (BM cl (.bin op a b) τ) (c8 (.bin op a b) τ):=rfl
theorem uj {op:FC}{a b:IR}:CS cl mv (.cmp op a b) τ=U (BM cl (.cmp op a b) τ) (c8 (.cmp op a b) τ):=rfl
theorem uk {a i:IR}:CS cl mv (.idx a i) τ=U (BM cl (.idx a i) τ) (c8 (.idx a i) τ):=rfl
theorem zK {a:IR}{lo hi:Option IR}:CS cl mv (.sl a lo hi) τ=U (BM cl (.sl a lo hi) τ) (c8 (.sl a lo hi) τ):=rfl
theorem zL {f:Bi}{es:List IR}:CS cl mv (.bi f es) τ=U (BM cl (.bi f es) τ) (c8 (.bi f es) τ):=rfl
theorem Eh:CS cl mv .Dh τ=.ok (.BU true [] [],τ):=rfl
theorem um {m:Mt}{o:IR}{es:List IR}:CS cl mv (.Gp m o es) τ=U (BM cl (.Gp m o es) τ) (c8 (.Gp m o es) τ):=rfl
theorem o8 {G:Gm}{fr:List Nat}{T:Tg}{s:Sr}{I:List IR}{E:IR}:CS cl mv (.comp G fr T s I E) τ=U (BM cl (.comp G fr T s I E) τ) (c8 (.comp G fr T s I E) τ):=rfl
theorem zM:eQ cl mv [] τ=.ok ([],τ):=rfl
noncomputable def xh (d:D)(q:List D×Ev):Res (List D×Ev):=.ok (d::q.1,q.2)
theorem o9 {d:D}{q:List D×Ev}:xh d q=.ok (d::q.1,q.2):=rfl
noncomputable def Pz (cl:Nat->List D->Res D)(mv:Bool)(es:List IR)(p:D×Ev):Res (List D×Ev):=U (eQ cl mv es p.2) (xh p.1)
theorem uo {es:List IR}{p:D×Ev}:Pz cl mv es p=U (eQ cl mv es p.2) (xh p.1):=rfl
theorem zN {e:IR}{es:List IR}:eQ cl mv (e::es) τ=U (CS cl mv e τ) (Pz cl mv es):=rfl
noncomputable def NA (d:D):Res (Option D):=.ok (some d)
theorem uq {d:D}:NA d=.ok (some d):=rfl
noncomputable def xj (cl:Nat->List D->Res D)(E:IR)(τ:Ev)(r:Bool):Res (Option D):=if r=true then U (BM cl E τ) NA else .ok none
theorem pd {E:IR}{r:Bool}:xj cl E τ r=if r=true then U (BM cl E τ) NA else .ok none:=rfl
noncomputable def PB (cl:Nat->List D->Res D)(I:List IR)(E:IR)(τ:Ev):Res (Option D):=U (dh cl I τ) (xj cl E τ)
theorem ur {I:List IR}{E:IR}:PB cl I E τ=U (dh cl I τ) (xj cl E τ):=rfl
theorem kx {T:Tg}{I:List IR}{E:IR}{x:D}:bc cl T I E τ x=U (bH T x τ) (PB cl I E):=rfl
theorem pk {G:Gm}{fr:List Nat}:E5 G fr τ=fr.map (aj τ)++List.replicate (G.N.length - fr.length) none:=rfl
theorem PD {e:IR}{i:Int}:aN e (.int i) τ=(.int i,τ):=rfl
theorem PF {e:IR}{x:Str}:aN e (.str x) τ=(.str x,τ):=rfl
theorem PH {e:IR}{b:Bool}:aN e (.bl b) τ=(.bl b,τ):=rfl
theorem PJ {e:IR}:aN e .B5 τ=(.B5,τ):=rfl
noncomputable def JX (BP:Ev):Res Fl:=.ok (.nx BP)
theorem uu:JX τ=.ok (.nx τ):=rfl
noncomputable def zO (tg:Tg)(p:D×Ev):Res Fl:=U (bH tg p.1 p.2) JX
theorem pq {tg:Tg}{p:D×Ev}:zO tg p=U (bH tg p.1 p.2) JX:=rfl
theorem Ei {tg:Tg}{e:IR}:C1 cl (.asg tg e) τ=U (CS cl false e τ) (zO tg):=rfl
noncomputable def xk (i:Nat)(p:D×Ev):Option D->Res Fl
 | some (.lst true ds)=>BN (cN ds.length) (.ok (.nx (p.2.set i (some (.lst true (ds++[p.1]))))))
 | _=>BR
noncomputable def xl (i:Nat)(p:D×Ev):Res Fl:=xk i p (aj p.2 i)
theorem pC {i:Nat}{p:D×Ev}:xl i p=xk i p (aj p.2 i):=rfl
noncomputable def zP (cl:Nat->List D->Res D)(i:Nat)(e:IR)(τ:Ev):Option D->Res Fl
 | some (.lst _ _)=>U (CS cl false e τ) (xl i)
 | _=>BR
theorem pD {i:Nat}{e:IR}{o:Bool}{ds:List D}:zP cl i e τ (some (.lst o ds))=U (CS cl false e τ) (xl i):=rfl
theorem pE {i:Nat}{p:D×Ev}{ds:List D}:xk i p (some (.lst true ds))=BN (cN ds.length) (.ok (.nx (p.2.set i (some (.lst true (ds++[p.1])))))):=rfl
noncomputable def cp (cl:Nat->List D->Res D)(i:Nat)(k:IR)(τ:Ev)(d:D):Option D->Res Fl
 | some (.BU true ks ds)=>U (BM cl k τ) fun y=>(match bY y with|some q=>BN (aw d&&aq ds&&cN ks.length) (.ok (.nx (τ.set i (some (.BU true (bJ ks q) (bt ks ds q d))))))|none=>BR)
 | _=>BR
theorem ej {i:Nat}{k:IR}{d:D}{ks:List Key}{ds:List D}{x:Str}(h:BM cl k τ=.ok (.str x))(hl:(aw d&&aq ds&&cN ks.length)=true):cp cl i k τ d (some (.BU true ks ds))=.ok (.nx (τ.set i (some (.BU true (bJ ks (.inr x)) (bt ks ds (.inr x) d))))):=by
 show (U (BM cl k τ) fun y=>(match bY y with|some q=>BN (aw d&&aq ds&&cN ks.length) (.ok (Fl.nx (τ.set i (some (.BU true (bJ ks q) (bt ks ds q d))))))|none=>BR))=_
 rw[h]
 show BN _ _=_
 rw[hl]
 rfl
noncomputable def uv (cl:Nat->List D->Res D)(i:Nat)(k:IR)(τ:Ev)(d:D):Res Fl:=cp cl i k τ d (aj τ i)
theorem ky {i:Nat}{k:IR}{d:D}:uv cl i k τ d=cp cl i k τ d (aj τ i):=rfl
theorem DH {i:Nat}{k e:IR}:C1 cl (.CQ i k e) τ=U (BM cl e τ) (uv cl i k τ):=rfl
noncomputable def zQ (j:Nat)(τ:Ev)(d:D):Res Fl:=U (l5 j τ d) JX
theorem pF {j:Nat}{d:D}:zQ j τ d=U (l5 j τ d) JX:=rfl
theorem Ej {j:Nat}{e:IR}:C1 cl (.IH j e) τ=U (BM cl e τ) (zQ j τ):=rfl
theorem DJ {i j:Nat}:C1 cl (.E0 i j) τ=U (nA i τ (aj τ i) (aj τ j)) JX:=rfl
noncomputable def BA (cl:Nat->List D->Res D)(j f:Nat)(es:List IR)(i:Nat)(τ:Ev):Option D->Res Fl
 | some (.BU true ks vs)=>BN (aI vs) (U (aG cl es τ) fun ds=>U (Dj (cl f (BV ds++[D.BU false ks vs]))) (l7 j i (B6 (ak es) τ)))
 | _=>BR
theorem DQ {j f:Nat}{es:List IR}{i:Nat}:C1 cl (.FT j f es i) τ=BA cl j f es i τ (aj τ i):=by
 show (match aj τ i with|some (.BU true ks vs)=>BN (aI vs) (U (aG cl es τ) fun ds=>U (Dj (cl f (BV ds++[D.BU false ks vs]))) (l7 j i (B6 (ak es) τ)))|_=>BR)=_
 rcases aj τ i with _|d
 ·rfl
 ·cases d<;>first|rfl|(rename_i o ks ds;cases o<;>rfl)
theorem Ek {i:Nat}{e:IR}:C1 cl (.app i e) τ=zP cl i e τ (aj τ i):=rfl
noncomputable def PK (p:D×Ev):Res Fl:=.ok (.rt p.1)
theorem uw {p:D×Ev}:PK p=.ok (.rt p.1):=rfl
theorem El {e:IR}:C1 cl (.ret e) τ=U (CS cl true e τ) PK:=rfl
noncomputable def PL (cl:Nat->List D->Res D)(a b:List IS)(τ:Ev)(r:Bool):Res Fl:=if r=true then aB cl a τ else aB cl b τ
theorem ux {a b:List IS}{r:Bool}:PL cl a b τ r=if r=true then aB cl a τ else aB cl b τ:=rfl
theorem pG {n:Nat}{c w:Str}:C1 cl (.C5 n c w) τ=.error (.exc c):=rfl
noncomputable def zR (c:Str)(d:D):Res Fl:=.error (.exc c)
theorem pH {c:Str}{d:D}:zR c d=.error (.exc c):=rfl
theorem kz {n:Nat}{c:Str}{e:IR}:C1 cl (.CD n c e) τ=U (Dj (BM cl e τ)) (zR c):=rfl
noncomputable def pI (k:Nat):Fl->Res Fl
 | .nx BP=>.ok (.nx (BP.set k none))
 | _=>BR
theorem kA {k:Nat}:pI k (.nx τ)=.ok (.nx (τ.set k none)):=rfl
noncomputable def kC (cl:Nat->List D->Res D)(i:Nat)(es:List IR)(cs:List Str)(k:Nat)(h:List IS)(τ:Ev):Res D->Res Fl
 | .ok d=>if aw d=true then .ok (.nx (τ.set i (some d))) else .ok (.nx ((B6 (ak es) τ).set i (some d)))
 | .error (.exc c)=>BN (cs.contains c) (U (Dj (aB cl h (τ.set k (some (.exc c))))) (pI k))
 | .error .stuck=>BR
noncomputable def uy (cl:Nat->List D->Res D)(i f:Nat)(es:List IR)(cs:List Str)(k:Nat)(h:List IS)(τ:Ev)(ds:List D):Res Fl:=kC cl i es cs k h τ (cl f (BV ds))
theorem kD {i f:Nat}{es:List IR}{cs:List Str}{k:Nat}{h:List IS}{ds:List D}:uy cl i f es cs k h τ ds=kC cl i es cs k h τ (cl f (BV ds)):=rfl
theorem iS {i:Nat}{es:List IR}{cs:List Str}{k:Nat}{h:List IS}{d:D}:kC cl i es cs k h τ (.ok d)=if aw d=true then .ok (.nx (τ.set i (some d))) else .ok (.nx ((B6 (ak es) τ).set i (some d))):=rfl
theorem kE {i:Nat}{es:List IR}{cs:List Str}{k:Nat}{h:List IS}{c:Str}:kC cl i es cs k h τ (.error (.exc c))=BN (cs.contains c) (U (Dj (aB cl h (τ.set k (some (.exc c))))) (pI k)):=rfl
theorem DI {i f:Nat}{es:List IR}{n:Nat}{cs:List Str}{k:Nat}{h:List IS}:C1 cl (.E1 i f es n cs k h) τ=U (Dj (aG cl es τ)) (uy cl i f es cs k h τ):=by
 show U (Dj (aG cl es τ)) _=U (Dj (aG cl es τ)) _
 congr 1
theorem uz {x:Str}{a:IR}{y:Option Str}:BM cl (.FQ x a y) τ=U (BM cl a τ) (nB x y):=rfl
theorem pJ {x:Str}{y:Option Str}{z:Str}:nB x y (.str z)=BN (aY (x.length+(reprText z).length+(y.getD Str.empty).length)) (.ok (.str (x++reprText z++y.getD Str.empty))):=rfl
theorem uA {α β:Type}{c:Str}{f:α->Res β}:U (.error (.exc c)) f=.error (.exc c):=rfl
theorem zS {c:Str}:er (.exc c)=.exc c:=rfl
theorem Fu {t:IR}{a b:List IS}:C1 cl (.Cq t a b) τ=U (KA cl t τ) (PL cl a b τ):=rfl
noncomputable def turn (cl:Nat->List D->Res D)(tg:Tg)(body:List IS)(x:D)(τ:Ev):Res Fl:=U (bH tg x τ) (aB cl body)
theorem aE {tg:Tg}{body:List IS}{x:D}:turn cl tg body x τ=U (bH tg x τ) (aB cl body):=rfl
noncomputable def zT (cl:Nat->List D->Res D)(tg:Tg)(body:List IS)(p:List D×Ev):Res Fl:=forM (turn cl tg body) p.1 p.2
theorem pK {tg:Tg}{body:List IS}{p:List D×Ev}:zT cl tg body p=forM (turn cl tg body) p.1 p.2:=rfl
theorem Em {tg:Tg}{s:Sr}{body:List IS}:C1 cl (.Cs tg s body) τ=U (jn cl s τ) (zT cl tg body):=rfl
noncomputable def iT (f:Ev->Res Fl):Fl->Res Fl
 | .nx BP=>f BP
 | .ct BP=>.ok (.ct BP)
 | .bk BP=>.ok (.bk BP)
 | .rt d=>.ok (.rt d)
theorem zU:aB cl [] τ=.ok (.nx τ):=rfl
theorem zV {s:IS}{r:List IS}:aB cl (s::r) τ=U (C1 cl s τ) (iT (aB cl r)):=rfl
theorem uB {f:Ev->Res Fl}:iT f (.nx τ)=f τ:=rfl
theorem uC {f:Ev->Res Fl}{d:D}:iT f (.rt d)=.ok (.rt d):=rfl
noncomputable def zW (τ:Ev)(its:List D):Res (List D×Ev):=.ok (its,τ)
theorem pL {its:List D}:zW τ its=.ok (its,τ):=rfl
noncomputable def uD (e:IR)(τ:Ev)(its:List D):Res (List D×Ev):=.ok (BV its,B6 (vars e) τ)
theorem kF {e:IR}{its:List D}:uD e τ its=.ok (BV its,B6 (vars e) τ):=rfl
theorem uE {n:IR}:jn cl (.CM n) τ=U (dm cl (.CM n) τ) (zW τ):=rfl
theorem uF {e:IR}:jn cl (.val e) τ=U (dm cl (.val e) τ) (uD e τ):=rfl
noncomputable def zX (body:D->Ev->Res Fl)(xs:List D):Fl->Res Fl
 | .nx BP=>forM body xs BP
 | .ct BP=>forM body xs BP
 | .bk BP=>.ok (.nx BP)
 | .rt d=>.ok (.rt d)
theorem cQ {body:D->Ev->Res Fl}{x:D}{xs:List D}:forM body (x::xs) τ=U (body x τ) (zX body xs):=rfl
theorem zY {body:D->Ev->Res Fl}{xs:List D}:zX body xs (.nx τ)=forM body xs τ:=rfl
theorem zZ {i:Nat}{d:D}:bH (.nm i) d τ=.ok (τ.set i (some d)):=rfl
theorem Aa {ts:List Tg}{ds:List D}:bH (.tp ts) (.tup ds) τ=BN (decide (ds.length=ts.length)) (dv ts ds τ):=rfl
theorem uG:dv [] [] τ=.ok τ:=rfl
theorem uH {t:Tg}{ts:List Tg}{d:D}{ds:List D}:dv (t::ts) (d::ds) τ=U (bH t d τ) (dv ts ds):=rfl
theorem Ab {o:Option D}:aj (o::τ) 0=o:=by unfold aj;simp
theorem Ac {o:Option D}{i:Nat}:aj (o::τ) (i+1)=aj τ i:=bf
theorem uI {o p:Option D}:(o::τ).set 0 p=p::τ:=rfl
theorem uJ {o p:Option D}{i:Nat}:(o::τ).set (i+1) p=o::τ.set i p:=rfl
theorem uK {a b:Int}:DT .add (.int a) (.int b)=.ok (.int (a+b)):=rfl
theorem jB {a b:Str}:DT .add (.str a) (.str b)=BN (aY (a.length+b.length)) (.ok (.str (a++b))):=rfl
theorem pM {o o':Bool}{a b:List D}:DT .add (.lst o a) (.lst o' b)=BN (aY (a.length+b.length)) (.ok (.lst true (a++b))):=rfl
theorem uL {a b:Int}:DT .sub (.int a) (.int b)=.ok (.int (a - b)):=rfl
theorem uM {a b:Int}:DT .mul (.int a) (.int b)=BN (decide (-(2 ^ 64) < a/\a < 2 ^ 64)||decide (-(2 ^ 64) < b/\b < 2 ^ 64)) (.ok (.int (a*b))):=rfl
theorem xn {a b:Int}:DT .fdiv (.int a) (.int b)=BN (decide (0 < b/\b < 1073741824)) (.ok (.int (a / b))):=rfl
theorem Ad {a b:Int}:DT .mod (.int a) (.int b)=BN (decide (0 < b)) (.ok (.int (a % b))):=rfl
theorem L7 {o:Bool}{ds:List D}{i:Int}:bu (.lst o ds) (.int i)=(match Dw ds i with|some d=>.ok d|none=>BR):=rfl
theorem L8 {ds:List D}{i:Int}:bu (.tup ds) (.int i)=(match Dw ds i with|some d=>.ok d|none=>BR):=rfl
theorem SA {z:Str}{i:Int}:bu (.str z) (.int i)=BN (aY z.length) (match Dw z.cps.toList i with|some c=>.ok (.str ⟨#[c]⟩)|none=>BR):=rfl
theorem Ae {o:Bool}{ds:List D}{lo hi:Option Int}:gr (.lst o ds) lo hi=.ok (.lst true (cY ds lo hi)):=rfl
theorem Af {z:Str}{lo hi:Option Int}:gr (.str z) lo hi=BN (aY z.length) (.ok (.str (Txt.slice z lo hi))):=rfl
theorem Ag {b:Bool}:aT (.bl b)=.ok b:=rfl
theorem Ah {a b:D}:EK .eq a b=Cy 40 a b:=by cases a<;>cases b<;>rfl
noncomputable def Ai (r:Bool):Res Bool:=.ok !r
theorem pN {r:Bool}:Ai r=.ok !r:=rfl
theorem Aj {a b:D}:EK .ne a b=U (Cy 40 a b) Ai:=by cases a<;>cases b<;>rfl
theorem Ak {n:Nat}{a b:Int}:Cy (n+1) (.int a) (.int b)=.ok (a == b):=rfl
theorem xq {n:Nat}{a b:Str}:Cy (n+1) (.str a) (.str b)=.ok (a == b):=rfl
theorem Am {n:Nat}{o o':Bool}{a b:List D}:Cy (n+1) (.lst o a) (.lst o' b)=bE (Cy n) a b:=rfl
theorem An {f:D->D->Res Bool}:bE f [] []=.ok true:=rfl
theorem Ao {f:D->D->Res Bool}{a:D}{r:List D}:bE f (a::r) []=.ok false:=rfl
theorem Ap {a b:Int}:EK .lt (.int a) (.int b)=.ok (decide (a < b)):=rfl
theorem Aq {a b:Int}:EK .le (.int a) (.int b)=.ok (decide (a<=b)):=rfl
theorem Ar {a b:Int}:EK .gt (.int a) (.int b)=.ok (decide (b < a)):=rfl
theorem As {a:D}:EK .IG a .B5=.ok (iq a):=by cases a<;>rfl
theorem PM:iq .B5=true:=rfl
noncomputable def Au (x y:Bool):Res Bool:=.ok (x||y)
noncomputable def PN (d:D)(r:List D)(x:Bool):Res Bool:=U (C0 d r) (Au x)
theorem pO {d:D}{r:List D}{x:Bool}:PN d r x=U (C0 d r) (Au x):=rfl
theorem xr {d e:D}{r:List D}:C0 d (e::r)=U (Cy 40 e d) (PN d r):=rfl
theorem uN {x:Str}:bX .len [.str x]=BN (aY x.length) (.ok (.int x.length)):=rfl
theorem uO {o:Bool}{ds:List D}:bX .len [.lst o ds]=.ok (.int ds.length):=rfl
theorem pP {a b:Int}:bX .min2 [.int a,.int b]=.ok (.int (if b < a then b else a)):=rfl
theorem pQ {a b:Int}:bX .max2 [.int a,.int b]=.ok (.int (if b > a then b else a)):=rfl
theorem iU {o:Bool}{ds:List D}:bX .list [.lst o ds]=.ok (.lst true ds):=rfl
theorem pR (ns:List Int):a9 (ns.map .int)=some ns:=by
 induction ns with
 | nil=>rfl
 | cons n ns ih=>
  show (a9 (ns.map .int)).map (n::·)=_
  rw[ih]
  rfl
theorem iV (ns:List Str):br (ns.map .str)=some ns:=by
 induction ns with
 | nil=>rfl
 | cons n ns ih=>
  show (br (ns.map .str)).map (n::·)=_
  rw[ih]
  rfl
theorem jC {o:Bool}{ns:List Int}(h:ns.length<=1000000):bX .sum [.lst o (ns.map .int)]=.ok (.int ns.sum):=by
 show (match a9 (ns.map .int) with|some ns=>BN (decide (ns.length<=1000000)) (.ok (.int ns.sum))|none=>BR)=(_:Res D)
 rw[pR]
 show BN (decide (ns.length<=1000000)) _=_
 rw[decide_eq_true h]
 rfl
theorem sa {x:Str}{o:Bool}{ys:List Str}(h:(ys.map (·.length)).sum+ys.length*x.length<=16777216):eP .join (.str x) [.lst o (ys.map .str)]=.ok (.str (Txt.join x ys)):=by
 show (match br (ys.map .str) with|some ys=>BN (decide ((ys.map (fun y:Str=>y.length)).sum+ys.length*x.length<=16777216)) (.ok (.str (Txt.join x ys)))|none=>BR)=(_:Res D)
 rw[iV]
 show BN (decide _) _=_
 rw[decide_eq_true h]
 rfl
theorem uP {x:Str}:dg (.str x)=true:=rfl
theorem BC (ns:List Int):aq (ns.map .int)=true:=by
 rw[a8,List.all_map,List.all_eq_true]
 intro x _
 rfl
theorem sd (ns:List Str):aq (ns.map .str)=true:=by
 rw[a8,List.all_map,List.all_eq_true]
 intro x _
 rfl
theorem Av {i:Int}:er (.int i)=.int i:=by rw[er]
theorem Aw {i:Str}:er (.str i)=.str i:=by rw[er]
theorem Ax {ds:List D}:er (.tup ds)=.tup (BV ds):=by rw[er]
theorem Ay {o:Bool}{ds:List D}:er (.lst o ds)=.lst false (BV ds):=by rw[er]
theorem uQ:BV []=[]:=by rw[BV]
theorem uR {d:D}{ds:List D}:BV (d::ds)=er d::BV ds:=by rw[BV]
theorem dr (ns:List Int):BV (ns.map .int)=ns.map .int:=bp (BC ns)
theorem jD (ns:List Str):BV (ns.map .str)=ns.map .str:=bp (sd ns)
theorem uS {i:Str}:aw (.str i)=true:=rfl
theorem uT {ds:List D}:aw (.tup ds)=aq ds:=rfl
theorem uU {o:Bool}{ds:List D}:aw (.lst o ds)=false:=rfl
theorem pS:aq []=true:=rfl
theorem pT {d:D}{ds:List D}:aq (d::ds)=(aw d&&aq ds):=rfl
noncomputable def jE:Fl->Res D
 | .nx _=>.ok .B5
 | .rt d=>.ok d
 | _=>BR
theorem run {fn:Fn}{ds:List D}(h:ds.length=fn.np):cH cl fn ds=U (aB cl fn.body (ds.map some++List.replicate (fn.G.N.length - fn.np) none)) jE:=by
 unfold cH
 rw[decide_eq_true h]
 rfl
theorem pU {d:D}:jE (.rt d)=.ok d:=rfl
theorem call {T:Tb}{n f:Nat}{fn:Fn}{ds:List D}(h:T f=some fn)(h0:fn.io=none):aa T (n+1) f ds=cH (aa T n) fn ds:=by
 show (match T f with|some fn=>(match fn.io with|none=>cH (aa T n) fn ds|some e=>cI (aa T n) fn e ds)|none=>BR)=_
 rw[h]
 show (match fn.io with|none=>cH (aa T n) fn ds|some e=>cI (aa T n) fn e ds)=_
 rw[h0]
noncomputable def PQ (cl:Nat->List D->Res D)(e:IR)(p:Nat):Fl->Res D
 | .nx τ=>U (CS cl true e τ) (KC p)
 | _=>BR
theorem SD {T:Tb}{n f:Nat}{fn:Fn}{ds:List D}{m k:Nat}{body:List IS}{e:IR}(h:T f=some fn)(h0:fn.io=some e)(h1:fn.np=m)(h2:fn.G.N.length=k)(h3:fn.body=body)(hl:ds.length=m) :
  aa T (n+1) f ds=U (aB (aa T n) body ((l8 ds).map some++List.replicate (k - m) none)) (PQ (aa T n) e (m - 1)):=by
 show (match T f with|some fn=>(match fn.io with|none=>cH (aa T n) fn ds|some e=>cI (aa T n) fn e ds)|none=>BR)=_
 rw[h]
 show (match fn.io with|none=>cH (aa T n) fn ds|some e=>cI (aa T n) fn e ds)=_
 rw[h0]
 show cI (aa T n) fn e ds=_
 unfold cI
 rw[decide_eq_true (show ds.length=fn.np by rw[hl,h1]),h1,h2,h3]
 show U _ _=U _ _
 congr 1
theorem go {T:Tb}{n f:Nat}{fn:Fn}{ds:List D}{m k:Nat}{body:List IS}(h:T f=some fn)(h0:fn.io=none)(h1:fn.np=m)(h2:fn.G.N.length=k)(h3:fn.body=body)(hl:ds.length=m) :
  aa T (n+1) f ds=U (aB (aa T n) body (ds.map some++List.replicate (k - m) none)) jE:=by
 rw[call h h0,run (by rw[hl,h1]),h1,h2,h3]
end
end Ev
namespace Ev
section
variable {cl:Nat->List D->Res D}{τ:Ev}
theorem line:sizeLine=16777216:=sizeLine_eq
theorem pV {a b:Int}(h1 : -18446744073709551616 < a)(h2:a < 18446744073709551616):DT .mul (.int a) (.int b)=.ok (.int (a*b)):=by
 rw[uM,decide_eq_true (show -(2 ^ 64) < a/\a < 2 ^ 64 from ⟨by omega,by omega⟩)]
 rfl
theorem pW {a b:Int}(h1 : -18446744073709551616 < b)(h2:b < 18446744073709551616):DT .mul (.int a) (.int b)=.ok (.int (a*b)):=by
 rw[uM,decide_eq_true (show -(2 ^ 64) < b/\b < 2 ^ 64 from ⟨by omega,by omega⟩),Bool.or_true]
 rfl
theorem pX {a b:Int}(h1:0 < b)(h2:b < 1073741824):DT .fdiv (.int a) (.int b)=.ok (.int (a / b)):=by
 rw[xn,decide_eq_true ⟨h1,h2⟩]
 rfl
theorem uV {a b:Int}(h1:0 < b):DT .mod (.int a) (.int b)=.ok (.int (a % b)):=by
 rw[Ad,decide_eq_true h1]
 rfl
theorem dS {n:Nat}(h:n<=16777216):aY n=true:=decide_eq_true (by rw[line];exact h)
theorem gP {n:Nat}(h:n < 16777216):cN n=true:=decide_eq_true (by rw[line];exact h)
theorem kG {i:Int}(h1 : -4611686018427387904<=i)(h2:i < 4611686018427387904):bK i=true:=decide_eq_true ⟨by omega,by omega⟩
theorem sg {α β:Type}(f:α->β)(xs:List α)(i:Int):Dw (xs.map f) i=(Dw xs i).map f:=by
 unfold Dw
 rw[List.length_map]
 cases GY xs.length i with
 | none=>rfl
 | some j=>exact List.getElem?_map ..
theorem gQ {α:Type}{xs:List α}{i:Int}(d:α)(h0:0<=i)(h1:i < xs.length):Dw xs i=some (xs.getD i.toNat d):=by
 unfold Dw GY
 rw[if_pos h0,if_pos h1]
 show xs[i.toNat]? = _
 have:i.toNat < xs.length:=by omega
 rw[List.getD_eq_getElem?_getD,List.getElem?_eq_getElem this]
 rfl
theorem Ht {o:Bool}{xs:List Int}{i:Int}(h0:0<=i)(h1:i < xs.length):bu (.lst o (xs.map .int)) (.int i)=.ok (.int (xs.getD i.toNat 0)):=by
 rw[L7,sg,gQ 0 h0 h1]
 rfl
theorem NB {z:Str}{i:Int}(h0:0<=i)(h1:i < z.length)(hz:z.length<=16777216):bu (.str z) (.int i)=.ok (.str ⟨#[z.cps.toList.getD i.toNat 0]⟩):=by
 rw[SA,dS hz]
 have hl:z.cps.toList.length=z.length:=by simp[Str.length]
 rw[gQ 0 h0 (by rw[hl];exact h1)]
 rfl
noncomputable def fz:Bool->Option D->Option D
 | true,some d=>some (er d)
 | true,none=>none
 | false,o=>o
theorem Az {d:D}:fz true (some d)=some (er d):=rfl
theorem AB {o:Option D}:fz false o=o:=rfl
theorem uW {is:List Nat}{k:Nat}:dO is k []=[]:=rfl
theorem uX {is:List Nat}{k:Nat}{o:Option D}{τ:Ev}:dO is k (o::τ)=fz (is.contains k) o::dO is (k+1) τ:=by
 show (if is.contains k then o.map er else o)::dO is (k+1) τ=_
 cases is.contains k<;>cases o<;>rfl
theorem AD {d:D}:vars (.c d)=[]:=rfl
theorem AE {i:Nat}:vars (.v i)=[i]:=rfl
theorem pY {o:Gn}{a b:IR}:vars (.bin o a b)=vars a++vars b:=rfl
theorem pZ {es:List IR}:vars (.lst es)=ak es:=rfl
theorem kH {f:Nat}{es:List IR}:vars (.call f es)=ak es:=rfl
theorem uY {f:Bi}{es:List IR}:vars (.bi f es)=ak es:=rfl
theorem p5 {a i:IR}:vars (.idx a i)=vars a++vars i:=rfl
theorem uZ:ak []=[]:=rfl
theorem u3 {e:IR}{es:List IR}:ak (e::es)=vars e++ak es:=rfl
theorem kI {G:Gm}{fr:List Nat}{t:Tg}{s:Sr}{i:List IR}{e:IR}:aW (.comp G fr t s i e)=true:=rfl
theorem p6 {a b:IR}:aW (.bin .add a b)=true:=rfl
theorem u4 {a:IR}{b c:Option IR}:aW (.sl a b c)=true:=rfl
theorem kJ {es:List IR}:aW (.bi .list es)=true:=rfl
theorem p7 {a i:IR}:aW (.idx a i)=false:=rfl
theorem AF {e:IR}{o:Bool}{ds:List D}{τ:Ev}:aN e (.lst o ds) τ=cond (aW e) (cond (aq ds) (.lst true ds,τ) (.lst true (BV ds),B6 (vars e) τ)) (.lst false (BV ds),B6 (vars e) τ):=by
 unfold aN
 rw[if_neg (show ¬ aw (.lst o ds)=true by intro z;cases z)]
 cases aW e
 ·exact Prod.ext (by show er (.lst o ds)=_;rw[er];rfl) rfl
 ·show (if aq ds=true then _ else _)=_
  cases aq ds<;>rfl
theorem kK {body:D->Ev->Res Fl}(P:Nat->Ev->Prop):∀ (its:List D) (k:Nat) (τ:Ev),P k τ->(∀ (i:Nat) (x:D) (τ:Ev),its[i]? = some x->P (k+i) τ->∃ BP,body x τ=.ok (.nx BP)/\P (k+i+1) BP)->∃ BP,forM body its τ=.ok (.nx BP)/\P (k+its.length) BP
 | [],k,τ,h,_=>⟨τ,rfl,h⟩
 | x::xs,k,τ,h,hb=>by
  obtain⟨HL,e1,h1⟩:=hb 0 x τ rfl h
  obtain⟨SE,e2,h2⟩:=kK P xs (k+1) HL h1 fun i y σ hy hp=>by
   obtain⟨BP,e',h'⟩:=hb (i+1) y σ (by simpa using hy) (by rw[show k+(i+1)=k+1+i by omega];exact hp)
   exact⟨BP,e',by rw[show k+1+i+1=k+(i+1)+1 by omega];exact h'⟩
  refine⟨SE,?_,by rw[List.length_cons,show k+(xs.length+1)=k+1+xs.length by omega];exact h2⟩
  rw[cQ,e1,kb,zY,e2]
theorem kL {body:D->Ev->Res Fl}(P:Nat->Ev->Prop){its:List D}{τ:Ev}(h:P 0 τ)(hb:∀ (i:Nat)(x:D)(τ:Ev),its[i]? = some x->P i τ->∃ BP,body x τ=.ok (.nx BP)/\P (i+1) BP):∃ BP,forM body its τ=.ok (.nx BP)/\P its.length BP:=by
 obtain⟨BP,h1,h2⟩:=kK P its 0 τ h fun i x τ hx hp=>by
  rw[Nat.zero_add] at hp ⊢
  exact hb i x τ hx hp
 exact⟨BP,h1,by rw[Nat.zero_add] at h2;exact h2⟩
theorem bj {α β:Type}{g:D->Res (Option D)}(Le:α->D)(out:α->β)(Ji:β->D):∀ (xs:List α),(∀ x∈xs,g (Le x)=.ok (some (Ji (out x))))->ba g (xs.map Le)=.ok ((xs.map out).map Ji)
 | [],_=>rfl
 | x::xs,h=>by
  show U (g (Le x)) _=_
  rw[h x (by simp)]
  show U (ba g (xs.map Le)) _=_
  rw[bj Le out Ji xs fun y hy=>h y (List.mem_cons_of_mem _ hy)]
  rfl
theorem u5 {α:Type}{a:α}:Dj (.ok a:Res α)=.ok a:=rfl
theorem p8 (a b:Int):bM a b=((List.range (b - a).toNat).map fun k=>a+(k:Nat)).map .int:=by
 unfold bM
 rw[List.map_map]
 rfl
end
end Ev
theorem Cd:type_of% (And.intro (And.intro (And.intro (And.intro (And.intro (And.intro (And.intro @Ev.kb (And.intro @Ev.tI @Ev.Pm)) (And.intro (And.intro @Ev.Pn @Ev.Po) (And.intro @Ev.oF @Ev.tJ))) (And.intro (And.intro @Ev.tK (And.intro @Ev.oG @Ev.tL)) (And.intro (And.intro @Ev.kc @Ev.oI) (And.intro @Ev.tM @Ev.ke)))) (And.intro (And.intro (And.intro @Ev.oK (And.intro @Ev.tN @Ev.oM)) (And.intro (And.intro @Ev.tO @Ev.zq) (And.intro @Ev.oO @Ev.tQ))) (And.intro (And.intro (And.intro @Ev.oP @Ev.tR) (And.intro @Ev.oQ @Ev.tU)) (And.intro (And.intro @Ev.oR @Ev.tV) (And.intro @Ev.zt @Ev.kg))))) (And.intro (And.intro (And.intro (And.intro @Ev.oS (And.intro @Ev.zu @Ev.kh)) (And.intro (And.intro @Ev.oT @Ev.oU) (And.intro @Ev.tZ @Ev.oV))) (And.intro (And.intro (And.intro @Ev.oW @Ev.oX) (And.intro @Ev.ki @Ev.oY)) (And.intro (And.intro @Ev.ua @Ev.oZ) (And.intro @Ev.kj @Ev.o4)))) (And.intro (And.intro (And.intro @Ev.zB (And.intro @Ev.kl @Ev.uc)) (And.intro (And.intro @Ev.zC @Ev.o6) (And.intro @Ev.zE @Ev.zF))) (And.intro (And.intro (And.intro @Ev.zG @Ev.ud) (And.intro @Ev.zH @Ev.ko)) (And.intro (And.intro @Ev.zI @Ev.uf) (And.intro @Ev.zJ @Ev.Pw)))))) (And.intro (And.intro (And.intro (And.intro (And.intro @Ev.LZ (And.intro @Ev.kq @Ev.Fs)) (And.intro (And.intro @Ev.kr @Ev.Ft) (And.intro @Ev.fW @Ev.iR))) (And.intro (And.intro (And.intro @Ev.Eg @Ev.ku) (And.intro @Ev.Px @Ev.Py)) (And.intro (And.intro @Ev.ui @Ev.uj) (And.intro @Ev.uk @Ev.zK)))) (And.intro (And.intro (And.intro @Ev.zL (And.intro @Ev.Eh @Ev.um)) (And.intro (And.intro @Ev.o8 @Ev.zM) (And.intro @Ev.o9 @Ev.uo))) (And.intro (And.intro (And.intro @Ev.zN @Ev.uq) (And.intro @Ev.pd @Ev.ur)) (And.intro (And.intro @Ev.kx @Ev.pk) (And.intro @Ev.PD @Ev.PF))))) (And.intro (And.intro (And.intro (And.intro @Ev.PH (And.intro @Ev.PJ @Ev.uu)) (And.intro (And.intro @Ev.pq @Ev.Ei) (And.intro @Ev.pC @Ev.pD))) (And.intro (And.intro (And.intro @Ev.pE @Ev.ej) (And.intro @Ev.ky @Ev.DH)) (And.intro (And.intro @Ev.pF @Ev.Ej) (And.intro @Ev.DJ @Ev.DQ)))) (And.intro (And.intro (And.intro @Ev.Ek (And.intro @Ev.uw @Ev.El)) (And.intro (And.intro @Ev.ux @Ev.pG) (And.intro @Ev.pH @Ev.kz))) (And.intro (And.intro (And.intro @Ev.kA @Ev.kD) (And.intro @Ev.iS @Ev.kE)) (And.intro (And.intro @Ev.DI @Ev.uz) (And.intro @Ev.pJ @Ev.uA))))))) (And.intro (And.intro (And.intro (And.intro (And.intro (And.intro @Ev.zS (And.intro @Ev.Fu @Ev.pK)) (And.intro (And.intro @Ev.Em @Ev.zU) (And.intro @Ev.zV @Ev.uB))) (And.intro (And.intro (And.intro @Ev.uC @Ev.pL) (And.intro @Ev.kF @Ev.uE)) (And.intro (And.intro @Ev.uF @Ev.cQ) (And.intro @Ev.zZ @Ev.Aa)))) (And.intro (And.intro (And.intro @Ev.uG (And.intro @Ev.uH @Ev.Ab)) (And.intro (And.intro @Ev.Ac @Ev.uI) (And.intro @Ev.uJ @Ev.uK))) (And.intro (And.intro (And.intro @Ev.jB @Ev.pM) (And.intro @Ev.uL @Ev.L8)) (And.intro (And.intro @Ev.Ae @Ev.Af) (And.intro @Ev.Ag @Ev.Ah))))) (And.intro (And.intro (And.intro (And.intro @Ev.pN (And.intro @Ev.Aj @Ev.Ak)) (And.intro (And.intro @Ev.xq @Ev.Am) (And.intro @Ev.An @Ev.Ao))) (And.intro (And.intro (And.intro @Ev.Ap @Ev.Aq) (And.intro @Ev.Ar @Ev.As)) (And.intro (And.intro @Ev.PM @Ev.pO) (And.intro @Ev.xr @Ev.uN)))) (And.intro (And.intro (And.intro @Ev.uO (And.intro @Ev.pP @Ev.pQ)) (And.intro (And.intro @Ev.iU @Ev.uP) (And.intro @Ev.Av @Ev.Aw))) (And.intro (And.intro (And.intro @Ev.Ax @Ev.Ay) (And.intro @Ev.uQ @Ev.uR)) (And.intro (And.intro @Ev.dr @Ev.jD) (And.intro @Ev.uS @Ev.uT)))))) (And.intro (And.intro (And.intro (And.intro (And.intro @Ev.uU (And.intro @Ev.pS @Ev.pT)) (And.intro (And.intro @Ev.pU @Ev.pV) (And.intro @Ev.pW @Ev.pX))) (And.intro (And.intro (And.intro @Ev.uV @Ev.dS) (And.intro @Ev.gP @Ev.kG)) (And.intro (And.intro @Ev.Ht @Ev.NB) (And.intro @Ev.u5 @Ev.Az)))) (And.intro (And.intro (And.intro @Ev.AB (And.intro @Ev.uW @Ev.uX)) (And.intro (And.intro @Ev.AD @Ev.AE) (And.intro @Ev.pY @Ev.pZ))) (And.intro (And.intro (And.intro @Ev.kH @Ev.uY) (And.intro @Ev.p5 @Ev.uZ)) (And.intro (And.intro @Ev.u3 @Ev.kI) (And.intro @Ev.p6 @Ev.u4))))) (And.intro (And.intro (And.intro (And.intro @Ev.kJ (And.intro @Ev.p7 @Ev.AF)) (And.intro (And.intro @cond_true.{1} @cond_false.{1}) (And.intro @Ev.sd @List.contains_cons.{0}))) (And.intro (And.intro (And.intro @List.contains_nil.{0} @Bool.or_false) (And.intro @Bool.or_true @Bool.true_or)) (And.intro (And.intro @Bool.false_or @List.map_cons.{0,0}) (And.intro @List.map_nil.{0,0} @List.cons_append.{0})))) (And.intro (And.intro (And.intro @List.nil_append.{0} (And.intro @List.replicate_succ.{0} @List.replicate_zero.{0})) (And.intro (And.intro @List.length_cons.{0} @List.length_nil.{0}) (And.intro @Nat.zero_add @decide_true))) (And.intro (And.intro (And.intro @Bool.and_self @Bool.not_true) (And.intro @Bool.not_false @Bool.and_true)) (And.intro (And.intro @beq_self_eq_true.{0} @if_true.{1}) (And.intro @if_false.{1} @Bool.false_eq_true)))))))):=⟨⟨⟨⟨⟨⟨⟨@Ev.kb,⟨@Ev.tI,@Ev.Pm⟩⟩,⟨⟨@Ev.Pn,@Ev.Po⟩,⟨@Ev.oF,@Ev.tJ⟩⟩⟩,⟨⟨@Ev.tK,⟨@Ev.oG,@Ev.tL⟩⟩,⟨⟨@Ev.kc,@Ev.oI⟩,⟨@Ev.tM,@Ev.ke⟩⟩⟩⟩,⟨⟨⟨@Ev.oK,⟨@Ev.tN,@Ev.oM⟩⟩,⟨⟨@Ev.tO,@Ev.zq⟩,⟨@Ev.oO,@Ev.tQ⟩⟩⟩,⟨⟨⟨@Ev.oP,@Ev.tR⟩,⟨@Ev.oQ,@Ev.tU⟩⟩,⟨⟨@Ev.oR,@Ev.tV⟩,⟨@Ev.zt,@Ev.kg⟩⟩⟩⟩⟩,⟨⟨⟨⟨@Ev.oS,⟨@Ev.zu,@Ev.kh⟩⟩,⟨⟨@Ev.oT,@Ev.oU⟩,⟨@Ev.tZ,@Ev.oV⟩⟩⟩,⟨⟨⟨@Ev.oW,@Ev.oX⟩,⟨@Ev.ki,@Ev.oY⟩⟩,⟨⟨@Ev.ua,@Ev.oZ⟩,⟨@Ev.kj,@Ev.o4⟩⟩⟩⟩,⟨⟨⟨@Ev.zB,⟨@Ev.kl,@Ev.uc⟩⟩,⟨⟨@Ev.zC,@Ev.o6⟩,⟨@Ev.zE,@Ev.zF⟩⟩⟩,⟨⟨⟨@Ev.zG,@Ev.ud⟩,⟨@Ev.zH,@Ev.ko⟩⟩,⟨⟨@Ev.zI,@Ev.uf⟩,⟨@Ev.zJ,@Ev.Pw⟩⟩⟩⟩⟩⟩,⟨⟨⟨⟨⟨@Ev.LZ,⟨@Ev.kq,@Ev.Fs⟩⟩,⟨⟨@Ev.kr,@Ev.Ft⟩,⟨@Ev.fW,@Ev.iR⟩⟩⟩,⟨⟨⟨@Ev.Eg,@Ev.ku⟩,⟨@Ev.Px,@Ev.Py⟩⟩,⟨⟨@Ev.ui,@Ev.uj⟩,⟨@Ev.uk,@Ev.zK⟩⟩⟩⟩,⟨⟨⟨@Ev.zL,⟨@Ev.Eh,@Ev.um⟩⟩,⟨⟨@Ev.o8,@Ev.zM⟩,⟨@Ev.o9,@Ev.uo⟩⟩⟩,⟨⟨⟨@Ev.zN,@Ev.uq⟩,⟨@Ev.pd,@Ev.ur⟩⟩,⟨⟨@Ev.kx,@Ev.pk⟩,⟨@Ev.PD,@Ev.PF⟩⟩⟩⟩⟩,⟨⟨⟨⟨@Ev.PH,⟨@Ev.PJ,@Ev.uu⟩⟩,⟨⟨@Ev.pq,@Ev.Ei⟩,⟨@Ev.pC,@Ev.pD⟩⟩⟩,⟨⟨⟨@Ev.pE,@Ev.ej⟩,⟨@Ev.ky,@Ev.DH⟩⟩,⟨⟨@Ev.pF,@Ev.Ej⟩,⟨@Ev.DJ,@Ev.DQ⟩⟩⟩⟩,⟨⟨⟨@Ev.Ek,⟨@Ev.uw,@Ev.El⟩⟩,⟨⟨@Ev.ux,@Ev.pG⟩,⟨@Ev.pH,@Ev.kz⟩⟩⟩,⟨⟨⟨@Ev.kA,@Ev.kD⟩,⟨@Ev.iS,@Ev.kE⟩⟩,⟨⟨@Ev.DI,@Ev.uz⟩,⟨@Ev.pJ,@Ev.uA⟩⟩⟩⟩⟩⟩⟩,⟨⟨⟨⟨⟨⟨@Ev.zS,⟨@Ev.Fu,@Ev.pK⟩⟩,⟨⟨@Ev.Em,@Ev.zU⟩,⟨@Ev.zV,@Ev.uB⟩⟩⟩,⟨⟨⟨@Ev.uC,@Ev.pL⟩,⟨@Ev.kF,@Ev.uE⟩⟩,⟨⟨@Ev.uF,@Ev.cQ⟩,⟨@Ev.zZ,@Ev.Aa⟩⟩⟩⟩,⟨⟨⟨@Ev.uG,⟨@Ev.uH,@Ev.Ab⟩⟩,⟨⟨@Ev.Ac,@Ev.uI⟩,⟨@Ev.uJ,@Ev.uK⟩⟩⟩,⟨⟨⟨@Ev.jB,@Ev.pM⟩,⟨@Ev.uL,@Ev.L8⟩⟩,⟨⟨@Ev.Ae,@Ev.Af⟩,⟨@Ev.Ag,@Ev.Ah⟩⟩⟩⟩⟩,⟨⟨⟨⟨@Ev.pN,⟨@Ev.Aj,@Ev.Ak⟩⟩,⟨⟨@Ev.xq,@Ev.Am⟩,⟨@Ev.An,@Ev.Ao⟩⟩⟩,⟨⟨⟨@Ev.Ap,@Ev.Aq⟩,⟨@Ev.Ar,@Ev.As⟩⟩,⟨⟨@Ev.PM,@Ev.pO⟩,⟨@Ev.xr,@Ev.uN⟩⟩⟩⟩,⟨⟨⟨@Ev.uO,⟨@Ev.pP,@Ev.pQ⟩⟩,⟨⟨@Ev.iU,@Ev.uP⟩,⟨@Ev.Av,@Ev.Aw⟩⟩⟩,⟨⟨⟨@Ev.Ax,@Ev.Ay⟩,⟨@Ev.uQ,@Ev.uR⟩⟩,⟨⟨@Ev.dr,@Ev.jD⟩,⟨@Ev.uS,@Ev.uT⟩⟩⟩⟩⟩⟩,⟨⟨⟨⟨⟨@Ev.uU,⟨@Ev.pS,@Ev.pT⟩⟩,⟨⟨@Ev.pU,@Ev.pV⟩,⟨@Ev.pW,@Ev.pX⟩⟩⟩,⟨⟨⟨@Ev.uV,@Ev.dS⟩,⟨@Ev.gP,@Ev.kG⟩⟩,⟨⟨@Ev.Ht,@Ev.NB⟩,⟨@Ev.u5,@Ev.Az⟩⟩⟩⟩,⟨⟨⟨@Ev.AB,⟨@Ev.uW,@Ev.uX⟩⟩,⟨⟨@Ev.AD,@Ev.AE⟩,⟨@Ev.pY,@Ev.pZ⟩⟩⟩,⟨⟨⟨@Ev.kH,@Ev.uY⟩,⟨@Ev.p5,@Ev.uZ⟩⟩,⟨⟨@Ev.u3,@Ev.kI⟩,⟨@Ev.p6,@Ev.u4⟩⟩⟩⟩⟩,⟨⟨⟨⟨@Ev.kJ,⟨@Ev.p7,@Ev.AF⟩⟩,⟨⟨@cond_true.{1},@cond_false.{1}⟩,⟨@Ev.sd,@List.contains_cons.{0}⟩⟩⟩,⟨⟨⟨@List.contains_nil.{0},@Bool.or_false⟩,⟨@Bool.or_true,@Bool.true_or⟩⟩,⟨⟨@Bool.false_or,@List.map_cons.{0,0}⟩,⟨@List.map_nil.{0,0},@List.cons_append.{0}⟩⟩⟩⟩,⟨⟨⟨@List.nil_append.{0},⟨@List.replicate_succ.{0},@List.replicate_zero.{0}⟩⟩,⟨⟨@List.length_cons.{0},@List.length_nil.{0}⟩,⟨@Nat.zero_add,@decide_true⟩⟩⟩,⟨⟨⟨@Bool.and_self,@Bool.not_true⟩,⟨@Bool.not_false,@Bool.and_true⟩⟩,⟨⟨@beq_self_eq_true.{0},@if_true.{1}⟩,⟨@if_false.{1},@Bool.false_eq_true⟩⟩⟩⟩⟩⟩⟩⟩
namespace Fr
noncomputable def u6:List IS:=[(.Cq (.cmp .lt (.v 1) (.bi .len [(.v 0)])) [(.ret (.idx (.v 0) (.v 1)))] []),(.ret (.c (.int 0)))]
end Fr
end L2
namespace Law
open PySem L2
noncomputable def top (i:Nat):Stmt:=PySem.Challenge.pw_flagroll_k09_shares_refused.main.body.getD i (.Pass ⟨0,0,0,0⟩)
noncomputable def Z:Sg:={nm:=(["PLACES","run_size","run_parted","run_joined","allot_new","shares_of","wanted_shares","rows_shrunk","rows_grown","allot_changed","_law_cell_at","_law_stream","_law_names","_law_word","_law_told_shares","_law_pairs","_law_due","law","Twice","TooMuch","NoFace","BadShare","NoSalt","NoWord","NoGroup"]:List Str)++(["BadThings","NoLine","BadStage","BadOutcome","NoSwitch","NoRule","Unlike","ValueError","RollError"]:List Str),JG:=[(20,(.int 10007))],fns:=[21,22,23,24,25,26,27,28,29,30,31,32,33,35,36,37],cls:=[42,40,38,41,39,43,44,45,46,47,48,49,50,51,52],xt:=[(Str.ofString "Twice",42,false),(Str.ofString "Twice",40,false),(Str.ofString "Twice",38,true),(Str.ofString "Twice",41,false),(Str.ofString "Twice",39,false),(Str.ofString "Twice",43,false),(Str.ofString "Twice",44,false),(Str.ofString "Twice",45,false),(Str.ofString "Twice",46,false),(Str.ofString "Twice",47,false),(Str.ofString "Twice",48,false),(Str.ofString "Twice",49,false),(Str.ofString "Twice",50,false),(Str.ofString "Twice",51,false),(Str.ofString "Twice",52,true),(Str.ofString "TooMuch",42,false),(Str.ofString "TooMuch",40,false),(Str.ofString "TooMuch",38,false),(Str.ofString "TooMuch",41,false),(Str.ofString "TooMuch",39,true),(Str.ofString "TooMuch",43,false),(Str.ofString "TooMuch",44,false),(Str.ofString "TooMuch",45,false),(Str.ofString "TooMuch",46,false),(Str.ofString "TooMuch",47,false),(Str.ofString "TooMuch",48,false),(Str.ofString "TooMuch",49,false),(Str.ofString "TooMuch",50,false),(Str.ofString "TooMuch",51,false),(Str.ofString "TooMuch",52,true),(Str.ofString "NoFace",42,false),(Str.ofString "NoFace",40,true),(Str.ofString "NoFace",38,false),(Str.ofString "NoFace",41,false),(Str.ofString "NoFace",39,false),(Str.ofString "NoFace",43,false),(Str.ofString "NoFace",44,false),(Str.ofString "NoFace",45,false),(Str.ofString "NoFace",46,false),(Str.ofString "NoFace",47,false),(Str.ofString "NoFace",48,false),(Str.ofString "NoFace",49,false),(Str.ofString "NoFace",50,false),(Str.ofString "NoFace",51,false),(Str.ofString "NoFace",52,true),(Str.ofString "BadShare",42,false),(Str.ofString "BadShare",40,false),(Str.ofString "BadShare",38,false),(Str.ofString "BadShare",41,true),(Str.ofString "BadShare",39,false),(Str.ofString "BadShare",43,false),(Str.ofString "BadShare",44,false),(Str.ofString "BadShare",45,false),(Str.ofString "BadShare",46,false),(Str.ofString "BadShare",47,false),(Str.ofString "BadShare",48,false),(Str.ofString "BadShare",49,false),(Str.ofString "BadShare",50,false),(Str.ofString "BadShare",51,false),(Str.ofString "BadShare",52,true)],pl:=[33],rc:=[(38,"Twice"),(39,"TooMuch"),(40,"NoFace"),(41,"BadShare")],xm:=[(Str.ofString "Twice",53),(Str.ofString "TooMuch",53),(Str.ofString "NoFace",53),(Str.ofString "BadShare",53)],DX:=[34]}
noncomputable def NC:List IS:=
 [(.ret (.bi .sum [(.comp {N:=["low","high"],kd:=[.local,.local],gl:=[],df:=false} [] (.tp [(.nm 0),(.nm 1)]) (.val (.v 0)) [] (.bin .sub (.v 1) (.v 0)))]))]
noncomputable def Jj:Fn:={np:=1,G:={N:=["run"],kd:=[.local],gl:=[1],df:=true},body:=NC}
noncomputable def SF:List IS:=
 [(.asg (.nm 2) (.lst [])),(.asg (.nm 3) (.lst [])),(.asg (.nm 4) (.v 1)),(.Cs (.tp [(.nm 5),(.nm 6)]) (.val (.v 0)) [(.asg (.nm 7) (.bi .min2 [(.bin .add (.v 5) (.v 4)),(.v 6)])),(.Cq (.cmp .lt (.v 5) (.v 7)) [(.app 2 (.tup [(.v 5),(.v 7)]))] []),(.Cq (.cmp .lt (.v 7) (.v 6)) [(.app 3 (.tup [(.v 7),(.v 6)]))] []),(.asg (.nm 4) (.bin .sub (.v 4) (.bin .sub (.v 7) (.v 5))))]),(.ret (.tup [(.v 2),(.v 3)]))]
noncomputable def ND:Fn:={np:=2,G:={N:=["run","many","first","rest","wanted","low","high","cut"],kd:=[.local,.local,.local,.local,.local,.local,.local,.local],gl:=[2],df:=true},body:=SF}
noncomputable def SG:List IS:=
 [(.Cq (.EI (.cmp .eq (.v 0) (.lst [])) (.EI (.cmp .eq (.v 1) (.lst [])) (.cmp .ne (.idx (.idx (.v 0) (.neg (.c (.int 1)))) (.c (.int 1))) (.idx (.idx (.v 1) (.c (.int 0))) (.c (.int 0)))))) [(.ret (.bin .add (.v 0) (.v 1)))] []),(.asg (.nm 2) (.tup [(.idx (.idx (.v 0) (.neg (.c (.int 1)))) (.c (.int 0))),(.idx (.idx (.v 1) (.c (.int 0))) (.c (.int 1)))])),(.ret (.bin .add (.bin .add (.sl (.v 0) none (some (.neg (.c (.int 1))))) (.lst [(.v 2)])) (.sl (.v 1) (some (.c (.int 1))) none)))]
noncomputable def NF:Fn:={np:=2,G:={N:=["one","other","seam"],kd:=[.local,.local,.local],gl:=[],df:=true},body:=SG}
noncomputable def NG:List IS:=
 [(.Cq (.cmp .lt (.Ea (.v 0)) (.bi .len [(.v 0)])) [(.C5 38 "Twice" "a face stands twice among the faces")] []),(.ret (.tup [(.comp {N:=["face"],kd:=[.local],gl:=[],df:=false} [] (.nm 0) (.val (.v 0)) [] (.tup [(.v 0),(.lst [])])),(.lst [(.tup [(.c (.int 0)),(.g 20 (.int 10007))])])]))]
noncomputable def Jk:Fn:={np:=1,G:={N:=["faces"],kd:=[.local],gl:=[0,12,38,20],df:=true},body:=NG}
noncomputable def NH:List IS:=
 [(.ret (.comp {N:=["face","run"],kd:=[.local,.local],gl:=[21],df:=false} [] (.tp [(.nm 0),(.nm 1)]) (.val (.idx (.v 0) (.c (.int 0)))) [] (.tup [(.v 0),(.call 21 [(.v 1)])])))]
noncomputable def Jl:Fn:={np:=1,G:={N:=["allot"],kd:=[.local],gl:=[],df:=true},body:=NH}
noncomputable def PR:List IS:=
 [(.IH 2 (.call 25 [(.v 0)])),(.asg (.nm 3) .Dh),(.Cs (.tp [(.nm 4),(.nm 5)]) (.val (.v 1)) [(.Cq (.FP true (.v 4) (.v 2)) [(.CD 40 "NoFace" (.FQ "the allotment has no face " (.v 4) none))] []),(.Cq (.FP false (.v 4) (.v 3)) [(.CD 38 "Twice" (.FQ "the face " (.v 4) (some " is told twice")))] []),(.Cq (.cmp .lt (.v 5) (.c (.int 0))) [(.CD 41 "BadShare" (.FQ "the face " (.v 4) (some " is to have fewer places than none")))] []),(.CQ 3 (.v 4) (.v 5))]),(.E0 2 3),(.Cq (.cmp .gt (.EJ (.v 2)) (.g 20 (.int 10007))) [(.C5 39 "TooMuch" "the faces together would have more places than there are")] []),(.ret (.v 2))]
noncomputable def Jm:Fn:={np:=2,G:={N:=["allot","shares","wanted","told","face","places"],kd:=[.local,.local,.local,.local,.local,.local],gl:=[19,25,40,38,41,1,20,39],df:=true},body:=PR}
noncomputable def PU:List IS:=
 [(.asg (.nm 3) (.lst [])),(.Cs (.tp [(.nm 4),(.nm 5)]) (.val (.v 0)) [(.asg (.nm 6) (.call 22 [(.v 5),(.bi .min2 [(.Cj (.v 2) (.v 4)),(.call 21 [(.v 5)])])])),(.app 3 (.tup [(.v 4),(.idx (.v 6) (.c (.int 0)))])),(.asg (.nm 1) (.call 23 [(.idx (.v 6) (.c (.int 1))),(.v 1)]))]),(.ret (.tup [(.v 3),(.v 1)]))]
noncomputable def Jn:Fn:={np:=3,G:={N:=["rows","free","wanted","kept_rows","face","run","parted"],kd:=[.local,.local,.local,.local,.local,.local,.local],gl:=[22,2,21,23],df:=true},body:=PU}
noncomputable def PV:List IS:=
 [(.asg (.nm 3) (.lst [])),(.Cs (.tp [(.nm 4),(.nm 5)]) (.val (.v 0)) [(.asg (.nm 6) (.call 22 [(.v 1),(.bin .sub (.Cj (.v 2) (.v 4)) (.call 21 [(.v 5)]))])),(.app 3 (.tup [(.v 4),(.call 23 [(.v 5),(.idx (.v 6) (.c (.int 0)))])])),(.asg (.nm 1) (.idx (.v 6) (.c (.int 1))))]),(.ret (.tup [(.v 3),(.v 1)]))]
noncomputable def Jo:Fn:={np:=3,G:={N:=["rows","free","wanted","grown_rows","face","run","parted"],kd:=[.local,.local,.local,.local,.local,.local,.local],gl:=[22,21,23],df:=true},body:=PV}
noncomputable def PX:List IS:=
 [(.asg (.nm 2) (.call 26 [(.v 0),(.v 1)])),(.asg (.nm 3) (.call 27 [(.idx (.v 0) (.c (.int 0))),(.bi .list [(.idx (.v 0) (.c (.int 1)))]),(.v 2)])),(.ret (.call 28 [(.idx (.v 3) (.c (.int 0))),(.idx (.v 3) (.c (.int 1))),(.v 2)]))]
noncomputable def Jp:Fn:={np:=2,G:={N:=["allot","shares","wanted","shrunk"],kd:=[.local,.local,.local,.local],gl:=[26,27,5,28],df:=true},body:=PX}
noncomputable def SH:List IS:=
 [(.Cq (.cmp .lt (.v 1) (.bi .len [(.v 0)])) [(.ret (.idx (.v 0) (.v 1)))] []),(.ret (.c (.int 0)))]
noncomputable def JY:Fn:={np:=2,G:={N:=["_law_script","_law_k"],kd:=[.local,.local],gl:=[0],df:=true},body:=SH}
noncomputable def SI:List IS:=
 [(.asg (.nm 2) (.lst [])),(.asg (.nm 3) (.bin .add (.bin .mod (.v 0) (.c (.int 2147483647))) (.c (.int 1)))),(.Cs (.nm 4) (.CM (.v 1)) [(.asg (.nm 3) (.bin .mod (.bin .add (.bin .add (.bin .mul (.v 3) (.c (.int 48271))) (.bin .mul (.bin .mul (.c (.int 7)) (.v 4)) (.v 4))) (.c (.int 3))) (.c (.int 2147483647)))),(.app 2 (.bin .fdiv (.v 3) (.c (.int 16))))]),(.ret (.v 2))]
noncomputable def Lf:Fn:={np:=2,G:={N:=["_law_cell","_law_many","_law_found","_law_number","_law_k"],kd:=[.local,.local,.local,.local,.local],gl:=[15],df:=true},body:=SI}
noncomputable def Lg:List IS:=
 [(.asg (.nm 2) (.c (.str "abcdefghijklmnopqrstuvwxyz"))),(.asg (.nm 3) (.Gp .join (.c (.str "")) [(.comp {N:=["_law_abc","_law_number"],kd:=[.cell,.local],gl:=[],df:=false} [2] (.nm 1) (.val (.call 31 [(.bin .fdiv (.v 0) (.c (.int 3))),(.c (.int 8))])) [] (.idx (.v 0) (.bin .mod (.v 1) (.c (.int 26)))))])),(.Cq (.EH (.cmp .eq (.bin .mod (.v 0) (.c (.int 3))) (.c (.int 1))) (.cmp .le (.v 1) (.c (.int 8)))) [(.ret (.comp {N:=["_law_base","_law_k"],kd:=[.cell,.local],gl:=[],df:=false} [3] (.nm 1) (.CM (.v 1)) [] (.sl (.v 0) none (some (.bin .add (.v 1) (.c (.int 1)))))))] []),(.asg (.nm 3) (.sl (.v 3) none (some (.bin .add (.c (.int 1)) (.bin .mod (.bin .fdiv (.v 0) (.c (.int 3))) (.c (.int 8))))))),(.asg (.nm 4) (.bin .mod (.bin .fdiv (.v 0) (.c (.int 24))) (.bi .len [(.v 3)]))),(.ret (.comp {N:=["_law_base","_law_at","_law_abc","_law_cell","_law_k"],kd:=[.cell,.cell,.cell,.cell,.local],gl:=[],df:=false} [3,4,2,0] (.nm 4) (.CM (.v 1)) [] (.bin .add (.bin .add (.sl (.v 0) none (some (.v 1))) (.idx (.v 2) (.bin .mod (.bin .add (.bin .fdiv (.v 3) (.c (.int 3))) (.bin .mul (.c (.int 7)) (.v 4))) (.c (.int 26))))) (.sl (.v 0) (some (.bin .add (.v 1) (.c (.int 1)))) none))))]
noncomputable def FZ:Fn:={np:=2,G:={N:=["_law_cell","_law_many","_law_abc","_law_base","_law_at"],kd:=[.cell,.local,.cell,.cell,.cell],gl:=[31,15,0],df:=true},body:=Lg}
noncomputable def SJ:List IS:=
 [(.asg (.nm 1) (.lst [])),(.Cq (.Ew (.v 0) [42] [(Str.ofString "Twice",false),(Str.ofString "TooMuch",false),(Str.ofString "NoFace",false),(Str.ofString "BadShare",false)]) [(.app 1 (.c (.str "salt")))] []),(.Cq (.Ew (.v 0) [40] [(Str.ofString "Twice",false),(Str.ofString "TooMuch",false),(Str.ofString "NoFace",true),(Str.ofString "BadShare",false)]) [(.app 1 (.c (.str "face")))] []),(.Cq (.Ew (.v 0) [38] [(Str.ofString "Twice",true),(Str.ofString "TooMuch",false),(Str.ofString "NoFace",false),(Str.ofString "BadShare",false)]) [(.app 1 (.c (.str "twice")))] []),(.Cq (.Ew (.v 0) [41] [(Str.ofString "Twice",false),(Str.ofString "TooMuch",false),(Str.ofString "NoFace",false),(Str.ofString "BadShare",true)]) [(.app 1 (.c (.str "share")))] []),(.Cq (.Ew (.v 0) [39] [(Str.ofString "Twice",false),(Str.ofString "TooMuch",true),(Str.ofString "NoFace",false),(Str.ofString "BadShare",false)]) [(.app 1 (.c (.str "much")))] []),(.Cq (.Ew (.v 0) [43] [(Str.ofString "Twice",false),(Str.ofString "TooMuch",false),(Str.ofString "NoFace",false),(Str.ofString "BadShare",false)]) [(.app 1 (.c (.str "word")))] []),(.Cq (.Ew (.v 0) [44] [(Str.ofString "Twice",false),(Str.ofString "TooMuch",false),(Str.ofString "NoFace",false),(Str.ofString "BadShare",false)]) [(.app 1 (.c (.str "group")))] []),(.Cq (.Ew (.v 0) [45] [(Str.ofString "Twice",false),(Str.ofString "TooMuch",false),(Str.ofString "NoFace",false),(Str.ofString "BadShare",false)]) [(.app 1 (.c (.str "things")))] []),(.Cq (.Ew (.v 0) [46] [(Str.ofString "Twice",false),(Str.ofString "TooMuch",false),(Str.ofString "NoFace",false),(Str.ofString "BadShare",false)]) [(.app 1 (.c (.str "line")))] []),(.Cq (.EI (.Ew (.v 0) [47,48] [(Str.ofString "Twice",false),(Str.ofString "TooMuch",false),(Str.ofString "NoFace",false),(Str.ofString "BadShare",false)]) (.EI (.Ew (.v 0) [49,50] [(Str.ofString "Twice",false),(Str.ofString "TooMuch",false),(Str.ofString "NoFace",false),(Str.ofString "BadShare",false)]) (.Ew (.v 0) [51] [(Str.ofString "Twice",false),(Str.ofString "TooMuch",false),(Str.ofString "NoFace",false),(Str.ofString "BadShare",false)]))) [(.app 1 (.c (.str "other")))] []),(.Cq (.FD (.Ew (.v 0) [52] [(Str.ofString "Twice",true),(Str.ofString "TooMuch",true),(Str.ofString "NoFace",true),(Str.ofString "BadShare",true)])) [(.app 1 (.c (.str "base")))] []),(.ret (.Gp .join (.c (.str "")) [(.v 1)]))]
noncomputable def PY:Fn:={np:=1,G:={N:=["_law_e","_law_words"],kd:=[.local,.local],gl:=[14,42,40,38,41,39,43,44,45,46,47,48,49,50,51,52],df:=true,cm:=false},body:=SJ}
noncomputable def PZ:List IS:=
 [(.asg (.nm 3) (.call 31 [(.v 0),(.bin .add (.bin .mul (.c (.int 3)) (.bi .len [(.v 1)])) (.c (.int 2)))])),(.asg (.nm 4) (.lst [])),(.Cs (.nm 5) (.CM (.bi .len [(.v 1)])) [(.asg (.nm 6) (.idx (.v 1) (.bin .mod (.bin .add (.v 5) (.idx (.v 3) (.c (.int 0)))) (.bi .len [(.v 1)])))),(.asg (.nm 7) (.bin .sub (.c (.int 10007)) (.bi .sum [(.comp {N:=["_law_due_here","_law_face","_law_own"],kd:=[.cell,.cell,.local],gl:=[],df:=false} [2,6] (.nm 2) (.val (.v 1)) [(.cmp .ne (.v 2) (.v 1))] (.Cj (.v 0) (.v 2)))]))),(.Cq (.cmp .gt (.bin .mod (.idx (.v 3) (.bin .add (.bin .mul (.c (.int 3)) (.v 5)) (.c (.int 2)))) (.c (.int 3))) (.c (.int 0))) [(.asg (.nm 8) (.bi .max2 [(.c (.int 0)),(.bin .sub (.Cj (.v 2) (.v 6)) (.bin .mod (.idx (.v 3) (.bin .add (.bin .mul (.c (.int 3)) (.v 5)) (.c (.int 4)))) (.c (.int 5))))])),(.asg (.nm 9) (.idx (.lst [(.bin .mod (.idx (.v 3) (.bin .add (.bin .mul (.c (.int 3)) (.v 5)) (.c (.int 3)))) (.bin .add (.v 7) (.c (.int 1)))),(.v 7),(.c (.int 0)),(.v 8)]) (.bin .mod (.bin .fdiv (.idx (.v 3) (.bin .add (.bin .mul (.c (.int 3)) (.v 5)) (.c (.int 4)))) (.c (.int 8))) (.c (.int 4))))),(.Cq (.cmp .eq (.bin .mod (.bin .fdiv (.idx (.v 3) (.bin .add (.bin .mul (.c (.int 3)) (.v 5)) (.c (.int 4)))) (.c (.int 32))) (.c (.int 3))) (.c (.int 0))) [(.asg (.nm 9) (.bi .min2 [(.v 7),(.bin .add (.Cj (.v 2) (.v 6)) (.bin .mod (.idx (.v 3) (.bin .add (.bin .mul (.c (.int 3)) (.v 5)) (.c (.int 3)))) (.c (.int 7))))]))] []),(.CQ 2 (.v 6) (.v 9)),(.app 4 (.tup [(.v 6),(.v 9)]))] [])])]
noncomputable def Jq:Fn:={np:=3,G:={N:=["_law_cell","_law_faces","_law_due_here","_law_xs","_law_told","_law_k","_law_face","_law_room","_law_less","_law_places"],kd:=[.local,.local,.cell,.local,.local,.local,.cell,.local,.local,.local],gl:=[31,0,15,1,3,2],df:=true,io:=some 2},body:=PZ,io:=some (.v 4)}
noncomputable def P0:List IS:=
 [(.asg (.nm 3) (.lst [])),(.Cs (.nm 4) (.val (.v 0)) [(.asg (.nm 5) (.call 31 [(.v 4),(.c (.int 3))])),(.asg (.nm 6) (.idx (.v 1) (.bin .mod (.idx (.v 5) (.c (.int 0))) (.bi .len [(.v 1)])))),(.Cq (.cmp .eq (.bin .mod (.bin .fdiv (.idx (.v 5) (.c (.int 0))) (.c (.int 8))) (.c (.int 6))) (.c (.int 1))) [(.asg (.nm 6) (.v 2))] []),(.asg (.nm 7) (.idx (.lst [(.bin .mod (.idx (.v 5) (.c (.int 1))) (.c (.int 10008))),(.bin .mod (.idx (.v 5) (.c (.int 1))) (.c (.int 40))),(.bin .sub (.bin .sub (.c (.int 0)) (.c (.int 1))) (.bin .mod (.idx (.v 5) (.c (.int 1))) (.c (.int 3)))),(.c (.int 10007)),(.bin .add (.c (.int 10007)) (.bin .mod (.idx (.v 5) (.c (.int 1))) (.c (.int 2)))),(.bin .mod (.idx (.v 5) (.c (.int 1))) (.c (.int 2000)))]) (.bin .mod (.idx (.v 5) (.c (.int 2))) (.c (.int 6))))),(.app 3 (.tup [(.v 6),(.v 7)]))]),(.ret (.v 3))]
noncomputable def Jr:Fn:={np:=3,G:={N:=["_law_cells","_law_faces","_law_none","_law_pairs_here","_law_cell","_law_xs","_law_face","_law_places"],kd:=[.local,.local,.local,.local,.local,.local,.local,.local],gl:=[31,0],df:=true},body:=P0}
noncomputable def P1:List IS:=
 [(.asg (.nm 3) .Dh),(.Cs (.tp [(.nm 4),(.nm 5)]) (.val (.v 0)) [(.Cq (.cmp .HJ (.v 4) (.v 1)) [(.ret (.c (.str "face")))] []),(.Cq (.FP false (.v 4) (.v 3)) [(.ret (.c (.str "twice")))] []),(.Cq (.cmp .lt (.v 5) (.c (.int 0))) [(.ret (.c (.str "share")))] []),(.CQ 3 (.v 4) (.v 5))]),(.Cq (.cmp .gt (.bi .sum [(.comp {N:=["_law_seen","_law_due_here","_law_face"],kd:=[.cell,.cell,.local],gl:=[],df:=false} [3,2] (.nm 2) (.val (.v 1)) [] (.Dr (.v 0) (.v 2) (.Cj (.v 1) (.v 2))))]) (.c (.int 10007))) [(.ret (.c (.str "much")))] []),(.ret (.c (.str "none")))]
noncomputable def Js:Fn:={np:=3,G:={N:=["_law_pairs_here","_law_faces","_law_due_here","_law_seen","_law_face","_law_places"],kd:=[.local,.local,.cell,.cell,.local,.local],gl:=[1],df:=true},body:=P1}
noncomputable def P2:List IS:=
 [(.asg (.nm 1) (.call 32 [(.call 30 [(.v 0),(.c (.int 0))]),(.bin .add (.c (.int 2)) (.bin .mod (.call 30 [(.v 0),(.c (.int 1))]) (.c (.int 6))))])),(.asg (.nm 2) (.sl (.v 1) (some (.c (.int 1))) none)),(.asg (.nm 3) .Dh),(.Cs (.nm 4) (.val (.v 2)) [(.CQ 3 (.v 4) (.c (.int 0)))]),(.FT 5 34 [(.call 30 [(.v 0),(.c (.int 2))]),(.v 2)] 3),(.asg (.nm 6) (.call 29 [(.call 24 [(.v 2)]),(.v 5)])),(.asg (.nm 7) (.tup [(.comp {N:=["_law_face","_law_run"],kd:=[.local,.local],gl:=[5],df:=false} [] (.tp [(.nm 0),(.nm 1)]) (.val (.idx (.v 6) (.c (.int 0)))) [] (.tup [(.v 0),(.bi .list [(.v 1)])])),(.bi .list [(.idx (.v 6) (.c (.int 1)))])])),(.asg (.nm 8) (.call 35 [(.sl (.v 0) (some (.c (.int 3))) (some (.bin .add (.c (.int 4)) (.bin .mod (.bin .fdiv (.call 30 [(.v 0),(.c (.int 1))]) (.c (.int 6))) (.c (.int 6)))))),(.v 2),(.idx (.v 1) (.c (.int 0)))])),(.asg (.nm 9) (.bi .list [(.v 8)])),(.asg (.nm 10) (.c (.str "none"))),(.asg (.nm 11) (.c .B5)),(.E1 11 29 [(.v 6),(.v 9)] 53 ["Twice","TooMuch","NoFace","BadShare"] 12 [(.asg (.nm 10) (.call 33 [(.v 12)]))]),(.Cq (.EI (.cmp .ne (.v 10) (.call 36 [(.v 8),(.v 2),(.v 3)])) (.EI (.cmp .ne (.v 6) (.v 7)) (.cmp .ne (.v 9) (.v 8)))) [(.ret (.c (.bl false)))] []),(.Cq (.cmp .IG (.v 11) (.c .B5)) [(.ret (.cmp .eq (.call 25 [(.v 6)]) (.comp {N:=["_law_due_here","_law_face"],kd:=[.cell,.local],gl:=[],df:=false} [3] (.nm 1) (.val (.v 2)) [] (.tup [(.v 1),(.Cj (.v 0) (.v 1))]))))] []),(.Cs (.tp [(.nm 4),(.nm 13)]) (.val (.v 8)) [(.CQ 3 (.v 4) (.v 13))]),(.ret (.cmp .eq (.call 25 [(.v 11)]) (.comp {N:=["_law_due_here","_law_face"],kd:=[.cell,.local],gl:=[],df:=false} [3] (.nm 1) (.val (.v 2)) [] (.tup [(.v 1),(.Cj (.v 0) (.v 1))]))))]
noncomputable def Ia:Fn:={np:=1,G:={N:=["_law_script","_law_names_here","_law_faces","_law_due_here","_law_face","_law_told","_law_allot","_law_kept","_law_pairs_here","_law_handed","_law_word_here","_law_found","_law_e","_law_places"],kd:=[.local,.local,.local,.cell,.local,.local,.local,.local,.local,.local,.local,.local,.local,.local],gl:=[32,30,34,29,24,5,35,53,33,36,25],df:=true,tr:=true},body:=P2}
noncomputable def T:Tb:=fun n=>match n with
 | 21=>some Jj
 | 22=>some ND
 | 23=>some NF
 | 24=>some Jk
 | 25=>some Jl
 | 26=>some Jm
 | 27=>some Jn
 | 28=>some Jo
 | 29=>some Jp
 | 30=>some JY
 | 31=>some Lf
 | 32=>some FZ
 | 33=>some PY
 | 34=>some Jq
 | 35=>some Jr
 | 36=>some Js
 | 37=>some Ia
 | _=>none
theorem c21:aV Z Jj ["run"] (top 18)=true:=by decide +kernel
theorem c22:aV Z ND ["run","many"] (top 19)=true:=by decide +kernel
theorem c23:aV Z NF ["one","other"] (top 20)=true:=by decide +kernel
theorem c24:aV Z Jk ["faces"] (top 22)=true:=by decide +kernel
theorem c25:aV Z Jl ["allot"] (top 23)=true:=by decide +kernel
theorem c26:aV Z Jm ["allot","shares"] (top 24)=true:=by decide +kernel
theorem c27:aV Z Jn ["rows","free","wanted"] (top 25)=true:=by decide +kernel
theorem c28:aV Z Jo ["rows","free","wanted"] (top 26)=true:=by decide +kernel
theorem c29:aV Z Jp ["allot","shares"] (top 27)=true:=by decide +kernel
theorem c30:aV Z JY ["_law_script","_law_k"] (top 29)=true:=by decide +kernel
theorem c31:aV Z Lf ["_law_cell","_law_many"] (top 30)=true:=by decide +kernel
theorem c32:aV Z FZ ["_law_cell","_law_many"] (top 31)=true:=by decide +kernel
theorem c33:aV Z PY ["_law_e"] (top 32)=true:=by decide +kernel
theorem c34:ei Z Jq ["_law_cell","_law_faces","_law_due_here"] (top 33)=true:=by decide +kernel
theorem c35:aV Z Jr ["_law_cells","_law_faces","_law_none"] (top 34)=true:=by decide +kernel
theorem c36:aV Z Js ["_law_pairs_here","_law_faces","_law_due_here"] (top 35)=true:=by decide +kernel
theorem P4:aV Z Ia ["_law_script"] (top 36)=true:=by decide +kernel
theorem xu:∀ n x,Z.name n=some x->x≠"__name__"/\(x == ("__debug__" : Str))=false:=by
 have h:(bb++Z.nm).all (fun x=>!(x == "__name__")&&!(x == "__debug__"))=true:=by decide +kernel
 intro n x hx
 have:=List.all_eq_true.mp h x (List.mem_of_getElem? hx)
 simpa using this
theorem ln1 {fd:FuncData}{ps:List Str}(h:∀ x0:Value,bindArgs fd ⟨[x0],[]⟩=pure (ps.zip [x0]))(us:List Value)(e:us.length=1):bindArgs fd ⟨us,[]⟩=pure (ps.zip us):=by
 match us,e with
 | [x0],_=>exact h x0
theorem ln2 {fd:FuncData}{ps:List Str}(h:∀ x0 x1:Value,bindArgs fd ⟨[x0,x1],[]⟩=pure (ps.zip [x0,x1]))(us:List Value)(e:us.length=2):bindArgs fd ⟨us,[]⟩=pure (ps.zip us):=by
 match us,e with
 | [x0,x1],_=>exact h x0 x1
theorem ln3 {fd:FuncData}{ps:List Str}(h:∀ x0 x1 x2:Value,bindArgs fd ⟨[x0,x1,x2],[]⟩=pure (ps.zip [x0,x1,x2]))(us:List Value)(e:us.length=3):bindArgs fd ⟨us,[]⟩=pure (ps.zip us):=by
 match us,e with
 | [x0,x1,x2],_=>exact h x0 x1 x2
theorem dfo {f:Nat}{x:Str}{fn:Fn}{st:Stmt}{fa:Addr}{ps:List Str}{K:W.Frag}{h:Heap}{mg:Str->Option Value}{oc:Value}{od an:Option Addr}{sl:Array (Option Value)}{kV dc pm cd ct:Value}(c:aV Z fn ps st=true)(hT:T f=some fn)(b:∀ (kV dc pm:Value)(an:Option Addr)(cd ct:Value)(us:List Value),us.length=ps.length->bindArgs (W.fnOf x x (bD st) (aM st) (ax st) .none kV dc pm an cd ct) ⟨us,[]⟩=pure (ps.zip us))(X:K.In h)(G:h.Ns mainGlobals mg)
  (a:W.nsIn K mainGlobals x=some (some (.ref fa))) (l:K.lookup fa=some ⟨oc,od,.func (W.fnOf x x (bD st) (aM st) (ax st) .none kV dc pm an cd ct),sl⟩) (e:W.codeIn K cd x=true) (k:W.keepIn K (.ref fa)=true):Cn K mg Z T f x:=⟨fn,st,fa,_,ps,hT,eF l e k,W.mg_of X G a,(eF l e k).binds b,iP c⟩
theorem BD {f:Nat}{x:Str}{fn:Fn}{st:Stmt}{fa:Addr}{ps:List Str}{K:W.Frag}{h:Heap}{mg:Str->Option Value}{oc:Value}{od an:Option Addr}{sl:Array (Option Value)}{kV dc pm cd ct:Value}(c:ei Z fn ps st=true)(hT:T f=some fn)(b:∀ (kV dc pm:Value)(an:Option Addr)(cd ct:Value)(us:List Value),us.length=ps.length->bindArgs (W.fnOf x x (bD st) (aM st) (ax st) .none kV dc pm an cd ct) ⟨us,[]⟩=pure (ps.zip us))(X:K.In h)(G:h.Ns mainGlobals mg)
  (a:W.nsIn K mainGlobals x=some (some (.ref fa))) (l:K.lookup fa=some ⟨oc,od,.func (W.fnOf x x (bD st) (aM st) (ax st) .none kV dc pm an cd ct),sl⟩) (e:W.codeIn K cd x=true) (k:W.keepIn K (.ref fa)=true):GC K mg Z T f x:=⟨fn,st,fa,_,ps,hT,eF l e k,W.mg_of X G a,(eF l e k).binds b,oB c⟩
noncomputable def si:Nat:=37
noncomputable def sj:Str:="_law_script"
theorem all_mk {l:PySem.W.OpenLaw}{w:World}{fa:Addr}{Ct Cu Cv Cw GJ GK GL GN GO GP GQ GR GS GU Hu:Addr}{K:W.Frag}{h:Heap}{mg:Str->Option Value}{NI:Addr}{NJ Lh:Option Addr}{NK:Array (Option Value)}{NL Li Lj Lk Jt Ll:Value}{SK:Tok}(X:K.In h)(G:h.Ns mainGlobals mg)(SM:mg "law" = some (.ref fa))
  (SN:Cn K mg Z T 21 "run_size")
  (SO:Cn K mg Z T 22 "run_parted")
  (SQ:Cn K mg Z T 23 "run_joined")
  (SR:Cn K mg Z T 24 "allot_new")
  (SU:Cn K mg Z T 25 "shares_of")
  (SV:Cn K mg Z T 26 "wanted_shares")
  (SW:Cn K mg Z T 27 "rows_shrunk")
  (SX:Cn K mg Z T 28 "rows_grown")
  (SY:Cn K mg Z T 29 "allot_changed")
  (S1:Cn K mg Z T 30 "_law_cell_at")
  (S2:Cn K mg Z T 31 "_law_stream")
  (S3:Cn K mg Z T 32 "_law_names")
  (S4:Cn K mg Z T 33 "_law_word")
  (S5:GC K mg Z T 34 "_law_told_shares")
  (S6:Cn K mg Z T 35 "_law_pairs")
  (S7:Cn K mg Z T 36 "_law_due")
  (a37:W.nsIn K mainGlobals "law" = some (some (.ref NI))) (l37:K.lookup NI=some ⟨NL,NJ,.func (W.fnOf "law" "law" (bD (top 36)) (aM (top 36)) (ax (top 36)) .none Li Lj Lk Lh Jt Ll),NK⟩) (e37:W.codeIn K Jt "law" = true) (k37:W.keepIn K (.ref NI)=true)
  (q20:W.nsIn K mainGlobals "PLACES" = some (some (.int 10007 SK)))
  (u38:W.nsIn K mainGlobals "Twice" = some (some (.ref Ct)))
  (u39:W.nsIn K mainGlobals "TooMuch" = some (some (.ref Cu)))
  (u40:W.nsIn K mainGlobals "NoFace" = some (some (.ref Cv)))
  (u41:W.nsIn K mainGlobals "BadShare" = some (some (.ref Cw)))
  (u42:W.nsIn K mainGlobals "NoSalt" = some (some (.ref GJ)))
  (u43:W.nsIn K mainGlobals "NoWord" = some (some (.ref GK)))
  (u44:W.nsIn K mainGlobals "NoGroup" = some (some (.ref GL)))
  (u45:W.nsIn K mainGlobals "BadThings" = some (some (.ref GN)))
  (u46:W.nsIn K mainGlobals "NoLine" = some (some (.ref GO)))
  (u47:W.nsIn K mainGlobals "BadStage" = some (some (.ref GP)))
  (u48:W.nsIn K mainGlobals "BadOutcome" = some (some (.ref GQ)))
  (u49:W.nsIn K mainGlobals "NoSwitch" = some (some (.ref GR)))
  (u50:W.nsIn K mainGlobals "NoRule" = some (some (.ref GS)))
  (u51:W.nsIn K mainGlobals "Unlike" = some (some (.ref GU)))
  (u53:W.nsIn K mainGlobals "RollError" = some (some (.ref Hu)))
  (u52:W.nsIn K mainGlobals "ValueError" = some none)
  (vn38:nameIn K Ct=some "Twice")
  (vg38:W.findIn K (.ref Ct) "__getattribute__" = some (some (.builtin "BaseException.__getattribute__")))
  (vo38:W.findIn K (.ref Ct) "__getattr__" = some none)
  (vc38:W.findIn K (.ref Ct) "__class__" = some (some (.builtin "object.__class__")))
  (vb38:W.mroIn K Ct (.type "BaseException")=some true)
  (vj38:W.mroIn K Ct (.type "object")=some true)
  (vi38:(W.clsIn K Ct).isSome=true)
  (vx38:W.excIn K Ct JH "ValueError.__new__" = true)
  (y38_42:W.kitOne K (.ref Ct) (.ref GJ)=some false)
  (y38_40:W.kitOne K (.ref Ct) (.ref Cv)=some false)
  (y38_38:W.kitOne K (.ref Ct) (.ref Ct)=some true)
  (y38_41:W.kitOne K (.ref Ct) (.ref Cw)=some false)
  (y38_39:W.kitOne K (.ref Ct) (.ref Cu)=some false)
  (y38_43:W.kitOne K (.ref Ct) (.ref GK)=some false)
  (y38_44:W.kitOne K (.ref Ct) (.ref GL)=some false)
  (y38_45:W.kitOne K (.ref Ct) (.ref GN)=some false)
  (y38_46:W.kitOne K (.ref Ct) (.ref GO)=some false)
  (y38_47:W.kitOne K (.ref Ct) (.ref GP)=some false)
  (y38_48:W.kitOne K (.ref Ct) (.ref GQ)=some false)
  (y38_49:W.kitOne K (.ref Ct) (.ref GR)=some false)
  (y38_50:W.kitOne K (.ref Ct) (.ref GS)=some false)
  (y38_51:W.kitOne K (.ref Ct) (.ref GU)=some false)
  (y38_52:W.kitOne K (.ref Ct) (.type "ValueError")=some true)
  (m38_53:W.exmOne K (.ref Ct) (.ref Hu)=some true)
  (vn39:nameIn K Cu=some "TooMuch")
  (vg39:W.findIn K (.ref Cu) "__getattribute__" = some (some (.builtin "BaseException.__getattribute__")))
  (vo39:W.findIn K (.ref Cu) "__getattr__" = some none)
  (vc39:W.findIn K (.ref Cu) "__class__" = some (some (.builtin "object.__class__")))
  (vb39:W.mroIn K Cu (.type "BaseException")=some true)
  (vj39:W.mroIn K Cu (.type "object")=some true)
  (vi39:(W.clsIn K Cu).isSome=true)
  (vx39:W.excIn K Cu JH "ValueError.__new__" = true)
  (y39_42:W.kitOne K (.ref Cu) (.ref GJ)=some false)
  (y39_40:W.kitOne K (.ref Cu) (.ref Cv)=some false)
  (y39_38:W.kitOne K (.ref Cu) (.ref Ct)=some false)
  (y39_41:W.kitOne K (.ref Cu) (.ref Cw)=some false)
  (y39_39:W.kitOne K (.ref Cu) (.ref Cu)=some true)
  (y39_43:W.kitOne K (.ref Cu) (.ref GK)=some false)
  (y39_44:W.kitOne K (.ref Cu) (.ref GL)=some false)
  (y39_45:W.kitOne K (.ref Cu) (.ref GN)=some false)
  (y39_46:W.kitOne K (.ref Cu) (.ref GO)=some false)
  (y39_47:W.kitOne K (.ref Cu) (.ref GP)=some false)
  (y39_48:W.kitOne K (.ref Cu) (.ref GQ)=some false)
  (y39_49:W.kitOne K (.ref Cu) (.ref GR)=some false)
  (y39_50:W.kitOne K (.ref Cu) (.ref GS)=some false)
  (y39_51:W.kitOne K (.ref Cu) (.ref GU)=some false)
  (y39_52:W.kitOne K (.ref Cu) (.type "ValueError")=some true)
  (m39_53:W.exmOne K (.ref Cu) (.ref Hu)=some true)
  (vn40:nameIn K Cv=some "NoFace")
  (vg40:W.findIn K (.ref Cv) "__getattribute__" = some (some (.builtin "BaseException.__getattribute__")))
  (vo40:W.findIn K (.ref Cv) "__getattr__" = some none)
  (vc40:W.findIn K (.ref Cv) "__class__" = some (some (.builtin "object.__class__")))
  (vb40:W.mroIn K Cv (.type "BaseException")=some true)
  (vj40:W.mroIn K Cv (.type "object")=some true)
  (vi40:(W.clsIn K Cv).isSome=true)
  (vx40:W.excIn K Cv JH "ValueError.__new__" = true)
  (y40_42:W.kitOne K (.ref Cv) (.ref GJ)=some false)
  (y40_40:W.kitOne K (.ref Cv) (.ref Cv)=some true)
  (y40_38:W.kitOne K (.ref Cv) (.ref Ct)=some false)
  (y40_41:W.kitOne K (.ref Cv) (.ref Cw)=some false)
  (y40_39:W.kitOne K (.ref Cv) (.ref Cu)=some false)
  (y40_43:W.kitOne K (.ref Cv) (.ref GK)=some false)
  (y40_44:W.kitOne K (.ref Cv) (.ref GL)=some false)
  (y40_45:W.kitOne K (.ref Cv) (.ref GN)=some false)
  (y40_46:W.kitOne K (.ref Cv) (.ref GO)=some false)
  (y40_47:W.kitOne K (.ref Cv) (.ref GP)=some false)
  (y40_48:W.kitOne K (.ref Cv) (.ref GQ)=some false)
  (y40_49:W.kitOne K (.ref Cv) (.ref GR)=some false)
  (y40_50:W.kitOne K (.ref Cv) (.ref GS)=some false)
  (y40_51:W.kitOne K (.ref Cv) (.ref GU)=some false)
  (y40_52:W.kitOne K (.ref Cv) (.type "ValueError")=some true)
  (m40_53:W.exmOne K (.ref Cv) (.ref Hu)=some true)
  (vn41:nameIn K Cw=some "BadShare")
  (vg41:W.findIn K (.ref Cw) "__getattribute__" = some (some (.builtin "BaseException.__getattribute__")))
  (vo41:W.findIn K (.ref Cw) "__getattr__" = some none)
  (vc41:W.findIn K (.ref Cw) "__class__" = some (some (.builtin "object.__class__")))
  (vb41:W.mroIn K Cw (.type "BaseException")=some true)
  (vj41:W.mroIn K Cw (.type "object")=some true)
  (vi41:(W.clsIn K Cw).isSome=true)
  (vx41:W.excIn K Cw JH "ValueError.__new__" = true)
  (y41_42:W.kitOne K (.ref Cw) (.ref GJ)=some false)
  (y41_40:W.kitOne K (.ref Cw) (.ref Cv)=some false)
  (y41_38:W.kitOne K (.ref Cw) (.ref Ct)=some false)
  (y41_41:W.kitOne K (.ref Cw) (.ref Cw)=some true)
  (y41_39:W.kitOne K (.ref Cw) (.ref Cu)=some false)
  (y41_43:W.kitOne K (.ref Cw) (.ref GK)=some false)
  (y41_44:W.kitOne K (.ref Cw) (.ref GL)=some false)
  (y41_45:W.kitOne K (.ref Cw) (.ref GN)=some false)
  (y41_46:W.kitOne K (.ref Cw) (.ref GO)=some false)
  (y41_47:W.kitOne K (.ref Cw) (.ref GP)=some false)
  (y41_48:W.kitOne K (.ref Cw) (.ref GQ)=some false)
  (y41_49:W.kitOne K (.ref Cw) (.ref GR)=some false)
  (y41_50:W.kitOne K (.ref Cw) (.ref GS)=some false)
  (y41_51:W.kitOne K (.ref Cw) (.ref GU)=some false)
  (y41_52:W.kitOne K (.ref Cw) (.type "ValueError")=some true)
  (m41_53:W.exmOne K (.ref Cw) (.ref Hu)=some true)
  (z0:W.nsIn K mainGlobals "len" = some none)
  (z1:W.nsIn K mainGlobals "sum" = some none)
  (z2:W.nsIn K mainGlobals "min" = some none)
  (z3:W.nsIn K mainGlobals "max" = some none)
  (z4:W.nsIn K mainGlobals "sorted" = some none)
  (z5:W.nsIn K mainGlobals "list" = some none)
  (z6:W.nsIn K mainGlobals "tuple" = some none)
  (z7:W.nsIn K mainGlobals "ord" = some none)
  (z8:W.nsIn K mainGlobals "int" = some none)
  (z9:W.nsIn K mainGlobals "all" = some none)
  (z10:W.nsIn K mainGlobals "any" = some none)
  (z11:W.nsIn K mainGlobals "str" = some none)
  (z12:W.nsIn K mainGlobals "set" = some none)
  (z13:W.nsIn K mainGlobals "abs" = some none)
  (z14:W.nsIn K mainGlobals "isinstance" = some none)
  (z15:W.nsIn K mainGlobals "range" = some none)
  (z16:W.nsIn K mainGlobals "bool" = some none)
  (z17:W.nsIn K mainGlobals "zip" = some none)
  (z18:W.nsIn K mainGlobals "reversed" = some none)
  (z19:W.nsIn K mainGlobals "dict" = some none) :
  ∃ fd:FuncData,(∀ (s:Shared) (v:Value),BindsTo s fd ⟨[v],[]⟩ [(sj,v)])/\∀ base:Heap,K.In base->base.Ns mainGlobals mg->Df l.prog w K mg base (C7 l.prog w) (12+1) fa fd [sj] (JW K (aa T (12+1)) si [sj]):=by
 have e:=SM.symm.trans (PySem.W.mg_of X G a37)
 cases e
 have t:D5 K mg Z T:=by
  constructor
  case FV=>
   exact xu
  case blt=>
   exact fun n x hx=>by
    have key:∀ y∈bb,mg y=none:=by
     intro y hy
     simp only[bb,List.mem_cons,List.not_mem_nil,or_false] at hy
     rcases hy with rfl|rfl|rfl|rfl|rfl|rfl|rfl|rfl|rfl|rfl|rfl|rfl|rfl|rfl|rfl|rfl|rfl|rfl|rfl|rfl
     ·exact W.mg_none_of X G z0
     ·exact W.mg_none_of X G z1
     ·exact W.mg_none_of X G z2
     ·exact W.mg_none_of X G z3
     ·exact W.mg_none_of X G z4
     ·exact W.mg_none_of X G z5
     ·exact W.mg_none_of X G z6
     ·exact W.mg_none_of X G z7
     ·exact W.mg_none_of X G z8
     ·exact W.mg_none_of X G z9
     ·exact W.mg_none_of X G z10
     ·exact W.mg_none_of X G z11
     ·exact W.mg_none_of X G z12
     ·exact W.mg_none_of X G z13
     ·exact W.mg_none_of X G z14
     ·exact W.mg_none_of X G z15
     ·exact W.mg_none_of X G z16
     ·exact W.mg_none_of X G z17
     ·exact W.mg_none_of X G z18
     ·exact W.mg_none_of X G z19
    exact key x (List.mem_of_getElem? hx)
  case cst=>
   exact fun n d x hm hx=>by
    have D3:(n,d)∈([(20,(.int 10007))]:List (Nat×D)):=hm
    simp only[List.mem_cons,List.not_mem_nil,or_false,Prod.mk.injEq] at D3
    rcases D3 with ⟨rfl,rfl⟩
    ·cases hx;exact⟨_,.int _,PySem.W.mg_of X G q20,⟨_,rfl⟩,fun _ _=>.int _⟩
  case fns=>
   exact fun f hf x hx=>by
    have D6:f∈([21,22,23,24,25,26,27,28,29,30,31,32,33,35,36,37]:List Nat):=hf
    simp only[List.mem_cons,List.not_mem_nil,or_false] at D6
    rcases D6 with rfl|rfl|rfl|rfl|rfl|rfl|rfl|rfl|rfl|rfl|rfl|rfl|rfl|rfl|rfl|rfl
    ·cases hx;exact SN
    ·cases hx;exact SO
    ·cases hx;exact SQ
    ·cases hx;exact SR
    ·cases hx;exact SU
    ·cases hx;exact SV
    ·cases hx;exact SW
    ·cases hx;exact SX
    ·cases hx;exact SY
    ·cases hx;exact S1
    ·cases hx;exact S2
    ·cases hx;exact S3
    ·cases hx;exact S4
    ·cases hx;exact S6
    ·cases hx;exact S7
    ·cases hx;exact dfo P4 rfl (fun _ _ _ _ _ _=>ln1 fun _=>rfl) X G a37 l37 e37 k37
  case DX=>
   exact fun f hf x hx=>by
    have D6:f∈([34]:List Nat):=hf
    simp only[List.mem_cons,List.not_mem_nil,or_false] at D6
    rcases D6 with rfl
    ·cases hx;exact S5
  case Pf=>
   exact fun f hf fn e=>by
    have D6:f∈([33]:List Nat):=hf
    simp only[List.mem_cons,List.not_mem_nil,or_false] at D6
    rcases D6 with rfl
    ·cases e;rfl
  case Gv=>
   exact fun n hn x hx=>by
    have DZ:n∈([42,40,38,41,39,43,44,45,46,47,48,49,50,51,52]:List Nat):=hn
    simp only[List.mem_cons,List.not_mem_nil,or_false] at DZ
    rcases DZ with rfl|rfl|rfl|rfl|rfl|rfl|rfl|rfl|rfl|rfl|rfl|rfl|rfl|rfl|rfl
    ·cases hx;exact⟨_,(.inl ⟨GJ,rfl,PySem.W.mg_of X G u42⟩)⟩
    ·cases hx;exact⟨_,(.inl ⟨Cv,rfl,PySem.W.mg_of X G u40⟩)⟩
    ·cases hx;exact⟨_,(.inl ⟨Ct,rfl,PySem.W.mg_of X G u38⟩)⟩
    ·cases hx;exact⟨_,(.inl ⟨Cw,rfl,PySem.W.mg_of X G u41⟩)⟩
    ·cases hx;exact⟨_,(.inl ⟨Cu,rfl,PySem.W.mg_of X G u39⟩)⟩
    ·cases hx;exact⟨_,(.inl ⟨GK,rfl,PySem.W.mg_of X G u43⟩)⟩
    ·cases hx;exact⟨_,(.inl ⟨GL,rfl,PySem.W.mg_of X G u44⟩)⟩
    ·cases hx;exact⟨_,(.inl ⟨GN,rfl,PySem.W.mg_of X G u45⟩)⟩
    ·cases hx;exact⟨_,(.inl ⟨GO,rfl,PySem.W.mg_of X G u46⟩)⟩
    ·cases hx;exact⟨_,(.inl ⟨GP,rfl,PySem.W.mg_of X G u47⟩)⟩
    ·cases hx;exact⟨_,(.inl ⟨GQ,rfl,PySem.W.mg_of X G u48⟩)⟩
    ·cases hx;exact⟨_,(.inl ⟨GR,rfl,PySem.W.mg_of X G u49⟩)⟩
    ·cases hx;exact⟨_,(.inl ⟨GS,rfl,PySem.W.mg_of X G u50⟩)⟩
    ·cases hx;exact⟨_,(.inl ⟨GU,rfl,PySem.W.mg_of X G u51⟩)⟩
    ·cases hx;exact⟨_,(.inr ⟨"ValueError",rfl,W.mg_none_of X G u52,by decide +kernel⟩)⟩
  case FE=>
   exact fun c n b x hm hx=>by
    have D3:(c,n,b)∈([(Str.ofString "Twice",42,false),(Str.ofString "Twice",40,false),(Str.ofString "Twice",38,true),(Str.ofString "Twice",41,false),(Str.ofString "Twice",39,false),(Str.ofString "Twice",43,false),(Str.ofString "Twice",44,false),(Str.ofString "Twice",45,false),(Str.ofString "Twice",46,false),(Str.ofString "Twice",47,false),(Str.ofString "Twice",48,false),(Str.ofString "Twice",49,false),(Str.ofString "Twice",50,false),(Str.ofString "Twice",51,false),(Str.ofString "Twice",52,true),(Str.ofString "TooMuch",42,false),(Str.ofString "TooMuch",40,false),(Str.ofString "TooMuch",38,false),(Str.ofString "TooMuch",41,false),(Str.ofString "TooMuch",39,true),(Str.ofString "TooMuch",43,false),(Str.ofString "TooMuch",44,false),(Str.ofString "TooMuch",45,false),(Str.ofString "TooMuch",46,false),(Str.ofString "TooMuch",47,false),(Str.ofString "TooMuch",48,false),(Str.ofString "TooMuch",49,false),(Str.ofString "TooMuch",50,false),(Str.ofString "TooMuch",51,false),(Str.ofString "TooMuch",52,true),(Str.ofString "NoFace",42,false),(Str.ofString "NoFace",40,true),(Str.ofString "NoFace",38,false),(Str.ofString "NoFace",41,false),(Str.ofString "NoFace",39,false),(Str.ofString "NoFace",43,false),(Str.ofString "NoFace",44,false),(Str.ofString "NoFace",45,false),(Str.ofString "NoFace",46,false),(Str.ofString "NoFace",47,false),(Str.ofString "NoFace",48,false),(Str.ofString "NoFace",49,false),(Str.ofString "NoFace",50,false),(Str.ofString "NoFace",51,false),(Str.ofString "NoFace",52,true),(Str.ofString "BadShare",42,false),(Str.ofString "BadShare",40,false),(Str.ofString "BadShare",38,false),(Str.ofString "BadShare",41,true),(Str.ofString "BadShare",39,false),(Str.ofString "BadShare",43,false),(Str.ofString "BadShare",44,false),(Str.ofString "BadShare",45,false),(Str.ofString "BadShare",46,false),(Str.ofString "BadShare",47,false),(Str.ofString "BadShare",48,false),(Str.ofString "BadShare",49,false),(Str.ofString "BadShare",50,false),(Str.ofString "BadShare",51,false),(Str.ofString "BadShare",52,true)]:List (Str×Nat×Bool)):=hm
    simp only[List.mem_cons,List.not_mem_nil,or_false,Prod.mk.injEq] at D3
    rcases D3 with ⟨rfl,rfl,rfl⟩|⟨rfl,rfl,rfl⟩|⟨rfl,rfl,rfl⟩|⟨rfl,rfl,rfl⟩|⟨rfl,rfl,rfl⟩|⟨rfl,rfl,rfl⟩|⟨rfl,rfl,rfl⟩|⟨rfl,rfl,rfl⟩|⟨rfl,rfl,rfl⟩|⟨rfl,rfl,rfl⟩|⟨rfl,rfl,rfl⟩|⟨rfl,rfl,rfl⟩|⟨rfl,rfl,rfl⟩|⟨rfl,rfl,rfl⟩|⟨rfl,rfl,rfl⟩|⟨rfl,rfl,rfl⟩|⟨rfl,rfl,rfl⟩|⟨rfl,rfl,rfl⟩|⟨rfl,rfl,rfl⟩|⟨rfl,rfl,rfl⟩|⟨rfl,rfl,rfl⟩|⟨rfl,rfl,rfl⟩|⟨rfl,rfl,rfl⟩|⟨rfl,rfl,rfl⟩|⟨rfl,rfl,rfl⟩|⟨rfl,rfl,rfl⟩|⟨rfl,rfl,rfl⟩|⟨rfl,rfl,rfl⟩|⟨rfl,rfl,rfl⟩|⟨rfl,rfl,rfl⟩|⟨rfl,rfl,rfl⟩|⟨rfl,rfl,rfl⟩|⟨rfl,rfl,rfl⟩|⟨rfl,rfl,rfl⟩|⟨rfl,rfl,rfl⟩|⟨rfl,rfl,rfl⟩|⟨rfl,rfl,rfl⟩|⟨rfl,rfl,rfl⟩|⟨rfl,rfl,rfl⟩|⟨rfl,rfl,rfl⟩|⟨rfl,rfl,rfl⟩|⟨rfl,rfl,rfl⟩|⟨rfl,rfl,rfl⟩|⟨rfl,rfl,rfl⟩|⟨rfl,rfl,rfl⟩|⟨rfl,rfl,rfl⟩|⟨rfl,rfl,rfl⟩|⟨rfl,rfl,rfl⟩|⟨rfl,rfl,rfl⟩|⟨rfl,rfl,rfl⟩|⟨rfl,rfl,rfl⟩|⟨rfl,rfl,rfl⟩|⟨rfl,rfl,rfl⟩|⟨rfl,rfl,rfl⟩|⟨rfl,rfl,rfl⟩|⟨rfl,rfl,rfl⟩|⟨rfl,rfl,rfl⟩|⟨rfl,rfl,rfl⟩|⟨rfl,rfl,rfl⟩|⟨rfl,rfl,rfl⟩
    ·cases hx;exact⟨Ct,u38,⟨vg38,vo38,vc38,vb38,vj38,vi38⟩,fun v hv=>by rw[Ce.fn hv (.inl ⟨GJ,rfl,PySem.W.mg_of X G u42⟩)];exact y38_42⟩
    ·cases hx;exact⟨Ct,u38,⟨vg38,vo38,vc38,vb38,vj38,vi38⟩,fun v hv=>by rw[Ce.fn hv (.inl ⟨Cv,rfl,PySem.W.mg_of X G u40⟩)];exact y38_40⟩
    ·cases hx;exact⟨Ct,u38,⟨vg38,vo38,vc38,vb38,vj38,vi38⟩,fun v hv=>by rw[Ce.fn hv (.inl ⟨Ct,rfl,PySem.W.mg_of X G u38⟩)];exact y38_38⟩
    ·cases hx;exact⟨Ct,u38,⟨vg38,vo38,vc38,vb38,vj38,vi38⟩,fun v hv=>by rw[Ce.fn hv (.inl ⟨Cw,rfl,PySem.W.mg_of X G u41⟩)];exact y38_41⟩
    ·cases hx;exact⟨Ct,u38,⟨vg38,vo38,vc38,vb38,vj38,vi38⟩,fun v hv=>by rw[Ce.fn hv (.inl ⟨Cu,rfl,PySem.W.mg_of X G u39⟩)];exact y38_39⟩
    ·cases hx;exact⟨Ct,u38,⟨vg38,vo38,vc38,vb38,vj38,vi38⟩,fun v hv=>by rw[Ce.fn hv (.inl ⟨GK,rfl,PySem.W.mg_of X G u43⟩)];exact y38_43⟩
    ·cases hx;exact⟨Ct,u38,⟨vg38,vo38,vc38,vb38,vj38,vi38⟩,fun v hv=>by rw[Ce.fn hv (.inl ⟨GL,rfl,PySem.W.mg_of X G u44⟩)];exact y38_44⟩
    ·cases hx;exact⟨Ct,u38,⟨vg38,vo38,vc38,vb38,vj38,vi38⟩,fun v hv=>by rw[Ce.fn hv (.inl ⟨GN,rfl,PySem.W.mg_of X G u45⟩)];exact y38_45⟩
    ·cases hx;exact⟨Ct,u38,⟨vg38,vo38,vc38,vb38,vj38,vi38⟩,fun v hv=>by rw[Ce.fn hv (.inl ⟨GO,rfl,PySem.W.mg_of X G u46⟩)];exact y38_46⟩
    ·cases hx;exact⟨Ct,u38,⟨vg38,vo38,vc38,vb38,vj38,vi38⟩,fun v hv=>by rw[Ce.fn hv (.inl ⟨GP,rfl,PySem.W.mg_of X G u47⟩)];exact y38_47⟩
    ·cases hx;exact⟨Ct,u38,⟨vg38,vo38,vc38,vb38,vj38,vi38⟩,fun v hv=>by rw[Ce.fn hv (.inl ⟨GQ,rfl,PySem.W.mg_of X G u48⟩)];exact y38_48⟩
    ·cases hx;exact⟨Ct,u38,⟨vg38,vo38,vc38,vb38,vj38,vi38⟩,fun v hv=>by rw[Ce.fn hv (.inl ⟨GR,rfl,PySem.W.mg_of X G u49⟩)];exact y38_49⟩
    ·cases hx;exact⟨Ct,u38,⟨vg38,vo38,vc38,vb38,vj38,vi38⟩,fun v hv=>by rw[Ce.fn hv (.inl ⟨GS,rfl,PySem.W.mg_of X G u50⟩)];exact y38_50⟩
    ·cases hx;exact⟨Ct,u38,⟨vg38,vo38,vc38,vb38,vj38,vi38⟩,fun v hv=>by rw[Ce.fn hv (.inl ⟨GU,rfl,PySem.W.mg_of X G u51⟩)];exact y38_51⟩
    ·cases hx;exact⟨Ct,u38,⟨vg38,vo38,vc38,vb38,vj38,vi38⟩,fun v hv=>by rw[Ce.fn hv (.inr ⟨"ValueError",rfl,W.mg_none_of X G u52,by decide +kernel⟩)];exact y38_52⟩
    ·cases hx;exact⟨Cu,u39,⟨vg39,vo39,vc39,vb39,vj39,vi39⟩,fun v hv=>by rw[Ce.fn hv (.inl ⟨GJ,rfl,PySem.W.mg_of X G u42⟩)];exact y39_42⟩
    ·cases hx;exact⟨Cu,u39,⟨vg39,vo39,vc39,vb39,vj39,vi39⟩,fun v hv=>by rw[Ce.fn hv (.inl ⟨Cv,rfl,PySem.W.mg_of X G u40⟩)];exact y39_40⟩
    ·cases hx;exact⟨Cu,u39,⟨vg39,vo39,vc39,vb39,vj39,vi39⟩,fun v hv=>by rw[Ce.fn hv (.inl ⟨Ct,rfl,PySem.W.mg_of X G u38⟩)];exact y39_38⟩
    ·cases hx;exact⟨Cu,u39,⟨vg39,vo39,vc39,vb39,vj39,vi39⟩,fun v hv=>by rw[Ce.fn hv (.inl ⟨Cw,rfl,PySem.W.mg_of X G u41⟩)];exact y39_41⟩
    ·cases hx;exact⟨Cu,u39,⟨vg39,vo39,vc39,vb39,vj39,vi39⟩,fun v hv=>by rw[Ce.fn hv (.inl ⟨Cu,rfl,PySem.W.mg_of X G u39⟩)];exact y39_39⟩
    ·cases hx;exact⟨Cu,u39,⟨vg39,vo39,vc39,vb39,vj39,vi39⟩,fun v hv=>by rw[Ce.fn hv (.inl ⟨GK,rfl,PySem.W.mg_of X G u43⟩)];exact y39_43⟩
    ·cases hx;exact⟨Cu,u39,⟨vg39,vo39,vc39,vb39,vj39,vi39⟩,fun v hv=>by rw[Ce.fn hv (.inl ⟨GL,rfl,PySem.W.mg_of X G u44⟩)];exact y39_44⟩
    ·cases hx;exact⟨Cu,u39,⟨vg39,vo39,vc39,vb39,vj39,vi39⟩,fun v hv=>by rw[Ce.fn hv (.inl ⟨GN,rfl,PySem.W.mg_of X G u45⟩)];exact y39_45⟩
    ·cases hx;exact⟨Cu,u39,⟨vg39,vo39,vc39,vb39,vj39,vi39⟩,fun v hv=>by rw[Ce.fn hv (.inl ⟨GO,rfl,PySem.W.mg_of X G u46⟩)];exact y39_46⟩
    ·cases hx;exact⟨Cu,u39,⟨vg39,vo39,vc39,vb39,vj39,vi39⟩,fun v hv=>by rw[Ce.fn hv (.inl ⟨GP,rfl,PySem.W.mg_of X G u47⟩)];exact y39_47⟩
    ·cases hx;exact⟨Cu,u39,⟨vg39,vo39,vc39,vb39,vj39,vi39⟩,fun v hv=>by rw[Ce.fn hv (.inl ⟨GQ,rfl,PySem.W.mg_of X G u48⟩)];exact y39_48⟩
    ·cases hx;exact⟨Cu,u39,⟨vg39,vo39,vc39,vb39,vj39,vi39⟩,fun v hv=>by rw[Ce.fn hv (.inl ⟨GR,rfl,PySem.W.mg_of X G u49⟩)];exact y39_49⟩
    ·cases hx;exact⟨Cu,u39,⟨vg39,vo39,vc39,vb39,vj39,vi39⟩,fun v hv=>by rw[Ce.fn hv (.inl ⟨GS,rfl,PySem.W.mg_of X G u50⟩)];exact y39_50⟩
    ·cases hx;exact⟨Cu,u39,⟨vg39,vo39,vc39,vb39,vj39,vi39⟩,fun v hv=>by rw[Ce.fn hv (.inl ⟨GU,rfl,PySem.W.mg_of X G u51⟩)];exact y39_51⟩
    ·cases hx;exact⟨Cu,u39,⟨vg39,vo39,vc39,vb39,vj39,vi39⟩,fun v hv=>by rw[Ce.fn hv (.inr ⟨"ValueError",rfl,W.mg_none_of X G u52,by decide +kernel⟩)];exact y39_52⟩
    ·cases hx;exact⟨Cv,u40,⟨vg40,vo40,vc40,vb40,vj40,vi40⟩,fun v hv=>by rw[Ce.fn hv (.inl ⟨GJ,rfl,PySem.W.mg_of X G u42⟩)];exact y40_42⟩
    ·cases hx;exact⟨Cv,u40,⟨vg40,vo40,vc40,vb40,vj40,vi40⟩,fun v hv=>by rw[Ce.fn hv (.inl ⟨Cv,rfl,PySem.W.mg_of X G u40⟩)];exact y40_40⟩
    ·cases hx;exact⟨Cv,u40,⟨vg40,vo40,vc40,vb40,vj40,vi40⟩,fun v hv=>by rw[Ce.fn hv (.inl ⟨Ct,rfl,PySem.W.mg_of X G u38⟩)];exact y40_38⟩
    ·cases hx;exact⟨Cv,u40,⟨vg40,vo40,vc40,vb40,vj40,vi40⟩,fun v hv=>by rw[Ce.fn hv (.inl ⟨Cw,rfl,PySem.W.mg_of X G u41⟩)];exact y40_41⟩
    ·cases hx;exact⟨Cv,u40,⟨vg40,vo40,vc40,vb40,vj40,vi40⟩,fun v hv=>by rw[Ce.fn hv (.inl ⟨Cu,rfl,PySem.W.mg_of X G u39⟩)];exact y40_39⟩
    ·cases hx;exact⟨Cv,u40,⟨vg40,vo40,vc40,vb40,vj40,vi40⟩,fun v hv=>by rw[Ce.fn hv (.inl ⟨GK,rfl,PySem.W.mg_of X G u43⟩)];exact y40_43⟩
    ·cases hx;exact⟨Cv,u40,⟨vg40,vo40,vc40,vb40,vj40,vi40⟩,fun v hv=>by rw[Ce.fn hv (.inl ⟨GL,rfl,PySem.W.mg_of X G u44⟩)];exact y40_44⟩
    ·cases hx;exact⟨Cv,u40,⟨vg40,vo40,vc40,vb40,vj40,vi40⟩,fun v hv=>by rw[Ce.fn hv (.inl ⟨GN,rfl,PySem.W.mg_of X G u45⟩)];exact y40_45⟩
    ·cases hx;exact⟨Cv,u40,⟨vg40,vo40,vc40,vb40,vj40,vi40⟩,fun v hv=>by rw[Ce.fn hv (.inl ⟨GO,rfl,PySem.W.mg_of X G u46⟩)];exact y40_46⟩
    ·cases hx;exact⟨Cv,u40,⟨vg40,vo40,vc40,vb40,vj40,vi40⟩,fun v hv=>by rw[Ce.fn hv (.inl ⟨GP,rfl,PySem.W.mg_of X G u47⟩)];exact y40_47⟩
    ·cases hx;exact⟨Cv,u40,⟨vg40,vo40,vc40,vb40,vj40,vi40⟩,fun v hv=>by rw[Ce.fn hv (.inl ⟨GQ,rfl,PySem.W.mg_of X G u48⟩)];exact y40_48⟩
    ·cases hx;exact⟨Cv,u40,⟨vg40,vo40,vc40,vb40,vj40,vi40⟩,fun v hv=>by rw[Ce.fn hv (.inl ⟨GR,rfl,PySem.W.mg_of X G u49⟩)];exact y40_49⟩
    ·cases hx;exact⟨Cv,u40,⟨vg40,vo40,vc40,vb40,vj40,vi40⟩,fun v hv=>by rw[Ce.fn hv (.inl ⟨GS,rfl,PySem.W.mg_of X G u50⟩)];exact y40_50⟩
    ·cases hx;exact⟨Cv,u40,⟨vg40,vo40,vc40,vb40,vj40,vi40⟩,fun v hv=>by rw[Ce.fn hv (.inl ⟨GU,rfl,PySem.W.mg_of X G u51⟩)];exact y40_51⟩
    ·cases hx;exact⟨Cv,u40,⟨vg40,vo40,vc40,vb40,vj40,vi40⟩,fun v hv=>by rw[Ce.fn hv (.inr ⟨"ValueError",rfl,W.mg_none_of X G u52,by decide +kernel⟩)];exact y40_52⟩
    ·cases hx;exact⟨Cw,u41,⟨vg41,vo41,vc41,vb41,vj41,vi41⟩,fun v hv=>by rw[Ce.fn hv (.inl ⟨GJ,rfl,PySem.W.mg_of X G u42⟩)];exact y41_42⟩
    ·cases hx;exact⟨Cw,u41,⟨vg41,vo41,vc41,vb41,vj41,vi41⟩,fun v hv=>by rw[Ce.fn hv (.inl ⟨Cv,rfl,PySem.W.mg_of X G u40⟩)];exact y41_40⟩
    ·cases hx;exact⟨Cw,u41,⟨vg41,vo41,vc41,vb41,vj41,vi41⟩,fun v hv=>by rw[Ce.fn hv (.inl ⟨Ct,rfl,PySem.W.mg_of X G u38⟩)];exact y41_38⟩
    ·cases hx;exact⟨Cw,u41,⟨vg41,vo41,vc41,vb41,vj41,vi41⟩,fun v hv=>by rw[Ce.fn hv (.inl ⟨Cw,rfl,PySem.W.mg_of X G u41⟩)];exact y41_41⟩
    ·cases hx;exact⟨Cw,u41,⟨vg41,vo41,vc41,vb41,vj41,vi41⟩,fun v hv=>by rw[Ce.fn hv (.inl ⟨Cu,rfl,PySem.W.mg_of X G u39⟩)];exact y41_39⟩
    ·cases hx;exact⟨Cw,u41,⟨vg41,vo41,vc41,vb41,vj41,vi41⟩,fun v hv=>by rw[Ce.fn hv (.inl ⟨GK,rfl,PySem.W.mg_of X G u43⟩)];exact y41_43⟩
    ·cases hx;exact⟨Cw,u41,⟨vg41,vo41,vc41,vb41,vj41,vi41⟩,fun v hv=>by rw[Ce.fn hv (.inl ⟨GL,rfl,PySem.W.mg_of X G u44⟩)];exact y41_44⟩
    ·cases hx;exact⟨Cw,u41,⟨vg41,vo41,vc41,vb41,vj41,vi41⟩,fun v hv=>by rw[Ce.fn hv (.inl ⟨GN,rfl,PySem.W.mg_of X G u45⟩)];exact y41_45⟩
    ·cases hx;exact⟨Cw,u41,⟨vg41,vo41,vc41,vb41,vj41,vi41⟩,fun v hv=>by rw[Ce.fn hv (.inl ⟨GO,rfl,PySem.W.mg_of X G u46⟩)];exact y41_46⟩
    ·cases hx;exact⟨Cw,u41,⟨vg41,vo41,vc41,vb41,vj41,vi41⟩,fun v hv=>by rw[Ce.fn hv (.inl ⟨GP,rfl,PySem.W.mg_of X G u47⟩)];exact y41_47⟩
    ·cases hx;exact⟨Cw,u41,⟨vg41,vo41,vc41,vb41,vj41,vi41⟩,fun v hv=>by rw[Ce.fn hv (.inl ⟨GQ,rfl,PySem.W.mg_of X G u48⟩)];exact y41_48⟩
    ·cases hx;exact⟨Cw,u41,⟨vg41,vo41,vc41,vb41,vj41,vi41⟩,fun v hv=>by rw[Ce.fn hv (.inl ⟨GR,rfl,PySem.W.mg_of X G u49⟩)];exact y41_49⟩
    ·cases hx;exact⟨Cw,u41,⟨vg41,vo41,vc41,vb41,vj41,vi41⟩,fun v hv=>by rw[Ce.fn hv (.inl ⟨GS,rfl,PySem.W.mg_of X G u50⟩)];exact y41_50⟩
    ·cases hx;exact⟨Cw,u41,⟨vg41,vo41,vc41,vb41,vj41,vi41⟩,fun v hv=>by rw[Ce.fn hv (.inl ⟨GU,rfl,PySem.W.mg_of X G u51⟩)];exact y41_51⟩
    ·cases hx;exact⟨Cw,u41,⟨vg41,vo41,vc41,vb41,vj41,vi41⟩,fun v hv=>by rw[Ce.fn hv (.inr ⟨"ValueError",rfl,W.mg_none_of X G u52,by decide +kernel⟩)];exact y41_52⟩
  case Gw=>
   exact fun c n x hm hx=>by
    have D3:(c,n)∈([(Str.ofString "Twice",53),(Str.ofString "TooMuch",53),(Str.ofString "NoFace",53),(Str.ofString "BadShare",53)]:List (Str×Nat)):=hm
    simp only[List.mem_cons,List.not_mem_nil,or_false,Prod.mk.injEq] at D3
    rcases D3 with ⟨rfl,rfl⟩|⟨rfl,rfl⟩|⟨rfl,rfl⟩|⟨rfl,rfl⟩
    ·cases hx;exact⟨Ct,Hu,u38,u53,vn38,PySem.W.mg_of X G u53,m38_53⟩
    ·cases hx;exact⟨Cu,Hu,u39,u53,vn39,PySem.W.mg_of X G u53,m39_53⟩
    ·cases hx;exact⟨Cv,Hu,u40,u53,vn40,PySem.W.mg_of X G u53,m40_53⟩
    ·cases hx;exact⟨Cw,Hu,u41,u53,vn41,PySem.W.mg_of X G u53,m41_53⟩
  case FW=>
   exact fun n c hm=>by
    have D3:(n,c)∈([(38,"Twice"),(39,"TooMuch"),(40,"NoFace"),(41,"BadShare")]:List (Nat×Str)):=hm
    simp only[List.mem_cons,List.not_mem_nil,or_false,Prod.mk.injEq] at D3
    rcases D3 with ⟨rfl,rfl⟩|⟨rfl,rfl⟩|⟨rfl,rfl⟩|⟨rfl,rfl⟩
    ·exact⟨rfl,Ct,PySem.W.mg_of X G u38,u38,vx38⟩
    ·exact⟨rfl,Cu,PySem.W.mg_of X G u39,u39,vx39⟩
    ·exact⟨rfl,Cv,PySem.W.mg_of X G u40,u40,vx40⟩
    ·exact⟨rfl,Cw,PySem.W.mg_of X G u41,u41,vx41⟩
 exact⟨PySem.W.fnOf "law" "law" (bD (top 36)) (aM (top 36)) (ax (top 36)) .none Li Lj Lk Lh Jt Ll,fun s v=>.of_eq rfl,fun base _ _=>wX t 12 (by decide) (f:=37) (fn:=Ia) rfl (eF (st:=top 36) l37 e37 k37) (iP P4)⟩
end Law
namespace L2
open PySem PySem.Spec PyProof.Rows PySem.SeqAt
namespace Fr
variable {T:Tb}
theorem cell {f:Nat}{fn:Fn}(hT:T f=some fn)(h0:fn.io=none)(h1:fn.np=2)(h2:fn.G.N.length=2)(h3:fn.body=u6)(n:Nat)(ns:List Int)(k:Int)(hk:0<=k):aa T (n+1) f [.lst false (ns.map .int),.int k]=.ok (.int (ns.getD k.toNat 0)):=by
 rw[Ev.go hT h0 h1 h2 h3 rfl]
 unfold u6
 by_cases h:k < (ns.length:Int)
 ·have hd:decide (k < (((ns.map D.int).length:Nat):Int))=true:=decide_eq_true (by rw[List.length_map];exact h)
  simp -implicitDefEqProofs (disch:=omega) only[Cd,Nat.reduceBEq,Nat.reduceSub,Nat.reduceAdd,reduceIte,hd]
 ·have hd:decide (k < (((ns.map D.int).length:Nat):Int))=false:=decide_eq_false (by rw[List.length_map];exact h)
  simp -implicitDefEqProofs (disch:=omega) only[Cd,Nat.reduceBEq,Nat.reduceSub,Nat.reduceAdd,reduceIte,hd]
  rw[List.getD_eq_getElem?_getD,List.getElem?_eq_none (by omega)]
  rfl
noncomputable def gR:List IS:=[(.asg (.nm 3) (.bin .mod (.bin .add (.bin .add (.bin .mul (.v 3) (.c (.int 48271))) (.bin .mul (.bin .mul (.c (.int 7)) (.v 4)) (.v 4))) (.c (.int 3))) (.c (.int 2147483647)))),(.app 2 (.bin .fdiv (.v 3) (.c (.int 16))))]
noncomputable def kM:List IS:=[(.asg (.nm 2) (.lst [])),(.asg (.nm 3) (.bin .add (.bin .mod (.v 0) (.c (.int 2147483647))) (.c (.int 1)))),(.Cs (.nm 4) (.CM (.v 1)) gR),(.ret (.v 2))]
theorem stream {f:Nat}{fn:Fn}(hT:T f=some fn)(h0:fn.io=none)(h1:fn.np=2)(h2:fn.G.N.length=5)(h3:fn.body=kM)(n:Nat)(c m:Int)(T2:0<=m)(hm:m<=1000) :
  ∃ xs:List Int,aa T (n+1) f [.int c,.int m]=.ok (.lst true (xs.map .int))/\xs.length=m.toNat/\∀ x∈xs,0<=x:=by
 rw[Ev.go hT h0 h1 h2 h3 rfl]
 unfold kM
 obtain⟨BP,e,xs,num,kk,rfl,hl,hx,hn⟩:=Ev.kL (its:=bM 0 m) (τ:=[some (.int c),some (.int m),some (.lst true []),some (.int (c % 2147483647+1)),none]) (body:=Ev.turn (aa T n) (.nm 4) gR)
  (fun i τ=>∃ (xs:List Int) (num:Int) (kk:Option D),τ=[some (.int c),some (.int m),some (.lst true (xs.map .int)),some (.int num),kk]/\xs.length=i/\(∀ x∈xs,0<=x)/\0<=num)
  ⟨[],_,none,rfl,rfl,fun x hx=>absurd hx (by simp),by have:=Int.emod_nonneg c (show (2147483647:Int)≠0 by decide);omega⟩ (by
   rintro i x τ hx ⟨xs,num,kk,rfl,hl,S8,hn⟩
   have hi:i < m.toNat:=by
    have:=(List.getElem?_eq_some_iff.mp hx).1
    rw[cf] at this
    omega
   unfold bM at hx
   rw[List.getElem?_map,List.getElem?_range (by omega)] at hx
   have Dz:D.int (0+(i:Nat))=x:=Option.some.inj hx
   subst Dz
   refine⟨[some (.int c),some (.int m),some (.lst true ((xs++[(num*48271+7*(0+(i:Int))*(0+(i:Int))+3) % 2147483647 / 16]).map .int)),some (.int ((num*48271+7*(0+(i:Int))*(0+(i:Int))+3) % 2147483647)),some (.int (0+(i:Nat)))],?_,_,_,_,rfl,by rw[List.length_append,List.length_singleton,hl],fun x hx=>?_,Int.emod_nonneg _ (by decide)⟩
   ·unfold gR
    simp -implicitDefEqProofs (disch:=omega) only[Cd,Nat.reduceBEq,Nat.reduceSub,Nat.reduceAdd,reduceIte,Ev.aE,List.map_append,List.length_map]
   ·rcases List.mem_append.mp hx with hx|hx
    ·exact S8 x hx
    ·rw[List.mem_singleton] at hx
     rw[hx]
     exact Int.ediv_nonneg (Int.emod_nonneg _ (by decide)) (by decide))
 refine⟨xs,?_,?_,hx⟩
 ·simp -implicitDefEqProofs (disch:=omega) only[Cd,Nat.reduceBEq,Nat.reduceSub,Nat.reduceAdd,reduceIte,e]
 ·rw[hl,cf];omega
noncomputable def one (c:Nat):Str:=⟨#[c]⟩
noncomputable def Co (cs:List Nat):Str:=⟨cs.toArray⟩
theorem p9:(Str.ofString "abcdefghijklmnopqrstuvwxyz").cps.toList=List.range' 97 26:=by decide +kernel
theorem kN:(Str.ofString "abcdefghijklmnopqrstuvwxyz").length=26:=by decide +kernel
theorem qa {i:Int}(h0:0<=i)(h1:i < 26):bu (.str "abcdefghijklmnopqrstuvwxyz") (.int i)=.ok (.str (one (97+i.toNat))):=by
 rw[Ev.NB h0 (by rw[kN];exact h1) (by rw[kN];decide),p9]
 have:(List.range' 97 26).getD i.toNat 0=97+i.toNat:=by
  rw[List.getD_eq_getElem?_getD,List.getElem?_range' (by omega)]
  show 97+1*i.toNat=_
  omega
 rw[this]
 rfl
theorem cU (cs:List Nat):(Co cs).length=cs.length:=by unfold Co Str.length;simp
theorem sk (c:Nat):(one c).length=1:=rfl
theorem fX:∀ (cs:List Nat) (acc:Array Nat),(cs.map one).foldl (fun acc p=>acc++(Str.ofString "").cps++p.cps) acc=acc++cs.toArray
 | [],acc=>by simp
 | c::cs,acc=>by
  have e:(Str.ofString "").cps = #[]:=by decide +kernel
  rw[List.map_cons,List.foldl_cons,fX cs,e]
  show acc++#[]++#[c]++cs.toArray=_
  simp
theorem join_one (cs:List Nat):Txt.join "" (cs.map one)=Co cs:=by
 show (⟨((cs.map one).drop 1).foldl (fun acc p=>acc++(Str.ofString "").cps++p.cps) ((cs.map one).headD Str.empty).cps⟩:Str)=_
 cases cs with
 | nil=>rfl
 | cons c cs=>
  rw[List.map_cons,List.drop_succ_cons,List.drop_zero,List.headD_cons,fX]
  unfold Co one
  simp
theorem so (cs:List Nat):((cs.map one).map (fun y:Str=>y.length)).sum=cs.length:=by
 induction cs with
 | nil=>rfl
 | cons c cs ih=>
  rw[List.map_cons,List.map_cons,List.sum_cons,ih,List.length_cons,sk]
  omega
theorem sr {o:Bool}{cs:List Nat}(h:cs.length<=1000):eP .join (.str "") [.lst o ((cs.map one).map .str)]=.ok (.str (Co cs)):=by
 have e:(Str.ofString "").length=0:=by decide +kernel
 rw[Ev.sa (by rw[so,List.length_map,e];omega),join_one]
theorem fm {cs:List Nat}{j:Int}(h0:0<=j)(h1:j<=cs.length):Txt.slice (Co cs) none (some j)=Co (cs.take j.toNat):=by
 have:=StrLaws.sliceText_to (x:=Co cs) (j:=j) ⟨h0,by show j<=(cs.toArray.toList.length:Nat);simpa using h1⟩
 refine this.trans ?_
 show (⟨((cs.toArray.toList.drop 0).take (j - 0).toNat).toArray⟩:Str)=⟨(cs.take j.toNat).toArray⟩
 rw[List.toList_toArray,List.drop_zero,Int.sub_zero]
theorem jF {cs:List Nat}{i:Int}(h0:0<=i)(h1:i<=cs.length):Txt.slice (Co cs) (some i) none=Co (cs.drop i.toNat):=by
 have:=StrLaws.sliceText_from (x:=Co cs) (i:=i) ⟨h0,by show i<=(cs.toArray.toList.length:Nat);simpa using h1⟩
 refine this.trans ?_
 show (⟨((cs.toArray.toList.drop i.toNat).take ((cs.toArray.toList.length:Int) - i).toNat).toArray⟩:Str)=⟨(cs.drop i.toNat).toArray⟩
 rw[List.toList_toArray,List.take_of_length_le (by rw[List.length_drop];omega)]
theorem su (a b:List Nat):Co a++Co b=Co (a++b):=by
 show (⟨a.toArray++b.toArray⟩:Str)=⟨(a++b).toArray⟩
 rw[List.append_toArray]
theorem kO {a b:List Nat}(h:a.length+b.length<=1000):DT .add (.str (Co a)) (.str (Co b))=.ok (.str (Co (a++b))):=by
 rw[Ev.jB,Ev.dS (by rw[cU,cU];omega),su]
 rfl
end Fr
end L2
namespace Law
open PySem PySem.Spec L2 L2.Fr
theorem kP {a b:List Nat}(h:Co a=Co b):a=b:=by
 unfold Co at h
 injection h with h
 simpa using congrArg Array.toList h
theorem cF (fs:List Str):BV (fs.map .str)=fs.map D.str:=Ev.jD fs
theorem gU (fs:List Str):aq (fs.map D.str)=true:=Ev.sd fs
noncomputable def ch (c k:Int):Nat:=97+((c / 3+7*k) % 26).toNat
theorem gV {α β:Type} [DecidableEq β](f:α->β):∀ {l:List α},l.Nodup->(∀ x∈l,∀ y∈l,f x=f y->x=y)->(l.map f).Nodup
 | [],_,_=>.nil
 | a::l,h,hf=>by
  rw[List.nodup_cons] at h
  rw[List.map_cons,List.nodup_cons]
  refine⟨fun z=>?_,gV f h.2 fun x hx y hy=>hf x (List.mem_cons_of_mem _ hx) y (List.mem_cons_of_mem _ hy)⟩
  obtain⟨x,hx,e⟩:=List.mem_map.mp z
  have:=hf x (List.mem_cons_of_mem _ hx) a (by simp) e
  exact h.1 (this ▸ hx)
noncomputable def ks (m:Int):List Int:=(List.range (m - 0).toNat).map fun k=>0+((k:Nat):Int)
theorem u7 (m:Int):(ks m).Nodup:=gV _ List.nodup_range fun x _ y _ e=>by omega
theorem fY {m x:Int}(h:x∈ks m):0<=x/\x < m:=by
 obtain⟨k,hk,rfl⟩:=List.mem_map.mp h
 have:=List.mem_range.mp hk
 omega
theorem jG (m:Int):(ks m).length=(m - 0).toNat:=by unfold ks;rw[List.length_map,List.length_range]
structure S9 (m:Int)(fs:List Str):Prop where
 len:fs.length=(m - 0).toNat
 Cf:fs.Nodup
 rep:∀ f∈fs,(reprText f).length<=1000
theorem kQ {cs:List Nat}(h:∀ c∈cs,c < 1000)(hl:cs.length<=90):(reprText (Co cs)).length<=1000:=by
 have h1:=StrLaws.reprText_len (Co cs) (fun c hc=>by have:=h c (by simpa[Co] using hc);omega)
 rw[cU] at h1
 omega
theorem qb (n:Nat)(c m:Int)(h0:0<=m)(h1:m<=12):∃ fs:List Str,aa T (n+2) 32 [.int c,.int m]=.ok (.lst true (fs.map .str))/\S9 m fs:=by
 obtain⟨xs,ex,lx,px⟩:=stream (show T 31=some Lf from rfl) rfl rfl rfl rfl n (c / 3) 8 (by omega) (by omega)
 have e1:ba (bc (aa T (n+1)) (.nm 1) [] (.idx (.v 0) (.bin .mod (.v 1) (.c (.int 26)))) [some (.str "abcdefghijklmnopqrstuvwxyz"),none]) (xs.map .int)=.ok (((xs.map fun x=>97+(x % 26).toNat).map one).map .str):=by
  have hg:(xs.map fun x=>97+(x % 26).toNat).map one=xs.map fun x:Int=>one (97+(x % 26).toNat):=by
   rw[List.map_map]
   rfl
  rw[hg]
  refine Ev.bj D.int (fun x:Int=>one (97+(x % 26).toNat)) .str _ fun x hx=>?_
  have T3:=Int.emod_nonneg x (show (26:Int)≠0 by decide)
  have Ta:=Int.emod_lt_of_pos x (show (0:Int) < 26 by decide)
  simp -implicitDefEqProofs (disch:=omega) only[Cd,Nat.reduceBEq,Nat.reduceSub,Nat.reduceAdd,reduceIte,qa]
 have lb:(xs.map fun x=>97+(x % 26).toNat).length=8:=by rw[List.length_map,lx];rfl
 have K8:∀ c∈(xs.map fun x=>97+(x % 26).toNat),c < 1000:=fun c hc=>by
  obtain⟨x,_,rfl⟩:=List.mem_map.mp hc
  have Ta:=Int.emod_lt_of_pos x (show (0:Int) < 26 by decide)
  omega
 generalize (xs.map fun x=>97+(x % 26).toNat)=cs at *
 have NM:(xs.map D.int).length=8:=by rw[List.length_map,lx];rfl
 have je:∀ o:Bool,eP .join (.str "") [.lst o ((cs.map one).map .str)]=.ok (.str (Co cs)):=fun o=>sr (by omega)
 generalize (cs.map one).map D.str=J at *
 generalize xs.map D.int=X at *
 have rk:bM 0 m=(ks m).map .int:=Ev.p8 0 m
 have lk:((ks m).map D.int).length=(m - 0).toNat:=by rw[List.length_map,jG]
 by_cases hb:c % 3=1/\m<=8
 ·have b1:(c % 3 == 1)=true:=by rw[hb.1];rfl
  have b2:decide (m<=8)=true:=decide_eq_true hb.2
  have e2:ba (bc (aa T (n+1)) (.nm 1) [] (.sl (.v 0) none (some (.bin .add (.v 1) (.c (.int 1))))) [some (.str (Co cs)),none]) ((ks m).map .int)=.ok (((ks m).map fun k=>Co (cs.take (k+1).toNat)).map .str):=by
   refine Ev.bj D.int (fun k:Int=>Co (cs.take (k+1).toNat)) .str _ fun k hk=>?_
   obtain⟨k0,k1⟩:=fY hk
   have es:=fm (cs:=cs) (j:=k+1) (by omega) (by omega)
   have sl:=cU cs
   have s8:(Co cs).length<=16777216:=by omega
   simp -implicitDefEqProofs (disch:=omega) only[Cd,Nat.reduceBEq,Nat.reduceSub,Nat.reduceAdd,reduceIte,es]
  refine⟨(ks m).map fun k=>Co (cs.take (k+1).toNat),?_,by rw[List.length_map,jG],gV _ (u7 m) fun x hx y hy e=>?_,fun f hf=>?_⟩
  ·rw[Ev.go (show T 32=some FZ from rfl) (show FZ.io=none from rfl) (show FZ.np=2 from rfl) (show FZ.G.N.length=5 from rfl) (show FZ.body=Lg from rfl) rfl];unfold Lg
   generalize ((ks m).map fun k=>Co (cs.take (k+1).toNat))=F at *
   have ff:=gU F
   generalize (ks m).map D.int=KK at *
   simp -implicitDefEqProofs (disch:=omega) only[Cd,Nat.reduceBEq,Nat.reduceSub,Nat.reduceAdd,reduceIte,ex,e1,je,b1,b2,rk,e2,NM,lk,ff]
  ·obtain⟨x0,x1⟩:=fY hx
   obtain⟨y0,y1⟩:=fY hy
   have:=congrArg List.length (kP e)
   rw[List.length_take,List.length_take] at this
   omega
  ·obtain⟨k,_,rfl⟩:=List.mem_map.mp hf
   exact kQ (fun c hc=>K8 c (List.mem_of_mem_take hc)) (by rw[List.length_take];omega)
 ·have b3:((c % 3 == 1)&&decide (m<=8))=false:=by
   rw[Bool.and_eq_false_iff]
   by_cases hc:c % 3=1
   ·exact .inr (decide_eq_false fun z=>hb ⟨hc,z⟩)
   ·exact .inl (by simpa using hc)
  have m0:=Int.emod_nonneg (c / 3) (show (8:Int)≠0 by decide)
  have m1:=Int.emod_lt_of_pos (c / 3) (show (0:Int) < 8 by decide)
  have es:=fm (cs:=cs) (j:=1+c / 3 % 8) (by omega) (by omega)
  have T4:(cs.take (1+c / 3 % 8).toNat).length=(1+c / 3 % 8).toNat:=by rw[List.length_take];omega
  have sl:=cU cs
  have hB:∀ c'∈cs.take (1+c / 3 % 8).toNat,c' < 1000:=fun c' hc=>K8 c' (List.mem_of_mem_take hc)
  generalize cs.take (1+c / 3 % 8).toNat=B at *
  have Tc:=cU B
  have hlen:((Co B).length:Int)=1+c / 3 % 8:=by rw[Tc];omega
  have a0:=Int.emod_nonneg (c / 24) (show ((Co B).length:Int)≠0 by omega)
  have a1:=Int.emod_lt_of_pos (c / 24) (show (0:Int) < ((Co B).length:Int) by omega)
  generalize IE:c / 24 % ((Co B).length:Int)=at' at *
  have Hs:=fm (cs:=B) (j:=at') (by omega) (by omega)
  have Td:=jF (cs:=B) (i:=at' + 1) (by omega) (by omega)
  have la:(B.take at'.toNat).length<=8:=by rw[List.length_take];omega
  have lc:(B.drop (at' + 1).toNat).length<=8:=by rw[List.length_drop];omega
  have hA:∀ c'∈B.take at'.toNat,c' < 1000:=fun c' hc=>hB c' (List.mem_of_mem_take hc)
  have hC:∀ c'∈B.drop (at' + 1).toNat,c' < 1000:=fun c' hc=>hB c' (List.mem_of_mem_drop hc)
  generalize B.take at'.toNat=A at *
  generalize B.drop (at' + 1).toNat=C at *
  have e2:ba (bc (aa T (n+1)) (.nm 4) [] (.bin .add (.bin .add (.sl (.v 0) none (some (.v 1))) (.idx (.v 2) (.bin .mod (.bin .add (.bin .fdiv (.v 3) (.c (.int 3))) (.bin .mul (.c (.int 7)) (.v 4))) (.c (.int 26))))) (.sl (.v 0) (some (.bin .add (.v 1) (.c (.int 1)))) none)) [some (.str (Co B)),some (.int at'),some (.str "abcdefghijklmnopqrstuvwxyz"),some (.int c),none]) ((ks m).map .int)=.ok (((ks m).map fun k=>Co (A++[ch c k]++C)).map .str):=by
   refine Ev.bj D.int (fun k:Int=>Co (A++[ch c k]++C)) .str _ fun k hk=>?_
   obtain⟨k0,k1⟩:=fY hk
   have r0:=Int.emod_nonneg (c / 3+7*k) (show (26:Int)≠0 by decide)
   have r1:=Int.emod_lt_of_pos (c / 3+7*k) (show (0:Int) < 26 by decide)
   have f0:=qa r0 r1
   rw[show one (97+((c / 3+7*k) % 26).toNat)=Co [ch c k] from rfl] at f0
   have f1:DT .add (.str (Co A)) (.str (Co [ch c k]))=.ok (.str (Co (A++[ch c k]))):=kO (by rw[List.length_cons,List.length_nil];omega)
   have f2:DT .add (.str (Co (A++[ch c k]))) (.str (Co C))=.ok (.str (Co (A++[ch c k]++C))):=kO (by rw[List.length_append,List.length_cons,List.length_nil];omega)
   generalize Co (A++[ch c k]++C)=W3 at *
   generalize Co (A++[ch c k])=W2 at *
   generalize Co [ch c k]=W1 at *
   have s8:(Co B).length<=16777216:=by omega
   simp -implicitDefEqProofs (disch:=omega) only[Cd,Nat.reduceBEq,Nat.reduceSub,Nat.reduceAdd,reduceIte,Hs,Td,f0,f1,f2]
  refine⟨(ks m).map fun k=>Co (A++[ch c k]++C),?_,by rw[List.length_map,jG],gV _ (u7 m) fun x hx y hy e=>?_,fun f hf=>?_⟩
  ·rw[Ev.go (show T 32=some FZ from rfl) (show FZ.io=none from rfl) (show FZ.np=2 from rfl) (show FZ.G.N.length=5 from rfl) (show FZ.body=Lg from rfl) rfl];unfold Lg
   generalize ((ks m).map fun k=>Co (A++[ch c k]++C))=F at *
   have ff:=gU F
   generalize (ks m).map D.int=KK at *
   have s8:(Co cs).length<=16777216:=by omega
   have s9:(Co B).length<=16777216:=by omega
   have sp:(0:Int) < ((Co B).length:Int):=by omega
   cases q1:(c % 3 == 1) with
   | true=>
    cases q2:decide (m<=8) with
    | true=>rw[q1,q2] at b3;cases b3
    | false=>simp -implicitDefEqProofs (disch:=omega) only[Cd,Nat.reduceBEq,Nat.reduceSub,Nat.reduceAdd,reduceIte,ex,e1,je,q1,q2,rk,e2,NM,lk,ff,es,IE]
   | false=>simp -implicitDefEqProofs (disch:=omega) only[Cd,Nat.reduceBEq,Nat.reduceSub,Nat.reduceAdd,reduceIte,ex,e1,je,q1,rk,e2,NM,lk,ff,es,IE]
  ·obtain⟨x0,x1⟩:=fY hx
   obtain⟨y0,y1⟩:=fY hy
   have e3:=kP e
   rw[List.append_assoc,List.append_assoc] at e3
   have e4:=List.append_cancel_left e3
   have e5:ch c x=ch c y:=by
    rw[List.singleton_append,List.singleton_append] at e4
    exact(List.cons.inj e4).1
   unfold ch at e5
   omega
  ·obtain⟨k,_,rfl⟩:=List.mem_map.mp hf
   have r1:=Int.emod_lt_of_pos (c / 3+7*k) (show (0:Int) < 26 by decide)
   refine kQ (fun c' hc=>?_) (by simp only[List.length_append,List.length_cons,List.length_nil];omega)
   rcases List.mem_append.mp hc with hc|hc
   ·rcases List.mem_append.mp hc with hc|hc
    ·exact hA c' hc
    ·rw[List.mem_singleton.mp hc]
     unfold ch
     omega
   ·exact hC c' hc
theorem kR:∀ (l σ:List Str),(σ++l).Nodup->l.foldl Sx.dd σ=σ++l
 | [],σ,_=>by simp
 | v::l,σ,h=>by
  have hv:¬ (σ.any (· == v))=true:=fun z=>by
   obtain⟨a,ha,e⟩:=List.any_eq_true.mp z
   have e':a=v:=by simpa using e
   subst e'
   exact(List.nodup_append.mp h).2.2 a ha a (by simp) rfl
  have e:Sx.dd σ v=σ++[v]:=by unfold Sx.dd;rw[if_neg hv]
  rw[List.foldl_cons,e,kR l (σ++[v]) (by rw[List.append_assoc];exact h),List.append_assoc]
  rfl
theorem xw {fs:List Str}(h:fs.Nodup)(hl:fs.length < 1000)(o:Bool):jS (.lst o (fs.map .str))=.ok (.int (fs.length:Nat)):=by
 show (match br (fs.map .str) with|some ys=>BN (decide (ys.length < 1000)) (.ok (.int ((ys.foldl Sx.dd []).length:Nat)))|none=>BR)=(_:Res D)
 rw[Ev.iV]
 show BN (decide _) _=_
 rw[decide_eq_true hl,kR fs [] h]
 rfl
noncomputable def row (f:Str):D:=.tup [.str f,.lst false []]
noncomputable def L9 (fs:List Str):D:=.tup [.lst true (fs.map row),.lst true [.tup [.int 0,.int 10007]]]
theorem sv (cl:Nat->List D->Res D)(fs:List Str):ba (bc cl (.nm 0) [] (.tup [(.v 0),(.lst [])]) [none]) (fs.map .str)=.ok (fs.map fun f=>.tup [.str f,.lst true []]):=by
 have:=Ev.bj (g:=bc cl (.nm 0) [] (.tup [(.v 0),(.lst [])]) [none]) D.str (fun f:Str=>f) (fun f=>D.tup [.str f,.lst true []]) fs fun f _=>by
  simp -implicitDefEqProofs (disch:=omega) only[Cd,Nat.reduceBEq,Nat.reduceSub,Nat.reduceAdd,reduceIte]
 rw[this,List.map_id']
theorem sx (fs:List Str):BV (fs.map fun f=>D.tup [.str f,.lst true []])=fs.map row:=by
 rw[bP,List.map_map]
 rfl
theorem sy (fs:List Str):aq (fs.map fun f=>D.tup [.str f,.lst true []])=fs.isEmpty:=by
 cases fs<;>rfl
theorem xx (n:Nat)(fs:List Str)(h:fs.Nodup)(hl:fs.length<=50):aa T (n+1) 24 [.lst false (fs.map .str)]=.ok (L9 fs):=by
 have e1:=xw h (by omega)
 have e2:=sv (aa T n) fs
 have e3:=sx fs
 have e4:=sy fs
 have lm:(fs.map D.str).length=fs.length:=List.length_map _
 have hd:decide ((fs.length:Int) < (fs.length:Int))=false:=decide_eq_false (by omega)
 have el:fs.isEmpty=true->(fs.map fun f=>D.tup [.str f,.lst true []])=fs.map row:=fun z=>by
  cases fs with
  | nil=>rfl
  | cons _ _=>cases z
 unfold L9
 rw[Ev.go (show T 24=some Jk from rfl) (show Jk.io=none from rfl) (show Jk.np=1 from rfl) (show Jk.G.N.length=1 from rfl) (show Jk.body=NG from rfl) rfl];unfold NG
 generalize (fs.map fun f=>D.tup [.str f,.lst true []])=R at *
 generalize fs.map row=R' at *
 generalize fs.map D.str=S at *
 cases z:fs.isEmpty with
 | true=>
  have Te:=el z
  rw[z] at e4
  subst Te
  simp -implicitDefEqProofs (disch:=omega) only[Cd,Nat.reduceBEq,Nat.reduceSub,Nat.reduceAdd,reduceIte,e1,e2,e3,e4,lm,hd]
 | false=>
  rw[z] at e4
  simp -implicitDefEqProofs (disch:=omega) only[Cd,Nat.reduceBEq,Nat.reduceSub,Nat.reduceAdd,reduceIte,e1,e2,e3,e4,lm,hd]
end Law
namespace L2
open PySem PySem.Spec PyProof.Rows PySem.SeqAt
namespace Rn
variable {T:Tb}
noncomputable abbrev Pr:=Int×Int
noncomputable def BX (p:Pr):D:=.tup [.int p.1,.int p.2]
theorem iW (run:List Pr):aq (run.map BX)=true:=by
 rw[a8,List.all_map,List.all_eq_true]
 intro x _
 rfl
theorem bF (run:List Pr):BV (run.map BX)=run.map BX:=bp (iW run)
noncomputable def cnt:List Pr->Int
 | []=>0
 | p::r=>(p.2 - p.1)+cnt r
noncomputable def CG (p:Pr)(w:Int):Int:=if p.2 < p.1+w then p.2 else p.1+w
noncomputable def dU:List Pr->List Pr->List Pr->Int->List Pr×List Pr
 | [],A,B,_=>(A,B)
 | p::r,A,B,w=>dU r (if p.1 < CG p w then A++[(p.1,CG p w)] else A) (if CG p w < p.2 then B++[(CG p w,p.2)] else B) (w - (CG p w - p.1))
theorem iX:∀ (r A B:List Pr) (w:Int),(dU r A B w).1.length<=A.length+r.length/\(dU r A B w).2.length<=B.length+r.length
 | [],A,B,w=>⟨Nat.le_refl _,Nat.le_refl _⟩
 | p::r,A,B,w=>by
  obtain⟨h1,h2⟩:=iX r (if p.1 < CG p w then A++[(p.1,CG p w)] else A) (if CG p w < p.2 then B++[(CG p w,p.2)] else B) (w - (CG p w - p.1))
  have a1:(if p.1 < CG p w then A++[(p.1,CG p w)] else A).length<=A.length+1:=by split<;>simp
  have a2:(if CG p w < p.2 then B++[(CG p w,p.2)] else B).length<=B.length+1:=by split<;>simp
  unfold dU
  rw[List.length_cons]
  exact⟨by omega,by omega⟩
noncomputable def Ib:List IS:=[(.asg (.nm 7) (.bi .min2 [(.bin .add (.v 5) (.v 4)),(.v 6)])),(.Cq (.cmp .lt (.v 5) (.v 7)) [(.app 2 (.tup [(.v 5),(.v 7)]))] []),(.Cq (.cmp .lt (.v 7) (.v 6)) [(.app 3 (.tup [(.v 7),(.v 6)]))] []),(.asg (.nm 4) (.bin .sub (.v 4) (.bin .sub (.v 7) (.v 5))))]
noncomputable def P5:List IS:=[(.asg (.nm 2) (.lst [])),(.asg (.nm 3) (.lst [])),(.asg (.nm 4) (.v 1)),(.Cs (.tp [(.nm 5),(.nm 6)]) (.val (.v 0)) Ib),(.ret (.tup [(.v 2),(.v 3)]))]
theorem dW (A:List Pr)(p:Pr):(A++[p]).map BX=A.map BX++[.tup [.int p.1,.int p.2]]:=by rw[List.map_append];rfl
theorem sF {cl:Nat->List D->Res D}(r0 m0:D)(A B:List Pr)(hA:A.length<=1000)(hB:B.length<=1000)(w:Int)(p:Pr)(x y z:Option D) :
  Ev.turn cl (.tp [(.nm 5),(.nm 6)]) Ib (BX p) [some r0,some m0,some (.lst true (A.map BX)),some (.lst true (B.map BX)),some (.int w),x,y,z]=.ok (.nx [some r0,some m0,some (.lst true ((if p.1 < CG p w then A++[(p.1,CG p w)] else A).map BX)),some (.lst true ((if CG p w < p.2 then B++[(CG p w,p.2)] else B).map BX)),some (.int (w - (CG p w - p.1))),some (.int p.1),some (.int p.2),some (.int (CG p w))]):=by
 have hc:(if p.2 < p.1+w then p.2 else p.1+w)=CG p w:=rfl
 rw[show BX p=.tup [.int p.1,.int p.2] from rfl]
 generalize CG p w=c at *
 by_cases c1:p.1 < c<;>by_cases c2:c < p.2
 ·have d1:decide (p.1 < c)=true:=decide_eq_true c1
  have d2:decide (c < p.2)=true:=decide_eq_true c2
  rw[if_pos c1,if_pos c2,dW,dW]
  unfold Ib
  simp -implicitDefEqProofs (disch:=omega) only[Cd,Nat.reduceBEq,Nat.reduceSub,Nat.reduceAdd,reduceIte,Ev.aE,hc,d1,d2,List.length_map]
 ·have d1:decide (p.1 < c)=true:=decide_eq_true c1
  have d2:decide (c < p.2)=false:=decide_eq_false c2
  rw[if_pos c1,if_neg c2,dW]
  unfold Ib
  simp -implicitDefEqProofs (disch:=omega) only[Cd,Nat.reduceBEq,Nat.reduceSub,Nat.reduceAdd,reduceIte,Ev.aE,hc,d1,d2,List.length_map]
 ·have d1:decide (p.1 < c)=false:=decide_eq_false c1
  have d2:decide (c < p.2)=true:=decide_eq_true c2
  rw[if_neg c1,if_pos c2,dW]
  unfold Ib
  simp -implicitDefEqProofs (disch:=omega) only[Cd,Nat.reduceBEq,Nat.reduceSub,Nat.reduceAdd,reduceIte,Ev.aE,hc,d1,d2,List.length_map]
 ·have d1:decide (p.1 < c)=false:=decide_eq_false c1
  have d2:decide (c < p.2)=false:=decide_eq_false c2
  rw[if_neg c1,if_neg c2]
  unfold Ib
  simp -implicitDefEqProofs (disch:=omega) only[Cd,Nat.reduceBEq,Nat.reduceSub,Nat.reduceAdd,reduceIte,Ev.aE,hc,d1,d2,List.length_map]
theorem kS {cl:Nat->List D->Res D}(r0 m0:D):∀ (run A B:List Pr) (w:Int) (x y z:Option D),A.length+run.length<=1000->B.length+run.length<=1000->
  ∃ v x' y' z',forM (Ev.turn cl (.tp [(.nm 5),(.nm 6)]) Ib) (run.map BX) [some r0,some m0,some (.lst true (A.map BX)),some (.lst true (B.map BX)),some (.int w),x,y,z]=.ok (.nx [some r0,some m0,some (.lst true ((dU run A B w).1.map BX)),some (.lst true ((dU run A B w).2.map BX)),v,x',y',z'])
 | [],A,B,w,x,y,z,_,_=>⟨_,_,_,_,rfl⟩
 | p::r,A,B,w,x,y,z,h1,h2=>by
  rw[List.length_cons] at h1 h2
  rw[List.map_cons,Ev.cQ,sF r0 m0 A B (by omega) (by omega)]
  have a1:(if p.1 < CG p w then A++[(p.1,CG p w)] else A).length<=A.length+1:=by split<;>simp
  have a2:(if CG p w < p.2 then B++[(CG p w,p.2)] else B).length<=B.length+1:=by split<;>simp
  exact kS r0 m0 r _ _ _ _ _ _ (by omega) (by omega)
theorem AG {f:Nat}{fn:Fn}(hT:T f=some fn)(h0:fn.io=none)(h1:fn.np=2)(h2:fn.G.N.length=8)(h3:fn.body=P5)(n:Nat)(run:List Pr)(hl:run.length<=1000)(w:Int):aa T (n+1) f [.lst false (run.map BX),.int w]=.ok (.tup [.lst true ((dU run [] [] w).1.map BX),.lst true ((dU run [] [] w).2.map BX)]):=by
 rw[Ev.go hT h0 h1 h2 h3 rfl]
 unfold P5
 have pe:=bF run
 obtain⟨v,x',y',z',e⟩:=kS (cl:=aa T n) (.lst false (run.map BX)) (.int w) run [] [] w none none none (by simpa using hl) (by simpa using hl)
 generalize Ib=tb at *
 rw[List.map_nil] at e
 simp -implicitDefEqProofs (disch:=omega) only[Cd,Nat.reduceBEq,Nat.reduceSub,Nat.reduceAdd,reduceIte,pe,e]
end Rn
namespace Rn
variable {T:Tb}
theorem cV (a b:List Pr):cnt (a++b)=cnt a+cnt b:=by
 induction a with
 | nil=>show cnt b=0+cnt b;omega
 | cons p r ih=>show (p.2 - p.1)+cnt (r++b)=(p.2 - p.1)+cnt r+cnt b;rw[ih];omega
def Pos (run:List Pr):Prop:=∀ p∈run,p.1 < p.2
theorem jH {run:List Pr}(h:Pos run):0<=cnt run:=by
 induction run with
 | nil=>exact Int.le_refl _
 | cons p r ih=>
  have:=ih fun q hq=>h q (List.mem_cons_of_mem _ hq)
  have h1:=h p (.head _)
  show 0<=(p.2 - p.1)+cnt r
  omega
theorem sG (xs:List D)(y:D):bE (Cy 39) (xs++[y]) []=.ok false:=by cases xs<;>rfl
noncomputable def P6:List IS:=[(.Cq (.EI (.cmp .eq (.v 0) (.lst [])) (.EI (.cmp .eq (.v 1) (.lst [])) (.cmp .ne (.idx (.idx (.v 0) (.neg (.c (.int 1)))) (.c (.int 1))) (.idx (.idx (.v 1) (.c (.int 0))) (.c (.int 0)))))) [(.ret (.bin .add (.v 0) (.v 1)))] []),(.asg (.nm 2) (.tup [(.idx (.idx (.v 0) (.neg (.c (.int 1)))) (.c (.int 0))),(.idx (.idx (.v 1) (.c (.int 0))) (.c (.int 1)))])),(.ret (.bin .add (.bin .add (.sl (.v 0) none (some (.neg (.c (.int 1))))) (.lst [(.v 2)])) (.sl (.v 1) (some (.c (.int 1))) none)))]
theorem qc (xs:List D)(y:D):cY (xs++[y]) none (some (-1))=xs:=by
 show ((xs++[y]).drop 0).take (((-1:Int)+(((xs++[y]).length:Nat):Int)).toNat - 0)=xs
 rw[List.drop_zero,Nat.sub_zero,List.length_append,List.length_singleton,show ((-1:Int)+((xs.length+1:Nat):Int)).toNat=xs.length by omega]
 exact List.take_left
theorem iY (x:D)(ys:List D):cY (x::ys) (some 1) none=ys:=by
 show ((x::ys).drop (min 1 (ys.length+1))).take ((ys.length+1) - min 1 (ys.length+1))=ys
 rw[show min 1 (ys.length+1)=1 from Nat.min_eq_left (by omega)]
 exact List.take_length
theorem AH {f:Nat}{fn:Fn}(hT:T f=some fn)(h0:fn.io=none)(h1:fn.np=2)(h2:fn.G.N.length=3)(h3:fn.body=P6)(n:Nat)(l r:List Pr)(ll:l.length<=1000)(lr:r.length<=1000):∃ j:List Pr,aa T (n+1) f [.lst false (l.map BX),.lst false (r.map BX)]=.ok (.lst true (j.map BX))/\cnt j=cnt l+cnt r/\(Pos l->Pos r->Pos j)/\j.length<=l.length+r.length:=by
 rw[Ev.go hT h0 h1 h2 h3 rfl]
 unfold P6
 have P7:∀ a b:List Pr,aq (a.map BX++b.map BX)=true:=fun a b=>by rw[<- List.map_append];exact iW _
 rcases List.eq_nil_or_concat l with rfl|⟨c,q,rfl⟩
 ·refine⟨r,?_,by show _=0+_;omega,fun _ h=>h,by simp⟩
  have lf:=iW r
  have lR:(r.map BX).length<=1000:=by rw[List.length_map];exact lr
  rw[List.map_nil]
  generalize r.map BX=R at *
  simp -implicitDefEqProofs (disch:=omega) only[Cd,Nat.reduceBEq,Nat.reduceSub,Nat.reduceAdd,reduceIte,lf]
 ·rw[List.concat_eq_append] at *
  obtain⟨ql,qh⟩:=q
  have hlen:((c++[(ql,qh)]).map BX).length=c.length+1:=by simp
  have Tf:c.length+1<=1000:=by simpa using ll
  have EN:bE (Cy 39) ((c++[(ql,qh)]).map BX) []=.ok false:=by rw[List.map_append];exact sG _ _
  have P8:bu (.lst false ((c++[(ql,qh)]).map BX)) (.int (-1))=.ok (.tup [.int ql,.int qh]):=by
   rw[Ev.L7]
   unfold Dw
   rw[hlen]
   unfold GY
   rw[if_neg (by omega),if_pos (by omega),show ((-1+((c.length+1:Nat):Int))).toNat=c.length by omega]
   simp[BX]
  have a0:∀ a b:Int,Dw [D.int a,.int b] 0=some (.int a):=fun _ _=>rfl
  have a1:∀ a b:Int,Dw [D.int a,.int b] 1=some (.int b):=fun _ _=>rfl
  cases r with
  | nil=>
   refine⟨c++[(ql,qh)],?_,by show _=_+0;omega,fun h _=>h,by simp⟩
   have lf:=iW (c++[(ql,qh)])
   generalize (c++[(ql,qh)]).map BX=L at *
   simp -implicitDefEqProofs (disch:=omega) only[Cd,Nat.reduceBEq,Nat.reduceSub,Nat.reduceAdd,reduceIte,EN,List.append_nil,lf]
  | cons p rs=>
   obtain⟨pl,ph⟩:=p
   have hz:∀ zs:List D,bu (.lst false (.tup [.int pl,.int ph]::zs)) (.int 0)=.ok (.tup [.int pl,.int ph]):=by
    intro zs
    rw[Ev.L7,Ev.gQ .B5 (Int.le_refl 0) (by rw[List.length_cons];omega)]
    rfl
   have T5:rs.length+1<=1000:=by simpa using lr
   have hc:(rs.map BX).length=rs.length:=List.length_map ..
   by_cases e:qh=pl
   ·have eb:(qh == pl)=true:=by simpa using e
    refine⟨(c++[(ql,ph)])++rs,?_,?_,fun h1 h2 p hp=>?_,by simp<;>omega⟩
    rotate_left
    ·rw[cV,cV,cV]
     show cnt c+(ph - ql+0)+cnt rs=cnt c+(qh - ql+0)+(ph - pl+cnt rs)
     omega
    ·have a1:=h1 (ql,qh) (by simp)
     have a2:=h2 (pl,ph) (by simp)
     have a1:ql < qh:=a1
     have a2:pl < ph:=a2
     rcases List.mem_append.mp hp with hp|hp
     ·rcases List.mem_append.mp hp with hp|hp
      ·exact h1 p (List.mem_append_left _ hp)
      ·rw[List.mem_singleton.mp hp]
       show ql < ph
       omega
     ·exact h2 p (List.mem_cons_of_mem _ hp)
    have lf:=P7 (c++[(ql,ph)]) rs
    have NO:cY ((c++[(ql,qh)]).map BX) none (some (-1))=c.map BX:=by rw[List.map_append];exact qc _ _
    have MW:(c.map BX).length=c.length:=List.length_map ..
    have NP:=iY (.tup [.int pl,.int ph]) (rs.map BX)
    rw[List.map_append (l₁:=c++[(ql,ph)]),dW c (ql,ph)]
    rw[dW c (ql,ph)] at lf
    rw[show ((pl,ph)::rs).map BX=.tup [.int pl,.int ph]::rs.map BX from rfl]
    generalize rs.map BX=R at *
    generalize (c++[(ql,qh)]).map BX=L at *
    generalize c.map BX=C at *
    simp -implicitDefEqProofs (disch:=omega) only[Cd,Nat.reduceBEq,Nat.reduceSub,Nat.reduceAdd,reduceIte,EN,P8,hz,a0,a1,eb,Ev.L8,lf,hlen,hc,MW,NO,NP,List.length_append]
   ·have eb:(qh == pl)=false:=by simpa using e
    refine⟨(c++[(ql,qh)])++((pl,ph)::rs),?_,cV _ _,fun h1 h2 p hp=>(List.mem_append.mp hp).elim (h1 p) (h2 p),by rw[List.length_append];exact Nat.le_refl _⟩
    have lf:=P7 (c++[(ql,qh)]) ((pl,ph)::rs)
    rw[List.map_append (l₁:=c++[(ql,qh)]) (l₂:=(pl,ph)::rs),show ((pl,ph)::rs).map BX=.tup [.int pl,.int ph]::rs.map BX from rfl]
    rw[show ((pl,ph)::rs).map BX=.tup [.int pl,.int ph]::rs.map BX from rfl] at lf
    generalize rs.map BX=R at *
    generalize (c++[(ql,qh)]).map BX=L at *
    simp -implicitDefEqProofs (disch:=omega) only[Cd,Nat.reduceBEq,Nat.reduceSub,Nat.reduceAdd,reduceIte,EN,P8,hz,a0,a1,eb,Ev.L8,lf,hlen,hc]
end Rn
end L2
namespace Law
open PySem PySem.Spec L2 L2.Fr L2.Rn
theorem sH (run:List Pr):(run.map fun p:Pr=>p.2 - p.1).sum=cnt run:=by
 induction run with
 | nil=>rfl
 | cons p r ih=>rw[List.map_cons,List.sum_cons,ih];rfl
theorem gW (n:Nat)(run:List Pr)(hl:run.length<=1000):aa T (n+1) 21 [.lst false (run.map BX)]=.ok (.int (cnt run)):=by
 rw[Ev.go (show T 21=some Jj from rfl) (show Jj.io=none from rfl) (show Jj.np=1 from rfl) (show Jj.G.N.length=1 from rfl) (show Jj.body=NC from rfl) rfl];unfold NC
 have lc:(run.map BX).length=run.length:=List.length_map ..
 have e1:ba (bc (aa T n) (.tp [(.nm 0),(.nm 1)]) [] (.bin .sub (.v 1) (.v 0)) [none,none]) (run.map BX)=.ok ((run.map fun p:Pr=>p.2 - p.1).map .int):=by
  refine Ev.bj BX (fun p:Pr=>p.2 - p.1) .int run fun p _=>?_
  obtain⟨l,h⟩:=p
  unfold BX
  simp -implicitDefEqProofs (disch:=omega) only[Cd,Nat.reduceBEq,Nat.reduceSub,Nat.reduceAdd,reduceIte]
 have e2:∀ o,bX .sum [.lst o ((run.map fun p:Pr=>p.2 - p.1).map .int)]=.ok (.int (cnt run)):=fun o=>by rw[Ev.jC (by rw[List.length_map];omega),sH]
 simp -implicitDefEqProofs (disch:=omega) only[Cd,Nat.reduceBEq,Nat.reduceSub,Nat.reduceAdd,reduceIte,e1,e2]
noncomputable abbrev Rw:=Str×List Pr
noncomputable def aA (o:Bool)(p:Rw):D:=.tup [.str p.1,.lst o (p.2.map BX)]
noncomputable def alt (o o' Hr:Bool)(rows:List Rw)(free:List Pr):D:=.tup [.lst o (rows.map (aA o')),.lst Hr (free.map BX)]
theorem xy (o:Bool)(p:Rw):er (aA o p)=aA false p:=by
 unfold aA
 rw[er,BV,BV,BV,er,er,bF]
theorem cq (o:Bool)(rows:List Rw):BV (rows.map (aA o))=rows.map (aA false):=by
 rw[bP,List.map_map]
 exact List.map_congr_left fun p _=>xy o p
theorem cG (o o' Hr:Bool)(rows:List Rw)(free:List Pr):er (alt o o' Hr rows free)=alt false false false rows free:=by
 unfold alt
 rw[er,BV,BV,BV,er,er,bF,cq]
noncomputable abbrev Sh:=Str×Int
noncomputable def B2 (p:Sh):D:=.tup [.str p.1,.int p.2]
theorem qd (ps:List Sh):aq (ps.map B2)=true:=by
 rw[a8,List.all_map,List.all_eq_true]
 intro x _
 rfl
theorem d5 (ps:List Sh):BV (ps.map B2)=ps.map B2:=bp (qd ps)
noncomputable def Ex (rows:List Rw):List Sh:=rows.map fun p=>(p.1,cnt p.2)
theorem dX (n:Nat)(rows:List Rw)(free:List Pr)(hl:rows.length<=1000)(hr:∀ p∈rows,p.2.length<=1000):aa T (n+2) 25 [alt false false false rows free]=.ok (.lst true ((Ex rows).map B2)):=by
 have e1:ba (bc (aa T (n+1)) (.tp [(.nm 0),(.nm 1)]) [] (.tup [(.v 0),(.call 21 [(.v 1)])]) [none,none]) (rows.map (aA false))=.ok ((rows.map fun p:Rw=>(p.1,cnt p.2)).map B2):=by
  refine Ev.bj (aA false) (fun p:Rw=>(p.1,cnt p.2)) B2 rows fun p hp=>?_
  have e:=gW n p.2 (hr p hp)
  have pe:=bF p.2
  unfold aA B2
  simp -implicitDefEqProofs (disch:=omega) only[Cd,Nat.reduceBEq,Nat.reduceSub,Nat.reduceAdd,reduceIte,e,pe]
 have x0:bu (alt false false false rows free) (.int 0)=.ok (.lst false (rows.map (aA false))):=rfl
 have lm:(rows.map (aA false)).length=rows.length:=List.length_map _
 have lf:=qd (Ex rows)
 unfold Ex at *
 rw[Ev.go (show T 25=some Jl from rfl) (show Jl.io=none from rfl) (show Jl.np=1 from rfl) (show Jl.G.N.length=1 from rfl) (show Jl.body=NH from rfl) rfl];unfold NH
 generalize alt false false false rows free=A at *
 generalize (rows.map fun p:Rw=>(p.1,cnt p.2)).map B2=Q at *
 generalize rows.map (aA false)=R at *
 simp -implicitDefEqProofs (disch:=omega) only[Cd,Nat.reduceBEq,Nat.reduceSub,Nat.reduceAdd,reduceIte,x0,e1,lm,lf]
theorem qe:∀ (r A B:List Pr) (w:Int),Pos r->0<=w->Pos A->Pos B->cnt (dU r A B w).1=cnt A+(if w < cnt r then w else cnt r)/\cnt (dU r A B w).2=cnt B+cnt r - (if w < cnt r then w else cnt r)/\Pos (dU r A B w).1/\Pos (dU r A B w).2
 | [],A,B,w,_,hw,hA,hB=>by
  show cnt A=cnt A+(if w < 0 then w else 0)/\cnt B=cnt B+0 - (if w < 0 then w else 0)/\Pos A/\Pos B
  rw[if_neg (by omega)]
  exact⟨by omega,by omega,hA,hB⟩
 | p::r,A,B,w,hp,hw,hA,hB=>by
  have h1:p.1 < p.2:=hp p (.head _)
  have hr:Pos r:=fun q hq=>hp q (List.mem_cons_of_mem _ hq)
  have hc:=jH hr
  have c1:p.1<=CG p w/\CG p w<=p.2:=by unfold CG;split<;>omega
  have c2:CG p w - p.1=if w < p.2 - p.1 then w else p.2 - p.1:=by unfold CG;split<;>split<;>omega
  have pA:Pos (if p.1 < CG p w then A++[(p.1,CG p w)] else A):=by
   split
   ·intro q hq
    rcases List.mem_append.mp hq with hq|hq
    ·exact hA q hq
    ·rw[List.mem_singleton.mp hq];assumption
   ·exact hA
  have pB:Pos (if CG p w < p.2 then B++[(CG p w,p.2)] else B):=by
   split
   ·intro q hq
    rcases List.mem_append.mp hq with hq|hq
    ·exact hB q hq
    ·rw[List.mem_singleton.mp hq];assumption
   ·exact hB
  obtain⟨i1,i2,i3,i4⟩:=qe r _ _ (w - (CG p w - p.1)) hr (by rw[c2];split<;>omega) pA pB
  have sA:cnt (if p.1 < CG p w then A++[(p.1,CG p w)] else A)=cnt A+(CG p w - p.1):=by
   split
   ·rw[cV];show cnt A+(CG p w - p.1+0)=_;omega
   ·omega
  have sB:cnt (if CG p w < p.2 then B++[(CG p w,p.2)] else B)=cnt B+(p.2 - CG p w):=by
   split
   ·rw[cV];show cnt B+(p.2 - CG p w+0)=_;omega
   ·omega
  unfold dU
  have ec:cnt (p::r)=(p.2 - p.1)+cnt r:=rfl
  refine⟨?_,?_,i3,i4⟩
  ·rw[i1,sA,ec,c2]
   split<;>split<;>split<;>omega
  ·rw[i2,sB,ec]
   have:CG p w=p.1+if w < p.2 - p.1 then w else p.2 - p.1:=by omega
   rw[this]
   split<;>split<;>split<;>omega
theorem kT (n:Nat)(run:List Pr)(w:Int)(hl:run.length<=1000)(hp:Pos run)(hw:0<=w):∃ a b:List Pr,aa T (n+1) 22 [.lst false (run.map BX),.int w]=.ok (.tup [.lst true (a.map BX),.lst true (b.map BX)])/\
  cnt a=(if w < cnt run then w else cnt run)/\cnt b=cnt run - (if w < cnt run then w else cnt run)/\Pos a/\Pos b/\a.length<=run.length/\b.length<=run.length:=by
 obtain⟨h1,h2,h3,h4⟩:=qe run [] [] w hp hw (fun _ h=>by cases h) (fun _ h=>by cases h)
 obtain⟨l1,l2⟩:=iX run [] [] w
 refine⟨_,_,AG (show T 22=some ND from rfl) rfl rfl rfl rfl n run hl w,?_,?_,h3,h4,by simpa using l1,by simpa using l2⟩
 ·rw[h1];show 0+_=_;omega
 ·rw[h2];show 0+_ - _=_;omega
theorem kU (n:Nat)(l r:List Pr)(ll:l.length<=1000)(lr:r.length<=1000):∃ j:List Pr,aa T (n+1) 23 [.lst false (l.map BX),.lst false (r.map BX)]=.ok (.lst true (j.map BX))/\cnt j=cnt l+cnt r/\(Pos l->Pos r->Pos j)/\j.length<=l.length+r.length:=
 AH (show T 23=some NF from rfl) rfl rfl rfl rfl n l r ll lr
noncomputable def kf (f:Str):Key:=.inr f
noncomputable def iv (v:Str->Int)(f:Str):D:=.int (v f)
noncomputable def dF (o:Bool)(fs:List Str)(v:Str->Int):D:=.BU o (fs.map kf) (fs.map (iv v))
noncomputable def up (v:Str->Int)(f:Str)(x:Int):Str->Int:=fun g=>if g=f then x else v g
noncomputable def ups:(Str->Int)->List Sh->Str->Int
 | v,[]=>v
 | v,p::ps=>ups (up v p.1 p.2) ps
theorem kf_eq {f g:Str}:(kf f=kf g)=(f=g):=by
 unfold kf
 exact propext ⟨fun h=>Sum.inr.inj h,fun h=>by rw[h]⟩
theorem gX (v:Str->Int){f:Str}:∀ {fs:List Str},f∈fs->look (fs.map kf) (fs.map (iv v)) (kf f)=some (.int (v f))
 | g::fs,h=>by
  show (if kf g=kf f then some (iv v g) else look (fs.map kf) (fs.map (iv v)) (kf f))=_
  by_cases e:g=f
  ·rw[if_pos (by rw[e]),e];rfl
  ·rw[if_neg (by rw[kf_eq];exact e)]
   exact gX v ((List.mem_cons.mp h).resolve_left fun z=>e z.symm)
theorem jI (v:Str->Int){f:Str}:∀ {fs:List Str},f∉fs->look (fs.map kf) (fs.map (iv v)) (kf f)=none
 | [],_=>rfl
 | g::fs,h=>by
  show (if kf g=kf f then some (iv v g) else look (fs.map kf) (fs.map (iv v)) (kf f))=_
  rw[if_neg (by rw[kf_eq];exact fun e=>h (by rw[e];exact .head _))]
  exact jI v fun z=>h (List.mem_cons_of_mem _ z)
theorem mD (v:Str->Int)(f:Str)(fs:List Str):(look (fs.map kf) (fs.map (iv v)) (kf f)).isSome=decide (f∈fs):=by
 by_cases h:f∈fs
 ·rw[gX v h,decide_eq_true h];rfl
 ·rw[jI v h,decide_eq_false h];rfl
theorem qf (f:Str):∀ fs:List Str,ir (fs.map kf) (kf f)=decide (f∈fs)
 | []=>rfl
 | g::fs=>by
  have ih:=qf f fs
  unfold ir at *
  rw[List.map_cons,List.any_cons,ih]
  by_cases e:g=f
  ·rw[e];simp
  ·have:decide (kf g=kf f)=false:=decide_eq_false (by rw[kf_eq];exact e)
   rw[this,Bool.false_or]
   have e':¬ f=g:=fun z=>e z.symm
   simp[e']
theorem kW (v:Str->Int)(x:Int){f:Str}{fs:List Str}(h:f∈fs):bJ (fs.map kf) (kf f)=fs.map kf/\bt (fs.map kf) (fs.map (iv v)) (kf f) (.int x)=fs.map (iv (up v f x)):=by
 unfold bJ bt
 rw[qf,decide_eq_true h,if_pos rfl,if_pos rfl]
 refine⟨rfl,?_⟩
 clear h
 induction fs with
 | nil=>rfl
 | cons g fs ih=>
  rw[List.map_cons,List.map_cons,List.zipWith_cons_cons,ih,List.map_cons]
  congr 1
  unfold iv up
  by_cases e:g=f
  ·rw[if_pos (by rw[e]),if_pos e]
  ·rw[if_neg (by rw[kf_eq];exact e),if_neg e]
theorem AJ (v:Str->Int)(x:Int){f:Str}{fs:List Str}(h:f∉fs):fs.map (iv (up v f x))=fs.map (iv v):=
 List.map_congr_left fun g hg=>by
  unfold iv up
  rw[if_neg fun e=>h (by rw[<- e];exact hg)]
theorem kX (v:Str->Int)(x:Int){f:Str}{fs:List Str}(h:f∉fs):bJ (fs.map kf) (kf f)=(fs++[f]).map kf/\bt (fs.map kf) (fs.map (iv v)) (kf f) (.int x)=(fs++[f]).map (iv (up v f x)):=by
 unfold bJ bt
 rw[qf,decide_eq_false h,if_neg Bool.false_ne_true,if_neg Bool.false_ne_true,List.map_append,List.map_append,AJ v x h]
 refine⟨rfl,?_⟩
 congr 1
 show [D.int x]=[.int (if f=f then x else v f)]
 rw[if_pos rfl]
theorem qg (v:Str->Int)(fs:List Str):aq (fs.map (iv v))=true:=by
 rw[a8,List.all_map,List.all_eq_true]
 intro x _
 rfl
theorem fZ (v:Str->Int)(fs:List Str):aI (fs.map (iv v))=true:=by
 unfold aI
 rw[List.all_map,List.all_eq_true]
 intro x _
 rfl
theorem AK (v:Str->Int)(fs:List Str):BV (fs.map (iv v))=fs.map (iv v):=bp (qg v fs)
theorem f6 (o:Bool)(fs:List Str)(v:Str->Int):er (dF o fs v)=dF false fs v:=by
 unfold dF
 rw[er,AK]
theorem kY (v:Str->Int):∀ fs:List Str,a9 (fs.map (iv v))=some (fs.map v)
 | []=>rfl
 | f::fs=>by
  show (a9 (fs.map (iv v))).map (v f::·)=_
  rw[kY v fs]
  rfl
theorem AL (o:Bool)(fs:List Str)(v:Str->Int):jR (dF o fs v)=.ok (.int (fs.map v).sum):=by
 show (match a9 (fs.map (iv v)) with|some ns=>(.ok (.int ns.sum):Res D)|none=>BR)=_
 rw[kY]
theorem f7 (o:Bool){fs:List Str}(v:Str->Int){f:Str}(h:f∈fs):iu (dF o fs v) (.str f)=.ok (.int (v f)):=by
 show (match look (fs.map kf) (fs.map (iv v)) (kf f) with|some d=>(.ok d:Res D)|none=>BR)=_
 rw[gX v h]
theorem xA (o n:Bool)(fs:List Str)(v:Str->Int)(f:Str):Ev.w9 n (.str f) (dF o fs v)=.ok (.bl (n != decide (f∈fs))):=by
 show (.ok (.bl (n != (look (fs.map kf) (fs.map (iv v)) (kf f)).isSome)):Res D)=_
 rw[mD]
noncomputable def JZ (c:Str->Int)(ns:List Str)(u:Str->Int):Str->Int:=fun f=>if f∈ns then u f else c f
theorem qi:∀ (ps:List Sh) (v v':Str->Int) (f:Str),f∈ps.map (·.1)->ups v ps f=ups v' ps f
 | [],_,_,_,h=>by cases h
 | p::ps,v,v',f,h=>by
  show ups (up v p.1 p.2) ps f=ups (up v' p.1 p.2) ps f
  by_cases e:f∈ps.map (·.1)
  ·exact qi ps _ _ f e
  ·have ef:f=p.1:=(List.mem_cons.mp h).resolve_right e
   have key:∀ (ps:List Sh) (w:Str->Int),f∉ps.map (·.1)->ups w ps f=w f:=by
    intro ps
    induction ps with
    | nil=>intro w _;rfl
    | cons q ps ih=>
     intro w hn
     show ups (up w q.1 q.2) ps f=w f
     rw[ih _ fun z=>hn (List.mem_cons_of_mem _ z)]
     unfold up
     rw[if_neg fun z=>hn (by rw[z];exact .head _)]
   rw[key ps _ e,key ps _ e]
   unfold up
   rw[if_pos ef,if_pos ef]
theorem kZ:∀ (ps:List Sh) (w:Str->Int) (f:Str),f∉ps.map (·.1)->ups w ps f=w f
 | [],_,_,_=>rfl
 | q::ps,w,f,hn=>by
  show ups (up w q.1 q.2) ps f=w f
  rw[kZ ps _ f fun z=>hn (List.mem_cons_of_mem _ z)]
  unfold up
  rw[if_neg fun z=>hn (by rw[z];exact .head _)]
theorem k6 (c z:Str->Int)(ps:List Sh)(f:Str):JZ c (ps.map (·.1)) (ups z ps) f=ups c ps f:=by
 unfold JZ
 by_cases h:f∈ps.map (·.1)
 ·rw[if_pos h];exact qi ps _ _ f h
 ·rw[if_neg h,kZ ps c f h]
theorem qj (fs:List Str)(u:Str->Int):∀ (ns:List Str) (c:Str->Int),(∀ f∈ns,f∈fs)->DD (ns.map fun f=>(kf f,iv u f)) (fs.map kf) (fs.map (iv c))=(fs.map kf,fs.map (iv (JZ c ns u)))
 | [],c,_=>rfl
 | f::ns,c,h=>by
  show DD (ns.map fun f=>(kf f,iv u f)) (bJ (fs.map kf) (kf f)) (bt (fs.map kf) (fs.map (iv c)) (kf f) (.int (u f)))=_
  obtain⟨h1,h2⟩:=kW c (u f) (h f (.head _))
  rw[h1,h2,qj fs u ns _ fun g hg=>h g (List.mem_cons_of_mem _ hg)]
  congr 1
  refine List.map_congr_left fun g _=>?_
  unfold iv JZ up
  by_cases a:g∈ns
  ·rw[if_pos a,if_pos (List.mem_cons_of_mem _ a)]
  ·rw[if_neg a]
   by_cases b:g=f
   ·rw[if_pos b,if_pos (by rw[b];exact .head _),b]
   ·rw[if_neg b,if_neg fun z=>(List.mem_cons.mp z).elim b a]
theorem k7 (c:Str->Int):∀ (gs ns:List Str),(ns++gs).Nodup->DD (gs.map fun f=>(kf f,iv c f)) (ns.map kf) (ns.map (iv c))=((ns++gs).map kf,(ns++gs).map (iv c))
 | [],ns,_=>by rw[List.append_nil];rfl
 | f::gs,ns,h=>by
  show DD (gs.map fun f=>(kf f,iv c f)) (bJ (ns.map kf) (kf f)) (bt (ns.map kf) (ns.map (iv c)) (kf f) (.int (c f)))=_
  have nf:f∉ns:=fun z=>(List.nodup_append.mp h).2.2 f z f (.head _) rfl
  obtain⟨h1,h2⟩:=kX c (c f) nf
  have e:(ns++[f]).map (iv (up c f (c f)))=(ns++[f]).map (iv c):=List.map_congr_left fun g _=>by
   unfold iv up
   by_cases b:g=f
   ·rw[if_pos b,b]
   ·rw[if_neg b]
  have h':((ns++[f])++gs).Nodup:=by rw[List.append_assoc];exact h
  rw[h1,h2,e,k7 c gs (ns++[f]) h',List.append_assoc]
  rfl
theorem u9 (c:Str->Int):∀ fs:List Str,du ((fs.map fun f=>((f,c f):Sh)).map B2)=some (fs.map fun f=>(kf f,iv c f))
 | []=>rfl
 | f::fs=>by
  show (match bY (.str f),du ((fs.map fun f=>((f,c f):Sh)).map B2) with|some q,some ps=>some ((q,D.int (c f))::ps)|_,_=>none)=_
  rw[u9 c fs]
  rfl
theorem AM (j:Nat)(τ:Ev)(o:Bool)(c:Str->Int){fs:List Str}(h:fs.Nodup):l5 j τ (.lst o ((fs.map fun f=>((f,c f):Sh)).map B2))=.ok (τ.set j (some (dF true fs c))):=by
 have e:=k7 c fs [] h
 have e:DD (fs.map fun f=>(kf f,iv c f)) [] []=(fs.map kf,fs.map (iv c)):=e
 have s:aI ((fs.map fun f=>(kf f,iv c f)).map (·.2))=true:=by
  rw[List.map_map]
  exact fZ c fs
 show (match du ((fs.map fun f=>((f,c f):Sh)).map B2) with|some ps=>BN (aI (ps.map (fun p:Key×D=>p.2))) (.ok (τ.set j (some (D.BU true (DD ps [] []).1 (DD ps [] []).2))))|none=>BR)=_
 rw[u9]
 show BN (aI ((fs.map fun f=>(kf f,iv c f)).map (·.2))) _=_
 rw[s,e]
 rfl
theorem ve (u:Str->Int):∀ ns:List Str,(ns.map kf).zip (ns.map (iv u))=ns.map fun f=>(kf f,iv u f)
 | []=>rfl
 | f::ns=>by rw[List.map_cons,List.map_cons,List.zip_cons_cons,ve u ns];rfl
theorem AN (i:Nat)(τ:Ev)(o:Bool)(c u:Str->Int){fs ns:List Str}(h:∀ f∈ns,f∈fs)(hl:fs.length+ns.length<=1000):nA i τ (some (dF true fs c)) (some (dF o ns u))=.ok (τ.set i (some (dF true fs (JZ c ns u)))):=by
 show BN (aI (fs.map (iv c))&&aI (ns.map (iv u))&&aY ((fs.map kf).length+(ns.map kf).length)) (.ok (τ.set i (some (.BU true (DD ((ns.map kf).zip (ns.map (iv u))) (fs.map kf) (fs.map (iv c))).1 (DD ((ns.map kf).zip (ns.map (iv u))) (fs.map kf) (fs.map (iv c))).2))))=_
 rw[fZ,fZ,List.length_map,List.length_map,Ev.dS (by omega),ve,qj fs u ns c h]
 rfl
theorem k8 (cl:Nat->List D->Res D)(i:Nat)(k:IR)(τ:Ev){f:Str}{fs:List Str}{v:Str->Int}{x:Int}(hk:BM cl k τ=.ok (.str f))(h:f∈fs)(hl:fs.length<=1000):Ev.cp cl i k τ (.int x) (some (dF true fs v))=.ok (.nx (τ.set i (some (dF true fs (up v f x))))):=by
 obtain⟨h1,h2⟩:=kW v x h
 show Ev.cp cl i k τ (.int x) (some (.BU true (fs.map kf) (fs.map (iv v))))=_
 rw[Ev.ej hk (by rw[qg,List.length_map,Ev.gP (by omega)];rfl)]
 show (.ok (.nx (τ.set i (some (.BU true (bJ (fs.map kf) (kf f)) (bt (fs.map kf) (fs.map (iv v)) (kf f) (.int x)))))):Res Fl)=_
 rw[h1,h2]
 rfl
theorem gY (cl:Nat->List D->Res D)(i:Nat)(k:IR)(τ:Ev){f:Str}{fs:List Str}{v:Str->Int}{x:Int}(hk:BM cl k τ=.ok (.str f))(h:f∉fs)(hl:fs.length<=1000):Ev.cp cl i k τ (.int x) (some (dF true fs v))=.ok (.nx (τ.set i (some (dF true (fs++[f]) (up v f x))))):=by
 obtain⟨h1,h2⟩:=kX v x h
 show Ev.cp cl i k τ (.int x) (some (.BU true (fs.map kf) (fs.map (iv v))))=_
 rw[Ev.ej hk (by rw[qg,List.length_map,Ev.gP (by omega)];rfl)]
 show (.ok (.nx (τ.set i (some (.BU true (bJ (fs.map kf) (kf f)) (bt (fs.map kf) (fs.map (iv v)) (kf f) (.int x)))))):Res Fl)=_
 rw[h1,h2]
 rfl
noncomputable def bV (fs:List Str):List Sh->List Str->Option Str
 | [],_=>none
 | p::r,seen=>if p.1∉fs then some "NoFace" else if p.1∈seen then some "Twice" else if p.2 < 0 then some "BadShare" else bV fs r (seen++[p.1])
noncomputable def tW:List IS:=[(.Cq (.FP true (.v 4) (.v 2)) [(.CD 40 "NoFace" (.FQ "the allotment has no face " (.v 4) none))] []),(.Cq (.FP false (.v 4) (.v 3)) [(.CD 38 "Twice" (.FQ "the face " (.v 4) (some " is told twice")))] []),(.Cq (.cmp .lt (.v 5) (.c (.int 0))) [(.CD 41 "BadShare" (.FQ "the face " (.v 4) (some " is to have fewer places than none")))] []),(.CQ 3 (.v 4) (.v 5))]
theorem jJ (x:Str)(y:Option Str)(z:Str)(hx:x.length<=100)(hy:(y.getD Str.empty).length<=100)(hz:(reprText z).length<=1000):∃ m,nB x y (.str z)=.ok (.str m):=by
 rw[Ev.pJ,Ev.dS (by omega)]
 exact⟨_,rfl⟩
theorem xB (cl:Nat->List D->Res D)(a0 s0:D){fs seen:List Str}(c u:Str->Int)(p:Sh)(hl:seen.length<=1000)(hz:(reprText p.1).length<=1000)(x y:Option D) :
  Ev.turn cl (.tp [(.nm 4),(.nm 5)]) tW (B2 p) [some a0,some s0,some (dF true fs c),some (dF true seen u),x,y] =
   if p.1∉fs then .error (.exc "NoFace") else if p.1∈seen then .error (.exc "Twice") else if p.2 < 0 then .error (.exc "BadShare") else .ok (.nx [some a0,some s0,some (dF true fs c),some (dF true (seen++[p.1]) (up u p.1 p.2)),some (.str p.1),some (.int p.2)]):=by
 obtain⟨f,v⟩:=p
 obtain⟨m1,f1⟩:=jJ "the allotment has no face " none f (by decide +kernel) (by decide +kernel) hz
 obtain⟨m2,f2⟩:=jJ "the face " (some " is told twice") f (by decide +kernel) (by decide +kernel) hz
 obtain⟨m3,f3⟩:=jJ "the face " (some " is to have fewer places than none") f (by decide +kernel) (by decide +kernel) hz
 have i1:=xA true true fs c f
 have i2:=xA true false seen u f
 have st:f∉seen->∀ (τ:Ev),BM cl (.v 4) τ=.ok (.str f)->Ev.cp cl 3 (.v 4) τ (.int v) (some (dF true seen u))=.ok (.nx (τ.set 3 (some (dF true (seen++[f]) (up u f v))))):=fun h τ hk=>gY cl 3 (.v 4) τ hk h hl
 have Ez:f∉seen->Ev.cp cl 3 (.v 4) [some a0,some s0,some (dF true fs c),some (dF true seen u),some (.str f),some (.int v)] (.int v) (some (dF true seen u))=.ok (.nx [some a0,some s0,some (dF true fs c),some (dF true (seen++[f]) (up u f v)),some (.str f),some (.int v)]):=fun h=>st h _ rfl
 show Ev.turn cl (.tp [(.nm 4),(.nm 5)]) tW (.tup [.str f,.int v]) _=if f∉fs then _ else if f∈seen then _ else if v < 0 then _ else _
 by_cases h1:f∈fs
 ·rw[if_neg (fun z=>z h1)]
  rw[decide_eq_true h1] at i1
  by_cases h2:f∈seen
  ·rw[if_pos h2]
   rw[decide_eq_true h2] at i2
   generalize dF true fs c=W at *
   generalize dF true seen u=S at *
   unfold tW
   simp -implicitDefEqProofs (disch:=omega) only[Cd,Nat.reduceBEq,Nat.reduceSub,Nat.reduceAdd,reduceIte,Ev.aE,i1,i2,f2,bne_self_eq_false,Bool.false_bne]
  ·rw[if_neg h2]
   rw[decide_eq_false h2] at i2
   have FN:=Ez h2
   by_cases h3:v < 0
   ·rw[if_pos h3]
    have d3:decide (v < 0)=true:=decide_eq_true h3
    generalize dF true fs c=W at *
    generalize dF true seen u=S at *
    unfold tW
    simp -implicitDefEqProofs (disch:=omega) only[Cd,Nat.reduceBEq,Nat.reduceSub,Nat.reduceAdd,reduceIte,Ev.aE,i1,i2,f3,d3,bne_self_eq_false,Bool.false_bne]
   ·rw[if_neg h3]
    have d3:decide (v < 0)=false:=decide_eq_false h3
    generalize dF true fs c=W at *
    generalize dF true seen u=S at *
    generalize dF true (seen++[f]) (up u f v)=S' at *
    unfold tW
    simp -implicitDefEqProofs (disch:=omega) only[Cd,Nat.reduceBEq,Nat.reduceSub,Nat.reduceAdd,reduceIte,Ev.aE,i1,i2,d3,FN,bne_self_eq_false,Bool.false_bne]
 ·rw[if_pos h1]
  rw[decide_eq_false h1] at i1
  generalize dF true fs c=W at *
  generalize dF true seen u=S at *
  unfold tW
  simp -implicitDefEqProofs (disch:=omega) only[Cd,Nat.reduceBEq,Nat.reduceSub,Nat.reduceAdd,reduceIte,Ev.aE,i1,f1,Bool.true_bne,Bool.not_false]
theorem qm (cl:Nat->List D->Res D)(a0 s0:D){fs:List Str}(c:Str->Int):∀ (ps:List Sh) (seen:List Str) (u:Str->Int) (x y:Option D),seen.length+ps.length<=1000->(∀ p∈ps,(reprText p.1).length<=1000)->
  (∀ e,bV fs ps seen=some e->forM (Ev.turn cl (.tp [(.nm 4),(.nm 5)]) tW) (ps.map B2) [some a0,some s0,some (dF true fs c),some (dF true seen u),x,y]=.error (.exc e))/\
  (bV fs ps seen=none->(∃ x' y',forM (Ev.turn cl (.tp [(.nm 4),(.nm 5)]) tW) (ps.map B2) [some a0,some s0,some (dF true fs c),some (dF true seen u),x,y]=.ok (.nx [some a0,some s0,some (dF true fs c),some (dF true (seen++ps.map (·.1)) (ups u ps)),x',y']))/\∀ p∈ps,p.1∈fs/\0<=p.2)
 | [],seen,u,x,y,_,_=>⟨(fun e h=>by cases h),fun _=>⟨⟨x,y,by rw[List.map_nil,List.map_nil,List.append_nil];rfl⟩,(fun p h=>by cases h)⟩⟩
 | p::ps,seen,u,x,y,hl,hz=>by
  rw[List.length_cons] at hl
  have ht:=xB cl a0 s0 (fs:=fs) (seen:=seen) c u p (by omega) (hz p (.head _)) x y
  rw[List.map_cons,Ev.cQ]
  unfold bV
  by_cases h1:p.1∈fs
  ·rw[if_neg (fun z=>z h1)] at ht ⊢
   by_cases h2:p.1∈seen
   ·rw[if_pos h2] at ht ⊢
    exact⟨(fun e h=>by cases h;rw[ht];rfl),(fun h=>by cases h)⟩
   ·rw[if_neg h2] at ht ⊢
    by_cases h3:p.2 < 0
    ·rw[if_pos h3] at ht ⊢
     exact⟨(fun e h=>by cases h;rw[ht];rfl),(fun h=>by cases h)⟩
    ·rw[if_neg h3] at ht ⊢
     obtain⟨i1,i2⟩:=qm cl a0 s0 (fs:=fs) c ps (seen++[p.1]) (up u p.1 p.2) (some (.str p.1)) (some (.int p.2)) (by rw[List.length_append,List.length_singleton];omega) fun q hq=>hz q (List.mem_cons_of_mem _ hq)
     rw[ht]
     refine⟨fun e h=>i1 e h,fun h=>?_⟩
     obtain⟨⟨x',y',e⟩,hp⟩:=i2 h
     refine⟨⟨x',y',?_⟩,fun q hq=>?_⟩
     ·rw[List.append_assoc] at e
      exact e
     ·rcases List.mem_cons.mp hq with rfl|hq
      ·exact⟨h1,by omega⟩
      ·exact hp q hq
  ·rw[if_pos h1] at ht ⊢
   exact⟨(fun e h=>by cases h;rw[ht];rfl),(fun h=>by cases h)⟩
structure Al (fs:List Str)(c:Str->Int)(rows:List Rw)(free:List Pr)(L:Nat):Prop where
 Cf:fs.Nodup
 Iy:fs.length<=6
 rep:∀ f∈fs,(reprText f).length<=1000
 sz:Ex rows=fs.map fun f=>(f,c f)
 pos:∀ p∈rows,Pos p.2
 NQ:Pos free
 len:∀ p∈rows,p.2.length<=L
 NR:free.length<=L
 En:(fs.map c).sum+cnt free=10007
theorem Al.GD {fs:List Str}{c:Str->Int}{rows:List Rw}{free:List Pr}{L:Nat}(a:Al fs c rows free L):rows.length=fs.length:=by
 have:=congrArg List.length a.sz
 unfold Ex at this
 rwa [List.length_map,List.length_map] at this
theorem sI (n:Nat){fs:List Str}{c:Str->Int}{rows:List Rw}{free:List Pr}{L:Nat}(a:Al fs c rows free L)(hL:L<=1000)(ps:List Sh)(hp:ps.length<=100)(hz:∀ p∈ps,(reprText p.1).length<=1000) :
  (∀ e,bV fs ps []=some e->aa T (n+3) 26 [alt false false false rows free,.lst false (ps.map B2)]=.error (.exc e))/\
  (bV fs ps []=none->(10007 < (fs.map (ups c ps)).sum->aa T (n+3) 26 [alt false false false rows free,.lst false (ps.map B2)]=.error (.exc "TooMuch"))/\
   ((fs.map (ups c ps)).sum<=10007->aa T (n+3) 26 [alt false false false rows free,.lst false (ps.map B2)]=.ok (dF true fs (ups c ps)))):=by
 have NS:=a.GD
 have hf:=a.Iy
 have e1:=dX n rows free (by omega) fun p h=>Nat.le_trans (a.len p h) hL
 rw[a.sz] at e1
 have ae:=cG false false false rows free
 have e2:=AM (j:=2) (τ:=[some (alt false false false rows free),some (.lst false (ps.map B2)),none,none,none,none]) (o:=true) c a.Cf
 have pe:=d5 ps
 obtain⟨i1,i2⟩:=qm (aa T (n+2)) (alt false false false rows free) (.lst false (ps.map B2)) (fs:=fs) c ps [] (fun _=>0) none none (by rw[List.length_nil];omega) hz
 have Lm:dF true [] (fun _=>0)=.BU true [] []:=rfl
 rw[Lm] at i1 i2
 have body:PR=[(.IH 2 (.call 25 [(.v 0)])),(.asg (.nm 3) .Dh),(.Cs (.tp [(.nm 4),(.nm 5)]) (.val (.v 1)) tW),(.E0 2 3),(.Cq (.cmp .gt (.EJ (.v 2)) (.g 20 (.int 10007))) [(.C5 39 "TooMuch" "the faces together would have more places than there are")] []),(.ret (.v 2))]:=rfl
 rw[Ev.go (show T 26=some Jm from rfl) (show Jm.io=none from rfl) (show Jm.np=2 from rfl) (show Jm.G.N.length=6 from rfl) (show Jm.body=_ from body) rfl]
 have CU:l5 2 [some (alt false false false rows free),some (.lst false (ps.map B2)),none,none,none,none] (.lst true ((fs.map fun f=>((f,c f):Sh)).map B2))=.ok [some (alt false false false rows free),some (.lst false (ps.map B2)),some (dF true fs c),none,none,none]:=e2
 generalize (fs.map fun f=>((f,c f):Sh)).map B2=Q at *
 refine⟨fun e h=>?_,fun h=>?_⟩
 ·have i:=i1 e h
  generalize alt false false false rows free=A at *
  generalize tW=tb at *
  generalize ps.map B2=PS at *
  simp -implicitDefEqProofs (disch:=omega) only[Cd,Nat.reduceBEq,Nat.reduceSub,Nat.reduceAdd,reduceIte,e1,CU,ae,pe,i]
 ·obtain⟨⟨x',y',i⟩,Ny⟩:=i2 h
  have NT:∀ f∈ps.map (·.1),f∈fs:=fun f hf=>by
   obtain⟨p,hp,rfl⟩:=List.mem_map.mp hf
   exact(Ny p hp).1
  rw[List.nil_append] at i
  have e3:nA 2 [some (alt false false false rows free),some (.lst false (ps.map B2)),some (dF true fs c),some (dF true (ps.map (·.1)) (ups (fun _=>0) ps)),x',y'] (some (dF true fs c)) (some (dF true (ps.map (·.1)) (ups (fun _=>0) ps)))=.ok [some (alt false false false rows free),some (.lst false (ps.map B2)),some (dF true fs (ups c ps)),some (dF true (ps.map (·.1)) (ups (fun _=>0) ps)),x',y']:=by
   have:=AN 2 [some (alt false false false rows free),some (.lst false (ps.map B2)),some (dF true fs c),some (dF true (ps.map (·.1)) (ups (fun _=>0) ps)),x',y'] true c (ups (fun _=>0) ps) NT (by rw[List.length_map];omega)
   rw[this]
   have NU:JZ c (ps.map (·.1)) (ups (fun _=>0) ps)=ups c ps:=funext fun f=>k6 c _ ps f
   rw[NU]
   rfl
  have e4:=AL true fs (ups c ps)
  refine⟨fun hs=>?_,fun hs=>?_⟩
  ·have d1:decide ((10007:Int) < (fs.map (ups c ps)).sum)=true:=decide_eq_true hs
   generalize (fs.map (ups c ps)).sum=SS at *
   generalize dF true fs (ups c ps)=W' at *
   generalize dF true fs c=W at *
   generalize dF true (ps.map (·.1)) (ups (fun _=>0) ps)=TD at *
   generalize alt false false false rows free=A at *
   generalize tW=tb at *
   generalize ps.map B2=PS at *
   simp -implicitDefEqProofs (disch:=omega) only[Cd,Nat.reduceBEq,Nat.reduceSub,Nat.reduceAdd,reduceIte,e1,CU,ae,pe,i,e3,e4,d1]
  ·have d1:decide ((10007:Int) < (fs.map (ups c ps)).sum)=false:=decide_eq_false (by omega)
   generalize (fs.map (ups c ps)).sum=SS at *
   generalize dF true fs (ups c ps)=W' at *
   generalize dF true fs c=W at *
   generalize dF true (ps.map (·.1)) (ups (fun _=>0) ps)=TD at *
   generalize alt false false false rows free=A at *
   generalize tW=tb at *
   generalize ps.map B2=PS at *
   simp -implicitDefEqProofs (disch:=omega) only[Cd,Nat.reduceBEq,Nat.reduceSub,Nat.reduceAdd,reduceIte,e1,CU,ae,pe,i,e3,e4,d1]
noncomputable def mn (a b:Int):Int:=if b < a then b else a
noncomputable def tS:List IS:=[(.asg (.nm 6) (.call 22 [(.v 5),(.bi .min2 [(.Cj (.v 2) (.v 4)),(.call 21 [(.v 5)])])])),(.app 3 (.tup [(.v 4),(.idx (.v 6) (.c (.int 0)))])),(.asg (.nm 1) (.call 23 [(.idx (.v 6) (.c (.int 1))),(.v 1)]))]
noncomputable def tG:List IS:=[(.asg (.nm 6) (.call 22 [(.v 1),(.bin .sub (.Cj (.v 2) (.v 4)) (.call 21 [(.v 5)]))])),(.app 3 (.tup [(.v 4),(.call 23 [(.v 5),(.idx (.v 6) (.c (.int 0)))])])),(.asg (.nm 1) (.idx (.v 6) (.c (.int 1))))]
theorem k9 (o:Bool)(K:List Rw)(p:Rw):(K++[p]).map (aA o)=K.map (aA o)++[.tup [.str p.1,.lst o (p.2.map BX)]]:=by rw[List.map_append];rfl
theorem xC (n:Nat)(r0:D){fs:List Str}{v:Str->Int}(K:List Rw)(hK:K.length<=1000)(free:List Pr)(o1:Bool)(f:Str)(run:List Pr)(hf:f∈fs)(hr:run.length<=300)(JT:free.length<=600)(pr:Pos run)(h0:0<=v f)(x y z:Option D) :
  ∃ a b j:List Pr,Ev.turn (aa T (n+1)) (.tp [(.nm 4),(.nm 5)]) tS (aA false (f,run)) [some r0,some (.lst o1 (free.map BX)),some (dF false fs v),some (.lst true (K.map (aA false))),x,y,z] =
   .ok (.nx [some r0,some (.lst true (j.map BX)),some (dF false fs v),some (.lst true ((K++[(f,a)]).map (aA false))),some (.str f),some (.lst false (run.map BX)),some (.tup [.lst false (a.map BX),.lst false (b.map BX)])])/\
   cnt a=mn (v f) (cnt run)/\cnt a+cnt j=cnt run+cnt free/\Pos a/\(Pos free->Pos j)/\a.length<=run.length/\j.length<=run.length+free.length:=by
 have hc:=jH pr
 have e1:=gW n run (by omega)
 obtain⟨a,b,e2,ca,cb,pa,pb,la,lb⟩:=kT n run (if cnt run < v f then cnt run else v f) (by omega) pr (by split<;>omega)
 obtain⟨j,e3,cj,pj,lj⟩:=kU n b free (by omega) (by omega)
 refine⟨a,b,j,?_,?_,?_,pa,fun h=>pj pb h,la,by omega⟩
 ·have g:=f7 false v hf
  have de:=f6 false fs v
  have p1:=bF run
  have p2:=bF a
  have p3:=bF b
  have p4:=bF free
  have lm:(K.map (aA false)).length=K.length:=List.length_map _
  rw[k9,show aA false (f,run)=.tup [.str f,.lst false (run.map BX)] from rfl]
  have x0:∀ (P Q:D),bu (.tup [P,Q]) (.int 0)=.ok P:=fun _ _=>rfl
  have x1:∀ (P Q:D),bu (.tup [P,Q]) (.int 1)=.ok Q:=fun _ _=>rfl
  have vd:vars ((IR.v 2).Cj (IR.v 4))=[2,4]:=rfl
  show Ev.turn (aa T (n+1)) (.tp [(.nm 4),(.nm 5)]) tS (.tup [.str f,.lst false (run.map BX)]) _=.ok (.nx [_,_,_,some (.lst true (K.map (aA false)++[.tup [.str f,.lst false (a.map BX)]])),_,_,_])
  generalize dF false fs v=W at *
  generalize K.map (aA false)=KK at *
  generalize run.map BX=RR at *
  generalize free.map BX=FF at *
  generalize a.map BX=AA at *
  generalize b.map BX=BB at *
  generalize j.map BX=JJ at *
  generalize cnt run=cr at *
  unfold tS
  simp -implicitDefEqProofs (disch:=omega) only[Cd,Nat.reduceBEq,Nat.reduceSub,Nat.reduceAdd,reduceIte,Ev.aE,vd,g,e1,e2,e3,de,p1,p2,p3,p4,x0,x1,lm]
 ·rw[ca]
  unfold mn
  split<;>split<;>omega
 ·rw[cj,cb,ca]
  omega
noncomputable def En (rows:List Rw):Int:=(rows.map fun p=>cnt p.2).sum
theorem qo (n:Nat)(r0:D){fs:List Str}{v:Str->Int}(hv:∀ f∈fs,0<=v f)(L:Nat)(hL:L<=60):∀ (rows K:List Rw) (free:List Pr) (o1:Bool) (x y z:Option D),K.length+rows.length<=6->(∀ p∈rows,p.1∈fs/\Pos p.2/\p.2.length<=L)->Pos free->free.length+rows.length*L<=600->
  ∃ (K':List Rw) (BS:List Pr) (o':Bool) (x' y' z':Option D),forM (Ev.turn (aa T (n+1)) (.tp [(.nm 4),(.nm 5)]) tS) (rows.map (aA false)) [some r0,some (.lst o1 (free.map BX)),some (dF false fs v),some (.lst true (K.map (aA false))),x,y,z]=.ok (.nx [some r0,some (.lst o' (BS.map BX)),some (dF false fs v),some (.lst true ((K++K').map (aA false))),x',y',z'])/\
   Ex K'=rows.map (fun p=>(p.1,mn (v p.1) (cnt p.2)))/\En K' + cnt BS=En rows+cnt free/\(∀ p∈K',Pos p.2/\p.2.length<=L)/\Pos BS/\BS.length<=free.length+rows.length*L
 | [],K,free,o1,x,y,z,_,_,pf,hl=>⟨[],free,o1,x,y,z,by rw[List.append_nil];rfl,rfl,rfl,(fun p h=>by cases h),pf,by simp⟩
 | (f,run)::rows,K,free,o1,x,y,z,hk,hp,pf,hl=>by
  obtain⟨h1,h2,h3⟩:=hp (f,run) (.head _)
  rw[List.length_cons] at hk
  rw[List.length_cons,Nat.add_mul,Nat.one_mul] at hl
  have h3:run.length<=L:=h3
  obtain⟨a,b,j,e,ca,cj,pa,pj,la,lj⟩:=xC n r0 (fs:=fs) (v:=v) K (by omega) free o1 f run h1 (by omega) (by omega) h2 (hv f h1) x y z
  obtain⟨K',BS,o',x',y',z',i1,i2,i3,i4,i5,i6⟩:=qo n r0 hv L hL rows (K++[(f,a)]) j true (some (.str f)) (some (.lst false (run.map BX))) (some (.tup [.lst false (a.map BX),.lst false (b.map BX)])) (by rw[List.length_append,List.length_singleton];omega) (fun p h=>hp p (List.mem_cons_of_mem _ h)) (pj pf) (by omega)
  refine⟨(f,a)::K',BS,o',x',y',z',?_,?_,?_,fun p h=>?_,i5,by rw[List.length_cons,Nat.add_mul,Nat.one_mul];omega⟩
  ·rw[List.map_cons,Ev.cQ,e]
   rw[List.append_assoc] at i1
   exact i1
  ·show (f,cnt a)::Ex K'=_
   rw[i2,ca]
   rfl
  ·show cnt a+En K' + cnt BS=cnt run+En rows+cnt free
   omega
  ·rcases List.mem_cons.mp h with rfl|h
   ·exact⟨pa,Nat.le_trans la h3⟩
   ·exact i4 p h
theorem mE (n:Nat){fs:List Str}{v:Str->Int}(hv:∀ f∈fs,0<=v f)(L:Nat)(hL:L<=60)(rows:List Rw)(free:List Pr)(hk:rows.length<=6)(hp:∀ p∈rows,p.1∈fs/\Pos p.2/\p.2.length<=L)(pf:Pos free)(lf:free.length<=L) :
  ∃ (K':List Rw) (BS:List Pr) (o':Bool),aa T (n+2) 27 [.lst false (rows.map (aA false)),.lst false (free.map BX),dF false fs v]=.ok (alt true false o' K' BS)/\Ex K'=rows.map (fun p=>(p.1,mn (v p.1) (cnt p.2)))/\En K' + cnt BS=En rows+cnt free/\(∀ p∈K',Pos p.2/\p.2.length<=L)/\Pos BS/\BS.length<=7*L:=by
 have hm:rows.length*L<=6*L:=Nat.mul_le_mul_right _ hk
 obtain⟨K',BS,o',x',y',z',i1,i2,i3,i4,i5,i6⟩:=qo n (.lst false (rows.map (aA false))) hv L hL rows [] free false none none none (by rw[List.length_nil];omega) hp pf (by omega)
 refine⟨K',BS,o',?_,i2,i3,i4,i5,by omega⟩
 have body:PU=[(.asg (.nm 3) (.lst [])),(.Cs (.tp [(.nm 4),(.nm 5)]) (.val (.v 0)) tS),(.ret (.tup [(.v 3),(.v 1)]))]:=rfl
 rw[Ev.go (show T 27=some Jn from rfl) (show Jn.io=none from rfl) (show Jn.np=3 from rfl) (show Jn.G.N.length=7 from rfl) (show Jn.body=_ from body) rfl]
 rw[List.nil_append,List.map_nil] at i1
 have re:=cq false rows
 have pe:=bF free
 unfold alt
 generalize dF false fs v=W at *
 generalize K'.map (aA false)=KK at *
 generalize rows.map (aA false)=RR at *
 generalize free.map BX=FF at *
 generalize BS.map BX=Th at *
 generalize tS=tb at *
 simp -implicitDefEqProofs (disch:=omega) only[Cd,Nat.reduceBEq,Nat.reduceSub,Nat.reduceAdd,reduceIte,re,pe,i1]
theorem xD (n:Nat)(r0:D){fs:List Str}{v:Str->Int}(K:List Rw)(hK:K.length<=1000)(free:List Pr)(o1:Bool)(f:Str)(run:List Pr)(hf:f∈fs)(hr:run.length<=300)(JT:free.length<=600)(pr:Pos run)(pf:Pos free)(h0:cnt run<=v f)(h1:v f - cnt run<=cnt free)(x y z:Option D) :
  ∃ a b j:List Pr,Ev.turn (aa T (n+1)) (.tp [(.nm 4),(.nm 5)]) tG (aA false (f,run)) [some r0,some (.lst o1 (free.map BX)),some (dF false fs v),some (.lst true (K.map (aA true))),x,y,z] =
   .ok (.nx [some r0,some (.lst false (b.map BX)),some (dF false fs v),some (.lst true ((K++[(f,j)]).map (aA true))),some (.str f),some (.lst false (run.map BX)),some (.tup [.lst false (a.map BX),.lst false (b.map BX)])])/\
   cnt j=v f/\cnt b=cnt free - (v f - cnt run)/\Pos j/\Pos b/\j.length<=run.length+free.length/\b.length<=free.length:=by
 have e1:=gW n run (by omega)
 obtain⟨a,b,e2,ca,cb,pa,pb,la,lb⟩:=kT n free (v f - cnt run) (by omega) pf (by omega)
 obtain⟨j,e3,cj,pj,lj⟩:=kU n run a (by omega) (by omega)
 refine⟨a,b,j,?_,?_,?_,pj pr pa,pb,by omega,lb⟩
 ·have g:=f7 false v hf
  have de:=f6 false fs v
  have p1:=bF run
  have p2:=bF a
  have p3:=bF b
  have p4:=bF free
  have lm:(K.map (aA true)).length=K.length:=List.length_map _
  rw[k9,show aA false (f,run)=.tup [.str f,.lst false (run.map BX)] from rfl]
  have x0:∀ (P Q:D),bu (.tup [P,Q]) (.int 0)=.ok P:=fun _ _=>rfl
  have x1:∀ (P Q:D),bu (.tup [P,Q]) (.int 1)=.ok Q:=fun _ _=>rfl
  have vd:vars ((IR.v 2).Cj (IR.v 4))=[2,4]:=rfl
  show Ev.turn (aa T (n+1)) (.tp [(.nm 4),(.nm 5)]) tG (.tup [.str f,.lst false (run.map BX)]) _=.ok (.nx [_,_,_,some (.lst true (K.map (aA true)++[.tup [.str f,.lst true (j.map BX)]])),_,_,_])
  generalize dF false fs v=W at *
  generalize K.map (aA true)=KK at *
  generalize run.map BX=RR at *
  generalize free.map BX=FF at *
  generalize a.map BX=AA at *
  generalize b.map BX=BB at *
  generalize j.map BX=JJ at *
  generalize cnt run=cr at *
  unfold tG
  simp -implicitDefEqProofs (disch:=omega) only[Cd,Nat.reduceBEq,Nat.reduceSub,Nat.reduceAdd,reduceIte,Ev.aE,vd,g,e1,e2,e3,de,p1,p2,p3,p4,x0,x1,lm]
 ·rw[cj,ca]
  split<;>omega
 ·rw[cb]
  split<;>omega
theorem qr (n:Nat)(r0:D){fs:List Str}{v:Str->Int}(L M:Nat)(hL:L<=300)(hM:M<=600):∀ (rows K:List Rw) (free:List Pr) (o1:Bool) (x y z:Option D),K.length+rows.length<=6->(∀ p∈rows,p.1∈fs/\Pos p.2/\p.2.length<=L/\cnt p.2<=v p.1)->Pos free->free.length<=M->(rows.map fun p=>v p.1).sum<=En rows+cnt free->
  ∃ (K':List Rw) (BS:List Pr) (o':Bool) (x' y' z':Option D),forM (Ev.turn (aa T (n+1)) (.tp [(.nm 4),(.nm 5)]) tG) (rows.map (aA false)) [some r0,some (.lst o1 (free.map BX)),some (dF false fs v),some (.lst true (K.map (aA true))),x,y,z]=.ok (.nx [some r0,some (.lst o' (BS.map BX)),some (dF false fs v),some (.lst true ((K++K').map (aA true))),x',y',z'])/\
   Ex K'=rows.map (fun p=>(p.1,v p.1))/\(rows.map fun p=>v p.1).sum+cnt BS=En rows+cnt free/\(∀ p∈K',Pos p.2/\p.2.length<=L+M)/\Pos BS/\BS.length<=M/\(o1=false->o'=false)
 | [],K,free,o1,x,y,z,_,_,pf,hl,_=>⟨[],free,o1,x,y,z,by rw[List.append_nil];rfl,rfl,rfl,(fun p h=>by cases h),pf,hl,id⟩
 | (f,run)::rows,K,free,o1,x,y,z,hk,hp,pf,hl,hs=>by
  obtain⟨h1,h2,h3,h4⟩:=hp (f,run) (.head _)
  rw[List.length_cons] at hk
  have h3:run.length<=L:=h3
  have h4:cnt run<=v f:=h4
  have hs:v f+(rows.map fun p=>v p.1).sum<=cnt run+En rows+cnt free:=hs
  have P9:En rows<=(rows.map fun p=>v p.1).sum:=by
   have key:∀ rs:List Rw,(∀ p∈rs,cnt p.2<=v p.1)->En rs<=(rs.map fun p=>v p.1).sum:=by
    intro rs
    induction rs with
    | nil=>intro _;exact Int.le_refl _
    | cons q rs ih=>
     intro h
     have a1:=h q (.head _)
     have a2:=ih fun p hp=>h p (List.mem_cons_of_mem _ hp)
     show cnt q.2+En rs<=v q.1+(rs.map fun p=>v p.1).sum
     omega
   exact key rows fun p h=>(hp p (List.mem_cons_of_mem _ h)).2.2.2
  obtain⟨a,b,j,e,ca,cj,pa,pj,la,lj⟩:=xD n r0 (fs:=fs) (v:=v) K (by omega) free o1 f run h1 (by omega) (by omega) h2 pf h4 (by omega) x y z
  obtain⟨K',BS,o',x',y',z',i1,i2,i3,i4,i5,i6,i7⟩:=qr n r0 L M hL hM rows (K++[(f,j)]) b false (some (.str f)) (some (.lst false (run.map BX))) (some (.tup [.lst false (a.map BX),.lst false (b.map BX)])) (by rw[List.length_append,List.length_singleton];omega) (fun p h=>hp p (List.mem_cons_of_mem _ h)) pj (by omega) (by omega)
  refine⟨(f,j)::K',BS,o',x',y',z',?_,?_,?_,fun p h=>?_,i5,i6,fun _=>i7 rfl⟩
  ·rw[List.map_cons,Ev.cQ,e]
   rw[List.append_assoc] at i1
   exact i1
  ·show (f,cnt j)::Ex K'=_
   rw[i2,ca]
   rfl
  ·show v f+(rows.map fun p=>v p.1).sum+cnt BS=cnt run+En rows+cnt free
   omega
  ·rcases List.mem_cons.mp h with rfl|h
   ·exact⟨pa,by show j.length<=_;omega⟩
   ·exact i4 p h
theorem qt (n:Nat){fs:List Str}{v:Str->Int}(L M:Nat)(hL:L<=300)(hM:M<=600)(rows:List Rw)(free:List Pr)(hk:rows.length<=6)(hp:∀ p∈rows,p.1∈fs/\Pos p.2/\p.2.length<=L/\cnt p.2<=v p.1)(pf:Pos free)(lf:free.length<=M)(hs:(rows.map fun p=>v p.1).sum<=En rows+cnt free) :
  ∃ (K':List Rw) (BS:List Pr),aa T (n+2) 28 [.lst false (rows.map (aA false)),.lst false (free.map BX),dF false fs v]=.ok (alt true true false K' BS)/\Ex K'=rows.map (fun p=>(p.1,v p.1))/\(rows.map fun p=>v p.1).sum+cnt BS=En rows+cnt free/\(∀ p∈K',Pos p.2/\p.2.length<=L+M)/\Pos BS/\BS.length<=M:=by
 obtain⟨K',BS,o',x',y',z',i1,i2,i3,i4,i5,i6,i7⟩:=qr n (.lst false (rows.map (aA false))) L M hL hM rows [] free false none none none (by rw[List.length_nil];omega) hp pf lf hs
 have eo:=i7 rfl
 subst eo
 refine⟨K',BS,?_,i2,i3,i4,i5,i6⟩
 have body:PV=[(.asg (.nm 3) (.lst [])),(.Cs (.tp [(.nm 4),(.nm 5)]) (.val (.v 0)) tG),(.ret (.tup [(.v 3),(.v 1)]))]:=rfl
 rw[Ev.go (show T 28=some Jo from rfl) (show Jo.io=none from rfl) (show Jo.np=3 from rfl) (show Jo.G.N.length=7 from rfl) (show Jo.body=_ from body) rfl]
 rw[List.nil_append,List.map_nil] at i1
 have re:=cq false rows
 have pe:=bF free
 unfold alt
 generalize dF false fs v=W at *
 generalize K'.map (aA true)=KK at *
 generalize rows.map (aA false)=RR at *
 generalize free.map BX=FF at *
 generalize BS.map BX=Th at *
 generalize tG=tb at *
 simp -implicitDefEqProofs (disch:=omega) only[Cd,Nat.reduceBEq,Nat.reduceSub,Nat.reduceAdd,reduceIte,re,pe,i1]
theorem lh (rows:List Rw):(Ex rows).map (·.1)=rows.map (·.1):=by
 unfold Ex
 rw[List.map_map]
 rfl
theorem sJ (rows:List Rw):(Ex rows).map (·.2)=rows.map fun p=>cnt p.2:=by
 unfold Ex
 rw[List.map_map]
 rfl
section
variable {fs:List Str}{c:Str->Int}{rows:List Rw}{free:List Pr}{L:Nat}
theorem Al.names (a:Al fs c rows free L):rows.map (·.1)=fs:=by
 rw[<- lh,a.sz,List.map_map]
 exact List.map_id' fs
theorem Al.total (a:Al fs c rows free L):Law.En rows=(fs.map c).sum:=by
 unfold Law.En
 rw[<- sJ,a.sz,List.map_map]
 rfl
theorem Al.C8 (a:Al fs c rows free L){p:Rw}(h:p∈rows):p.1∈fs/\cnt p.2=c p.1:=by
 have h1:(p.1,cnt p.2)∈Ex rows:=List.mem_map.mpr ⟨p,h,rfl⟩
 rw[a.sz] at h1
 obtain⟨f,hf,e⟩:=List.mem_map.mp h1
 have e1:f=p.1:=congrArg Prod.fst e
 have e2:c f=cnt p.2:=congrArg Prod.snd e
 rw[<- e1]
 exact⟨hf,e2.symm⟩
theorem Al.nn (a:Al fs c rows free L){f:Str}(h:f∈fs):0<=c f:=by
 rw[<- a.names] at h
 obtain⟨p,hp,rfl⟩:=List.mem_map.mp h
 rw[<- (a.C8 hp).2]
 exact jH (a.pos p hp)
theorem gZ:∀ (ps:List Sh) (seen:List Str),bV fs ps seen=none->∀ p∈ps,p.1∈fs/\0<=p.2
 | [],_,_,p,h=>by cases h
 | q::ps,seen,h,p,hp=>by
  unfold bV at h
  by_cases h1:q.1∈fs
  ·rw[if_neg (fun z=>z h1)] at h
   by_cases h2:q.1∈seen
   ·rw[if_pos h2] at h;cases h
   ·rw[if_neg h2] at h
    by_cases h3:q.2 < 0
    ·rw[if_pos h3] at h;cases h
    ·rw[if_neg h3] at h
     rcases List.mem_cons.mp hp with rfl|hp
     ·exact⟨h1,by omega⟩
     ·exact gZ ps _ h p hp
  ·rw[if_pos h1] at h;cases h
theorem qu:∀ (ps:List Sh) (c:Str->Int),(∀ p∈ps,0<=p.2)->∀ f,0<=c f->0<=ups c ps f
 | [],c,_,f,h=>h
 | p::ps,c,hp,f,h=>by
  refine qu ps (up c p.1 p.2) (fun q hq=>hp q (List.mem_cons_of_mem _ hq)) f ?_
  unfold up
  split
  ·exact hp p (.head _)
  ·exact h
theorem AO (a b:Int):mn a b<=a:=by unfold mn;split<;>omega
theorem fq (n:Nat)(a:Al fs c rows free L)(hL:L<=60)(ps:List Sh)(hp:ps.length<=100)(hz:∀ p∈ps,(reprText p.1).length<=1000) :
  (∀ e,bV fs ps []=some e->aa T (n+4) 29 [alt false false false rows free,.lst false (ps.map B2)]=.error (.exc e))/\
  (bV fs ps []=none->(10007 < (fs.map (ups c ps)).sum->aa T (n+4) 29 [alt false false false rows free,.lst false (ps.map B2)]=.error (.exc "TooMuch"))/\
   ((fs.map (ups c ps)).sum<=10007->∃ Cp BS,aa T (n+4) 29 [alt false false false rows free,.lst false (ps.map B2)]=.ok (alt true true false Cp BS)/\Al fs (ups c ps) Cp BS (8*L))):=by
 obtain⟨w1,w2⟩:=sI n a (by omega) ps hp hz
 have ae:=cG false false false rows free
 have pe:=d5 ps
 have body:PX=[(.asg (.nm 2) (.call 26 [(.v 0),(.v 1)])),(.asg (.nm 3) (.call 27 [(.idx (.v 0) (.c (.int 0))),(.bi .list [(.idx (.v 0) (.c (.int 1)))]),(.v 2)])),(.ret (.call 28 [(.idx (.v 3) (.c (.int 0))),(.idx (.v 3) (.c (.int 1))),(.v 2)]))]:=rfl
 rw[Ev.go (show T 29=some Jp from rfl) (show Jp.io=none from rfl) (show Jp.np=2 from rfl) (show Jp.G.N.length=4 from rfl) (show Jp.body=_ from body) rfl]
 have err:∀ e,aa T (n+3) 26 [alt false false false rows free,.lst false (ps.map B2)]=.error (.exc e)->U (aB (aa T (n+3)) [(.asg (.nm 2) (.call 26 [(.v 0),(.v 1)])),(.asg (.nm 3) (.call 27 [(.idx (.v 0) (.c (.int 0))),(.bi .list [(.idx (.v 0) (.c (.int 1)))]),(.v 2)])),(.ret (.call 28 [(.idx (.v 3) (.c (.int 0))),(.idx (.v 3) (.c (.int 1))),(.v 2)]))] (List.map some [alt false false false rows free,.lst false (ps.map B2)]++List.replicate (4 - 2) none)) Ev.jE=.error (.exc e):=fun e h=>by
  generalize alt false false false rows free=A at *
  generalize ps.map B2=PS at *
  simp -implicitDefEqProofs (disch:=omega) only[Cd,Nat.reduceBEq,Nat.reduceSub,Nat.reduceAdd,reduceIte,h,ae,pe]
 refine⟨fun e h=>err e (w1 e h),fun h=>⟨fun hs=>err _ ((w2 h).1 hs),fun hs=>?_⟩⟩
 have hw:=(w2 h).2 hs
 have Gb:=gZ ps [] h
 have hv:∀ f∈fs,0<=ups c ps f:=fun f hf=>qu ps c (fun p hp=>(Gb p hp).2) f (a.nn hf)
 have NS:=a.GD
 have EB:=a.Iy
 obtain⟨K,f1,o1,s1,s2,s3,s4,s5,s6⟩:=mE (n+1) hv L hL rows free (by omega) (fun p h=>⟨(a.C8 h).1,a.pos p h,a.len p h⟩) a.NQ a.NR
 have kn:K.map (·.1)=fs:=by
  rw[<- lh,s2,List.map_map]
  exact a.names
 have GF:∀ p∈K,p.1∈fs/\Pos p.2/\p.2.length<=L/\cnt p.2<=ups c ps p.1:=fun p h=>by
  refine⟨by rw[<- kn];exact List.mem_map.mpr ⟨p,h,rfl⟩,(s4 p h).1,(s4 p h).2,?_⟩
  have h1:(p.1,cnt p.2)∈Ex K:=List.mem_map.mpr ⟨p,h,rfl⟩
  rw[s2] at h1
  obtain⟨q,hq,e⟩:=List.mem_map.mp h1
  have e1:q.1=p.1:=(Prod.mk.inj e).1
  have e2:mn (ups c ps q.1) (cnt q.2)=cnt p.2:=(Prod.mk.inj e).2
  rw[<- e2,<- e1]
  exact AO _ _
 have Ti:(K.map fun p=>ups c ps p.1).sum=(fs.map (ups c ps)).sum:=by
  rw[<- kn,List.map_map]
  rfl
 have Tj:K.length=fs.length:=by rw[<- kn,List.length_map]
 have ht:=a.total
 have T6:=a.En
 obtain⟨R,f2,g1,g2,g3,g4,g5,g6⟩:=qt (n+1) (fs:=fs) (v:=ups c ps) L (7*L) (by omega) (by omega) K f1 (by omega) GF s5 s6 (by omega)
 refine⟨R,f2,?_,⟨a.Cf,a.Iy,a.rep,?_,fun p h=>(g4 p h).1,g5,fun p h=>by have:=(g4 p h).2;omega,by omega,by omega⟩⟩
 ·have x0:bu (alt false false false rows free) (.int 0)=.ok (.lst false (rows.map (aA false))):=rfl
  have x1:bu (alt false false false rows free) (.int 1)=.ok (.lst false (free.map BX)):=rfl
  have y0:bu (alt true false o1 K f1) (.int 0)=.ok (.lst true (K.map (aA false))):=rfl
  have y1:bu (alt true false o1 K f1) (.int 1)=.ok (.lst o1 (f1.map BX)):=rfl
  have l1:aw (dF true fs (ups c ps))=false:=rfl
  have l2:aw (alt true false o1 K f1)=false:=rfl
  have l3:aw (alt true true false R f2)=false:=rfl
  have de:=f6 true fs (ups c ps)
  have df:=f6 false fs (ups c ps)
  have re:=cq false rows
  have Tn:=cq false K
  have p1:=bF free
  have p2:=bF f1
  generalize alt false false false rows free=A at *
  generalize alt true false o1 K f1=B at *
  generalize alt true true false R f2=C at *
  generalize dF true fs (ups c ps)=W at *
  generalize dF false fs (ups c ps)=W' at *
  generalize ps.map B2=PS at *
  generalize rows.map (aA false)=RR at *
  generalize K.map (aA false)=KK at *
  generalize free.map BX=FF at *
  generalize f1.map BX=T7 at *
  simp -implicitDefEqProofs (disch:=omega) only[Cd,Nat.reduceBEq,Nat.reduceSub,Nat.reduceAdd,reduceIte,hw,ae,pe,x0,x1,y0,y1,l1,l2,l3,de,df,re,Tn,p1,p2,s1,g1]
 ·rw[g2,<- kn,List.map_map]
  rfl
end
noncomputable def CN (fs:List Str)(f:Str)(u:Str->Int):List Int:=(fs.filter fun g=>!(g == f)).map u
theorem lu (cl:Nat->List D->Res D)(o:Bool){fs:List Str}(u:Str->Int)(f:Str):∀ gs:List Str,(∀ g∈gs,g∈fs)->ba (bc cl (.nm 2) [(.cmp .ne (.v 2) (.v 1))] (.Cj (.v 0) (.v 2)) [some (dF o fs u),some (.str f),none]) (gs.map .str)=.ok ((CN gs f u).map .int)
 | [],_=>rfl
 | g::gs,h=>by
  have ih:=lu cl o u f gs fun q hq=>h q (List.mem_cons_of_mem _ hq)
  have hg:=f7 o u (h g (.head _))
  unfold CN at *
  rw[List.map_cons,List.filter_cons]
  show U (bc cl (.nm 2) [(.cmp .ne (.v 2) (.v 1))] (.Cj (.v 0) (.v 2)) [some (dF o fs u),some (.str f),none] (.str g)) _=_
  cases e:(g == f) with
  | true=>
   have e1:bc cl (.nm 2) [(.cmp .ne (.v 2) (.v 1))] (.Cj (.v 0) (.v 2)) [some (dF o fs u),some (.str f),none] (.str g)=.ok none:=by
    generalize dF o fs u=W at *
    simp -implicitDefEqProofs (disch:=omega) only[Cd,Nat.reduceBEq,Nat.reduceSub,Nat.reduceAdd,reduceIte,hg,e]
   rw[e1]
   exact ih
  | false=>
   have e1:bc cl (.nm 2) [(.cmp .ne (.v 2) (.v 1))] (.Cj (.v 0) (.v 2)) [some (dF o fs u),some (.str f),none] (.str g)=.ok (some (.int (u g))):=by
    generalize dF o fs u=W at *
    simp -implicitDefEqProofs (disch:=omega) only[Cd,Nat.reduceBEq,Nat.reduceSub,Nat.reduceAdd,reduceIte,hg,e]
   rw[e1]
   show U (ba _ _) _=_
   rw[ih]
   rfl
theorem lA {f:Str}(u:Str->Int):∀ {fs:List Str},f∉fs->CN fs f u=fs.map u
 | [],_=>rfl
 | g::fs,h=>by
  have e:(g == f)=false:=by simpa using fun z:g=f=>h (by rw[z];exact .head _)
  unfold CN
  rw[List.filter_cons,e]
  show u g::CN fs f u=_
  rw[lA u fun z=>h (List.mem_cons_of_mem _ z)]
  rfl
theorem g7 {f:Str}(u:Str->Int):∀ {fs:List Str},f∈fs->fs.Nodup->(fs.map u).sum=u f+(CN fs f u).sum
 | g::fs,h,nd=>by
  rw[List.nodup_cons] at nd
  by_cases e:g=f
  ·have eb:(g == f)=true:=by simpa using e
   have ef:CN (g::fs) f u=CN fs f u:=by unfold CN;rw[List.filter_cons,eb];rfl
   rw[ef,lA u (by rw[<- e];exact nd.1),List.map_cons,List.sum_cons,e]
  ·have eb:(g == f)=false:=by simpa using e
   have ef:CN (g::fs) f u=u g::CN fs f u:=by unfold CN;rw[List.filter_cons,eb];rfl
   have:=g7 u ((List.mem_cons.mp h).resolve_left fun z=>e z.symm) nd.2
   rw[ef,List.map_cons,List.sum_cons,List.sum_cons,this]
   omega
theorem xE (u:Str->Int)(x:Int)(f:Str):∀ fs:List Str,CN fs f (up u f x)=CN fs f u:=fun fs=>by
 unfold CN
 refine List.map_congr_left fun g hg=>?_
 have:(!(g == f))=true:=(List.mem_filter.mp hg).2
 unfold up
 rw[if_neg (by simpa using this)]
theorem qv:∀ ns:List Int,(∀ x∈ns,0<=x)->0<=ns.sum
 | [],_=>Int.le_refl _
 | n::ns,h=>by
  have a1:=h n (.head _)
  have a2:=qv ns fun x hx=>h x (List.mem_cons_of_mem _ hx)
  rw[List.sum_cons]
  omega
theorem g9 (ps:List Sh)(f:Str)(x:Int):(ps++[(f,x)]).map B2=ps.map B2++[.tup [.str f,.int x]]:=by rw[List.map_append];rfl
noncomputable def tT:List IS:=[(.asg (.nm 6) (.idx (.v 1) (.bin .mod (.bin .add (.v 5) (.idx (.v 3) (.c (.int 0)))) (.bi .len [(.v 1)])))),(.asg (.nm 7) (.bin .sub (.c (.int 10007)) (.bi .sum [(.comp {N:=["_law_due_here","_law_face","_law_own"],kd:=[.cell,.cell,.local],gl:=[],df:=false} [2,6] (.nm 2) (.val (.v 1)) [(.cmp .ne (.v 2) (.v 1))] (.Cj (.v 0) (.v 2)))]))),(.Cq (.cmp .gt (.bin .mod (.idx (.v 3) (.bin .add (.bin .mul (.c (.int 3)) (.v 5)) (.c (.int 2)))) (.c (.int 3))) (.c (.int 0))) [(.asg (.nm 8) (.bi .max2 [(.c (.int 0)),(.bin .sub (.Cj (.v 2) (.v 6)) (.bin .mod (.idx (.v 3) (.bin .add (.bin .mul (.c (.int 3)) (.v 5)) (.c (.int 4)))) (.c (.int 5))))])),(.asg (.nm 9) (.idx (.lst [(.bin .mod (.idx (.v 3) (.bin .add (.bin .mul (.c (.int 3)) (.v 5)) (.c (.int 3)))) (.bin .add (.v 7) (.c (.int 1)))),(.v 7),(.c (.int 0)),(.v 8)]) (.bin .mod (.bin .fdiv (.idx (.v 3) (.bin .add (.bin .mul (.c (.int 3)) (.v 5)) (.c (.int 4)))) (.c (.int 8))) (.c (.int 4))))),(.Cq (.cmp .eq (.bin .mod (.bin .fdiv (.idx (.v 3) (.bin .add (.bin .mul (.c (.int 3)) (.v 5)) (.c (.int 4)))) (.c (.int 32))) (.c (.int 3))) (.c (.int 0))) [(.asg (.nm 9) (.bi .min2 [(.v 7),(.bin .add (.Cj (.v 2) (.v 6)) (.bin .mod (.idx (.v 3) (.bin .add (.bin .mul (.c (.int 3)) (.v 5)) (.c (.int 3)))) (.c (.int 7))))]))] []),(.CQ 2 (.v 6) (.v 9)),(.app 4 (.tup [(.v 6),(.v 9)]))] [])]
theorem AQ (a r l i:Int)(h0:0<=i)(h1:i < 4)(ha:0<=a/\a<=r)(hr:0<=r)(hl:0<=l/\l<=r):∃ p,bu (.lst true [.int a,.int r,.int 0,.int l]) (.int i)=.ok (.int p)/\0<=p/\p<=r:=by
 have:i=0∨i=1∨i=2∨i=3:=by omega
 rcases this with rfl|rfl|rfl|rfl
 ·exact⟨a,rfl,ha⟩
 ·exact⟨r,rfl,hr,Int.le_refl _⟩
 ·exact⟨0,rfl,Int.le_refl _,hr⟩
 ·exact⟨l,rfl,hl⟩
theorem jK (o:Bool)(fs:List Str){i:Int}(h0:0<=i)(h1:i < fs.length):bu (.lst o (fs.map .str)) (.int i)=.ok (.str (fs.getD i.toNat Str.empty)):=by
 rw[Ev.L7,Ev.gQ .B5 h0 (by rw[List.length_map];exact h1)]
 have CY:i.toNat < fs.length:=by omega
 simp[CY]
theorem xF (cl:Nat->List D->Res D)(cell:Int){fs:List Str}(nd:fs.Nodup)(hn:fs.length<=6)(u:Str->Int)(hu:∀ f∈fs,0<=u f)(hs:(fs.map u).sum<=10007)(xs:List Int)(lx:xs.length=3*fs.length+2)(px:∀ x∈xs,0<=x)(ps:List Sh)(hp:ps.length<=100)(k:Nat)(hk:k < fs.length)(x5 x6 x7 x8 x9:Option D) :
  ∃ q6 q7 q8 q9,(Ev.turn cl (.nm 5) tT (.int (0+(k:Nat))) [some (.int cell),some (.lst false (fs.map .str)),some (dF true fs u),some (.lst true (xs.map .int)),some (.lst true (ps.map B2)),x5,x6,x7,x8,x9]=.ok (.nx [some (.int cell),some (.lst false (fs.map .str)),some (dF true fs u),some (.lst true (xs.map .int)),some (.lst true (ps.map B2)),some (.int (0+(k:Nat))),q6,q7,q8,q9]))∨
   ∃ x,0<=x/\x<=10007 - (CN fs (fs.getD (((k:Int)+xs.getD 0 0) % fs.length).toNat Str.empty) u).sum/\Ev.turn cl (.nm 5) tT (.int (0+(k:Nat))) [some (.int cell),some (.lst false (fs.map .str)),some (dF true fs u),some (.lst true (xs.map .int)),some (.lst true (ps.map B2)),x5,x6,x7,x8,x9]=.ok (.nx [some (.int cell),some (.lst false (fs.map .str)),some (dF true fs (up u (fs.getD (((k:Int)+xs.getD 0 0) % fs.length).toNat Str.empty) x)),some (.lst true (xs.map .int)),some (.lst true ((ps++[(fs.getD (((k:Int)+xs.getD 0 0) % fs.length).toNat Str.empty,x)]).map B2)),some (.int (0+(k:Nat))),q6,q7,q8,q9]):=by
 have m0:=Int.emod_nonneg ((k:Int)+xs.getD 0 0) (show (fs.length:Int)≠0 by omega)
 have m1:=Int.emod_lt_of_pos ((k:Int)+xs.getD 0 0) (show (0:Int) < fs.length by omega)
 have fi:=jK false fs m0 m1
 have hf:fs.getD (((k:Int)+xs.getD 0 0) % fs.length).toNat Str.empty∈fs:=by
  rw[List.getD_eq_getElem?_getD,List.getElem?_eq_getElem (by omega)]
  exact List.getElem_mem _
 generalize fs.getD (((k:Int)+xs.getD 0 0) % fs.length).toNat Str.empty=f at *
 have g:=f7 true u hf
 have e1:=lu cl true u f fs fun g h=>h
 have To:=g7 u hf nd
 have T8:=hu f hf
 have Tf:(CN fs f u).length<=1000:=by
  unfold CN
  rw[List.length_map]
  exact Nat.le_trans (List.length_filter_le _ _) (by omega)
 have ho:0<=(CN fs f u).sum:=qv _ fun x hx=>by
  unfold CN at hx
  obtain⟨g,hg,rfl⟩:=List.mem_map.mp hx
  exact hu g (List.mem_filter.mp hg).1
 have e2:∀ o,bX .sum [.lst o ((CN fs f u).map .int)]=.ok (.int (CN fs f u).sum):=fun o=>Ev.jC (by omega)
 have lm:(fs.map D.str).length=fs.length:=List.length_map _
 have lp:(ps.map B2).length=ps.length:=List.length_map _
 have y2:=Ev.Ht (o:=true) (xs:=xs) (i:=3*(0+(k:Int))+2) (by omega) (by omega)
 have y3:=Ev.Ht (o:=true) (xs:=xs) (i:=3*(0+(k:Int))+3) (by omega) (by omega)
 have y4:=Ev.Ht (o:=true) (xs:=xs) (i:=3*(0+(k:Int))+4) (by omega) (by omega)
 have y0:=Ev.Ht (o:=true) (xs:=xs) (i:=0) (by omega) (by omega)
 have z3:0<=xs.getD (3*(0+(k:Int))+3).toNat 0:=px _ (by
  rw[List.getD_eq_getElem?_getD,List.getElem?_eq_getElem (by omega)]
  exact List.getElem_mem _)
 have z4:0<=xs.getD (3*(0+(k:Int))+4).toNat 0:=px _ (by
  rw[List.getD_eq_getElem?_getD,List.getElem?_eq_getElem (by omega)]
  exact List.getElem_mem _)
 rw[show (0:Int).toNat=0 from rfl] at y0
 have NV:bu (.lst false (fs.map .str)) (.int ((0+(k:Int)+xs.getD 0 0) % (fs.length:Int)))=.ok (.str f):=by rw[Int.zero_add];exact fi
 have hr:0<=10007 - (CN fs f u).sum:=by omega
 have T9:u f<=10007 - (CN fs f u).sum:=by omega
 have nz:(0:Int) < (fs.length:Int):=by omega
 generalize (CN fs f u).sum=S at *
 generalize xs.getD (3*(0+(k:Int))+2).toNat 0=w2 at *
 generalize xs.getD (3*(0+(k:Int))+3).toNat 0=w3 at *
 generalize xs.getD (3*(0+(k:Int))+4).toNat 0=w4 at *
 by_cases c1:0 < w2 % 3
 ·have d1:decide (0 < w2 % 3)=true:=decide_eq_true c1
  have a0:=Int.emod_nonneg w3 (show (10007 - S+1:Int)≠0 by omega)
  have a1:=Int.emod_lt_of_pos w3 (show (0:Int) < 10007 - S+1 by omega)
  have b0:=Int.emod_nonneg (w4 / 8) (show (4:Int)≠0 by decide)
  have b1:=Int.emod_lt_of_pos (w4 / 8) (show (0:Int) < 4 by decide)
  have c0:=Int.emod_nonneg w4 (show (5:Int)≠0 by decide)
  have g0:=Int.emod_nonneg w3 (show (7:Int)≠0 by decide)
  obtain⟨p,ep,p0,p1⟩:=AQ (w3 % (10007 - S+1)) (10007 - S) (if u f - w4 % 5 > 0 then u f - w4 % 5 else 0) (w4 / 8 % 4) b0 b1 ⟨a0,by omega⟩ hr (by split<;>exact⟨by omega,by omega⟩)
  have nr:(0:Int) < 10007 - S+1:=by omega
  have L':∀ (v:Int),Ev.cp cl 2 (.v 6) [some (.int cell),some (.lst false (fs.map .str)),some (dF true fs u),some (.lst true (xs.map .int)),some (.lst true (ps.map B2)),some (.int (0+(k:Nat))),some (.str f),some (.int (10007 - S)),some (.int (if u f - w4 % 5 > 0 then u f - w4 % 5 else 0)),some (.int v)] (.int v) (some (dF true fs u))=.ok (.nx [some (.int cell),some (.lst false (fs.map .str)),some (dF true fs (up u f v)),some (.lst true (xs.map .int)),some (.lst true (ps.map B2)),some (.int (0+(k:Nat))),some (.str f),some (.int (10007 - S)),some (.int (if u f - w4 % 5 > 0 then u f - w4 % 5 else 0)),some (.int v)]):=fun v=>k8 cl 2 (.v 6) _ rfl hf (by omega)
  cases c2:(w4 / 32 % 3 == 0) with
  | true=>
   refine⟨some (.str f),some (.int (10007 - S)),some (.int (if u f - w4 % 5 > 0 then u f - w4 % 5 else 0)),some (.int (if u f+w3 % 7 < 10007 - S then u f+w3 % 7 else 10007 - S)),.inr ⟨if u f+w3 % 7 < 10007 - S then u f+w3 % 7 else 10007 - S,by split<;>omega,by split<;>omega,?_⟩⟩
   rw[g9]
   have st:=L' (if u f+w3 % 7 < 10007 - S then u f+w3 % 7 else 10007 - S)
   clear L'
   generalize hv:(if u f+w3 % 7 < 10007 - S then u f+w3 % 7 else 10007 - S)=v at *
   generalize dF true fs u=W at *
   generalize dF true fs (up u f v)=W' at *
   generalize (CN fs f u).map D.int=OO at *
   generalize fs.map D.str=FF at *
   generalize xs.map D.int=XX at *
   generalize ps.map B2=PP at *
   generalize NW:(if u f - w4 % 5 > 0 then u f - w4 % 5 else 0)=less at *
   unfold tT
   simp -implicitDefEqProofs (disch:=omega) only[Cd,Nat.reduceBEq,Nat.reduceSub,Nat.reduceAdd,reduceIte,Ev.aE,NV,g,e1,e2,lm,lp,y0,y2,y3,y4,d1,ep,c2,st,hv,NW]
  | false=>
   refine⟨some (.str f),some (.int (10007 - S)),some (.int (if u f - w4 % 5 > 0 then u f - w4 % 5 else 0)),some (.int p),.inr ⟨p,p0,p1,?_⟩⟩
   rw[g9]
   have st:=L' p
   clear L'
   generalize p=v at *
   generalize dF true fs u=W at *
   generalize dF true fs (up u f v)=W' at *
   generalize (CN fs f u).map D.int=OO at *
   generalize fs.map D.str=FF at *
   generalize xs.map D.int=XX at *
   generalize ps.map B2=PP at *
   generalize NW:(if u f - w4 % 5 > 0 then u f - w4 % 5 else 0)=less at *
   unfold tT
   simp -implicitDefEqProofs (disch:=omega) only[Cd,Nat.reduceBEq,Nat.reduceSub,Nat.reduceAdd,reduceIte,Ev.aE,NV,g,e1,e2,lm,lp,y0,y2,y3,y4,d1,ep,c2,st,NW]
 ·have d1:decide (0 < w2 % 3)=false:=decide_eq_false c1
  refine⟨some (.str f),some (.int (10007 - S)),x8,x9,.inl ?_⟩
  generalize dF true fs u=W at *
  generalize (CN fs f u).map D.int=OO at *
  generalize fs.map D.str=FF at *
  generalize xs.map D.int=XX at *
  generalize ps.map B2=PP at *
  unfold tT
  simp -implicitDefEqProofs (disch:=omega) only[Cd,Nat.reduceBEq,Nat.reduceSub,Nat.reduceAdd,reduceIte,Ev.aE,NV,g,e1,e2,lm,lp,y0,y2,y3,y4,d1]
theorem dH (q:Sh):∀ (ps:List Sh) (c:Str->Int),ups c (ps++[q])=up (ups c ps) q.1 q.2
 | [],c=>rfl
 | p::ps,c=>dH q ps (up c p.1 p.2)
theorem qw {fs:List Str}:∀ (ps:List Sh) (seen:List Str),(∀ p∈ps,p.1∈fs/\0<=p.2)->(ps.map (·.1)).Nodup->(∀ p∈ps,p.1∉seen)->bV fs ps seen=none
 | [],_,_,_,_=>rfl
 | p::ps,seen,h1,h2,h3=>by
  unfold bV
  rw[List.map_cons,List.nodup_cons] at h2
  have a:=h1 p (.head _)
  rw[if_neg (fun z=>z a.1),if_neg (h3 p (.head _)),if_neg (by omega)]
  refine qw ps _ (fun q hq=>h1 q (List.mem_cons_of_mem _ hq)) h2.2 fun q hq z=>?_
  rcases List.mem_append.mp z with z|z
  ·exact h3 q (List.mem_cons_of_mem _ hq) z
  ·exact h2.1 (by rw[<- List.mem_singleton.mp z];exact List.mem_map.mpr ⟨q,hq,rfl⟩)
noncomputable def fc (fs:List Str)(x0:Int)(k:Nat):Str:=fs.getD (((k:Int)+x0) % fs.length).toNat Str.empty
theorem AR {fs:List Str}{x0:Int}{k:Nat}(h:k < fs.length):fc fs x0 k∈fs:=by
 have m0:=Int.emod_nonneg ((k:Int)+x0) (show (fs.length:Int)≠0 by omega)
 have m1:=Int.emod_lt_of_pos ((k:Int)+x0) (show (0:Int) < fs.length by omega)
 unfold fc
 rw[List.getD_eq_getElem?_getD,List.getElem?_eq_getElem (by omega)]
 exact List.getElem_mem _
theorem AS {fs:List Str}(nd:fs.Nodup){x0:Int}{j k:Nat}(hj:j < k)(hk:k < fs.length):fc fs x0 j≠fc fs x0 k:=by
 have m0:=Int.emod_nonneg ((k:Int)+x0) (show (fs.length:Int)≠0 by omega)
 have m1:=Int.emod_lt_of_pos ((k:Int)+x0) (show (0:Int) < fs.length by omega)
 have n0:=Int.emod_nonneg ((j:Int)+x0) (show (fs.length:Int)≠0 by omega)
 have n1:=Int.emod_lt_of_pos ((j:Int)+x0) (show (0:Int) < fs.length by omega)
 have EN:(((j:Int)+x0) % fs.length).toNat≠(((k:Int)+x0) % fs.length).toNat:=by
  intro e
  have e':((j:Int)+x0) % fs.length=((k:Int)+x0) % fs.length:=by omega
  have h1:((k:Int)+x0 - ((j:Int)+x0)) % fs.length=0:=by
   rw[Int.sub_emod,e',Int.sub_self]
   exact Int.zero_emod _
  have h2:((k:Int)+x0 - ((j:Int)+x0))=(k:Int) - j:=by omega
  rw[h2,Int.emod_eq_of_lt (by omega) (by omega)] at h1
  omega
 unfold fc
 rw[List.getD_eq_getElem?_getD,List.getD_eq_getElem?_getD,List.getElem?_eq_getElem (show (((j:Int)+x0) % fs.length).toNat < fs.length by omega),List.getElem?_eq_getElem (show (((k:Int)+x0) % fs.length).toNat < fs.length by omega)]
 have pw:=List.pairwise_iff_getElem.mp nd
 show fs[(((j:Int)+x0) % fs.length).toNat]≠fs[(((k:Int)+x0) % fs.length).toNat]
 rcases Nat.lt_or_gt_of_ne EN with h|h
 ·exact pw _ _ _ _ h
 ·exact fun e=>pw _ _ (by omega) (by omega) h e.symm
theorem xG {fs:List Str}(nd:fs.Nodup){f:Str}(hf:f∈fs)(u:Str->Int)(x:Int):(fs.map (up u f x)).sum=x+(CN fs f u).sum:=by
 rw[g7 (up u f x) hf nd,xE]
 unfold up
 rw[if_pos rfl]
theorem sL (n:Nat)(cell:Int){fs:List Str}(nd:fs.Nodup)(hn:fs.length<=6)(c:Str->Int)(hc:∀ f,0<=c f)(hs:(fs.map c).sum<=10007) :
  ∃ ps:List Sh,aa T (n+2) 34 [.int cell,.lst false (fs.map .str),dF false fs c]=.ok (.tup [.lst true (ps.map B2),dF false fs (ups c ps)])/\bV fs ps []=none/\ps.length<=6/\(fs.map (ups c ps)).sum<=10007/\(∀ p∈ps,p.1∈fs)/\∀ f,0<=ups c ps f:=by
 obtain⟨xs,ex,lx,px⟩:=stream (show T 31=some Lf from rfl) rfl rfl rfl rfl n cell (3*(fs.length:Int)+2) (by omega) (by omega)
 have lx:xs.length=3*fs.length+2:=by rw[lx];omega
 obtain⟨BP,e,ps,x5,x6,x7,x8,x9,rfl,h1,h2,h3,h4,h5⟩:=Ev.kL (its:=bM 0 (fs.length:Int)) (τ:=[some (.int cell),some (.lst false (fs.map .str)),some (dF true fs c),some (.lst true (xs.map .int)),some (.lst true []),none,none,none,none,none]) (body:=Ev.turn (aa T (n+1)) (.nm 5) tT)
  (fun i τ=>∃ (ps:List Sh) (x5 x6 x7 x8 x9:Option D),τ=[some (.int cell),some (.lst false (fs.map .str)),some (dF true fs (ups c ps)),some (.lst true (xs.map .int)),some (.lst true (ps.map B2)),x5,x6,x7,x8,x9]/\ps.length<=i/\(∀ p∈ps,p.1∈fs/\0<=p.2/\∃ j,j < i/\p.1=fc fs (xs.getD 0 0) j)/\(ps.map (·.1)).Nodup/\(fs.map (ups c ps)).sum<=10007/\∀ f,0<=ups c ps f)
  ⟨[],none,none,none,none,none,rfl,Nat.le_refl _,(fun p h=>by cases h),List.nodup_nil,hs,hc⟩ (by
   rintro i x τ hx ⟨ps,x5,x6,x7,x8,x9,rfl,h1,h2,h3,h4,h5⟩
   have hi:i < fs.length:=by
    have:=(List.getElem?_eq_some_iff.mp hx).1
    rw[cf] at this
    omega
   unfold bM at hx
   rw[List.getElem?_map,List.getElem?_range (by omega)] at hx
   have Dz:D.int (0+(i:Nat))=x:=Option.some.inj hx
   subst Dz
   have weak:∀ p∈ps,p.1∈fs/\0<=p.2/\∃ j,j < i+1/\p.1=fc fs (xs.getD 0 0) j:=fun p hp=>by
    obtain⟨a1,a2,j,a3,a4⟩:=h2 p hp
    exact⟨a1,a2,j,by omega,a4⟩
   obtain⟨q6,q7,q8,q9,ht|⟨v,v0,v1,ht⟩⟩:=xF (aa T (n+1)) cell nd hn (ups c ps) (fun f _=>h5 f) h4 xs lx px ps (by omega) i hi x5 x6 x7 x8 x9
   ·exact⟨_,ht,ps,_,q6,q7,q8,q9,rfl,by omega,weak,h3,h4,h5⟩
   ·have hf:fc fs (xs.getD 0 0) i∈fs:=AR hi
    have Et:Ev.turn (aa T (n+1)) (.nm 5) tT (.int (0+(i:Nat))) [some (.int cell),some (.lst false (fs.map .str)),some (dF true fs (ups c ps)),some (.lst true (xs.map .int)),some (.lst true (ps.map B2)),x5,x6,x7,x8,x9]=.ok (.nx [some (.int cell),some (.lst false (fs.map .str)),some (dF true fs (ups c (ps++[(fc fs (xs.getD 0 0) i,v)]))),some (.lst true (xs.map .int)),some (.lst true ((ps++[(fc fs (xs.getD 0 0) i,v)]).map B2)),some (.int (0+(i:Nat))),q6,q7,q8,q9]):=by
     rw[dH]
     exact ht
    refine⟨_,Et,ps++[(fc fs (xs.getD 0 0) i,v)],_,q6,q7,q8,q9,rfl,by rw[List.length_append,List.length_singleton];omega,fun p hp=>?_,?_,?_,fun f=>?_⟩
    ·rcases List.mem_append.mp hp with hp|hp
     ·exact weak p hp
     ·rw[List.mem_singleton.mp hp]
      exact⟨hf,v0,i,by omega,rfl⟩
    ·rw[List.map_append,List.nodup_append]
     refine⟨h3,by simp,fun a ha b hb=>?_⟩
     obtain⟨p,hp,rfl⟩:=List.mem_map.mp ha
     obtain⟨_,_,j,hj,e⟩:=h2 p hp
     have hb:b=fc fs (xs.getD 0 0) i:=by simpa using hb
     rw[hb,e]
     exact AS nd hj hi
    ·rw[dH,xG nd hf]
     have v1:v<=10007 - (CN fs (fc fs (xs.getD 0 0) i) (ups c ps)).sum:=v1
     show v+(CN fs (fc fs (xs.getD 0 0) i) (ups c ps)).sum<=10007
     omega
    ·rw[dH]
     unfold up
     split
     ·exact v0
     ·exact h5 f)
 rw[cf] at h1 h2
 refine⟨ps,?_,qw ps [] (fun p hp=>⟨(h2 p hp).1,(h2 p hp).2.1⟩) h3 (fun p _ h=>by cases h),by omega,h4,fun p hp=>(h2 p hp).1,h5⟩
 have body:PZ=[(.asg (.nm 3) (.call 31 [(.v 0),(.bin .add (.bin .mul (.c (.int 3)) (.bi .len [(.v 1)])) (.c (.int 2)))])),(.asg (.nm 4) (.lst [])),(.Cs (.nm 5) (.CM (.bi .len [(.v 1)])) tT)]:=rfl
 rw[Ev.SD (show T 34=some Jq from rfl) (show Jq.io=some (.v 4) from rfl) (show Jq.np=3 from rfl) (show Jq.G.N.length=10 from rfl) (show Jq.body=_ from body) rfl]
 have eo:l8 [.int cell,.lst false (fs.map .str),dF false fs c]=[.int cell,.lst false (fs.map .str),dF true fs c]:=rfl
 have fin:∀ (d:D) (t0 t1 t3 t4 t5 t6 t7 t8 t9:Option D),KC 2 (d,[t0,t1,some (dF true fs (ups c ps)),t3,t4,t5,t6,t7,t8,t9])=.ok (.tup [d,dF false fs (ups c ps)]):=fun d t0 t1 t3 t4 t5 t6 t7 t8 t9=>by
  show BN (aI (fs.map (iv (ups c ps)))) (.ok (D.tup [d,dF false fs (ups c ps)]))=_
  rw[fZ]
  rfl
 have se:=cF fs
 have lm:(fs.map D.str).length=fs.length:=List.length_map _
 rw[eo]
 generalize dF true fs c=W at *
 generalize dF true fs (ups c ps)=W1 at *
 generalize dF false fs (ups c ps)=W2 at *
 generalize fs.map D.str=FF at *
 generalize xs.map D.int=XX at *
 generalize ps.map B2=PP at *
 generalize tT=tb at *
 generalize hR:bM 0 (fs.length:Int)=R at *
 simp -implicitDefEqProofs (disch:=omega) only[Cd,Nat.reduceBEq,Nat.reduceSub,Nat.reduceAdd,reduceIte,Ev.PQ,ex,e,se,lm,hR,fin]
noncomputable def tP:List IS:=[(.asg (.nm 5) (.call 31 [(.v 4),(.c (.int 3))])),(.asg (.nm 6) (.idx (.v 1) (.bin .mod (.idx (.v 5) (.c (.int 0))) (.bi .len [(.v 1)])))),(.Cq (.cmp .eq (.bin .mod (.bin .fdiv (.idx (.v 5) (.c (.int 0))) (.c (.int 8))) (.c (.int 6))) (.c (.int 1))) [(.asg (.nm 6) (.v 2))] []),(.asg (.nm 7) (.idx (.lst [(.bin .mod (.idx (.v 5) (.c (.int 1))) (.c (.int 10008))),(.bin .mod (.idx (.v 5) (.c (.int 1))) (.c (.int 40))),(.bin .sub (.bin .sub (.c (.int 0)) (.c (.int 1))) (.bin .mod (.idx (.v 5) (.c (.int 1))) (.c (.int 3)))),(.c (.int 10007)),(.bin .add (.c (.int 10007)) (.bin .mod (.idx (.v 5) (.c (.int 1))) (.c (.int 2)))),(.bin .mod (.idx (.v 5) (.c (.int 1))) (.c (.int 2000)))]) (.bin .mod (.idx (.v 5) (.c (.int 2))) (.c (.int 6))))),(.app 3 (.tup [(.v 6),(.v 7)]))]
theorem AU (a b c d e f i:Int)(h0:0<=i)(h1:i < 6):∃ p,bu (.lst true [.int a,.int b,.int c,.int d,.int e,.int f]) (.int i)=.ok (.int p):=by
 have:i=0∨i=1∨i=2∨i=3∨i=4∨i=5:=by omega
 rcases this with rfl|rfl|rfl|rfl|rfl|rfl
 ·exact⟨a,rfl⟩
 ·exact⟨b,rfl⟩
 ·exact⟨c,rfl⟩
 ·exact⟨d,rfl⟩
 ·exact⟨e,rfl⟩
 ·exact⟨f,rfl⟩
theorem xH (n:Nat)(c0:D){fs:List Str}(h0:0 < fs.length)(hn:fs.length<=6)(nm:Str)(ps:List Sh)(hp:ps.length<=100)(cell:Int)(x4 x5 x6 x7:Option D) :
  ∃ f x q5 q6 q7,f∈nm::fs/\Ev.turn (aa T (n+1)) (.nm 4) tP (.int cell) [some c0,some (.lst false (fs.map .str)),some (.str nm),some (.lst true (ps.map B2)),x4,x5,x6,x7]=.ok (.nx [some c0,some (.lst false (fs.map .str)),some (.str nm),some (.lst true ((ps++[(f,x)]).map B2)),some (.int cell),q5,q6,q7]):=by
 obtain⟨xs,ex,lx,px⟩:=stream (show T 31=some Lf from rfl) rfl rfl rfl rfl n cell 3 (by omega) (by omega)
 have lx:xs.length=3:=lx
 have y0:=Ev.Ht (o:=true) (xs:=xs) (i:=0) (by omega) (by omega)
 have y1:=Ev.Ht (o:=true) (xs:=xs) (i:=1) (by omega) (by omega)
 have y2:=Ev.Ht (o:=true) (xs:=xs) (i:=2) (by omega) (by omega)
 generalize xs.getD (0:Int).toNat 0=w0 at *
 generalize xs.getD (1:Int).toNat 0=w1 at *
 generalize xs.getD (2:Int).toNat 0=w2 at *
 have m0:=Int.emod_nonneg w0 (show (fs.length:Int)≠0 by omega)
 have m1:=Int.emod_lt_of_pos w0 (show (0:Int) < fs.length by omega)
 have fi:=jK false fs m0 m1
 have hf:fs.getD (w0 % fs.length).toNat Str.empty∈fs:=by
  rw[List.getD_eq_getElem?_getD,List.getElem?_eq_getElem (by omega)]
  exact List.getElem_mem _
 generalize fs.getD (w0 % fs.length).toNat Str.empty=f at *
 have b0:=Int.emod_nonneg w2 (show (6:Int)≠0 by decide)
 have b1:=Int.emod_lt_of_pos w2 (show (0:Int) < 6 by decide)
 obtain⟨p,ep⟩:=AU (w1 % 10008) (w1 % 40) (0 - 1 - w1 % 3) 10007 (10007+w1 % 2) (w1 % 2000) (w2 % 6) b0 b1
 have lm:(fs.map D.str).length=fs.length:=List.length_map _
 have lp:(ps.map B2).length=ps.length:=List.length_map _
 have se:=cF fs
 cases c2:(w0 / 8 % 6 == 1) with
 | true=>
  refine⟨nm,p,some (.lst true (xs.map .int)),some (.str nm),some (.int p),.head _,?_⟩
  rw[g9]
  generalize fs.map D.str=FF at *
  generalize xs.map D.int=XX at *
  generalize ps.map B2=PP at *
  unfold tP
  simp -implicitDefEqProofs (disch:=omega) only[Cd,Nat.reduceBEq,Nat.reduceSub,Nat.reduceAdd,reduceIte,Ev.aE,ex,fi,lm,lp,y0,y1,y2,ep,c2,se]
 | false=>
  refine⟨f,p,some (.lst true (xs.map .int)),some (.str f),some (.int p),List.mem_cons_of_mem _ hf,?_⟩
  rw[g9]
  generalize fs.map D.str=FF at *
  generalize xs.map D.int=XX at *
  generalize ps.map B2=PP at *
  unfold tP
  simp -implicitDefEqProofs (disch:=omega) only[Cd,Nat.reduceBEq,Nat.reduceSub,Nat.reduceAdd,reduceIte,Ev.aE,ex,fi,lm,lp,y0,y1,y2,ep,c2,se]
theorem qx (n:Nat)(c0:D){fs:List Str}(h0:0 < fs.length)(hn:fs.length<=6)(nm:Str):∀ (cells:List Int) (ps:List Sh) (x4 x5 x6 x7:Option D),ps.length+cells.length<=100->
  ∃ (qs:List Sh) (y4 y5 y6 y7:Option D),forM (Ev.turn (aa T (n+1)) (.nm 4) tP) (cells.map .int) [some c0,some (.lst false (fs.map .str)),some (.str nm),some (.lst true (ps.map B2)),x4,x5,x6,x7]=.ok (.nx [some c0,some (.lst false (fs.map .str)),some (.str nm),some (.lst true ((ps++qs).map B2)),y4,y5,y6,y7])/\qs.length=cells.length/\∀ p∈qs,p.1∈nm::fs
 | [],ps,x4,x5,x6,x7,_=>⟨[],x4,x5,x6,x7,by rw[List.append_nil];rfl,rfl,(fun p h=>by cases h)⟩
 | cell::cells,ps,x4,x5,x6,x7,hl=>by
  rw[List.length_cons] at hl
  obtain⟨f,x,q5,q6,q7,hf,e⟩:=xH n c0 h0 hn nm ps (by omega) cell x4 x5 x6 x7
  obtain⟨qs,y4,y5,y6,y7,i1,i2,i3⟩:=qx n c0 h0 hn nm cells (ps++[(f,x)]) (some (.int cell)) q5 q6 q7 (by rw[List.length_append,List.length_singleton];omega)
  refine⟨(f,x)::qs,y4,y5,y6,y7,?_,by rw[List.length_cons,List.length_cons,i2],fun p hp=>?_⟩
  ·rw[List.map_cons,Ev.cQ,e]
   rw[List.append_assoc] at i1
   exact i1
  ·rcases List.mem_cons.mp hp with rfl|hp
   ·exact hf
   ·exact i3 p hp
theorem qy (n:Nat)(cells:List Int){fs:List Str}(h0:0 < fs.length)(hn:fs.length<=6)(nm:Str)(hl:cells.length<=63):∃ qs:List Sh,aa T (n+2) 35 [.lst false (cells.map .int),.lst false (fs.map .str),.str nm]=.ok (.lst true (qs.map B2))/\qs.length=cells.length/\∀ p∈qs,p.1∈nm::fs:=by
 obtain⟨qs,y4,y5,y6,y7,i1,i2,i3⟩:=qx n (.lst false (cells.map .int)) h0 hn nm cells [] none none none none (by rw[List.length_nil];omega)
 refine⟨qs,?_,i2,i3⟩
 have body:P0=[(.asg (.nm 3) (.lst [])),(.Cs (.nm 4) (.val (.v 0)) tP),(.ret (.v 3))]:=rfl
 rw[Ev.go (show T 35=some Jr from rfl) (show Jr.io=none from rfl) (show Jr.np=3 from rfl) (show Jr.G.N.length=8 from rfl) (show Jr.body=_ from body) rfl]
 rw[List.nil_append,List.map_nil] at i1
 have ie:BV (cells.map D.int)=cells.map D.int:=Ev.dr cells
 generalize cells.map D.int=CC at *
 generalize fs.map D.str=FF at *
 generalize qs.map B2=QQ at *
 generalize tP=tb at *
 simp -implicitDefEqProofs (disch:=omega) only[Cd,Nat.reduceBEq,Nat.reduceSub,Nat.reduceAdd,reduceIte,ie,i1]
noncomputable def wd (e:Str):Str:=if e = "NoFace" then "face" else if e = "Twice" then "twice" else if e = "BadShare" then "share" else "much"
noncomputable def tD:List IS:=[(.Cq (.cmp .HJ (.v 4) (.v 1)) [(.ret (.c (.str "face")))] []),(.Cq (.FP false (.v 4) (.v 3)) [(.ret (.c (.str "twice")))] []),(.Cq (.cmp .lt (.v 5) (.c (.int 0))) [(.ret (.c (.str "share")))] []),(.CQ 3 (.v 4) (.v 5))]
theorem qz (x:Str):∀ gs:List Str,C0 (.str x) (gs.map .str)=.ok (gs.any fun g=>g == x)
 | []=>rfl
 | g::gs=>by
  rw[List.map_cons,Ev.xr,Ev.xq,Ev.kb,Ev.pO,qz x gs]
  rfl
theorem sM (x:Str)(gs:List Str):(gs.any fun g=>g == x)=decide (x∈gs):=by
 induction gs with
 | nil=>rfl
 | cons g gs ih=>
  rw[List.any_cons,ih]
  by_cases e:g=x
  ·rw[e];simp
  ·have e1:(g == x)=false:=by simpa using e
   have e2:¬ x=g:=fun z=>e z.symm
   rw[e1,Bool.false_or]
   simp[e2]
theorem xI (cl:Nat->List D->Res D)(s0 u0:D){fs seen:List Str}(u:Str->Int)(p:Sh)(hl:seen.length<=1000)(x y:Option D) :
  Ev.turn cl (.tp [(.nm 4),(.nm 5)]) tD (B2 p) [some s0,some (.lst false (fs.map .str)),some u0,some (dF true seen u),x,y] =
   if p.1∉fs then .ok (.rt (.str "face")) else if p.1∈seen then .ok (.rt (.str "twice")) else if p.2 < 0 then .ok (.rt (.str "share")) else .ok (.nx [some s0,some (.lst false (fs.map .str)),some u0,some (dF true (seen++[p.1]) (up u p.1 p.2)),some (.str p.1),some (.int p.2)]):=by
 obtain⟨f,v⟩:=p
 have i1:=qz f fs
 rw[sM] at i1
 have i2:=xA true false seen u f
 have Ez:f∉seen->Ev.cp cl 3 (.v 4) [some s0,some (.lst false (fs.map .str)),some u0,some (dF true seen u),some (.str f),some (.int v)] (.int v) (some (dF true seen u))=.ok (.nx [some s0,some (.lst false (fs.map .str)),some u0,some (dF true (seen++[f]) (up u f v)),some (.str f),some (.int v)]):=fun h=>gY cl 3 (.v 4) _ rfl h hl
 show Ev.turn cl (.tp [(.nm 4),(.nm 5)]) tD (.tup [.str f,.int v]) _=if f∉fs then _ else if f∈seen then _ else if v < 0 then _ else _
 have c1:∀ b:Bool,C0 (.str f) (fs.map .str)=.ok b->EK .HJ (.str f) (.lst false (fs.map .str))=.ok (!b):=fun b h=>by
  show U (C0 (.str f) (fs.map .str)) (fun r=>.ok !r)=_
  rw[h]
  rfl
 have j1:=c1 _ i1
 by_cases h1:f∈fs
 ·rw[if_neg (fun z=>z h1)]
  rw[decide_eq_true h1] at j1
  by_cases h2:f∈seen
  ·rw[if_pos h2]
   rw[decide_eq_true h2] at i2
   generalize fs.map D.str=FF at *
   generalize dF true seen u=S at *
   unfold tD
   simp -implicitDefEqProofs (disch:=omega) only[Cd,Nat.reduceBEq,Nat.reduceSub,Nat.reduceAdd,reduceIte,Ev.aE,j1,i2,bne_self_eq_false,Bool.false_bne]
  ·rw[if_neg h2]
   rw[decide_eq_false h2] at i2
   have FN:=Ez h2
   by_cases h3:v < 0
   ·rw[if_pos h3]
    have d3:decide (v < 0)=true:=decide_eq_true h3
    generalize fs.map D.str=FF at *
    generalize dF true seen u=S at *
    unfold tD
    simp -implicitDefEqProofs (disch:=omega) only[Cd,Nat.reduceBEq,Nat.reduceSub,Nat.reduceAdd,reduceIte,Ev.aE,j1,i2,d3,bne_self_eq_false,Bool.false_bne]
   ·rw[if_neg h3]
    have d3:decide (v < 0)=false:=decide_eq_false h3
    generalize fs.map D.str=FF at *
    generalize dF true seen u=S at *
    generalize dF true (seen++[f]) (up u f v)=S' at *
    unfold tD
    simp -implicitDefEqProofs (disch:=omega) only[Cd,Nat.reduceBEq,Nat.reduceSub,Nat.reduceAdd,reduceIte,Ev.aE,j1,i2,d3,FN,bne_self_eq_false,Bool.false_bne]
 ·rw[if_pos h1]
  rw[decide_eq_false h1] at j1
  generalize fs.map D.str=FF at *
  generalize dF true seen u=S at *
  unfold tD
  simp -implicitDefEqProofs (disch:=omega) only[Cd,Nat.reduceBEq,Nat.reduceSub,Nat.reduceAdd,reduceIte,Ev.aE,j1,Bool.true_bne,Bool.not_false]
theorem qA (cl:Nat->List D->Res D)(s0 u0:D){fs:List Str}:∀ (ps:List Sh) (seen:List Str) (u:Str->Int) (x y:Option D),seen.length+ps.length<=1000->
  (∀ e,bV fs ps seen=some e->forM (Ev.turn cl (.tp [(.nm 4),(.nm 5)]) tD) (ps.map B2) [some s0,some (.lst false (fs.map .str)),some u0,some (dF true seen u),x,y]=.ok (.rt (.str (wd e))))/\
  (bV fs ps seen=none->(∃ x' y',forM (Ev.turn cl (.tp [(.nm 4),(.nm 5)]) tD) (ps.map B2) [some s0,some (.lst false (fs.map .str)),some u0,some (dF true seen u),x,y]=.ok (.nx [some s0,some (.lst false (fs.map .str)),some u0,some (dF true (seen++ps.map (·.1)) (ups u ps)),x',y'])))
 | [],seen,u,x,y,_=>⟨(fun e h=>by cases h),fun _=>⟨x,y,by rw[List.map_nil,List.map_nil,List.append_nil];rfl⟩⟩
 | p::ps,seen,u,x,y,hl=>by
  rw[List.length_cons] at hl
  have ht:=xI cl s0 u0 (fs:=fs) (seen:=seen) u p (by omega) x y
  rw[List.map_cons,Ev.cQ]
  unfold bV
  by_cases h1:p.1∈fs
  ·rw[if_neg (fun z=>z h1)] at ht ⊢
   by_cases h2:p.1∈seen
   ·rw[if_pos h2] at ht ⊢
    exact⟨(fun e h=>by cases h;rw[ht];rfl),(fun h=>by cases h)⟩
   ·rw[if_neg h2] at ht ⊢
    by_cases h3:p.2 < 0
    ·rw[if_pos h3] at ht ⊢
     exact⟨(fun e h=>by cases h;rw[ht];rfl),(fun h=>by cases h)⟩
    ·rw[if_neg h3] at ht ⊢
     obtain⟨i1,i2⟩:=qA cl s0 u0 (fs:=fs) ps (seen++[p.1]) (up u p.1 p.2) (some (.str p.1)) (some (.int p.2)) (by rw[List.length_append,List.length_singleton];omega)
     rw[ht]
     refine⟨fun e h=>i1 e h,fun h=>?_⟩
     obtain⟨x',y',e⟩:=i2 h
     refine⟨x',y',?_⟩
     rw[List.append_assoc] at e
     exact e
  ·rw[if_pos h1] at ht ⊢
   exact⟨(fun e h=>by cases h;rw[ht];rfl),(fun h=>by cases h)⟩
theorem xJ (o:Bool)(ns:List Str)(u:Str->Int)(f:Str)(x:Int):Ev.xa (dF o ns u) (.str f) (.int x)=.ok (.int (if f∈ns then u f else x)):=by
 show (.ok ((look (ns.map kf) (ns.map (iv u)) (kf f)).getD (.int x)):Res D)=_
 by_cases h:f∈ns
 ·rw[gX u h,if_pos h];rfl
 ·rw[jI u h,if_neg h];rfl
theorem AV (o:Bool)(ns:List Str)(u:Str->Int)(cl:Nat->List D->Res D)(k e:IR)(τ:Ev):Ev.zx cl k e τ (dF o ns u)=U (BM cl k τ) (Ev.xb cl e τ (dF o ns u)):=rfl
theorem xK (n:Nat){fs:List Str}(hn:fs.length<=6)(c:Str->Int)(ps:List Sh)(hp:ps.length<=100) :
  (∀ e,bV fs ps []=some e->aa T (n+1) 36 [.lst false (ps.map B2),.lst false (fs.map .str),dF false fs c]=.ok (.str (wd e)))/\
  (bV fs ps []=none->aa T (n+1) 36 [.lst false (ps.map B2),.lst false (fs.map .str),dF false fs c]=.ok (.str (if 10007 < (fs.map (ups c ps)).sum then "much" else "none"))):=by
 obtain⟨i1,i2⟩:=qA (aa T n) (.lst false (ps.map B2)) (dF false fs c) (fs:=fs) ps [] (fun _=>0) none none (by rw[List.length_nil];omega)
 have Lm:dF true [] (fun _=>0)=.BU true [] []:=rfl
 rw[Lm] at i1 i2
 have body:P1=[(.asg (.nm 3) .Dh),(.Cs (.tp [(.nm 4),(.nm 5)]) (.val (.v 0)) tD),(.Cq (.cmp .gt (.bi .sum [(.comp {N:=["_law_seen","_law_due_here","_law_face"],kd:=[.cell,.cell,.local],gl:=[],df:=false} [3,2] (.nm 2) (.val (.v 1)) [] (.Dr (.v 0) (.v 2) (.Cj (.v 1) (.v 2))))]) (.c (.int 10007))) [(.ret (.c (.str "much")))] []),(.ret (.c (.str "none")))]:=rfl
 rw[Ev.go (show T 36=some Js from rfl) (show Js.io=none from rfl) (show Js.np=3 from rfl) (show Js.G.N.length=6 from rfl) (show Js.body=_ from body) rfl]
 have pe:=d5 ps
 refine⟨fun e h=>?_,fun h=>?_⟩
 ·have i:=i1 e h
  generalize dF false fs c=W at *
  generalize fs.map D.str=FF at *
  generalize ps.map B2=PS at *
  generalize tD=tb at *
  simp -implicitDefEqProofs (disch:=omega) only[Cd,Nat.reduceBEq,Nat.reduceSub,Nat.reduceAdd,reduceIte,pe,i]
 ·obtain⟨x',y',i⟩:=i2 h
  rw[List.nil_append] at i
  have e1:ba (bc (aa T n) (.nm 2) [] (.Dr (.v 0) (.v 2) (.Cj (.v 1) (.v 2))) [some (dF true (ps.map (·.1)) (ups (fun _=>0) ps)),some (dF false fs c),none]) (fs.map .str)=.ok ((fs.map (ups c ps)).map .int):=by
   refine Ev.bj D.str (fun f=>ups c ps f) .int fs fun f hf=>?_
   have g:=f7 false c hf
   have g2:=xJ true (ps.map (·.1)) (ups (fun _=>0) ps) f (c f)
   have NU:(if f∈ps.map (·.1) then ups (fun _=>0) ps f else c f)=ups c ps f:=k6 c _ ps f
   rw[NU] at g2
   have g3:=AV true (ps.map (·.1)) (ups (fun _=>0) ps) (aa T n)
   generalize dF false fs c=W at *
   generalize dF true (ps.map (·.1)) (ups (fun _=>0) ps)=S at *
   simp -implicitDefEqProofs (disch:=omega) only[Cd,Nat.reduceBEq,Nat.reduceSub,Nat.reduceAdd,reduceIte,g,g2,g3]
  have Gj:(fs.map (ups c ps)).length<=1000:=by rw[List.length_map];omega
  have e2:∀ o,bX .sum [.lst o ((fs.map (ups c ps)).map .int)]=.ok (.int (fs.map (ups c ps)).sum):=fun o=>Ev.jC (by omega)
  have lm:(fs.map D.str).length=fs.length:=List.length_map _
  by_cases hs:10007 < (fs.map (ups c ps)).sum
  ·rw[if_pos hs]
   have d1:decide ((10007:Int) < (fs.map (ups c ps)).sum)=true:=decide_eq_true hs
   generalize (fs.map (ups c ps)).sum=SS at *
   generalize (fs.map (ups c ps)).map D.int=UU at *
   generalize dF false fs c=W at *
   generalize dF true (ps.map (·.1)) (ups (fun _=>0) ps)=S at *
   generalize fs.map D.str=FF at *
   generalize ps.map B2=PS at *
   generalize tD=tb at *
   simp -implicitDefEqProofs (disch:=omega) only[Cd,Nat.reduceBEq,Nat.reduceSub,Nat.reduceAdd,reduceIte,pe,i,e1,e2,lm,d1]
  ·rw[if_neg hs]
   have d1:decide ((10007:Int) < (fs.map (ups c ps)).sum)=false:=decide_eq_false hs
   generalize (fs.map (ups c ps)).sum=SS at *
   generalize (fs.map (ups c ps)).map D.int=UU at *
   generalize dF false fs c=W at *
   generalize dF true (ps.map (·.1)) (ups (fun _=>0) ps)=S at *
   generalize fs.map D.str=FF at *
   generalize ps.map B2=PS at *
   generalize tD=tb at *
   simp -implicitDefEqProofs (disch:=omega) only[Cd,Nat.reduceBEq,Nat.reduceSub,Nat.reduceAdd,reduceIte,pe,i,e1,e2,lm,d1]
theorem f9 {fs:List Str}:∀ (ps:List Sh) (seen:List Str) (e:Str),bV fs ps seen=some e->e = "NoFace"∨e = "Twice"∨e = "BadShare"
 | [],_,_,h=>by cases h
 | p::ps,seen,e,h=>by
  unfold bV at h
  split at h
  ·cases h;exact .inl rfl
  ·split at h
   ·cases h;exact .inr (.inl rfl)
   ·split at h
    ·cases h;exact .inr (.inr rfl)
    ·exact f9 ps _ e h
theorem sN (n:Nat):aa T (n+1) 33 [.exc "NoFace"]=.ok (.str "face")/\aa T (n+1) 33 [.exc "Twice"]=.ok (.str "twice")/\aa T (n+1) 33 [.exc "BadShare"]=.ok (.str "share")/\aa T (n+1) 33 [.exc "TooMuch"]=.ok (.str "much"):=by
 refine⟨?_,?_,?_,?_⟩<;>kernel_rfl
noncomputable def z0:Str->Int:=fun _=>0
theorem BE (f:Str):up z0 f 0=z0:=by
 funext g
 unfold up z0
 split<;>rfl
theorem qB (cl:Nat->List D->Res D)(q0 q1 q2:Option D):∀ (gs ns:List Str) (x4:Option D),(ns++gs).Nodup->ns.length+gs.length<=100->
  ∃ y4,forM (Ev.turn cl (.nm 4) [(.CQ 3 (.v 4) (.c (.int 0)))]) (gs.map .str) [q0,q1,q2,some (dF true ns z0),x4,none,none,none,none,none,none,none,none,none]=.ok (.nx [q0,q1,q2,some (dF true (ns++gs) z0),y4,none,none,none,none,none,none,none,none,none])
 | [],ns,x4,_,_=>⟨x4,by rw[List.append_nil];rfl⟩
 | g::gs,ns,x4,nd,hl=>by
  rw[List.length_cons] at hl
  have nf:g∉ns:=fun z=>(List.nodup_append.mp nd).2.2 g z g (.head _) rfl
  have st:=gY cl 3 (.v 4) [q0,q1,q2,some (dF true ns z0),some (.str g),none,none,none,none,none,none,none,none,none] (f:=g) (fs:=ns) (v:=z0) (x:=0) rfl nf (by omega)
  rw[BE] at st
  have e:Ev.turn cl (.nm 4) [(.CQ 3 (.v 4) (.c (.int 0)))] (.str g) [q0,q1,q2,some (dF true ns z0),x4,none,none,none,none,none,none,none,none,none]=.ok (.nx [q0,q1,q2,some (dF true (ns++[g]) z0),some (.str g),none,none,none,none,none,none,none,none,none]):=by
   have Ez:Ev.cp cl 3 (.v 4) [q0,q1,q2,some (dF true ns z0),some (.str g),none,none,none,none,none,none,none,none,none] (.int 0) (some (dF true ns z0))=.ok (.nx [q0,q1,q2,some (dF true (ns++[g]) z0),some (.str g),none,none,none,none,none,none,none,none,none]):=st
   generalize dF true ns z0=W at *
   generalize dF true (ns++[g]) z0=W' at *
   simp -implicitDefEqProofs (disch:=omega) only[Cd,Nat.reduceBEq,Nat.reduceSub,Nat.reduceAdd,reduceIte,Ev.aE,Ez]
  obtain⟨y4,i⟩:=qB cl q0 q1 q2 gs (ns++[g]) (some (.str g)) (by rw[List.append_assoc];exact nd) (by rw[List.length_append,List.length_singleton];omega)
  refine⟨y4,?_⟩
  rw[List.map_cons,Ev.cQ,e]
  rw[List.append_assoc] at i
  exact i
noncomputable def sA:List IS:=[(.asg (.nm 1) (.call 32 [(.call 30 [(.v 0),(.c (.int 0))]),(.bin .add (.c (.int 2)) (.bin .mod (.call 30 [(.v 0),(.c (.int 1))]) (.c (.int 6))))])),(.asg (.nm 2) (.sl (.v 1) (some (.c (.int 1))) none)),(.asg (.nm 3) .Dh),(.Cs (.nm 4) (.val (.v 2)) [(.CQ 3 (.v 4) (.c (.int 0)))])]
theorem BF (ns:List Int):∃ (nm:Str) (fs:List Str) (x4:Option D),(nm::fs).Nodup/\0 < fs.length/\fs.length<=6/\(∀ f∈nm::fs,(reprText f).length<=1000)/\
  aB (aa T 12) sA [some (.lst false (ns.map .int)),none,none,none,none,none,none,none,none,none,none,none,none,none]=.ok (.nx [some (.lst false (ns.map .int)),some (.lst true ((nm::fs).map .str)),some (.lst false (fs.map .str)),some (dF true fs z0),x4,none,none,none,none,none,none,none,none,none]):=by
 have c0:=cell (show T 30=some JY from rfl) rfl rfl rfl rfl 11 ns 0 (by omega)
 have c1:=cell (show T 30=some JY from rfl) rfl rfl rfl rfl 11 ns 1 (by omega)
 have ie:BV (ns.map D.int)=ns.map D.int:=Ev.dr ns
 generalize ns.getD (0:Int).toNat 0=v0 at *
 generalize ns.getD (1:Int).toNat 0=v1 at *
 have m0:=Int.emod_nonneg v1 (show (6:Int)≠0 by decide)
 have m1:=Int.emod_lt_of_pos v1 (show (0:Int) < 6 by decide)
 obtain⟨gs,e,hN⟩:=qb 10 v0 (2+v1 % 6) (by omega) (by omega)
 have hlen:=hN.len
 match gs,hN,hlen with
 | [],_,hlen=>simp at hlen;omega
 | nm::fs,hN,hlen=>
  have Gj:fs.length+1=(2+v1 % 6 - 0).toNat:=hlen
  obtain⟨y4,i⟩:=qB (aa T 12) (some (.lst false (ns.map .int))) (some (.lst true ((nm::fs).map .str))) (some (.lst false (fs.map .str))) fs [] none (by rw[List.nil_append];exact(List.nodup_cons.mp hN.Cf).2) (by rw[List.length_nil];omega)
  have Lm:dF true [] z0=.BU true [] []:=rfl
  rw[Lm,List.nil_append] at i
  refine⟨nm,fs,y4,hN.Cf,by omega,by omega,hN.rep,?_⟩
  have se:=cF fs
  have sf:=gU fs
  have NP:cY ((nm::fs).map D.str) (some 1) none=fs.map D.str:=by
   rw[List.map_cons]
   exact iY _ _
  have ls:aq ((nm::fs).map D.str)=true:=gU _
  generalize (nm::fs).map D.str=NN at *
  generalize fs.map D.str=FF at *
  generalize dF true fs z0=W at *
  generalize ns.map D.int=XX at *
  unfold sA
  simp -implicitDefEqProofs (disch:=omega) only[Cd,Nat.reduceBEq,Nat.reduceSub,Nat.reduceAdd,reduceIte,c0,c1,e,ie,NP,se,sf,ls,i]
theorem sO (fs:List Str):L9 fs=alt true false true (fs.map fun f=>(f,[])) [(0,10007)]:=by
 unfold L9 alt
 rw[List.map_map]
 rfl
theorem BG {fs:List Str}(nd:fs.Nodup)(hl:fs.length<=6)(hr:∀ f∈fs,(reprText f).length<=1000):Al fs z0 (fs.map fun f=>(f,[])) [(0,10007)] 1:=by
 refine⟨nd,hl,hr,?_,fun p h=>?_,fun p h=>?_,fun p h=>?_,by simp,?_⟩
 ·unfold Ex
  rw[List.map_map]
  rfl
 ·obtain⟨f,_,rfl⟩:=List.mem_map.mp h
  intro q hq
  cases hq
 ·rw[List.mem_singleton.mp h]
  decide
 ·obtain⟨f,_,rfl⟩:=List.mem_map.mp h
  simp
 ·have:∀ l:List Str,(l.map z0).sum=0:=by
   intro l
   induction l with
   | nil=>rfl
   | cons f l ih=>rw[List.map_cons,List.sum_cons,ih];rfl
  rw[this]
  rfl
theorem xM (cl:Nat->List D->Res D){q0 q1 x4:Option D}{fs:List Str}{ps:List Sh}(v:Int)(hc:cl 30 [.lst false [],.int 2]=cl 30 [.lst false [],.int 2])(s:D)(hs:er s=s)(e0:cl 30 [s,.int 2]=.ok (.int v))(e:cl 34 [.int v,.lst false (fs.map .str),dF false fs z0]=.ok (.tup [.lst true (ps.map B2),dF false fs (ups z0 ps)]))(r9 r8 r7:Option D) :
  C1 cl (.FT 5 34 [(.call 30 [(.v 0),(.c (.int 2))]),(.v 2)] 3) [some s,q1,some (.lst false (fs.map .str)),some (dF true fs z0),x4,none,none,none,none,none,none,none,none,none]=.ok (.nx [some s,q1,some (.lst false (fs.map .str)),some (dF true fs (ups z0 ps)),x4,some (.lst true (ps.map B2)),none,none,none,none,none,none,none,none]):=by
 rw[Ev.DQ]
 show BN (aI (fs.map (iv z0))) (U (aG cl [(.call 30 [(.v 0),(.c (.int 2))]),(.v 2)] _) fun ds=>U (Dj (cl 34 (BV ds++[dF false fs z0]))) _)=_
 rw[fZ]
 have se:=cF fs
 have r1:aG cl [(.call 30 [(.v 0),(.c (.int 2))]),(.v 2)] [some s,q1,some (.lst false (fs.map .str)),some (dF true fs z0),x4,none,none,none,none,none,none,none,none,none]=.ok [.int v,.lst false (fs.map .str)]:=by
  generalize dF true fs z0=W at *
  generalize fs.map D.str=FF at *
  simp -implicitDefEqProofs (disch:=omega) only[Cd,Nat.reduceBEq,Nat.reduceSub,Nat.reduceAdd,reduceIte,e0,hs]
 rw[r1]
 have r2:BV [.int v,.lst false (fs.map .str)]++[dF false fs z0]=[.int v,.lst false (fs.map .str),dF false fs z0]:=by
  rw[BV,BV,BV,er,er,se]
  rfl
 show U (Dj (cl 34 (BV [.int v,.lst false (fs.map .str)]++[dF false fs z0]))) _=_
 rw[r2,e]
 have fz:B6 (ak [(.call 30 [(.v 0),(.c (.int 2))]),(.v 2)]) [some s,q1,some (.lst false (fs.map .str)),some (dF true fs z0),x4,none,none,none,none,none,none,none,none,none]=[some s,q1,some (.lst false (fs.map .str)),some (dF true fs z0),x4,none,none,none,none,none,none,none,none,none]:=by
  show [some (er s),q1,some (er (.lst false (fs.map .str))),some (dF true fs z0),x4,none,none,none,none,none,none,none,none,none]=_
  rw[hs,er,se]
 rw[fz]
 show BN (aI (fs.map (iv (ups z0 ps)))) _=_
 rw[fZ]
 rfl
noncomputable def cK:IR:=.comp {N:=["_law_face","_law_run"],kd:=[.local,.local],gl:=[5],df:=false} [] (.tp [(.nm 0),(.nm 1)]) (.val (.idx (.v 6) (.c (.int 0)))) [] (.tup [(.v 0),(.bi .list [(.v 1)])])
noncomputable def sB:List IS:=[(.FT 5 34 [(.call 30 [(.v 0),(.c (.int 2))]),(.v 2)] 3),(.asg (.nm 6) (.call 29 [(.call 24 [(.v 2)]),(.v 5)])),(.asg (.nm 7) (.tup [cK,(.bi .list [(.idx (.v 6) (.c (.int 1)))])]))]
theorem sP (cl:Nat->List D->Res D)(o:Bool)(rows:List Rw):ba (bc cl (.tp [(.nm 0),(.nm 1)]) [] (.tup [(.v 0),(.bi .list [(.v 1)])]) [none,none]) (rows.map (aA o))=.ok (rows.map (aA true)):=by
 have:=Ev.bj (g:=bc cl (.tp [(.nm 0),(.nm 1)]) [] (.tup [(.v 0),(.bi .list [(.v 1)])]) [none,none]) (aA o) (fun p:Rw=>p) (aA true) rows fun p _=>by
  unfold aA
  simp -implicitDefEqProofs (disch:=omega) only[Cd,Nat.reduceBEq,Nat.reduceSub,Nat.reduceAdd,reduceIte]
 rw[this,List.map_id']
theorem BH (ns:List Int){nm:Str}{fs:List Str}{x4:Option D}(nd:fs.Nodup)(h0:0 < fs.length)(hl:fs.length<=6)(hr:∀ f∈fs,(reprText f).length<=1000):∃ (ps:List Sh) (rows:List Rw) (free:List Pr),Al fs (ups z0 ps) rows free 8/\
  aB (aa T 12) sB [some (.lst false (ns.map .int)),some (.lst true ((nm::fs).map .str)),some (.lst false (fs.map .str)),some (dF true fs z0),x4,none,none,none,none,none,none,none,none,none]=.ok (.nx [some (.lst false (ns.map .int)),some (.lst true ((nm::fs).map .str)),some (.lst false (fs.map .str)),some (dF true fs (ups z0 ps)),x4,some (.lst false (ps.map B2)),some (alt false false false rows free),some (alt true false true rows free),none,none,none,none,none,none]):=by
 have c2:=cell (show T 30=some JY from rfl) rfl rfl rfl rfl 11 ns 2 (by omega)
 have ie:BV (ns.map D.int)=ns.map D.int:=Ev.dr ns
 have hz:∀ l:List Str,(l.map z0).sum=0:=by
  intro l
  induction l with
  | nil=>rfl
  | cons f l ih=>rw[List.map_cons,List.sum_cons,ih];rfl
 obtain⟨ps,t1,t2,t3,t4,t5,t6⟩:=sL 10 (ns.getD (2:Int).toNat 0) nd hl z0 (fun _=>Int.le_refl _) (by rw[hz];decide)
 have FT:=xM (aa T 12) (q0:=none) (q1:=some (.lst true ((nm::fs).map .str))) (x4:=x4) (fs:=fs) (ps:=ps) _ rfl (.lst false (ns.map .int)) (by rw[er,ie]) c2 t1 none none none
 have nw:=xx 11 fs nd (by omega)
 obtain⟨_,ch⟩:=fq 8 (BG nd hl hr) (by omega) ps (by omega) fun p hp=>hr _ (t5 p hp)
 obtain⟨rows,free,e29,al⟩:=(ch t2).2 t4
 refine⟨ps,rows,free,al,?_⟩
 rw[sO] at nw
 have ae:=cG true false true (fs.map fun f=>((f,[]):Rw)) [(0,10007)]
 have ar:=cG true true false rows free
 have Tp:=cG false false false rows free
 have pe:=d5 ps
 have se:=cF fs
 have km:=sP (aa T 12) true rows
 have re:=cq true rows
 have p1:=bF free
 have pl:=iW free
 have x0:bu (alt true true false rows free) (.int 0)=.ok (.lst true (rows.map (aA true))):=rfl
 have x1:bu (alt false false false rows free) (.int 1)=.ok (.lst false (free.map BX)):=rfl
 have NX:=al.GD
 have lm:(rows.map (aA true)).length=rows.length:=List.length_map _
 have Tq:aq (rows.map (aA true))=false:=by
  match rows,NX with
  | [],NX=>simp at NX;omega
  | r::rs,_=>rfl
 have l1:aw (alt true true false rows free)=false:=rfl
 have l2:aw (alt true false true (fs.map fun f=>((f,[]):Rw)) [(0,10007)])=false:=rfl
 have vk:vars cK=[6]:=rfl
 show U (C1 (aa T 12) (.FT 5 34 [(.call 30 [(.v 0),(.c (.int 2))]),(.v 2)] 3) _) (Ev.iT (aB (aa T 12) [(.asg (.nm 6) (.call 29 [(.call 24 [(.v 2)]),(.v 5)])),(.asg (.nm 7) (.tup [cK,(.bi .list [(.idx (.v 6) (.c (.int 1)))])]))]))=_
 rw[FT]
 have ao:alt true false true rows free=.tup [.lst true (rows.map (aA false)),.lst true (free.map BX)]:=rfl
 rw[ao]
 clear FT t1 c2 ch
 unfold cK at *
 generalize alt true false true (fs.map fun f=>((f,[]):Rw)) [(0,10007)]=A0 at *
 generalize alt false false false (fs.map fun f=>((f,[]):Rw)) [(0,10007)]=A1 at *
 generalize alt true true false rows free=B0 at *
 generalize alt false false false rows free=B1 at *
 generalize dF true fs (ups z0 ps)=W at *
 generalize ps.map B2=PS at *
 generalize (nm::fs).map D.str=NN at *
 generalize fs.map D.str=FF at *
 generalize ns.map D.int=XX at *
 generalize rows.map (aA true)=R0 at *
 generalize rows.map (aA false)=R1 at *
 generalize free.map BX=FR at *
 simp -implicitDefEqProofs (disch:=omega) only[Cd,Nat.reduceBEq,Nat.reduceSub,Nat.reduceAdd,reduceIte,nw,ae,ar,Tp,pe,se,km,re,p1,pl,x0,x1,lm,Tq,l1,l2,vk,e29]
theorem lC {α:Type}(n:Nat)(g g':α->D)(h:∀ a,Cy n (g a) (g' a)=.ok true):∀ l:List α,bE (Cy n) (l.map g) (l.map g')=.ok true
 | []=>rfl
 | a::l=>by
  show U (Cy n (g a) (g' a)) (fun x=>U (bE (Cy n) (l.map g) (l.map g')) fun y=>.ok (x&&y))=_
  rw[h a,lC n g g' h l]
  rfl
theorem AW (n:Nat)(p:Sh):Cy (n+2) (B2 p) (B2 p)=.ok true:=by
 show U (.ok (p.1 == p.1)) (fun x=>U (U (.ok (p.2 == p.2)) fun x=>U (.ok true) fun y=>.ok (x&&y)) fun y=>(.ok (x&&y):Res Bool))=_
 rw[beq_self_eq_true,beq_self_eq_true]
 rfl
theorem AX (n:Nat)(p:Pr):Cy (n+2) (BX p) (BX p)=.ok true:=by
 show U (.ok (p.1 == p.1)) (fun x=>U (U (.ok (p.2 == p.2)) fun x=>U (.ok true) fun y=>.ok (x&&y)) fun y=>(.ok (x&&y):Res Bool))=_
 rw[beq_self_eq_true,beq_self_eq_true]
 rfl
theorem qC (n:Nat)(o o':Bool)(r:List Pr):Cy (n+3) (.lst o (r.map BX)) (.lst o' (r.map BX))=.ok true:=lC (n+2) BX BX (AX n) r
theorem xN (n:Nat)(o o':Bool)(p:Rw):Cy (n+4) (aA o p) (aA o' p)=.ok true:=by
 show U (.ok (p.1 == p.1)) (fun x=>U (U (Cy (n+3) (.lst o (p.2.map BX)) (.lst o' (p.2.map BX))) fun x=>U (.ok true) fun y=>.ok (x&&y)) fun y=>(.ok (x&&y):Res Bool))=_
 rw[beq_self_eq_true,qC]
 rfl
theorem qD (a b c a' b' c':Bool)(rows:List Rw)(free:List Pr):Cy 40 (alt a b c rows free) (alt a' b' c' rows free)=.ok true:=by
 show U (bE (Cy 38) (rows.map (aA b)) (rows.map (aA b'))) (fun x=>U (U (Cy 39 (.lst c (free.map BX)) (.lst c' (free.map BX))) fun x=>U (.ok true) fun y=>.ok (x&&y)) fun y=>(.ok (x&&y):Res Bool))=_
 rw[lC 38 (aA b) (aA b') (xN 34 b b'),qC 36]
 rfl
theorem hG (o o':Bool)(ps:List Sh):Cy 40 (.lst o (ps.map B2)) (.lst o' (ps.map B2))=.ok true:=lC 39 B2 B2 (AW 37) ps
theorem qE {α β:Type}(f:α->β)(xs:List α)(lo hi:Option Int):cY (xs.map f) lo hi=(cY xs lo hi).map f:=by
 unfold cY
 rw[List.length_map,List.map_take,List.map_drop]
theorem sQ {α:Type}(xs:List α)(lo hi:Option Int):(cY xs lo hi).length<=xs.length:=by
 unfold cY
 rw[List.length_take,List.length_drop]
 omega
noncomputable def eL:IR:=.sl (.v 0) (some (.c (.int 3))) (some (.bin .add (.c (.int 4)) (.bin .mod (.bin .fdiv (.call 30 [(.v 0),(.c (.int 1))]) (.c (.int 6))) (.c (.int 6)))))
noncomputable def sC:List IS:=[(.asg (.nm 8) (.call 35 [eL,(.v 2),(.idx (.v 1) (.c (.int 0)))])),(.asg (.nm 9) (.bi .list [(.v 8)])),(.asg (.nm 10) (.c (.str "none"))),(.asg (.nm 11) (.c .B5))]
theorem BI (ns:List Int)(hn:ns.length<=63){nm:Str}{fs:List Str}(h0:0 < fs.length)(hl:fs.length<=6)(q3 q4 q5 q6 q7:Option D):∃ qs:List Sh,qs.length<=63/\(∀ p∈qs,p.1∈nm::fs)/\
  aB (aa T 12) sC [some (.lst false (ns.map .int)),some (.lst true ((nm::fs).map .str)),some (.lst false (fs.map .str)),q3,q4,q5,q6,q7,none,none,none,none,none,none]=.ok (.nx [some (.lst false (ns.map .int)),some (.lst false ((nm::fs).map .str)),some (.lst false (fs.map .str)),q3,q4,q5,q6,q7,some (.lst true (qs.map B2)),some (.lst true (qs.map B2)),some (.str "none"),some .B5,none,none]):=by
 have c1:=cell (show T 30=some JY from rfl) rfl rfl rfl rfl 11 ns 1 (by omega)
 have ie:BV (ns.map D.int)=ns.map D.int:=Ev.dr ns
 generalize ns.getD (1:Int).toNat 0=v1 at *
 have sl:gr (.lst false (ns.map .int)) (some 3) (some (4+v1 / 6 % 6))=.ok (.lst true ((cY ns (some 3) (some (4+v1 / 6 % 6))).map .int)):=by
  show (.ok (.lst true (cY (ns.map D.int) (some 3) (some (4+v1 / 6 % 6)))):Res D)=_
  rw[qE]
 have hle:=sQ ns (some 3) (some (4+v1 / 6 % 6))
 generalize cY ns (some 3) (some (4+v1 / 6 % 6))=cells at *
 obtain⟨qs,e,lq,hq⟩:=qy 10 cells h0 hl nm (by omega)
 refine⟨qs,by omega,hq,?_⟩
 have Tr:BV (cells.map D.int)=cells.map D.int:=Ev.dr cells
 have se:=cF fs
 have Ts:=cF (nm::fs)
 have sf:=qd qs
 have xi:bu (.lst true ((nm::fs).map .str)) (.int 0)=.ok (.str nm):=by
  rw[jK true (nm::fs) (Int.le_refl 0) (by rw[List.length_cons];omega)]
  rfl
 have vs:vars eL=[0,0]:=rfl
 unfold eL at *
 generalize (nm::fs).map D.str=NN at *
 generalize fs.map D.str=FF at *
 generalize ns.map D.int=XX at *
 generalize cells.map D.int=CC at *
 generalize qs.map B2=QQ at *
 unfold sC eL
 simp -implicitDefEqProofs (disch:=omega) only[Cd,Nat.reduceBEq,Nat.reduceSub,Nat.reduceAdd,reduceIte,c1,ie,sl,e,Tr,se,Ts,sf,xi,vs]
noncomputable def cE:IR:=.comp {N:=["_law_due_here","_law_face"],kd:=[.cell,.local],gl:=[],df:=false} [3] (.nm 1) (.val (.v 2)) [] (.tup [(.v 1),(.Cj (.v 0) (.v 1))])
noncomputable def sD:List IS:=[(.E1 11 29 [(.v 6),(.v 9)] 53 ["Twice","TooMuch","NoFace","BadShare"] 12 [(.asg (.nm 10) (.call 33 [(.v 12)]))])]
noncomputable def sE:List IS:=[(.Cq (.EI (.cmp .ne (.v 10) (.call 36 [(.v 8),(.v 2),(.v 3)])) (.EI (.cmp .ne (.v 6) (.v 7)) (.cmp .ne (.v 9) (.v 8)))) [(.ret (.c (.bl false)))] []),(.Cq (.cmp .IG (.v 11) (.c .B5)) [(.ret (.cmp .eq (.call 25 [(.v 6)]) cE))] []),(.Cs (.tp [(.nm 4),(.nm 13)]) (.val (.v 8)) [(.CQ 3 (.v 4) (.v 13))]),(.ret (.cmp .eq (.call 25 [(.v 11)]) cE))]
theorem xO:P2=sA++(sB++(sC++(sD++sE))):=rfl
theorem qF (cl:Nat->List D->Res D):∀ (a b:List IS) (τ:Ev),aB cl (a++b) τ=U (aB cl a τ) (Ev.iT (aB cl b))
 | [],b,τ=>rfl
 | s::a,b,τ=>by
  show U (C1 cl s τ) (Ev.iT (aB cl (a++b)))=U (U (C1 cl s τ) (Ev.iT (aB cl a))) (Ev.iT (aB cl b))
  cases C1 cl s τ with
  | error e=>rfl
  | ok r=>
   cases r with
   | nx BP=>exact qF cl a b BP
   | rt d=>rfl
   | bk BP=>rfl
   | ct BP=>rfl
theorem seg {cl:Nat->List D->Res D}{a b:List IS}{τ BP:Ev}(h:aB cl a τ=.ok (.nx BP)):aB cl (a++b) τ=aB cl b BP:=by
 rw[qF,h]
 rfl
theorem qG (cl:Nat->List D->Res D)(o:Bool)(c:Str->Int){fs:List Str}:ba (bc cl (.nm 1) [] (.tup [(.v 1),(.Cj (.v 0) (.v 1))]) [some (dF o fs c),none]) (fs.map .str)=.ok ((fs.map fun f=>((f,c f):Sh)).map B2):=by
 refine Ev.bj D.str (fun f=>((f,c f):Sh)) B2 fs fun f hf=>?_
 have g:=f7 o c hf
 unfold B2
 generalize dF o fs c=W at *
 simp -implicitDefEqProofs (disch:=omega) only[Cd,Nat.reduceBEq,Nat.reduceSub,Nat.reduceAdd,reduceIte,g]
theorem lD {e:Str}{w:Str}(Ua:∀ {A P:D},True)(s1 q1 q2 q3 q4 q5 q7 q8:Option D){rows:List Rw}{free:List Pr}{qs:List Sh}(hc:(["Twice","TooMuch","NoFace","BadShare"]:List Str).contains e=true) (hx:aa T 12 29 [alt false false false rows free,.lst false (qs.map B2)]=.error (.exc e)) (hw:aa T 12 33 [.exc e]=.ok (.str w)) :
  aB (aa T 12) sD [s1,q1,q2,q3,q4,q5,some (alt false false false rows free),q7,q8,some (.lst true (qs.map B2)),some (.str "none"),some .B5,none,none]=.ok (.nx [s1,q1,q2,q3,q4,q5,some (alt false false false rows free),q7,q8,some (.lst true (qs.map B2)),some (.str w),some .B5,none,none]):=by
 have ae:=cG false false false rows free
 have pe:=d5 qs
 generalize alt false false false rows free=A at *
 generalize qs.map B2=QQ at *
 unfold sD
 simp -implicitDefEqProofs (disch:=omega) only[Cd,Nat.reduceBEq,Nat.reduceSub,Nat.reduceAdd,reduceIte,hx,ae,pe,hc,hw]
theorem xP (s1 q1 q2 q3 q4 q5 q7 q8:Option D){rows Cp:List Rw}{free BS:List Pr}{qs:List Sh}(hx:aa T 12 29 [alt false false false rows free,.lst false (qs.map B2)]=.ok (alt true true false Cp BS)) :
  aB (aa T 12) sD [s1,q1,q2,q3,q4,q5,some (alt false false false rows free),q7,q8,some (.lst true (qs.map B2)),some (.str "none"),some .B5,none,none]=.ok (.nx [s1,q1,q2,q3,q4,q5,some (alt false false false rows free),q7,q8,some (.lst false (qs.map B2)),some (.str "none"),some (alt true true false Cp BS),none,none]):=by
 have ae:=cG false false false rows free
 have pe:=d5 qs
 have l1:aw (alt true true false Cp BS)=false:=rfl
 generalize alt true true false Cp BS=B at *
 generalize alt false false false rows free=A at *
 generalize qs.map B2=QQ at *
 unfold sD
 simp -implicitDefEqProofs (disch:=omega) only[Cd,Nat.reduceBEq,Nat.reduceSub,Nat.reduceAdd,reduceIte,hx,ae,pe,l1]
theorem lE (s1 q1 q4 q5:Option D)(o:Bool)(w:Str){fs:List Str}{c:Str->Int}{rows:List Rw}{free:List Pr}{L:Nat}(al:Al fs c rows free L)(hL:L<=1000)(qs:List Sh)(hd:aa T 12 36 [.lst false (qs.map B2),.lst false (fs.map .str),dF false fs c]=.ok (.str w)) :
  U (aB (aa T 12) sE [s1,q1,some (.lst false (fs.map .str)),some (dF true fs c),q4,q5,some (alt false false false rows free),some (alt true false true rows free),some (.lst true (qs.map B2)),some (.lst o (qs.map B2)),some (.str w),some .B5,none,none]) Ev.jE=.ok (.bl true):=by
 have ae:=cG false false false rows free
 have pe:=d5 qs
 have se:=cF fs
 have de:=f6 true fs c
 have ea:=qD false false false true false true rows free
 have eq1:=hG o true qs
 have P':=al.Iy
 have NS:=al.GD
 have sh:=dX 10 rows free (by omega) fun p h=>Nat.le_trans (al.len p h) hL
 rw[al.sz] at sh
 have fe:=qG (aa T 12) true c (fs:=fs)
 have eq2:=hG true true (fs.map fun f=>((f,c f):Sh))
 have lm:(fs.map D.str).length=fs.length:=List.length_map _
 have bw:(w == w)=true:=beq_self_eq_true w
 generalize (fs.map fun f=>((f,c f):Sh)).map B2=Q at *
 generalize alt true false true rows free=B at *
 generalize alt false false false rows free=A at *
 generalize dF true fs c=W at *
 generalize dF false fs c=W' at *
 generalize qs.map B2=QQ at *
 generalize fs.map D.str=FF at *
 unfold sE cE
 simp -implicitDefEqProofs (disch:=omega) only[Cd,Nat.reduceBEq,Nat.reduceSub,Nat.reduceAdd,reduceIte,hd,ae,pe,se,de,ea,eq1,sh,fe,eq2,lm,bw]
theorem lF (cl:Nat->List D->Res D){fs:List Str}(hl:fs.length<=6)(q0 q1 q2 q5 q6 q7 q8 q9 Fg G3 Ju:Option D):∀ (qs:List Sh) (c:Str->Int) (x4 Ln:Option D),(∀ p∈qs,p.1∈fs)->
  ∃ y4 Ma,forM (Ev.turn cl (.tp [(.nm 4),(.nm 13)]) [(.CQ 3 (.v 4) (.v 13))]) (qs.map B2) [q0,q1,q2,some (dF true fs c),x4,q5,q6,q7,q8,q9,Fg,G3,Ju,Ln]=.ok (.nx [q0,q1,q2,some (dF true fs (ups c qs)),y4,q5,q6,q7,q8,q9,Fg,G3,Ju,Ma])
 | [],c,x4,Ln,_=>⟨x4,Ln,rfl⟩
 | (f,x)::qs,c,x4,Ln,h=>by
  have hf:f∈fs:=h (f,x) (.head _)
  have st:Ev.cp cl 3 (.v 4) [q0,q1,q2,some (dF true fs c),some (.str f),q5,q6,q7,q8,q9,Fg,G3,Ju,some (.int x)] (.int x) (some (dF true fs c))=.ok (.nx [q0,q1,q2,some (dF true fs (up c f x)),some (.str f),q5,q6,q7,q8,q9,Fg,G3,Ju,some (.int x)]):=k8 cl 3 (.v 4) _ rfl hf (by omega)
  have e:Ev.turn cl (.tp [(.nm 4),(.nm 13)]) [(.CQ 3 (.v 4) (.v 13))] (B2 (f,x)) [q0,q1,q2,some (dF true fs c),x4,q5,q6,q7,q8,q9,Fg,G3,Ju,Ln]=.ok (.nx [q0,q1,q2,some (dF true fs (up c f x)),some (.str f),q5,q6,q7,q8,q9,Fg,G3,Ju,some (.int x)]):=by
   rw[show B2 (f,x)=.tup [.str f,.int x] from rfl]
   generalize dF true fs c=W at *
   generalize dF true fs (up c f x)=W' at *
   simp -implicitDefEqProofs (disch:=omega) only[Cd,Nat.reduceBEq,Nat.reduceSub,Nat.reduceAdd,reduceIte,Ev.aE,st]
  obtain⟨y4,Ma,i⟩:=lF cl hl q0 q1 q2 q5 q6 q7 q8 q9 Fg G3 Ju qs (up c f x) (some (.str f)) (some (.int x)) fun p hp=>h p (List.mem_cons_of_mem _ hp)
  refine⟨y4,Ma,?_⟩
  rw[List.map_cons,Ev.cQ,e]
  exact i
theorem xQ (s1 q1 q4 q5:Option D)(o:Bool){fs:List Str}{c:Str->Int}{rows Cp:List Rw}{free BS:List Pr}{L M:Nat}(al:Al fs c rows free L)(qs:List Sh)(hq:∀ p∈qs,p.1∈fs)(J0:Al fs (ups c qs) Cp BS M)(hM:M<=1000)(hd:aa T 12 36 [.lst false (qs.map B2),.lst false (fs.map .str),dF false fs c]=.ok (.str "none")) :
  U (aB (aa T 12) sE [s1,q1,some (.lst false (fs.map .str)),some (dF true fs c),q4,q5,some (alt false false false rows free),some (alt true false true rows free),some (.lst true (qs.map B2)),some (.lst o (qs.map B2)),some (.str "none"),some (alt true true false Cp BS),none,none]) Ev.jE=.ok (.bl true):=by
 have ae:=cG true true false Cp BS
 have pe:=d5 qs
 have se:=cF fs
 have de:=f6 true fs c
 have ea:=qD false false false true false true rows free
 have eq1:=hG o true qs
 have P':=J0.Iy
 have NS:=J0.GD
 have sh:=dX 10 Cp BS (by omega) fun p h=>Nat.le_trans (J0.len p h) hM
 rw[J0.sz] at sh
 have fe:=qG (aa T 12) true (ups c qs) (fs:=fs)
 have eq2:=hG true true (fs.map fun f=>((f,ups c qs f):Sh))
 have lm:(fs.map D.str).length=fs.length:=List.length_map _
 have nn:EK .IG (alt true true false Cp BS) .B5=.ok false:=rfl
 obtain⟨y4,Ma,i⟩:=lF (aa T 12) P' s1 q1 (some (.lst false (fs.map .str))) q5 (some (alt false false false rows free)) (some (alt true false true rows free)) (some (.lst false (qs.map B2))) (some (.lst o (qs.map B2))) (some (.str "none")) (some (alt true true false Cp BS)) none qs c q4 none hq
 generalize (fs.map fun f=>((f,ups c qs f):Sh)).map B2=Q at *
 generalize alt true true false Cp BS=C at *
 generalize alt false false false Cp BS=C' at *
 generalize alt true false true rows free=B at *
 generalize alt false false false rows free=A at *
 generalize dF true fs (ups c qs)=W2 at *
 generalize dF true fs c=W at *
 generalize dF false fs c=W' at *
 generalize qs.map B2=QQ at *
 generalize fs.map D.str=FF at *
 unfold sE cE
 simp -implicitDefEqProofs (disch:=omega) only[Cd,Nat.reduceBEq,Nat.reduceSub,Nat.reduceAdd,reduceIte,hd,ae,pe,se,de,ea,eq1,sh,fe,eq2,lm,nn,i,beq_self_eq_true]
theorem holds (ns:List Int)(h:ns.length<=63):aa T (12+1) si [.lst false (ns.map .int)]=.ok (.bl true):=by
 rw[Ev.go (show T si=some Ia from rfl) (show Ia.io=none from rfl) (show Ia.np=1 from rfl) (show Ia.G.N.length=14 from rfl) (show Ia.body=_ from xO) rfl]
 obtain⟨nm,fs,x4,nd,h0,hl,hr,e1⟩:=BF ns
 have FX:=(List.nodup_cons.mp nd).2
 obtain⟨ps,rows,free,al,e2⟩:=BH ns (nm:=nm) (x4:=x4) FX h0 hl fun f hf=>hr f (List.mem_cons_of_mem _ hf)
 obtain⟨qs,lq,hq,e3⟩:=BI ns h (nm:=nm) (fs:=fs) h0 hl (some (dF true fs (ups z0 ps))) x4 (some (.lst false (ps.map B2))) (some (alt false false false rows free)) (some (alt true false true rows free))
 obtain⟨c1,c2⟩:=fq 8 al (by omega) qs (by omega) fun p hp=>hr _ (hq p hp)
 obtain⟨d1,d2⟩:=xK 11 hl (ups z0 ps) qs (by omega)
 obtain⟨w1,w2,w3,w4⟩:=sN 11
 show U (aB (aa T 12) (sA++(sB++(sC++(sD++sE)))) [some (.lst false (ns.map .int)),none,none,none,none,none,none,none,none,none,none,none,none,none]) Ev.jE=_
 rw[seg e1,seg e2,seg e3]
 cases hc:bV fs qs [] with
 | some e=>
  have hd:=d1 e hc
  have hx:=c1 e hc
  rcases f9 qs [] e hc with rfl|rfl|rfl
  ·rw[seg (lD trivial _ _ _ _ _ _ _ _ (by decide +kernel) hx w1)]
   exact lE _ _ _ _ true _ al (by omega) qs hd
  ·rw[seg (lD trivial _ _ _ _ _ _ _ _ (by decide +kernel) hx w2)]
   exact lE _ _ _ _ true _ al (by omega) qs hd
  ·rw[seg (lD trivial _ _ _ _ _ _ _ _ (by decide +kernel) hx w3)]
   exact lE _ _ _ _ true _ al (by omega) qs hd
 | none=>
  have hd:=d2 hc
  by_cases hs:10007 < (fs.map (ups (ups z0 ps) qs)).sum
  ·rw[if_pos hs] at hd
   have hx:=(c2 hc).1 hs
   rw[seg (lD trivial _ _ _ _ _ _ _ _ (by decide +kernel) hx w4)]
   exact lE _ _ _ _ true _ al (by omega) qs hd
  ·rw[if_neg hs] at hd
   obtain⟨Cp,BS,hx,J0⟩:=(c2 hc).2 (by omega)
   rw[seg (xP _ _ _ _ _ _ _ _ hx)]
   exact xQ _ _ _ _ false al qs (fun p hp=>(gZ qs [] hc p hp).1) J0 (by omega) hd
end Law
namespace PySem.W.Fast
theorem tw11935957778757910318:True:=⟨⟩
theorem tw5487144152032294413:True:=⟨⟩
theorem tw13567866278317033439:True:=⟨⟩
theorem tw10314473734778267093:True:=⟨⟩
theorem tw4030972828545637752:True:=⟨⟩
theorem tw4934253822358552899:True:=⟨⟩
theorem tw14982042759322005914:True:=⟨⟩
theorem tw8214447629990039420:True:=⟨⟩
theorem tw4547981560921841156:True:=⟨⟩
theorem tw16514712065305628012:True:=⟨⟩
theorem tw3245539611764650295:True:=⟨⟩
theorem tw8336410511282709640:True:=⟨⟩
theorem tw17695503149453439450:True:=⟨⟩
theorem tw10026580695648821309:True:=⟨⟩
theorem tw1918994485343493444:True:=⟨⟩
theorem tw15152125721205414572:True:=⟨⟩
theorem tw4700580146490713183:True:=⟨⟩
theorem tw14267911229814563927:True:=⟨⟩
theorem tw7040653990306021106:True:=⟨⟩
theorem tw3015633095394098935:True:=⟨⟩
theorem tw16866458592619137525:True:=⟨⟩
theorem tw15857022533390243199:True:=⟨⟩
theorem tw15535975905010749922:True:=⟨⟩
theorem tw6687837937130692093:True:=⟨⟩
theorem tw14581151747702739645:True:=⟨⟩
theorem tw4600601350758648786:True:=⟨⟩
theorem tw3116440241585418027:True:=⟨⟩
theorem tw4347718039328820768:True:=⟨⟩
theorem tw7120167499382925200:True:=⟨⟩
theorem tw2783682252857569384:True:=⟨⟩
theorem tw10577265081983073458:True:=⟨⟩
theorem tw13671400024340243576:True:=⟨⟩
theorem tw15205848647522733245:True:=⟨⟩
theorem tw16373638710125714241:True:=⟨⟩
theorem tw9746732911401492:True:=⟨⟩
theorem tw4933877646973745454:True:=⟨⟩
theorem tw543348922322895417:True:=⟨⟩
theorem tw15421073111668137350:True:=⟨⟩
theorem tw11450721856873308634:True:=⟨⟩
theorem tw8441807480321544934:True:=⟨⟩
theorem tw2045372128739852454:True:=⟨⟩
theorem tw14554283034545051705:True:=⟨⟩
theorem tw17847719776600246400:True:=⟨⟩
theorem tw6564083129710428115:True:=⟨⟩
theorem tw12055823942234833831:True:=⟨⟩
theorem tw3218255667536274968:True:=⟨⟩
theorem tw684637157858397007:True:=⟨⟩
theorem tw16410359054512391270:True:=⟨⟩
theorem tw3280980911586249475:True:=⟨⟩
theorem tw11657294157067540360:True:=⟨⟩
theorem tw14335380531558688984:True:=⟨⟩
theorem tw11397051000841716956:True:=⟨⟩
theorem tw14575626884978007278:True:=⟨⟩
theorem tw8236569215350708849:True:=⟨⟩
theorem tw1735299443554481512:True:=⟨⟩
theorem tw13949904693255111968:True:=⟨⟩
theorem tw12400797992762918936:True:=⟨⟩
theorem tw5091048937194729493:True:=⟨⟩
theorem tw9873938816302992204:True:=⟨⟩
theorem tw15959650153142172442:True:=⟨⟩
theorem tw13856454146145620020:True:=⟨⟩
theorem tw154341439463490490:True:=⟨⟩
theorem tw4919340956979591896:True:=⟨⟩
theorem tw9039832627620402781:True:=⟨⟩
theorem tw17263669460040284481:True:=⟨⟩
theorem tw16862643214032703625:True:=⟨⟩
theorem tw14570795861255751282:True:=⟨⟩
theorem tw10455780394621137996:True:=⟨⟩
theorem tw13165970191700226965:True:=⟨⟩
theorem tw15729627016748661890:True:=⟨⟩
theorem tw12311326984775193521:True:=⟨⟩
theorem tw8644715621935537388:True:=⟨⟩
theorem tw8663788551965331813:True:=⟨⟩
theorem tw11771595526540166891:True:=⟨⟩
theorem tw5939602378793403248:True:=⟨⟩
theorem tw3594605613356800520:True:=⟨⟩
theorem tw381306724294561863:True:=⟨⟩
theorem tw10505055083674383035:True:=⟨⟩
theorem tw818866021410273967:True:=⟨⟩
theorem tw9166092858357926119:True:=⟨⟩
theorem tw15619638480409932035:True:=⟨⟩
theorem tw6582889170796477851:True:=⟨⟩
theorem tw5305973191233342417:True:=⟨⟩
theorem tw352551347064521086:True:=⟨⟩
theorem tw12318294637199059389:True:=⟨⟩
theorem tw18259013605246614838:True:=⟨⟩
theorem tw15163565591680574920:True:=⟨⟩
theorem tw8473245858001959696:True:=⟨⟩
theorem tw8007587873013718181:True:=⟨⟩
theorem tw9746318899421212362:True:=⟨⟩
theorem tw15556541874125864178:True:=⟨⟩
theorem tw17578691107054726204:True:=⟨⟩
theorem tw17249045457109929708:True:=⟨⟩
theorem tw11277095720636166174:True:=⟨⟩
theorem tw4243855176967422293:True:=⟨⟩
theorem tw10437412756125609235:True:=⟨⟩
theorem tw13626969937761701235:True:=⟨⟩
theorem tw17412408838825732481:True:=⟨⟩
theorem tw2200149799216817282:True:=⟨⟩
theorem tw4482154675058060976:True:=⟨⟩
theorem tw10307184409514345458:True:=⟨⟩
theorem tw6840950250621624047:True:=⟨⟩
theorem tw5398160932899758637:True:=⟨⟩
theorem tw458824554996005144:True:=⟨⟩
theorem tw3711091056180978331:True:=⟨⟩
theorem tw3161786750595946547:True:=⟨⟩
theorem tw2391925825471645727:True:=⟨⟩
theorem tw17717665009702764527:True:=⟨⟩
theorem tw2033841763452644199:True:=⟨⟩
theorem tw16435298207712706648:True:=⟨⟩
theorem tw7780985142112640934:True:=⟨⟩
theorem tw15410271410940101516:True:=⟨⟩
theorem tw8207218179911127732:True:=⟨⟩
theorem tw3055417841294318443:True:=⟨⟩
theorem tw3722296444870547505:True:=⟨⟩
theorem tw8577098473047459615:True:=⟨⟩
theorem tw7611742098507347442:True:=⟨⟩
theorem tw10802814616585398146:True:=⟨⟩
theorem tw13633494192251699230:True:=⟨⟩
theorem tw10525821003568000262:True:=⟨⟩
theorem tw2063208114655398130:True:=⟨⟩
theorem tw3551533914846335838:True:=⟨⟩
theorem tw82983075872867655:True:=⟨⟩
theorem tw17074079563536370058:True:=⟨⟩
theorem tw8001923644761293198:True:=⟨⟩
theorem tw12644281794320016002:True:=⟨⟩
theorem tw996675885043559665:True:=⟨⟩
theorem tw16867450220000912743:True:=⟨⟩
theorem tw11434709934282546071:True:=⟨⟩
theorem tw17115051322791764174:True:=⟨⟩
theorem tw8826222681246777449:True:=⟨⟩
theorem tw17434097397814458699:True:=⟨⟩
theorem tw1959158087016993787:True:=⟨⟩
theorem tw8538661169333471054:True:=⟨⟩
theorem tw8015891990802526872:True:=⟨⟩
theorem tw721719143798402808:True:=⟨⟩
theorem tw179462975149713487:True:=⟨⟩
theorem tw9153920763834345932:True:=⟨⟩
theorem tw14939469928850717543:True:=⟨⟩
theorem tw5790266624994219865:True:=⟨⟩
theorem tw16767935004359232340:True:=⟨⟩
theorem tw3572324396508807035:True:=⟨⟩
theorem tw7983973785686387391:True:=⟨⟩
theorem tw9314375265422926030:True:=⟨⟩
theorem tw11514846403601937126:True:=⟨⟩
theorem tw16650659865737057512:True:=⟨⟩
theorem tw6263975540228470618:True:=⟨⟩
theorem tw15419356090509571182:True:=⟨⟩
theorem tw851453832753292401:True:=⟨⟩
theorem tw18310227311422991830:True:=⟨⟩
theorem tw13768541600023319442:True:=⟨⟩
theorem tw11395585250404207069:True:=⟨⟩
theorem tw8373841819894868315:True:=⟨⟩
theorem tw16967556540806128575:True:=⟨⟩
theorem tw4188908396077505320:True:=⟨⟩
theorem tw16484146571353463928:True:=⟨⟩
theorem tw10224462214464537048:True:=⟨⟩
theorem tw15194928639767451110:True:=⟨⟩
theorem tw10415338606980045094:True:=⟨⟩
theorem tw15247603834462271188:True:=⟨⟩
theorem tw16299381794406228273:True:=⟨⟩
theorem tw4525319175765789494:True:=⟨⟩
theorem tw3876845498475464372:True:=⟨⟩
theorem tw10639022264922005865:True:=⟨⟩
theorem tw2624563698069966730:True:=⟨⟩
theorem tw10111025535931346093:True:=⟨⟩
theorem tw14643661631736466043:True:=⟨⟩
theorem tw6188417853508720923:True:=⟨⟩
theorem tw4461968129204285682:True:=⟨⟩
theorem tw10312134191072570340:True:=⟨⟩
theorem tw17172070332928704278:True:=⟨⟩
theorem tw6886259376086082975:True:=⟨⟩
theorem tw12713080319956371346:True:=⟨⟩
theorem tw17294430993139992915:True:=⟨⟩
theorem tw7949117484870071365:True:=⟨⟩
theorem tw13097888278137828055:True:=⟨⟩
theorem tw1545316826563299168:True:=⟨⟩
theorem tw11654816017824249902:True:=⟨⟩
theorem tw4292853508092110328:True:=⟨⟩
theorem tw11042562823543871531:True:=⟨⟩
theorem tw9456196541381230241:True:=⟨⟩
theorem tw7335324762631593528:True:=⟨⟩
theorem tw17008437614481840966:True:=⟨⟩
theorem tw12276564698873523830:True:=⟨⟩
theorem tw16504818470915990347:True:=⟨⟩
theorem tw9933143922114574427:True:=⟨⟩
theorem tw12553760854986890219:True:=⟨⟩
theorem tw11978638820130439811:True:=⟨⟩
theorem tw7039291569710909980:True:=⟨⟩
theorem tw16725448859027715023:True:=⟨⟩
theorem tw10549875656823498529:True:=⟨⟩
theorem tw18175562648306744889:True:=⟨⟩
theorem tw11801784218121076917:True:=⟨⟩
theorem tw15565535734675815063:True:=⟨⟩
theorem tw2122893959091454862:True:=⟨⟩
theorem tw16437441424811773941:True:=⟨⟩
theorem tw13921135714775532678:True:=⟨⟩
theorem tw13453733977591143994:True:=⟨⟩
theorem tw16992924758716343823:True:=⟨⟩
theorem tw11314971154739707402:True:=⟨⟩
theorem tw1502115151030620550:True:=⟨⟩
theorem tw16541014725502683674:True:=⟨⟩
theorem tw3412733344941231719:True:=⟨⟩
theorem tw6670419280532255809:True:=⟨⟩
theorem tw10260178831669219928:True:=⟨⟩
theorem tw2700372261057433347:True:=⟨⟩
theorem tw13200173921811172571:True:=⟨⟩
theorem tw140883283043162377:True:=⟨⟩
theorem tw17467644166977730574:True:=⟨⟩
theorem tw7122362600304245327:True:=⟨⟩
theorem tw9324206822994062710:True:=⟨⟩
theorem tw7136275637973748338:True:=⟨⟩
theorem tw5847293899515655170:True:=⟨⟩
theorem tw4499303465346206824:True:=⟨⟩
theorem tw839254333110760132:True:=⟨⟩
theorem tw10337202334007730537:True:=⟨⟩
theorem tw11170686452655194820:True:=⟨⟩
theorem tw14604490401245381790:True:=⟨⟩
theorem tw342370604823579873:True:=⟨⟩
theorem tw5715009574101866164:True:=⟨⟩
theorem tw6406668568379643869:True:=⟨⟩
theorem tw3638169887668627632:True:=⟨⟩
theorem tw1503913533608263051:True:=⟨⟩
theorem tw2744991428476603437:True:=⟨⟩
theorem tw4261351295522566905:True:=⟨⟩
theorem tw1555472847309504435:True:=⟨⟩
theorem tw14755311317843588463:True:=⟨⟩
theorem tw2942348495218804736:True:=⟨⟩
theorem tw7297830616042570869:True:=⟨⟩
theorem tw5684992475902929788:True:=⟨⟩
theorem tw7471242711157355769:True:=⟨⟩
theorem tw1310269970461760203:True:=⟨⟩
theorem tw13368966226514087716:True:=⟨⟩
theorem tw9472548992441349766:True:=⟨⟩
theorem tw18275301723639539760:True:=⟨⟩
theorem tw7306611345178191216:True:=⟨⟩
theorem tw13426999043189419870:True:=⟨⟩
theorem tw11176034221571104146:True:=⟨⟩
theorem tw16549334662061504067:True:=⟨⟩
theorem tw17239112745604327556:True:=⟨⟩
theorem tw17186040841336716059:True:=⟨⟩
theorem tw8139450888097275453:True:=⟨⟩
theorem tw6539099416915791383:True:=⟨⟩
theorem tw14606963135784392676:True:=⟨⟩
theorem tw8428358117198536278:True:=⟨⟩
theorem tw15390679931872733079:True:=⟨⟩
theorem tw16360877791007353446:True:=⟨⟩
theorem tw4750550158993771991:True:=⟨⟩
theorem tw11623755420684519840:True:=⟨⟩
theorem tw15911424468280576020:True:=⟨⟩
theorem tw15740900913704939812:True:=⟨⟩
theorem tw17419929705368216668:True:=⟨⟩
theorem tw18212236007671310438:True:=⟨⟩
theorem tw2319748709191558974:True:=⟨⟩
theorem tw2809302580146762961:True:=⟨⟩
theorem tw9683731264297964263:True:=⟨⟩
theorem tw17310742907561330086:True:=⟨⟩
theorem tw4298537175618048689:True:=⟨⟩
theorem tw6122083092982089483:True:=⟨⟩
theorem tw9704655901443065502:True:=⟨⟩
theorem tw7607818879261207554:True:=⟨⟩
theorem tw3688202497404967512:True:=⟨⟩
theorem tw142573749793841662:True:=⟨⟩
theorem tw201937542893744800:True:=⟨⟩
theorem tw6879478642378817798:True:=⟨⟩
theorem tw15139126456264181156:True:=⟨⟩
theorem tw3905286475567330459:True:=⟨⟩
theorem tw7896691563948240749:True:=⟨⟩
theorem tw14972711742082214593:True:=⟨⟩
theorem tw2951426270116944856:True:=⟨⟩
theorem tw15273466002108607724:True:=⟨⟩
theorem tw11507436589131753727:True:=⟨⟩
theorem tw2931276023964428696:True:=⟨⟩
theorem tw15980684939769606566:True:=⟨⟩
theorem tw17748916968644728388:True:=⟨⟩
theorem tw7202018963035326272:True:=⟨⟩
theorem tw5019300205232314292:True:=⟨⟩
theorem tw10649860520825821224:True:=⟨⟩
theorem tw7854344664845810829:True:=⟨⟩
theorem tw7850074421989377876:True:=⟨⟩
theorem tw16148612483498420831:True:=⟨⟩
theorem tw14613947737198220203:True:=⟨⟩
theorem tw16144150387634241746:True:=⟨⟩
theorem tw5695939250926983382:True:=⟨⟩
theorem tw10605182208757837475:True:=⟨⟩
theorem tw4312837599434842191:True:=⟨⟩
theorem tw11995310873591982411:True:=⟨⟩
theorem tw629507186867522941:True:=⟨⟩
theorem tw4122130017256691736:True:=⟨⟩
theorem tw18149253122226843374:True:=⟨⟩
theorem tw5434708790425869945:True:=⟨⟩
theorem tw2733800493760829127:True:=⟨⟩
theorem tw7347259362012632830:True:=⟨⟩
theorem tw15153978102109144886:True:=⟨⟩
theorem tw8982723894889203166:True:=⟨⟩
theorem tw15980092304778396673:True:=⟨⟩
theorem tw14817015815723319773:True:=⟨⟩
theorem tw17368215829608179597:True:=⟨⟩
theorem tw10209143870673082768:True:=⟨⟩
theorem tw15656860293185039431:True:=⟨⟩
theorem tw2408006058528783329:True:=⟨⟩
theorem tw3249661926366685073:True:=⟨⟩
theorem tw3986067245537412293:True:=⟨⟩
theorem tw8739374614716722599:True:=⟨⟩
theorem tw13372815983718039527:True:=⟨⟩
theorem tw13606569020769478142:True:=⟨⟩
theorem tw9127872536086011642:True:=⟨⟩
theorem tw16519432772995260171:True:=⟨⟩
theorem tw9660466414738692101:True:=⟨⟩
theorem tw571935915450541111:True:=⟨⟩
theorem tw15905742513948852349:True:=⟨⟩
theorem tw16890780622016506743:True:=⟨⟩
theorem tw16277373195990512792:True:=⟨⟩
theorem tw13777051899179166876:True:=⟨⟩
theorem tw16658582109328531506:True:=⟨⟩
theorem tw7955397804466527920:True:=⟨⟩
theorem tw4026221268408784590:True:=⟨⟩
theorem tw16470255666347872407:True:=⟨⟩
theorem tw12342041897599025555:True:=⟨⟩
theorem tw9718430540660901353:True:=⟨⟩
theorem tw16211013509301198803:True:=⟨⟩
theorem tw14314307502593167504:True:=⟨⟩
theorem tw17760363258925970631:True:=⟨⟩
theorem tw12853553928788408073:True:=⟨⟩
theorem tw6113115132268213765:True:=⟨⟩
theorem tw5763855784029997261:True:=⟨⟩
theorem tw10307959256766247420:True:=⟨⟩
end PySem.W.Fast
open PySem PySem.W PyProof.Rows
set_option maxRecDepth 100000 in
set_option maxHeartbeats 0 in
theorem PySem.Challenge.cw_flagroll_k09_shares_refused_holds : PySem.Challenge.rw_flagroll_k09_shares_refused.Holds := by
  w_on; o_law; k_head; (case hw => w_witness2)
  k_fill
  refine L2.oE (l := PySem.Challenge.rw_flagroll_k09_shares_refused) (T := Law.T) (n := 12) (f := Law.si) (x := Law.sj) rfl rfl ⟨fun _ => rfl, by decide, by decide⟩ (fun w h Y => PySem.W.kIn_of Y) ?F Law.holds
  case F =>
    intro w mg fa h KX G hmg
    refine' Law.all_mk KX G hmg (Law.dfo Law.c21 rfl (fun _ _ _ _ _ _ => Law.ln1 fun _ => rfl) KX G ?a21 ?l21 ?e21 ?k21) (Law.dfo Law.c22 rfl (fun _ _ _ _ _ _ => Law.ln2 fun _ _ => rfl) KX G ?a22 ?l22 ?e22 ?k22) (Law.dfo Law.c23 rfl (fun _ _ _ _ _ _ => Law.ln2 fun _ _ => rfl) KX G ?a23 ?l23 ?e23 ?k23) (Law.dfo Law.c24 rfl (fun _ _ _ _ _ _ => Law.ln1 fun _ => rfl) KX G ?a24 ?l24 ?e24 ?k24) (Law.dfo Law.c25 rfl (fun _ _ _ _ _ _ => Law.ln1 fun _ => rfl) KX G ?a25 ?l25 ?e25 ?k25) (Law.dfo Law.c26 rfl (fun _ _ _ _ _ _ => Law.ln2 fun _ _ => rfl) KX G ?a26 ?l26 ?e26 ?k26) (Law.dfo Law.c27 rfl (fun _ _ _ _ _ _ => Law.ln3 fun _ _ _ => rfl) KX G ?a27 ?l27 ?e27 ?k27) (Law.dfo Law.c28 rfl (fun _ _ _ _ _ _ => Law.ln3 fun _ _ _ => rfl) KX G ?a28 ?l28 ?e28 ?k28) (Law.dfo Law.c29 rfl (fun _ _ _ _ _ _ => Law.ln2 fun _ _ => rfl) KX G ?a29 ?l29 ?e29 ?k29) (Law.dfo Law.c30 rfl (fun _ _ _ _ _ _ => Law.ln2 fun _ _ => rfl) KX G ?a30 ?l30 ?e30 ?k30) (Law.dfo Law.c31 rfl (fun _ _ _ _ _ _ => Law.ln2 fun _ _ => rfl) KX G ?a31 ?l31 ?e31 ?k31) (Law.dfo Law.c32 rfl (fun _ _ _ _ _ _ => Law.ln2 fun _ _ => rfl) KX G ?a32 ?l32 ?e32 ?k32) (Law.dfo Law.c33 rfl (fun _ _ _ _ _ _ => Law.ln1 fun _ => rfl) KX G ?a33 ?l33 ?e33 ?k33) (Law.BD Law.c34 rfl (fun _ _ _ _ _ _ => Law.ln3 fun _ _ _ => rfl) KX G ?a34 ?l34 ?e34 ?k34) (Law.dfo Law.c35 rfl (fun _ _ _ _ _ _ => Law.ln3 fun _ _ _ => rfl) KX G ?a35 ?l35 ?e35 ?k35) (Law.dfo Law.c36 rfl (fun _ _ _ _ _ _ => Law.ln3 fun _ _ _ => rfl) KX G ?a36 ?l36 ?e36 ?k36) ?a37 ?l37 ?e37 ?k37 ?q20 ?u38 ?u39 ?u40 ?u41 ?u42 ?u43 ?u44 ?u45 ?u46 ?u47 ?u48 ?u49 ?u50 ?u51 ?u53 ?u52 ?vn38 ?vg38 ?vo38 ?vc38 ?vb38 ?vj38 ?vi38 ?vx38 ?y38_42 ?y38_40 ?y38_38 ?y38_41 ?y38_39 ?y38_43 ?y38_44 ?y38_45 ?y38_46 ?y38_47 ?y38_48 ?y38_49 ?y38_50 ?y38_51 ?y38_52 ?m38_53 ?vn39 ?vg39 ?vo39 ?vc39 ?vb39 ?vj39 ?vi39 ?vx39 ?y39_42 ?y39_40 ?y39_38 ?y39_41 ?y39_39 ?y39_43 ?y39_44 ?y39_45 ?y39_46 ?y39_47 ?y39_48 ?y39_49 ?y39_50 ?y39_51 ?y39_52 ?m39_53 ?vn40 ?vg40 ?vo40 ?vc40 ?vb40 ?vj40 ?vi40 ?vx40 ?y40_42 ?y40_40 ?y40_38 ?y40_41 ?y40_39 ?y40_43 ?y40_44 ?y40_45 ?y40_46 ?y40_47 ?y40_48 ?y40_49 ?y40_50 ?y40_51 ?y40_52 ?m40_53 ?vn41 ?vg41 ?vo41 ?vc41 ?vb41 ?vj41 ?vi41 ?vx41 ?y41_42 ?y41_40 ?y41_38 ?y41_41 ?y41_39 ?y41_43 ?y41_44 ?y41_45 ?y41_46 ?y41_47 ?y41_48 ?y41_49 ?y41_50 ?y41_51 ?y41_52 ?m41_53 ?z0 ?z1 ?z2 ?z3 ?z4 ?z5 ?z6 ?z7 ?z8 ?z9 ?z10 ?z11 ?z12 ?z13 ?z14 ?z15 ?z16 ?z17 ?z18 ?z19
    (case a21 => k_is)
    (case l21 => k_is)
    (case e21 => k_is)
    (case k21 => k_is)
    (case a22 => k_is)
    (case l22 => k_is)
    (case e22 => k_is)
    (case k22 => k_is)
    (case a23 => k_is)
    (case l23 => k_is)
    (case e23 => k_is)
    (case k23 => k_is)
    (case a24 => k_is)
    (case l24 => k_is)
    (case e24 => k_is)
    (case k24 => k_is)
    (case a25 => k_is)
    (case l25 => k_is)
    (case e25 => k_is)
    (case k25 => k_is)
    (case a26 => k_is)
    (case l26 => k_is)
    (case e26 => k_is)
    (case k26 => k_is)
    (case a27 => k_is)
    (case l27 => k_is)
    (case e27 => k_is)
    (case k27 => k_is)
    (case a28 => k_is)
    (case l28 => k_is)
    (case e28 => k_is)
    (case k28 => k_is)
    (case a29 => k_is)
    (case l29 => k_is)
    (case e29 => k_is)
    (case k29 => k_is)
    (case a30 => k_is)
    (case l30 => k_is)
    (case e30 => k_is)
    (case k30 => k_is)
    (case a31 => k_is)
    (case l31 => k_is)
    (case e31 => k_is)
    (case k31 => k_is)
    (case a32 => k_is)
    (case l32 => k_is)
    (case e32 => k_is)
    (case k32 => k_is)
    (case a33 => k_is)
    (case l33 => k_is)
    (case e33 => k_is)
    (case k33 => k_is)
    (case a34 => k_is)
    (case l34 => k_is)
    (case e34 => k_is)
    (case k34 => k_is)
    (case a35 => k_is)
    (case l35 => k_is)
    (case e35 => k_is)
    (case k35 => k_is)
    (case a36 => k_is)
    (case l36 => k_is)
    (case e36 => k_is)
    (case k36 => k_is)
    (case a37 => k_is)
    (case l37 => k_is)
    (case e37 => k_is)
    (case k37 => k_is)
    (case q20 => k_is)
    (case u38 => k_is)
    (case u39 => k_is)
    (case u40 => k_is)
    (case u41 => k_is)
    (case u42 => k_is)
    (case u43 => k_is)
    (case u44 => k_is)
    (case u45 => k_is)
    (case u46 => k_is)
    (case u47 => k_is)
    (case u48 => k_is)
    (case u49 => k_is)
    (case u50 => k_is)
    (case u51 => k_is)
    (case u53 => k_is)
    (case u52 => k_is)
    (case vn38 => kernel_rfl)
    (case vg38 => kernel_rfl)
    (case vo38 => kernel_rfl)
    (case vc38 => kernel_rfl)
    (case vb38 => kernel_rfl)
    (case vj38 => kernel_rfl)
    (case vi38 => kernel_rfl)
    (case vx38 => kernel_rfl)
    (case y38_42 => kernel_rfl)
    (case y38_40 => kernel_rfl)
    (case y38_38 => kernel_rfl)
    (case y38_41 => kernel_rfl)
    (case y38_39 => kernel_rfl)
    (case y38_43 => kernel_rfl)
    (case y38_44 => kernel_rfl)
    (case y38_45 => kernel_rfl)
    (case y38_46 => kernel_rfl)
    (case y38_47 => kernel_rfl)
    (case y38_48 => kernel_rfl)
    (case y38_49 => kernel_rfl)
    (case y38_50 => kernel_rfl)
    (case y38_51 => kernel_rfl)
    (case y38_52 => kernel_rfl)
    (case m38_53 => kernel_rfl)
    (case vn39 => kernel_rfl)
    (case vg39 => kernel_rfl)
    (case vo39 => kernel_rfl)
    (case vc39 => kernel_rfl)
    (case vb39 => kernel_rfl)
    (case vj39 => kernel_rfl)
    (case vi39 => kernel_rfl)
    (case vx39 => kernel_rfl)
    (case y39_42 => kernel_rfl)
    (case y39_40 => kernel_rfl)
    (case y39_38 => kernel_rfl)
    (case y39_41 => kernel_rfl)
    (case y39_39 => kernel_rfl)
    (case y39_43 => kernel_rfl)
    (case y39_44 => kernel_rfl)
    (case y39_45 => kernel_rfl)
    (case y39_46 => kernel_rfl)
    (case y39_47 => kernel_rfl)
    (case y39_48 => kernel_rfl)
    (case y39_49 => kernel_rfl)
    (case y39_50 => kernel_rfl)
    (case y39_51 => kernel_rfl)
    (case y39_52 => kernel_rfl)
    (case m39_53 => kernel_rfl)
    (case vn40 => kernel_rfl)
    (case vg40 => kernel_rfl)
    (case vo40 => kernel_rfl)
    (case vc40 => kernel_rfl)
    (case vb40 => kernel_rfl)
    (case vj40 => kernel_rfl)
    (case vi40 => kernel_rfl)
    (case vx40 => kernel_rfl)
    (case y40_42 => kernel_rfl)
    (case y40_40 => kernel_rfl)
    (case y40_38 => kernel_rfl)
    (case y40_41 => kernel_rfl)
    (case y40_39 => kernel_rfl)
    (case y40_43 => kernel_rfl)
    (case y40_44 => kernel_rfl)
    (case y40_45 => kernel_rfl)
    (case y40_46 => kernel_rfl)
    (case y40_47 => kernel_rfl)
    (case y40_48 => kernel_rfl)
    (case y40_49 => kernel_rfl)
    (case y40_50 => kernel_rfl)
    (case y40_51 => kernel_rfl)
    (case y40_52 => kernel_rfl)
    (case m40_53 => kernel_rfl)
    (case vn41 => kernel_rfl)
    (case vg41 => kernel_rfl)
    (case vo41 => kernel_rfl)
    (case vc41 => kernel_rfl)
    (case vb41 => kernel_rfl)
    (case vj41 => kernel_rfl)
    (case vi41 => kernel_rfl)
    (case vx41 => kernel_rfl)
    (case y41_42 => kernel_rfl)
    (case y41_40 => kernel_rfl)
    (case y41_38 => kernel_rfl)
    (case y41_41 => kernel_rfl)
    (case y41_39 => kernel_rfl)
    (case y41_43 => kernel_rfl)
    (case y41_44 => kernel_rfl)
    (case y41_45 => kernel_rfl)
    (case y41_46 => kernel_rfl)
    (case y41_47 => kernel_rfl)
    (case y41_48 => kernel_rfl)
    (case y41_49 => kernel_rfl)
    (case y41_50 => kernel_rfl)
    (case y41_51 => kernel_rfl)
    (case y41_52 => kernel_rfl)
    (case m41_53 => kernel_rfl)
    (case z0 => k_is)
    (case z1 => k_is)
    (case z2 => k_is)
    (case z3 => k_is)
    (case z4 => k_is)
    (case z5 => k_is)
    (case z6 => k_is)
    (case z7 => k_is)
    (case z8 => k_is)
    (case z9 => k_is)
    (case z10 => k_is)
    (case z11 => k_is)
    (case z12 => k_is)
    (case z13 => k_is)
    (case z14 => k_is)
    (case z15 => k_is)
    (case z16 => k_is)
    (case z17 => k_is)
    (case z18 => k_is)
    (case z19 => k_is)
#print axioms PySem.Challenge.cw_flagroll_k09_shares_refused_holds
