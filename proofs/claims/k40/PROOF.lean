import PyProof.Rows.All
import Wide.All
import OpenK.AllK
import Wide.FinOn
import Lean
import PyProof.EqAt
import PyProof.EqKinds
import PyProof.TupleCall
import PyProof.NeKinds
import KE.KRevIter
import KE.KSortTup
import Wide.Txt2
import PyProof.FString4
import KE.KIntText
import PyProof.ZipIter
import PyProof.TupleIter
import PyProof.WalksMore
import PyProof.Rows.SortShell
import KE.KDictSum
import PyProof.Rows.SortStr
import PyProof.Rows.SetFrom
import PyProof.DictUpdate
import KE.KDictOf
import PyProof.AttrMissSeq
import KE.KDictList
import KE.KDictIter
import PyProof.Rows.SortWalk
import PyProof.EnumMake
import PyProof.EnumFor
import PyProof.Rows.EnumRows
import KE.KIsAll
import PyProof.ExcArgsOwn
import PyProof.ExcAttrAll.ValueError
import OpenK.KDescr
import PyProof.StationsW
import OpenK.KOwn
import KE.KTryMore
import OpenK.KRaise
import PyProof.RulesDel
import PyProof.RulesAs
import PyProof.Rows.Catch
import PySem.Challenge.RW_flagroll_k40_holdouts
set_option maxHeartbeats 8000000
set_option Elab.async false
set_option linter.all false
set_option maxRecDepth 100000
namespace L2
open PySem PySem.Spec PyProof.Rows
noncomputable abbrev Key:=Sum Int Str
noncomputable def eY:Key->Value->Bool
 | .inl k,v=>Value.isInt k v
 | .inr x,v=>Value.isStrOf x v
noncomputable def AJ (w:World):Key->Int
 | .inl k=>hashInt k
 | .inr x=>hashStr w x
theorem aE:∀ {k:Key}{v:Value},eY k v=true->(∃ i t,k=Sum.inl i/\v=Value.int i t)∨(∃ x t,k=Sum.inr x/\v=Value.str x t)
 | .inl i,v,h=>by
  obtain⟨t,e⟩:=Value.isInt_shape (k:=i) (v:=v) h
  exact .inl ⟨i,t,rfl,e⟩
 | .inr x,v,h=>by
  obtain⟨t,e⟩:=Value.isStrOf_shape (x:=x) (v:=v) h
  exact .inr ⟨x,t,rfl,e⟩
theorem kQ (i:Int)(t:Tok):eY (.inl i) (.int i t)=true:=by simp[eY,Value.isInt]
theorem kR (x:Str)(t:Tok):eY (.inr x) (.str x t)=true:=by simp[eY,Value.isStrOf]
theorem uO (a b:Int):decide ((Sum.inl a:Key)=Sum.inl b)=(a == b):=by
 by_cases e:a=b
 ·subst e;simp
 ·have h:¬ (Sum.inl a:Key)=Sum.inl b:=fun q=>e (Sum.inl.inj q)
  rw[decide_eq_false h]
  exact(beq_eq_false_iff_ne.mpr e).symm
theorem uP (a b:Str):decide ((Sum.inr a:Key)=Sum.inr b)=decide (a=b):=by
 by_cases e:a=b
 ·subst e;simp
 ·have h:¬ (Sum.inr a:Key)=Sum.inr b:=fun q=>e (Sum.inr.inj q)
  rw[decide_eq_false h,decide_eq_false e]
theorem uQ (a:Int)(b:Str):decide ((Sum.inl a:Key)=Sum.inr b)=false:=decide_eq_false (fun q=>nomatch q)
theorem uR (a:Str)(b:Int):decide ((Sum.inr a:Key)=Sum.inl b)=false:=decide_eq_false (fun q=>nomatch q)
noncomputable def aL (prog:Program)(w:World):PySem.KeyKind prog w Key where
 is:=eY
 hash:=AJ w
 inj:=fun v a b ha hb=>by
  rcases aE ha with ⟨i,t,rfl,rfl⟩|⟨x,t,rfl,rfl⟩
  ·rcases aE hb with ⟨j,u,rfl,e⟩|⟨y,u,rfl,e⟩
   ·injection e with e1 _;rw[e1]
   ·exact nomatch e
  ·rcases aE hb with ⟨j,u,rfl,e⟩|⟨y,u,rfl,e⟩
   ·exact nomatch e
   ·injection e with e1 _;rw[e1]
 byValue:=fun k v h=>by
  rcases aE h with ⟨i,t,rfl,rfl⟩|⟨x,t,rfl,rfl⟩<;>rfl
 pyHash:=fun hv h=>by
  rcases aE hv with ⟨i,t,rfl,rfl⟩|⟨x,t,rfl,rfl⟩
  ·exact wpAny_pyHash_int h
  ·exact wpAny_pyHash_str h
 eqBool:=fun hu hv h=>by
  rcases aE hu with ⟨i,t,rfl,rfl⟩|⟨x,t,rfl,rfl⟩
  ·rcases aE hv with ⟨j,u,rfl,rfl⟩|⟨y,u,rfl,rfl⟩
   ·rw[uO] at h;exact wpAny_eqBool_int h
   ·rw[uQ] at h;exact SeqAt.EqAt.int_str i t y u _ _ _ _ h
  ·rcases aE hv with ⟨j,u,rfl,rfl⟩|⟨y,u,rfl,rfl⟩
   ·rw[uR] at h;exact SeqAt.EqAt.str_int x t j u _ _ _ _ h
   ·rw[uP] at h;exact wpAny_eqBool_str h
 «strs»:=fun k x t v h=>by
  rcases aE h with ⟨i,u,rfl,e⟩|⟨y,u,rfl,e⟩
  ·exact nomatch e
  ·injection e with e1 _
   subst e1
   cases v<;>rfl
theorem gM (prog:Program)(w:World)(i:Int)(t:Tok):(aL prog w).is (.inl i) (.int i t)=true:=kQ i t
theorem gN (prog:Program)(w:World)(x:Str)(t:Tok):(aL prog w).is (.inr x) (.str x t)=true:=kR x t
inductive V where
 | By|bl (b:Bool)|int (i:Int)|str (x:Str)|Hn (b:Array UInt8)|Lw (b:UInt64)|ref (a:Addr)|ty (n:String)
 deriving DecidableEq
noncomputable def RelV:V->Value->Prop
 | .By,u=>u=Value.none
 | .bl b,u=>u=Value.bool b
 | .int i,u=>∃ t,u=Value.int i t
 | .str x,u=>∃ t,u=Value.str x t
 | .Hn b,u=>∃ t,u=Value.bytes b t
 | .Lw b,u=>∃ t,u=Value.float b t
 | .ref a,u=>u=Value.ref a
 | .ty n,u=>u=Value.type n
abbrev Vals:List V->List Value->Prop:=Paired RelV
theorem Vals.length {xs:List V}{us:List Value}(r:Vals xs us):xs.length=us.length:=Paired.length r
theorem Vals.get:∀ {xs:List V}{us:List Value}{i:Nat}{x:V},Vals xs us->xs[i]? = some x->∃ u,us[i]? = some u/\RelV x u
 | _,_,_,_,.nil,e=>by simp at e
 | _,_,0,_,.cons r _,e=>by simp at e;subst e;exact⟨_,rfl,r⟩
 | _,_,i+1,x,.cons _ t,e=>by
  obtain⟨u,h1,h2⟩:=Vals.get (i:=i) (x:=x) t (by simpa using e)
  exact⟨u,by simpa using h1,h2⟩
theorem Vals.append:∀ {xs ys:List V}{us ws:List Value},Vals xs us->Vals ys ws->Vals (xs++ys) (us++ws)
 | _,_,_,_,.nil,s=>s
 | _,_,_,_,.cons r t,s=>.cons r (Vals.append t s)
theorem Vals.take:∀ {xs:List V}{us:List Value} (n:Nat),Vals xs us->Vals (xs.take n) (us.take n)
 | _,_,0,_=>.nil
 | _,_,_+1,.nil=>.nil
 | _,_,n+1,.cons r t=>.cons r (Vals.take n t)
theorem Vals.drop:∀ {xs:List V}{us:List Value} (n:Nat),Vals xs us->Vals (xs.drop n) (us.drop n)
 | _,_,0,r=>r
 | _,_,_+1,.nil=>.nil
 | _,_,n+1,.cons _ t=>Vals.drop n t
noncomputable def eS:Option V->Option Value->Prop
 | some v,some u=>RelV v u
 | none,none=>True
 | _,_=>False
def KV {κ:Type}:List (κ×V)->List (κ×Value)->Prop:=Paired fun (p:κ×V) (q:κ×Value)=>p.1=q.1/\RelV p.2 q.2
noncomputable def kV:Key->V
 | .inl i=>.int i
 | .inr x=>.str x
inductive HO where
 | lst (xs:List V)
 | tup (xs:List V)
 | dK (kvs:List (Key×V))|dT (kvs:List (List Key×V))
 | set (S:Int->Bool) (n:Nat)
 | ins (C dx:Addr) (fs:List (Str×V))
 | own (x:Addr)
 | xd (fs:List (Str×V))
 | met (f x:Addr)
 | Ft (lo hi:Int)
 | BI (o:Obj) (u:HO)
 | GR (ps:Array Value)
 | ext (φ:Heap->Prop)
noncomputable abbrev Hp:=Addr->Option HO
noncomputable def upd (H:Hp)(a:Addr)(o:HO):Hp:=fun b=>if b=a then some o else H b
theorem aq {H:Hp}{a:Addr}{o:HO}:upd H a o a=some o:=by unfold upd;rw[if_pos rfl]
theorem ag {H:Hp}{a b:Addr}{o:HO}(h:b≠a):upd H a o b=H b:=by unfold upd;rw[if_neg h]
theorem xq {H:Hp}{a b:Addr}{o u:HO}(h:H a=some o)(h':H b=some u)(d:o≠u):a≠b:=by
 intro e;subst e;rw[h] at h';exact d (Option.some.inj h')
theorem aw {H:Hp}{a b:Addr}{o:HO}(h:H a=some o)(h':H b=none):a≠b:=by
 intro e;subst e;rw[h] at h';cases h'
section
variable (P:Program)(w:World)
noncomputable def aF (H:Hp)(h:Heap)(a:Addr):HO->Prop
 | .lst xs=>xs.length<=sizeLine/\∃ (its:List Value) (n:Nat),Vals xs its/\h.get? a=some {cls:=.type "list",data:=.seq its.toArray n}
 | .tup xs=>xs.length<=sizeLine/\∃ its:List Value,Vals xs its/\IsTup h a its.toArray
 | .dK kvs=>kvs.length<=sizeLine/\(a == sysModules)=false/\∃ vs,KV kvs vs/\h.DictOf (aL P w) a vs
 | .dT kvs=>kvs.length<=sizeLine/\(a == sysModules)=false/\∃ xs:List (List Key×Addr×Value),
   Paired (fun (p:List Key×V) (q:List Key×Addr×Value)=>p.1=q.1/\H q.2.1=some (.tup (p.1.map kV))/\RelV p.2 q.2.2) kvs xs/\
   ∃ o es ep,h.get? a=some o/\o.ExactDict/\o.data=.dict es ep/\es.toList=xs.map (entryOfKey (tupleKind (aL P w)))/\(xs.map (·.1)).Nodup
 | .set S n=>h.SetOf (intKind P w) a S n
 | .ins C dx fs=>H dx=some (.own a)/\fs.length<=1000/\dx≠a/\h.get? a=some (PySem.W.instObj C dx)/\
   ∃ mA,h.Ns1 dx mA/\(∀ f,eS (fs.lookup f) (mA f))/\PySem.Within mA (fs.map (·.1))
 | .own _=>∃ o,h.get? a=some o
 | .xd fs=>∃ mA,h.Ns1 a mA/\∀ f,eS (fs.lookup f) (mA f)
 | .Ft lo hi=>∃ t u v,h.get? a=some {cls:=.type "range",data:=.fields #[.int lo t,.int hi u,.int 1 v]}
 | .BI o u=>h.get? a=some o/\aF H h a u
 | .GR ps=>h.get? a=some {cls:=.none,data:=.fields ps}
 | .met f x=>h.get? a=some (PySem.W.methodObj (.ref f) (.ref x))
 | .ext φ=>φ h/\(∃ o,h.get? a=some o)/\∀ h1 h2:Heap,φ h1->(∀ o,h1.get? a=some o->h2.get? a=some o)->φ h2
def BX (H:Hp)(h:Heap):Prop:=∀ a o,H a=some o->aF P w H h a o
end
section
variable {P:Program}{w:World}{H H':Hp}{h h':Heap}{a:Addr}{o:HO}
theorem aF.lt (x:aF P w H h a o):a < h.objs.size:=by
 cases o with
 | lst xs=>obtain⟨_,_,_,_,e⟩:=x;exact Heap.lt_size e
 | tup xs=>obtain⟨_,_,_,p⟩:=x;exact p.lt
 | dK kvs=>obtain⟨_,_,_,_,o,_,_,e,_⟩:=x;exact Heap.lt_size e
 | dT kvs=>obtain⟨_,_,_,_,o,_,_,e,_⟩:=x;exact Heap.lt_size e
 | set S n=>obtain⟨o,_,_,_,e,_⟩:=x;exact Heap.lt_size e
 | ins C dx fs=>obtain⟨_,_,_,e,_⟩:=x;exact Heap.lt_size e
 | own y=>obtain⟨_,e⟩:=x;exact Heap.lt_size e
 | xd fs=>obtain⟨_,⟨_,_,_,e,_⟩,_⟩:=x;exact Heap.lt_size e
 | Ft lo hi=>obtain⟨_,_,_,e⟩:=x;exact Heap.lt_size e
 | BI ob u=>obtain⟨e,_⟩:=x;exact Heap.lt_size e
 | GR ps=>exact Heap.lt_size (show h.get? a=some _ from x)
 | met f y=>exact Heap.lt_size (show h.get? a=some _ from x)
 | ext φ=>obtain⟨_,⟨_,e⟩,_⟩:=x;exact Heap.lt_size e
theorem Paired.Hq {α β:Type}{F G:α->β->Prop}:∀ {l₁:List α}{l₂:List β},Paired F l₁ l₂->(∀ a b,F a b->G a b)->Paired G l₁ l₂
 | _,_,.nil,_=>.nil
 | _,_,.cons r t,f=>.cons (f _ _ r) (Paired.Hq t f)
theorem aF.CH (x:aF P w H h a o)(k:∀ b u,(b=a∨H b=some (.own a))->h.get? b=some u->h'.get? b=some u)
  (ho:∀ b,H b=some (.own a)->H' b=some (.own a)) (ht:∀ b xs,H b=some (.tup xs)->H' b=some (.tup xs)):aF P w H' h' a o:=by
 induction o with
 | lst xs=>obtain⟨z,its,n,r,e⟩:=x;exact⟨z,its,n,r,k _ _ (.inl rfl) e⟩
 | tup xs=>obtain⟨z,its,r,ob,e,c⟩:=x;exact⟨z,its,r,ob,k _ _ (.inl rfl) e,c⟩
 | dK kvs=>obtain⟨z,y,vs,r,ob,es,ep,e,c⟩:=x;exact⟨z,y,vs,r,ob,es,ep,k _ _ (.inl rfl) e,c⟩
 | dT kvs=>
  obtain⟨z,y,xs,r,ob,es,ep,e,c⟩:=x
  exact⟨z,y,xs,Paired.Hq r fun p q z=>⟨z.1,ht _ _ z.2.1,z.2.2⟩,ob,es,ep,k _ _ (.inl rfl) e,c⟩
 | set S n=>obtain⟨ob,es,ep,t,e,c⟩:=x;exact⟨ob,es,ep,t,k _ _ (.inl rfl) e,c⟩
 | ins C dx fs=>
  obtain⟨d,z,ne,e,mA,⟨od,es,ep,e2,c⟩,r⟩:=x
  exact⟨ho _ d,z,ne,k _ _ (.inl rfl) e,mA,⟨od,es,ep,k _ _ (.inr d) e2,c⟩,r⟩
 | own y=>obtain⟨ob,e⟩:=x;exact⟨ob,k _ _ (.inl rfl) e⟩
 | xd fs=>obtain⟨mA,⟨od,es,ep,e,c⟩,r⟩:=x;exact⟨mA,⟨od,es,ep,k _ _ (.inl rfl) e,c⟩,r⟩
 | Ft lo hi=>obtain⟨t,u,v,e⟩:=x;exact⟨t,u,v,k _ _ (.inl rfl) e⟩
 | BI ob u ih=>obtain⟨e,q⟩:=x;exact⟨k _ _ (.inl rfl) e,ih q⟩
 | GR ps=>
  have e:h.get? a=some {cls:=.none,data:=.fields ps}:=x
  show h'.get? a=some {cls:=.none,data:=.fields ps}
  exact k a _ (.inl rfl) e
 | met f y=>
  have e:h.get? a=some (PySem.W.methodObj (.ref f) (.ref y)):=x
  show h'.get? a=some (PySem.W.methodObj (.ref f) (.ref y))
  exact k a _ (.inl rfl) e
 | ext φ=>obtain⟨p,⟨o,e⟩,st⟩:=x;exact⟨st _ _ p fun o q=>k _ _ (.inl rfl) q,⟨o,k _ _ (.inl rfl) e⟩,st⟩
theorem BX.lt (x:BX P w H h)(e:H a=some o):a < h.objs.size:=(x a o e).lt
theorem BX.fresh (x:BX P w H h)(e:h.objs.size<=a):H a=none:=by
 cases q:H a with
 | none=>rfl
 | some u=>exact absurd (Nat.lt_of_lt_of_le (x.lt q) e) (Nat.lt_irrefl _)
theorem BX.kept (x:BX P w H h)(k:∀ b u,h.get? b=some u->h'.get? b=some u):BX P w H h':=fun a o e=>
 (x a o e).CH (fun b u _ q=>k b u q) (fun _ q=>q) fun _ _ q=>q
theorem BX.laid (x:BX P w H h)(k:∀ b u,h.get? b=some u->h'.get? b=some u)(hp:h.objs.size<=a)(new:aF P w (upd H a o) h' a o):BX P w (upd H a o) h':=fun b u e=>by
 have hn:=x.fresh hp
 by_cases hb:b=a
 ·subst hb;rw[aq] at e;cases e;exact new
 ·rw[ag hb] at e
  exact(x b u e).CH (fun c v _ q=>k c v q) (fun c q=>by rw[ag (aw q hn)];exact q) fun c xs q=>by rw[ag (aw q hn)];exact q
end
def Rd (H:Hp)(a:Addr)(u:HO):Prop:=H a=some u∨∃ o,H a=some (.BI o u)
theorem Rd.ok {P:Program}{w:World}{H:Hp}{h:Heap}{a:Addr}{u:HO}(r:Rd H a u)(x:BX P w H h):aF P w H h a u:=by
 rcases r with r|⟨o,r⟩
 ·exact x a u r
 ·obtain⟨_,q⟩:=x a _ r
  exact q
noncomputable def Jy:Option HO->Prop
 | some (.lst _)=>True
 | some (.dK _)=>True
 | some (.dT _)=>True
 | some (.set _ _)=>True
 | some (.ins _ _ _)=>True
 | some (.ext _)=>True
 | _=>False
section
variable {P:Program}{w:World}{H:Hp}{h h':Heap}{x e:Addr}{o':HO}
theorem BX.write (ok:BX P w H h)(mu:Jy (H x))(he:e=x∨H e=some (.own x))(k:∀ b u,b≠e->h.get? b=some u->h'.get? b=some u)(IP:∃ u,h'.get? e=some u)
  (new:aF P w (upd H x o') h' x o'):BX P w (upd H x o') h':=fun b u q=>by
 have qT:∀ c y,H c=some (.own y)->c≠x:=fun c y r z=>by subst z;rw[r] at mu;exact mu
 have Lx:∀ c xs,H c=some (.tup xs)->c≠x:=fun c xs r z=>by subst z;rw[r] at mu;exact mu
 by_cases hb:b=x
 ·subst hb;rw[aq] at q;cases q;exact new
 ·rw[ag hb] at q
  by_cases Hr:b=e
  ·have q':H b=some (.own x):=by
    rcases he with z|z
    ·exact absurd (Hr.trans z) hb
    ·rw[Hr];exact z
   rw[q] at q';cases q'
   obtain⟨v,hv⟩:=IP
   exact⟨v,by rw[Hr];exact hv⟩
  ·refine(ok b u q).CH (fun c v hc r=>k c v ?_ r) (fun c r=>by rw[ag (qT c b r)];exact r) fun c xs r=>by rw[ag (Lx c xs r)];exact r
   rcases hc with rfl|hc
   ·exact Hr
   ·rintro rfl
    rcases he with z|z
    ·exact qT c b hc z
    ·rw[hc] at z;cases z;exact hb rfl
end
structure Un (fs ex:List Addr)(H H':Hp)(h h':Heap):Prop where
 keep:∀ b o,h.get? b=some o->H b=none->b∉fs->b∉ex->h'.get? b=some o
 slot:∀ b o,h.get? b=some o->H b=none->b∈fs->b∉ex->∃ sl,h'.get? b=some {o with slots:=sl}
 free:∀ b o,h.get? b=some o->H b=none->b∉ex->H' b=none
 there:∀ b o,h.get? b=some o->b∉ex->∃ o',h'.get? b=some o'
 Cn:∀ b xs,H b=some (.tup xs)->H' b=some (.tup xs)
 B8:∀ b o u,H b=some (.BI o u)->H' b=some (.BI o u)
 Di:∀ b ps,H b=some (.GR ps)->∃ more,H' b=some (.GR (ps++more))
section
variable {fs SU ex Jz:List Addr}{H H1 H2:Hp}{h h1 h2 h':Heap}{a x e:Addr}{o:HO}
theorem Un.any (u:Un fs ex H H1 h h1){b:Addr}{ob:Obj}(q:h.get? b=some ob)(n:H b=none)(hx:b∉ex):∃ sl,h1.get? b=some {ob with slots:=sl}:=by
 by_cases hb:b∈fs
 ·exact u.slot b ob q n hb hx
 ·exact⟨ob.slots,u.keep b ob q n hb hx⟩
theorem Un.kept (k:∀ b u,h.get? b=some u->h'.get? b=some u):Un fs ex H H h h':=
 ⟨fun b ob q _ _ _=>k b ob q,fun b ob q _ _ _=>⟨ob.slots,k b ob q⟩,fun _ _ _ n _=>n,fun b ob q _=>⟨ob,k b ob q⟩,fun _ _ q=>q,fun _ _ _ q=>q,fun _ ps q=>⟨#[],by rw[q];simp⟩⟩
theorem Un.refl:Un fs ex H H h h:=Un.kept fun _ _ q=>q
theorem Un.laid (k:∀ b u,h.get? b=some u->h'.get? b=some u)(hp:h.objs.size<=a)(hn:H a=none):Un fs ex H (upd H a o) h h' where
 keep:=fun b u q _ _ _=>k b u q
 slot:=fun b u q _ _ _=>⟨u.slots,k b u q⟩
 free:=fun b u q n _=>by rw[ag (Nat.ne_of_lt (Nat.lt_of_lt_of_le (Heap.lt_size q) hp))];exact n
 there:=fun b u q _=>⟨u,k b u q⟩
 Cn:=fun b xs q=>by rw[ag (aw q hn)];exact q
 B8:=fun b u xs q=>by rw[ag (aw q hn)];exact q
 Di:=fun b ps q=>⟨#[],by rw[ag (aw q hn),q];simp⟩
theorem Un.write (mu:Jy (H x))(he:e=x∨H e=some (.own x))(k:∀ b u,b≠e->h.get? b=some u->h'.get? b=some u)(IP:∃ u,h'.get? e=some u):Un fs ex H (upd H x o) h h':=by
 have hx:∀ b,H b=none->b≠x:=fun b n z=>by subst z;rw[n] at mu;exact mu
 have hb:∀ b,H b=none->b≠e:=fun b n z=>by
  subst z
  rcases he with r|r
  ·exact hx b n r
  ·rw[n] at r;cases r
 have hm:∀ b u,H b=some u->¬ Jy (some u)->b≠x:=fun b u q nm z=>by subst z;rw[q] at mu;exact nm mu
 refine⟨fun b u q n _ _=>k b u (hb b n) q,fun b u q n _ _=>⟨u.slots,k b u (hb b n) q⟩,fun b u q n _=>by rw[ag (hx b n)];exact n,fun b u q _=>?_,
  fun b xs q=>by rw[ag (hm b _ q fun z=>z)];exact q,fun b u xs q=>by rw[ag (hm b _ q fun z=>z)];exact q,fun b ps q=>⟨#[],by rw[ag (hm b _ q fun z=>z),q];simp⟩⟩
 by_cases Hr:b=e
 ·subst Hr;exact IP
 ·exact⟨u,k b u Hr q⟩
end
noncomputable def Hs (h:Heap)(H:Hp):List Addr:=(List.range h.objs.size).filter fun a=>(H a).isSome
noncomputable def fV (h:Heap)(H:Hp):Heap:=PySem.W.hideAll h (Hs h H)
theorem kS (h:Heap)(H:Hp):(fV h H).objs.size=h.objs.size:=PySem.W.hideAll_size _ _
theorem lV {h:Heap}{H:Hp}{b:Addr}{o:Obj}(e:h.get? b=some o)(n:H b=none):(fV h H).get? b=some o:=
 PySem.W.hideAll_get _ e fun hm=>by
  have q:(H b).isSome=true:=(List.mem_filter.mp hm).2
  rw[n] at q;simp at q
theorem qe {h:Heap}{H:Hp}{b:Addr}{o:Obj}(e:(fV h H).get? b=some o):h.get? b=some o/\H b=none:=by
 have e':h.get? b=some o:=PySem.W.of_hideAll (Hs h H) e
 refine⟨e',?_⟩
 cases q:H b with
 | none=>rfl
 | some x=>
  have hm:b∈Hs h H:=List.mem_filter.mpr ⟨List.mem_range.mpr (Heap.lt_size e'),by simp[q]⟩
  have z:(fV h H).get? b=none:=PySem.W.hideAll_none (Hs h H) hm
  rw[z] at e;cases e
structure Mod (K:PySem.W.Frag)(mg:Str->Option Value)(base:Heap):Prop where
 Ht:K.In base
 glob:base.Ns mainGlobals mg
 blt:∃ mb,base.Ns builtinsNs mb/\∀ x:Str,x≠"__name__"->mb x=bootBuiltins x
 nolimit:base.NoLimit
structure Cx where
 prog:Program
 w:World
 K:PySem.W.Frag
 mg:Str->Option Value
 base:Heap
 A:Around
 N:List Str
 BS:Shared
 Cr:Hp
 env:Env
 outer:List Env
 stack:List Env
 ex:List Addr
 fn:Str->Bool
 calm:Bool
 pn:List (Addr×Obj)
 xe:Value->Shared->Prop
noncomputable def Cg (l:List Env):List Addr:=l.filterMap (·.frame)
noncomputable abbrev Cx.fs (X:Cx):List Addr:=Cg X.outer
def JA (sc:Scope)(x:Str):Prop:=sc.names.lookup x=some .local∨sc.names.lookup x=some .cell∨sc.names.lookup x=some .free
def Loc (sc:Scope)(x:Str):Prop:=sc.names.lookup x=some .local∨sc.names.lookup x=some .cell
def Look (env:Env)(h:Heap)(m:Str->Option Value)(x:Str)(u:Value):Prop:=
 (env.kindOf x=some .local/\m x=some u)∨((env.kindOf x=some .cell∨env.kindOf x=some .free)/\∃ c,env.cells.lookup x=some c/\h.IsCell c (some u))
structure Cx.Ok (X:Cx):Prop where
 mod:Mod X.K X.mg X.base
 kind:X.env.scope.kind=.function
 glob:X.env.globals=mainGlobals
 blt:X.env.builtins=builtinsNs
 above:X.BS.heap.objs.size<=X.env.locals
 inj:∀ x y c,X.env.cells.lookup x=some c->X.env.cells.lookup y=some c->x=y
 has:∀ x,(X.env.kindOf x=some .cell∨X.env.kindOf x=some .free)->∃ c,X.env.cells.lookup x=some c
 Gj:∀ x c,X.fn x=true->X.env.cells.lookup x=some c->X.BS.heap.objs.size<=c
 hd:X.calm=true->X.A.handled=none
 frames:X.A.frames=some X.stack
 Bu:X.stack=X.outer∨(X.stack=X.env::X.outer/\X.env.frame=some X.env.locals)
 GS:∀ b∈X.ex,b≠X.env.locals/\∀ x c,X.env.cells.lookup x=some c->c≠b
 bs:∀ b o,X.base.get? b=some o->X.BS.heap.get? b=some o/\X.Cr b=none
 Et:X.base.objs.size<=X.BS.heap.objs.size
 DF:∀ b o,X.base.get? b=some o->b∉X.ex
 DG:∀ b∈X.ex,b∉X.fs
 B9:X.BS.heap.FunFrames X.base X.outer
 DH:∀ b∈X.fs,X.Cr b=none
structure Inv (X:Cx)(pins:List (Addr×Obj))(σ:List (Option V))(H:Hp)(s:Shared):Prop where
 ok:X.Ok
 os:s.os=X.BS.os
 bare:AllBare s.gens
 base:Un X.fs X.ex X.Cr H X.BS.heap s.heap
 loc:∃ m,s.heap.Ns X.env.locals m/\∀ (i:Nat) (x:Str) (v:V),X.N[i]? = some x->σ[i]? = some (some v)->JA X.env.scope x->∃ u,RelV v u/\Look X.env s.heap m x u
 cell:∀ x c,X.env.cells.lookup x=some c->∃ v,s.heap.IsCell c v
 free:H X.env.locals=none
 BY:∀ x c,X.env.cells.lookup x=some c->H c=none
 pin:∀ p∈X.pn++pins,s.heap.get? p.1=some p.2/\H p.1=none/\p.1≠X.env.locals/\p.1∉X.fs/\∀ v,p.2.data≠.cell v
 BD:BX X.prog X.w H s.heap
 len:σ.length=X.N.length
section
variable {X:Cx}{pins:List (Addr×Obj)}{σ:List (Option V)}{H H':Hp}{s:Shared}{h':Heap}
theorem Cx.Ok.Ly (ok:X.Ok){b:Addr}{o:Obj}(e:X.base.get? b=some o):b∉X.fs:=fun hb=>by
 have:=(ok.B9.mem hb).1
 rw[e] at this;cases this
theorem Inv.bs (I:Inv X pins σ H s):∀ b o,X.base.get? b=some o->s.heap.get? b=some o/\H b=none:=fun b o e=>
 ⟨I.base.keep b o (I.ok.bs b o e).1 (I.ok.bs b o e).2 (I.ok.Ly e) (I.ok.DF b o e),I.base.free b o (I.ok.bs b o e).1 (I.ok.bs b o e).2 (I.ok.DF b o e)⟩
theorem Inv.bk (I:Inv X pins σ H s):∀ b o,X.base.get? b=some o->s.heap.get? b=some o:=fun b o e=>(I.bs b o e).1
theorem Inv.mod (I:Inv X pins σ H s):Mod X.K X.mg X.base:=I.ok.mod
theorem Inv.Dv (I:Inv X pins σ H s):X.K.In s.heap:=I.ok.mod.Ht.keeps I.bk
theorem Inv.lt (I:Inv X pins σ H s):X.env.locals < s.heap.objs.size:=let ⟨_,hn,_⟩:=I.loc;hn.lt
theorem Inv.sz (I:Inv X pins σ H s):X.BS.heap.objs.size<=s.heap.objs.size:=Nat.le_trans I.ok.above (Nat.le_of_lt I.lt)
theorem Inv.Lz (I:Inv X pins σ H s){a:Addr}(h:s.heap.objs.size<=a):a∉X.fs:=fun hb=>by
 obtain⟨_,o,ho,_⟩:=I.ok.B9.mem hb
 exact absurd (Nat.lt_of_lt_of_le (Heap.lt_size ho) (Nat.le_trans I.sz h)) (Nat.lt_irrefl _)
theorem Inv.FJ (I:Inv X pins σ H s):∀ x c,X.env.cells.lookup x=some c->c≠X.env.locals:=fun x c e z=>by
 obtain⟨v,o,ho,hd⟩:=I.cell x c e
 obtain⟨m,⟨o',es,ep,CD,LA,_⟩,_⟩:=I.loc
 rw[z,CD] at ho;cases ho;rw[LA] at hd;cases hd
theorem Inv.B9 (I:Inv X pins σ H s):s.heap.FunFrames X.base X.outer:=by
 have all:∀ (l:List Env),(∀ b∈Cg l,b∈X.fs)->X.BS.heap.FunFrames X.base l->s.heap.FunFrames X.base l:=by
  intro l
  induction l with
  | nil=>intro _ _;trivial
  | cons env r ih=>
   intro hs hl
   obtain⟨hk,⟨L,o,hf,hn,ho,hd⟩,hr⟩:=hl
   have hL:L∈X.fs:=hs L (by unfold Cg;rw[List.filterMap_cons,hf];exact List.mem_cons_self)
   obtain⟨sl,e⟩:=I.base.slot L o ho (I.ok.DH L hL) hL fun z=>I.ok.DG L z hL
   exact⟨hk,⟨L,_,hf,hn,e,hd⟩,ih (fun b hb=>hs b (by unfold Cg;rw[List.filterMap_cons,hf];exact List.mem_cons_of_mem _ hb)) hr⟩
 exact all X.outer (fun _ hb=>hb) I.ok.B9
theorem Inv.stack (I:Inv X pins σ H s):s.heap.FunFrames X.base X.stack:=by
 rcases I.ok.Bu with e|⟨e,hf⟩
 ·rw[e];exact I.B9
 ·rw[e]
  obtain⟨m,hn,_⟩:=I.loc
  refine .cons (by rw[I.ok.kind];decide) hf hn ?_ I.B9
  exact Heap.get?_none_of_le (Nat.le_trans I.ok.Et I.ok.above)
theorem Inv.Eu (I:Inv X pins σ H s):∀ b∈Cg X.stack,b∈X.env.locals::X.fs:=fun b hb=>by
 rcases I.ok.Bu with e|⟨e,hf⟩
 ·rw[e] at hb;exact List.mem_cons_of_mem _ hb
 ·rw[e] at hb
  unfold Cg at hb
  rw[List.filterMap_cons,hf] at hb
  exact hb
theorem Inv.DI (I:Inv X pins σ H s):∀ b∈Cg X.stack,H b=none:=fun b hb=>by
 rcases List.mem_cons.mp (I.Eu b hb) with e|hb
 ·rw[e];exact I.free
 ·obtain⟨_,o,ho,_⟩:=I.ok.B9.mem hb
  exact I.base.free b o ho (I.ok.DH b hb) fun z=>I.ok.DG b z hb
theorem Inv.step {g':Array GenState}{t':Nat}{d':Drawn}{ch:List Addr}(I:Inv X pins σ H s)
  (Fu:∀ b∈ch,(b∈X.ex∨X.BS.heap.objs.size<=b)/\b≠X.env.locals/\(∀ x c,X.env.cells.lookup x=some c->c≠b)/\∀ p∈X.pn++pins,p.1≠b)
  (keep:∀ b o,b≠X.env.locals->b∉X.fs->b∉ch->s.heap.get? b=some o->H b=none->h'.get? b=some o)
  (slot:∀ b o,b≠X.env.locals->b∈X.fs->b∉ch->s.heap.get? b=some o->H b=none->∃ sl,h'.get? b=some {o with slots:=sl}) (free:∀ b o,b∉ch->s.heap.get? b=some o->H b=none->H' b=none)
  (there:∀ b o,b∉ch->s.heap.get? b=some o->∃ o',h'.get? b=some o')
  (Cn:∀ b xs,H b=some (.tup xs)->H' b=some (.tup xs)) (B8:∀ b o u,H b=some (.BI o u)->H' b=some (.BI o u)) (Di:∀ b ps,H b=some (.GR ps)->∃ more,H' b=some (.GR (ps++more)))
  (ns:∀ m,s.heap.Ns X.env.locals m->h'.Ns X.env.locals m) (BD:BX X.prog X.w H' h') (hg:AllBare g') :
  Inv X pins σ H' {s with heap:=h',gens:=g',drawn:=d',toks:=t'}:=by
 have Nr:∀ b o,X.BS.heap.get? b=some o->b≠X.env.locals:=fun b o e=>Nat.ne_of_lt (Nat.lt_of_lt_of_le (Heap.lt_size e) I.ok.above)
 have KU:∀ b o,X.BS.heap.get? b=some o->b∉X.ex->b∉ch:=fun b o e hx hb=>by
  rcases (Fu b hb).1 with z|z
  ·exact hx z
  ·exact absurd (Nat.lt_of_lt_of_le (Heap.lt_size e) z) (Nat.lt_irrefl _)
 have cellK:∀ x c,X.env.cells.lookup x=some c->∀ v,s.heap.IsCell c v->h'.IsCell c v:=fun x c e v ⟨o,ho,hd⟩=>by
  have JB:c∉ch:=fun z=>(Fu c z).2.2.1 x c e rfl
  by_cases hc:c∈X.fs
  ·obtain⟨sl,q⟩:=slot c o (I.FJ x c e) hc JB ho (I.BY x c e)
   exact⟨_,q,hd⟩
  ·exact⟨o,keep c o (I.FJ x c e) hc JB ho (I.BY x c e),hd⟩
 refine⟨I.ok,I.os,hg,⟨fun b o e n hb hx=>?_,fun b o e n hb hx=>?_,fun b o e n hx=>?_,fun b o e hx=>?_,fun b xs e=>Cn b xs (I.base.Cn b xs e),fun b o xs e=>B8 b o xs (I.base.B8 b o xs e),fun b ps e=>?_⟩,?_,fun x c e=>?_,?_,fun x c e=>?_,fun p hp=>?_,BD,I.len⟩
 ·exact keep b o (Nr b o e) hb (KU b o e hx) (I.base.keep b o e n hb hx) (I.base.free b o e n hx)
 ·obtain⟨sl,e1⟩:=I.base.slot b o e n hb hx
  obtain⟨GU,e2⟩:=slot b _ (Nr b o e) hb (KU b o e hx) e1 (I.base.free b o e n hx)
  exact⟨GU,e2⟩
 ·obtain⟨o',e1⟩:=I.base.there b o e hx
  exact free b o' (KU b o e hx) e1 (I.base.free b o e n hx)
 ·obtain⟨o',e1⟩:=I.base.there b o e hx
  exact there b o' (KU b o e hx) e1
 ·obtain⟨m1,e1⟩:=I.base.Di b ps e
  obtain⟨m2,e2⟩:=Di b _ e1
  exact⟨m1++m2,by rw[e2,Array.append_assoc]⟩
 ·obtain⟨m,hn,hl⟩:=I.loc
  refine⟨m,ns m hn,fun i x v e1 e2 e3=>?_⟩
  obtain⟨u,r,l⟩:=hl i x v e1 e2 e3
  refine⟨u,r,?_⟩
  rcases l with l|⟨k,c,e,z⟩
  ·exact .inl l
  ·exact .inr ⟨k,c,e,cellK x c e _ z⟩
 ·obtain⟨v,z⟩:=I.cell x c e
  exact⟨v,cellK x c e v z⟩
 ·obtain⟨m,⟨o,_,_,ho,_⟩,_⟩:=I.loc
  exact free _ o (fun z=>(Fu _ z).2.1 rfl) ho I.free
 ·obtain⟨v,o,ho,hd⟩:=I.cell x c e
  exact free c o (fun z=>(Fu c z).2.2.1 x c e rfl) ho (I.BY x c e)
 ·obtain⟨e,n,ne,nf,d⟩:=I.pin p hp
  have JB:p.1∉ch:=fun z=>(Fu p.1 z).2.2.2 p hp rfl
  exact⟨keep p.1 p.2 ne nf JB e n,free p.1 p.2 JB e n,ne,nf,d⟩
theorem Inv.un {t':Nat}(I:Inv X pins σ H s)(u:Un X.fs [] H H' s.heap h')(BD:BX X.prog X.w H' h'):Inv X pins σ H' {s with heap:=h',toks:=t'}:=by
 obtain⟨m,⟨o,es,ep,ho,r⟩,_⟩:=id I.loc
 obtain⟨sl,hL⟩:=u.any ho I.free (by simp)
 exact I.step (g':=s.gens) (d':=s.drawn) (ch:=[]) (fun _ z=>nomatch z) (fun b o _ hb _ e n=>u.keep b o e n hb (by simp)) (fun b o _ hb _ e n=>u.slot b o e n hb (by simp)) (fun b o _ e n=>u.free b o e n (by simp)) (fun b o _ e=>u.there b o e (by simp)) u.Cn u.B8 u.Di (fun m' hm=>by
  obtain⟨o',Dt,LB,CD,r'⟩:=hm
  rw[ho] at CD;cases CD
  exact⟨_,Dt,LB,hL,r'⟩) BD I.bare
theorem Inv.call {g':Array GenState}{t':Nat}{d':Drawn}{ch:List Addr}(I:Inv X pins σ H s)(u:Un (Cg X.stack) ch H H' s.heap h')(BD:BX X.prog X.w H' h')(hg:AllBare g')
  (Fu:∀ b∈ch,(b∈X.ex∨X.BS.heap.objs.size<=b)/\b≠X.env.locals/\(∀ x c,X.env.cells.lookup x=some c->c≠b)/\∀ p∈X.pn++pins,p.1≠b) :
  Inv X pins σ H' {s with heap:=h',gens:=g',drawn:=d',toks:=t'}:=by
 obtain⟨m,⟨o,es,ep,ho,r⟩,_⟩:=id I.loc
 obtain⟨sl,hL⟩:=u.any ho I.free fun z=>(Fu _ z).2.1 rfl
 exact I.step (ch:=ch) Fu (fun b o hL hb hc e n=>u.keep b o e n (fun z=>(List.mem_cons.mp (I.Eu b z)).elim hL hb) hc) (fun b o _ _ hc e n=>u.any e n hc) (fun b o hc e n=>u.free b o e n hc) (fun b o hc e=>u.there b o e hc) u.Cn u.B8 u.Di (fun m' hm=>by
  obtain⟨o',Dt,LB,CD,r'⟩:=hm
  rw[ho] at CD;cases CD
  exact⟨_,Dt,LB,hL,r'⟩) BD hg
theorem Inv.turned {t':Nat}{it:Addr}(I:Inv X pins σ H s)(k:∀ b o,b≠it->s.heap.get? b=some o->h'.get? b=some o)(hn:H it=none)(hL:it≠X.env.locals)
  (h1:it∈X.ex∨X.BS.heap.objs.size<=it) (h2:∀ x c,X.env.cells.lookup x=some c->c≠it) (h3:∀ p∈X.pn++pins,p.1≠it):Inv X pins σ H {s with heap:=h',toks:=t'}:=by
 have GV:∀ b u,H b=some u->b≠it:=fun b u e z=>by rw[z,hn] at e;cases e
 refine I.step (g':=s.gens) (d':=s.drawn) (ch:=[it]) (fun b hb=>?_) (fun b o _ _ hc e _=>k b o (fun z=>hc (by simp[z])) e) (fun b o _ _ hc e _=>⟨o.slots,k b o (fun z=>hc (by simp[z])) e⟩) (fun _ _ _ _ n=>n)
  (fun b o hc e=>⟨o,k b o (fun z=>hc (by simp[z])) e⟩) (fun _ _ e=>e) (fun _ _ _ e=>e) (fun b ps e=>⟨#[],by rw[e];simp⟩) (fun m hm=>?_) (fun b u e=>?_) I.bare
 ·have e:b=it:=by simpa using hb
  subst e
  exact⟨h1,hL,h2,h3⟩
 ·obtain⟨o,es,ep,ho,r⟩:=hm
  exact⟨o,es,ep,k _ o (Ne.symm hL) ho,r⟩
 ·refine(I.BD b u e).CH (fun c v hc q=>k c v ?_ q) (fun _ q=>q) fun _ _ q=>q
  rcases hc with z|z
  ·rw[z];exact GV b u e
  ·exact GV c _ z
theorem Inv.tok (I:Inv X pins σ H s)(t:Nat):Inv X pins σ H {s with toks:=t}:=I.un (h':=s.heap) (t':=t) Un.refl I.BD
theorem Inv.kept {t':Nat}(I:Inv X pins σ H s)(k:∀ b u,s.heap.get? b=some u->h'.get? b=some u):Inv X pins σ H {s with heap:=h',toks:=t'}:=I.un (Un.kept k) (I.BD.kept k)
theorem Inv.laid {a:Addr}{o:HO}{t':Nat}(I:Inv X pins σ H s)(k:∀ b u,s.heap.get? b=some u->h'.get? b=some u)(hp:s.heap.objs.size<=a)(new:aF X.prog X.w (upd H a o) h' a o) :
  Inv X pins σ (upd H a o) {s with heap:=h',toks:=t'}:=I.un (Un.laid k hp (I.BD.fresh hp)) (I.BD.laid k hp new)
theorem Inv.write {x e:Addr}{o:HO}{t':Nat}(I:Inv X pins σ H s)(mu:Jy (H x))(he:e=x∨H e=some (.own x))(k:∀ b u,b≠e->s.heap.get? b=some u->h'.get? b=some u)(IP:∃ u,h'.get? e=some u)
  (new:aF X.prog X.w (upd H x o) h' x o):Inv X pins σ (upd H x o) {s with heap:=h',toks:=t'}:=I.un (Un.write mu he k IP) (I.BD.write mu he k IP new)
theorem Inv.ET {CY:List (Addr×Obj)}(I:Inv X pins σ H s)(h:∀ p∈CY,s.heap.get? p.1=some p.2/\H p.1=none/\p.1≠X.env.locals/\p.1∉X.fs/\∀ v,p.2.data≠.cell v):Inv X CY σ H s:=
 ⟨I.ok,I.os,I.bare,I.base,I.loc,I.cell,I.free,I.BY,fun p hp=>(List.mem_append.mp hp).elim (fun z=>I.pin p (List.mem_append_left _ z)) (h p),I.BD,I.len⟩
theorem dQ {N:List Str}(hN:N.Nodup){i j:Nat}{x:Str}(a:N[i]? = some x)(b:N[j]? = some x):i=j:=by
 obtain⟨h1,e1⟩:=List.getElem?_eq_some_iff.mp a
 obtain⟨h2,e2⟩:=List.getElem?_eq_some_iff.mp b
 exact(List.getElem_inj hN).mp (e1.trans e2.symm)
theorem eZ {M:Model}{A:Around}{E:Value->Shared->Prop}{i:Nat}{x:Str}{v:V}{u:Value}{Q:Unit->Shared->Prop}(I:Inv X pins σ H s)(hN:X.N.Nodup)(hi:X.N[i]? = some x)(hx:Loc X.env.scope x)(r:RelV v u)
  (h:∀ s',Inv X pins (σ.set i (some v)) H s'->(∃ a,Heap.SameBut a s.heap s'.heap/\(a=X.env.locals∨X.env.cells.lookup x=some a))->Q () s') (hf:X.fn x=true∨X.env.scope.names.lookup x=some .local:=by first|exact .inl rfl|exact .inr rfl|assumption):wpAny M A (storeName X.env x u) Q E s:=by
 obtain⟨m,hn,hl⟩:=id I.loc
 have Ew:(X.env.scope.kind == .class||(X.env.scope.kind == .module&&X.env.locals != X.env.globals))=false:=by rw[I.ok.kind];rfl
 have Gk:i < σ.length:=by rw[I.len];exact(List.getElem?_eq_some_iff.mp hi).1
 have FJ:=I.FJ
 have tracked:∀ {a:Addr}{h':Heap},(∃ o,s.heap.get? a=some o/\H a=none)->Heap.SameBut a s.heap h'->BX X.prog X.w H h':=fun {a h'} ha hs b ob e=>by
  obtain⟨_,_,EU⟩:=ha
  refine(I.BD b ob e).CH (fun c w' hc q=>(hs.2 c ?_).trans q) (fun _ q=>q) fun _ _ q=>q
  rintro rfl
  rcases hc with rfl|hc
  ·rw[EU] at e;cases e
  ·rw[EU] at hc;cases hc
 rcases hx with hk|hk
 ·refine wpAny_storeName_local hk hn (fun h' DA hs=>?_) Ew
  obtain⟨oL,_,_,Nt,_⟩:=id hn
  refine h _ ⟨I.ok,I.os,I.bare,⟨fun b o e n hb hx=>?_,fun b o e n hb hx=>?_,I.base.free,fun b o e hx=>?_,I.base.Cn,I.base.B8,I.base.Di⟩,⟨_,DA,fun j y v' e1 e2 e3=>?_⟩,fun y c e=>?_,I.free,I.BY,fun p hp=>?_,tracked ⟨oL,Nt,I.free⟩ hs,by simpa using I.len⟩ ⟨_,hs,.inl rfl⟩
  ·exact(hs.2 b (Nat.ne_of_lt (Nat.lt_of_lt_of_le (Heap.lt_size e) I.ok.above))).trans (I.base.keep b o e n hb hx)
  ·obtain⟨sl,e1⟩:=I.base.slot b o e n hb hx
   exact⟨sl,(hs.2 b (Nat.ne_of_lt (Nat.lt_of_lt_of_le (Heap.lt_size e) I.ok.above))).trans e1⟩
  ·obtain⟨o',e1⟩:=I.base.there b o e hx
   exact⟨o',(hs.2 b (Nat.ne_of_lt (Nat.lt_of_lt_of_le (Heap.lt_size e) I.ok.above))).trans e1⟩
  ·by_cases hj:j=i
   ·subst hj
    rw[hi] at e1;cases e1
    rw[List.getElem?_set_self Gk] at e2
    cases e2
    exact⟨u,r,.inl ⟨hk,by simp⟩⟩
   ·rw[List.getElem?_set_ne (Ne.symm hj)] at e2
    obtain⟨u',r',q⟩:=hl j y v' e1 e2 e3
    refine⟨u',r',?_⟩
    rcases q with ⟨k,e⟩|⟨k,c,e,z⟩
    ·refine .inl ⟨k,?_⟩
     have:y≠x:=fun e=>hj (dQ hN e1 (e ▸ hi))
     simp[this,e]
    ·exact .inr ⟨k,c,e,z.sameBut hs (FJ y c e)⟩
  ·obtain⟨w',z⟩:=I.cell y c e
   exact⟨w',z.sameBut hs (FJ y c e)⟩
  ·obtain⟨e,n,ne,nf,d⟩:=I.pin p hp
   exact⟨(hs.2 p.1 ne).trans e,n,ne,nf,d⟩
 ·have JC:X.fn x=true:=by
   rcases hf with z|z
   ·exact z
   ·rw[z] at hk;cases hk
  obtain⟨c,hc⟩:=I.ok.has x (.inl hk)
  obtain⟨w',z⟩:=I.cell x c hc
  refine wpAny_storeName_cell I.ok.kind hk hc z (fun h' FK hs=>?_)
  obtain⟨oc,Nu,LC⟩:=id z
  refine h {s with heap:=h'} ⟨I.ok,I.os,I.bare,⟨fun b o e n hb hx=>?_,fun b o e n hb hx=>?_,I.base.free,fun b o e hx=>?_,I.base.Cn,I.base.B8,I.base.Di⟩,⟨m,hn.sameBut hs (Ne.symm (FJ x c hc)),fun j y v' e1 e2 e3=>?_⟩,fun y c' e=>?_,I.free,I.BY,fun p hp=>?_,tracked ⟨oc,Nu,I.BY x c hc⟩ hs,by simpa using I.len⟩ ⟨c,hs,.inr hc⟩
  ·exact(hs.2 b (Nat.ne_of_lt (Nat.lt_of_lt_of_le (Heap.lt_size e) (I.ok.Gj x c JC hc)))).trans (I.base.keep b o e n hb hx)
  ·obtain⟨sl,e1⟩:=I.base.slot b o e n hb hx
   exact⟨sl,(hs.2 b (Nat.ne_of_lt (Nat.lt_of_lt_of_le (Heap.lt_size e) (I.ok.Gj x c JC hc)))).trans e1⟩
  ·obtain⟨o',e1⟩:=I.base.there b o e hx
   exact⟨o',(hs.2 b (Nat.ne_of_lt (Nat.lt_of_lt_of_le (Heap.lt_size e) (I.ok.Gj x c JC hc)))).trans e1⟩
  ·by_cases hj:j=i
   ·subst hj
    rw[hi] at e1;cases e1
    rw[List.getElem?_set_self Gk] at e2
    cases e2
    exact⟨u,r,.inr ⟨.inl hk,c,hc,FK⟩⟩
   ·rw[List.getElem?_set_ne (Ne.symm hj)] at e2
    obtain⟨u',r',q⟩:=hl j y v' e1 e2 e3
    refine⟨u',r',?_⟩
    rcases q with q|⟨k,c',e,z'⟩
    ·exact .inl q
    ·refine .inr ⟨k,c',e,z'.sameBut hs ?_⟩
     rintro rfl
     exact hj (dQ hN e1 (I.ok.inj _ _ _ e hc ▸ hi))
  ·by_cases Nv:c'=c
   ·subst Nv;exact⟨_,FK⟩
   ·obtain⟨w2,z2⟩:=I.cell y c' e
    exact⟨w2,z2.sameBut hs Nv⟩
  ·obtain⟨e,n,ne,nf,d⟩:=I.pin p hp
   refine⟨(hs.2 p.1 ?_).trans e,n,ne,nf,d⟩
   intro q
   rw[q,Nu] at e
   have q':oc=p.2:=Option.some.inj e
   exact d w' (by rw[<- q'];exact LC)
theorem cP {M:Model}{A:Around}{E:Value->Shared->Prop}{i:Nat}{x:Str}{v:V}{u:Value}{Q:Unit->Shared->Prop}(I:Inv X pins σ H s)(hN:X.N.Nodup)(hi:X.N[i]? = some x)(hx:Loc X.env.scope x)(r:RelV v u)
  (h:∀ s',Inv X pins (σ.set i (some v)) H s'->Q () s') (hf:X.fn x=true∨X.env.scope.names.lookup x=some .local:=by first|exact .inl rfl|exact .inr rfl|assumption):wpAny M A (storeName X.env x u) Q E s:=
 eZ I hN hi hx r (fun s' I' _=>h s' I') hf
theorem Inv.FL {s':Shared}{ch:List Addr}(I:Inv X pins σ H s)(ho:s'.os=s.os)(u:Un (Cg X.stack) ch H H' s.heap s'.heap)(BD:BX X.prog X.w H' s'.heap)(hg:AllBare s'.gens)
  (Fu:∀ b∈ch,(b∈X.ex∨X.BS.heap.objs.size<=b)/\b≠X.env.locals/\(∀ x c,X.env.cells.lookup x=some c->c≠b)/\∀ p∈X.pn++pins,p.1≠b):Inv X pins σ H' s':=by
 obtain⟨h',g',d',t',o'⟩:=s'
 have e:o'=s.os:=ho
 subst e
 exact I.call (g':=g') (t':=t') (d':=d') u BD hg Fu
end
noncomputable abbrev XK:=Value->Option Addr->Hp->Prop
noncomputable abbrev St:=List (Option V)
noncomputable abbrev VK:=V->Hp->Prop
noncomputable abbrev TE:=St->Hp->VK->Prop
noncomputable abbrev TT:=St->Hp->(Bool->Hp->Prop)->Prop
noncomputable abbrev TA:=St->Hp->(List V->Hp->Prop)->Prop
structure Ends where
 nx:St->Hp->Prop
 rt:VK
 bk:St->Hp->Prop:=fun _ _=>False
 ct:St->Hp->Prop:=fun _ _=>False
noncomputable abbrev TS:=Ends->St->Hp->Prop
def EP (X:Cx)(pins:List (Addr×Obj))(σ:St)(Q:VK)(u:Value)(s':Shared):Prop:=∃ v H',Inv X pins σ H' s'/\RelV v u/\Q v H'
def TP (X:Cx)(pins:List (Addr×Obj))(σ:St)(Q:Bool->Hp->Prop)(b:Bool)(s':Shared):Prop:=∃ H',Inv X pins σ H' s'/\Q b H'
def AP (X:Cx)(pins:List (Addr×Obj))(σ:St)(Q:List V->Hp->Prop)(us:List Value)(s':Shared):Prop:=∃ vs H',Inv X pins σ H' s'/\Vals vs us/\Q vs H'
def SP (X:Cx)(pins:List (Addr×Obj))(D:Ends)(f:Flow)(s':Shared):Prop:=
 match f with
 | .next=>∃ Bz H',Inv X pins Bz H' s'/\D.nx Bz H'
 | .brk=>∃ Bz H',Inv X pins Bz H' s'/\D.bk Bz H'
 | .cont=>∃ Bz H',Inv X pins Bz H' s'/\D.ct Bz H'
 | .ret u=>∃ v Bz H',Inv X pins Bz H' s'/\RelV v u/\D.rt v H'
def PE (X:Cx)(e:Expr)(t:TE):Prop:=
 ∀ (pins:List (Addr×Obj)) (s:Shared) (σ:St) (H:Hp) (Q:VK),Inv X pins σ H s->t σ H Q->wpAny (model X.prog X.w) X.A (eval e X.env) (EP X pins σ Q) X.xe s
def PT (X:Cx)(e:Expr)(t:TT):Prop:=
 ∀ (pins:List (Addr×Obj)) (s:Shared) (σ:St) (H:Hp) (Q:Bool->Hp->Prop),Inv X pins σ H s->t σ H Q->wpAny (model X.prog X.w) X.A (isTrue e X.env (eval e X.env)) (TP X pins σ Q) X.xe s
def PW (X:Cx)(e:Expr)(t:TT):Prop:=
 ∀ (whole:Sem Value) (pins:List (Addr×Obj)) (s:Shared) (σ:St) (H:Hp) (Q:Bool->Hp->Prop),Inv X pins σ H s->t σ H Q->wpAny (model X.prog X.w) X.A (isTrue e X.env whole) (TP X pins σ Q) X.xe s
theorem PW.pt {X:Cx}{e:Expr}{t:TT}(h:PW X e t):PT X e t:=h _
def PA (X:Cx)(es:List Expr)(t:TA):Prop:=
 ∀ (pos:Pos) (pins:List (Addr×Obj)) (s:Shared) (σ:St) (H:Hp) (Q:List V->Hp->Prop),Inv X pins σ H s->t σ H Q->wpAny (model X.prog X.w) X.A (spliced (backTo pos (starEach es X.env))) (AP X pins σ Q) X.xe s
def PS (X:Cx)(st:Stmt)(t:TS):Prop:=
 ∀ (pins:List (Addr×Obj)) (s:Shared) (σ:St) (H:Hp) (D:Ends),Inv X pins σ H s->t D σ H->wpAny (model X.prog X.w) X.A (exec st X.env) (SP X pins D) X.xe s
def Ex (X:Cx)(st:List Stmt)(t:TS):Prop:=
 ∀ (pins:List (Addr×Obj)) (s:Shared) (σ:St) (H:Hp) (D:Ends),Inv X pins σ H s->t D σ H->wpAny (model X.prog X.w) X.A (execs st X.env) (SP X pins D) X.xe s
theorem BG {α:Type}{t:Sem α}{Q Q':α->Shared->Prop}{M:Model}{A:Around}{E:Value->Shared->Prop}{s:Shared}(h:wpAny M A t Q E s)(hQ:∀ a s,Q a s->Q' a s):wpAny M A t Q' E s:=wpAny_mono h hQ fun _ _ x=>x
section
variable {X:Cx}
def uS (i:Nat):TE:=fun σ H Q=>∃ v,σ[i]? = some (some v)/\Q v H
def tC (v:V):TE:=fun _ H Q=>Q v H
theorem lW {i:Nat}{x:Str}{pos:Pos}(hN:X.N[i]? = some x)(hv:JA X.env.scope x)(hd:(x == ("__debug__" : Str))=false:=by decide) (FN:(x == ("__classdict__" : Str))=false:=by decide):PE X (.Name x pos) (uS i):=by
 intro pins s σ H Q I h
 obtain⟨v,e,h⟩:=h
 obtain⟨m,hn,hl⟩:=I.loc
 obtain⟨u,r,l⟩:=hl i x v hN e hv
 have fin:EP X pins σ Q u s:=⟨v,H,I,r,h⟩
 rcases l with ⟨hk,hm⟩|⟨hk,c,hc,GW⟩
 ·exact wpAny_Name (wpAny_loadName_local I.ok.kind hk hn hm fin) hd
 ·rcases hk with hk|hk
  ·exact wpAny_Name (wpAny_loadName_cell I.ok.kind hk hc GW fin) hd
  ·exact wpAny_Name (wpAny_loadName_free I.ok.kind hk hc GW fin FN) hd
theorem uT {i j pos}:PE X (.Constant (.int i) j pos) (tC (.int i)):=fun _ _ _ H _ I h=>wpAny_Constant_int ⟨.int i,H,I.tok _,⟨_,rfl⟩,h⟩
theorem xr {b j pos}:PE X (.Constant (.bool b) j pos) (tC (.bl b)):=fun _ _ _ H _ I h=>Constant_bool ⟨.bl b,H,I,rfl,h⟩
theorem uU {j pos}:PE X (.Constant .none j pos) (tC .By):=fun _ _ _ H _ I h=>Constant_none ⟨.By,H,I,rfl,h⟩
theorem dR {x j pos}:PE X (.Constant (.str x) j pos) (tC (.str x)):=fun _ _ _ H _ I h=>Calls.Constant_str ⟨.str x,H,I.tok _,⟨_,rfl⟩,h⟩
def Gl (X:Cx)(x:Str):Prop:=X.env.kindOf x=some .globalImplicit
theorem bU {E:Value->Shared->Prop}{pins:List (Addr×Obj)}{s:Shared}{σ:St}{H:Hp}{x:Str}{u:Value}{pos:Pos}{Q:Value->Shared->Prop}(I:Inv X pins σ H s)(hg:Gl X x)(hm:X.mg x=some u)(h:Q u s)
  (hd:(x == ("__debug__" : Str))=false:=by decide):wpAny (model X.prog X.w) X.A (eval (.Name x pos) X.env) Q E s:=
 Calls.Name_function_global I.ok.kind hg (Calls.loadGlobal_global (by rw[I.ok.glob];exact I.mod.glob.keeps I.bk) hm h) hd
theorem bV {E:Value->Shared->Prop}{pins:List (Addr×Obj)}{s:Shared}{σ:St}{H:Hp}{x:Str}{u:Value}{pos:Pos}{Q:Value->Shared->Prop}(I:Inv X pins σ H s)(hg:Gl X x)(hm:X.mg x=none)(hv:bootBuiltins x=some u)(h:Q u s)
  (hn:x≠"__name__":=by decide) (hd:(x == ("__debug__" : Str))=false:=by decide):wpAny (model X.prog X.w) X.A (eval (.Name x pos) X.env) Q E s:=by
 obtain⟨mb,h1,h2⟩:=I.mod.blt
 exact Calls.Name_function_global I.ok.kind hg (Calls.loadGlobal_builtin (by rw[I.ok.glob];exact I.mod.glob.keeps I.bk) hm (by rw[I.ok.blt];exact h1.keeps I.bk) ((h2 x hn).trans hv) h) hd
theorem jD {x:Str}{v:V}{u:Value}{pos:Pos}(hg:Gl X x)(hm:X.mg x=some u)(r:RelV v u)(hd:(x == ("__debug__" : Str))=false:=by decide):PE X (.Name x pos) (tC v):=
 fun _ _ _ H _ I h=>bU I hg hm ⟨v,H,I,r,h⟩ hd
theorem jE {x:Str}{v:V}{u:Value}{pos:Pos}(hg:Gl X x)(hm:X.mg x=none)(hv:bootBuiltins x=some u)(r:RelV v u)(hn:x≠"__name__":=by decide) (hd:(x == ("__debug__" : Str))=false:=by decide):PE X (.Name x pos) (tC v):=
 fun _ _ _ H _ I h=>bV I hg hm hv ⟨v,H,I,r,h⟩ hn hd
variable {a b:Expr}{ta tb:TE}{pos:Pos}
def PC (X:Cx)(op:CmpOp)(a b:Expr)(t:TE):Prop:=
 ∀ (pins:List (Addr×Obj)) (s:Shared) (σ:St) (H:Hp) (Q:VK),Inv X pins σ H s->t σ H Q->
  wpAny (model X.prog X.w) X.A (eval a X.env) (fun v BE=>wpAny (model X.prog X.w) X.A (eval b X.env) (fun u D1=>wpAny (model X.prog X.w) X.A (compareOp op v u) (EP X pins σ Q) X.xe D1) X.xe BE) X.xe s
def tB (t:TE):TT:=fun σ H Q=>t σ H fun x H1=>∃ c,x=.bl c/\Q c H1
theorem lX {op:CmpOp}{t:TE}(h:PC X op a b t)(h1:behindInMarks op b=false:=by first|exact FP _ (by decide) (by decide)|rfl):PE X (.Compare a [op] [b] pos) t:=fun pins s σ H Q I hw=>wpAny_Compare1 (h pins s σ H Q I hw) h1
theorem lY {op:CmpOp}{t:TE}(h:PC X op a b t)(h1:behindInMarks op b=false:=by first|exact FP _ (by decide) (by decide)|rfl):PT X (.Compare a [op] [b] pos) (tB t):=by
 intro pins s σ H Q I hw
 refine wpAny_isTrue_Compare1 (BG (h pins s σ H _ I hw) fun v s1 h1=>BG h1 fun u s2 h2=>BG h2 fun c s3 ⟨x,H1,I1,r1,q1⟩=>?_) h1
 obtain⟨d,rfl,q⟩:=q1
 cases r1
 exact wpAny_truthy_bool ⟨H1,I1,q⟩
variable {tA KW:TT}{rest:List Expr}
def xu (t u:TT):TT:=fun σ H Q=>t σ H fun c H1=>if c=true then u σ H1 Q else Q false H1
def Pg (t u:TT):TT:=fun σ H Q=>t σ H fun c H1=>if c=true then Q true H1 else u σ H1 Q
def AK (t:TT):TT:=fun σ H Q=>t σ H fun c H1=>Q (!c) H1
theorem qf (ha:PT X a tA):PW X (.BoolOp .And [a] pos) tA:=by
 intro wh pins s σ H Q I h
 refine isTrue_and (BG (ha pins s σ H Q I h) fun c s1 e=>?_)
 cases c with
 | true=>exact isTrue_and_nil e
 | false=>exact e
theorem uV (ha:PT X a tA):PW X (.BoolOp .Or [a] pos) tA:=by
 intro wh pins s σ H Q I h
 refine isTrue_or (BG (ha pins s σ H Q I h) fun c s1 e=>?_)
 cases c with
 | false=>exact isTrue_or_nil e
 | true=>exact e
theorem uW (ha:PT X a tA)(hb:PW X (.BoolOp .And (b::rest) pos) KW):PW X (.BoolOp .And (a::b::rest) pos) (xu tA KW):=by
 intro wh pins s σ H Q I h
 refine isTrue_and (BG (ha pins s σ H _ I h) fun c s1 ⟨H1,I1,q1⟩=>?_)
 cases c with
 | true=>exact hb wh pins s1 σ H1 Q I1 q1
 | false=>exact⟨H1,I1,q1⟩
theorem xw (ha:PT X a tA)(hb:PW X (.BoolOp .Or (b::rest) pos) KW):PW X (.BoolOp .Or (a::b::rest) pos) (Pg tA KW):=by
 intro wh pins s σ H Q I h
 refine isTrue_or (BG (ha pins s σ H _ I h) fun c s1 ⟨H1,I1,q1⟩=>?_)
 cases c with
 | true=>exact⟨H1,I1,q1⟩
 | false=>exact hb wh pins s1 σ H1 Q I1 q1
theorem uX (ha:PT X a tA):PT X (.UnaryOp .Not a pos) (AK tA):=by
 intro pins s σ H Q I h
 exact isTrue_not (ha pins s σ H (fun c H1=>Q (!c) H1) I h)
theorem lZ {op}{t:TE}(h:PE X a t):PE X (.BoolOp op [a] pos) t:=fun pins s σ H Q I hw=>BoolOp_one (h pins s σ H Q I hw)
def Ph (t:TT)(ta tb:TE):TE:=fun σ H Q=>t σ H fun c H1=>if c=true then ta σ H1 Q else tb σ H1 Q
theorem gO {c:Expr}(hc:PT X c tA)(ha:PE X a ta)(hb:PE X b tb):PE X (.IfExp c a b pos) (Ph tA ta tb):=by
 intro pins s σ H Q I h
 refine wpAny_IfExp (BG (hc pins s σ H _ I h) fun d s1 ⟨H1,I1,q1⟩=>?_)
 cases d with
 | true=>exact ha pins s1 σ H1 Q I1 q1
 | false=>exact hb pins s1 σ H1 Q I1 q1
end
def Ck (K:PySem.W.Frag)(H:Hp)(a:Addr)(xs:List V):Prop:=
 Rd H a (.lst xs)∨
  ∃ (o:Obj) (its:Array Value) (n:Nat),K.lookup a=some o/\o.cls=.type "list"/\o.dict=none/\o.data=.seq its n/\its.size<=sizeLine/\Vals xs its.toList
def CF (K:PySem.W.Frag)(H:Hp)(a:Addr)(xs:List V):Prop:=
 Rd H a (.tup xs)∨
  ∃ (o:Obj) (its:Array Value) (n:Nat),K.lookup a=some o/\o.cls=.type "tuple"/\o.data=.seq its n/\its.size<=sizeLine/\Vals xs its.toList
noncomputable def AL:Value->Option V
 | .none=>some .By
 | .bool b=>some (.bl b)
 | .int i _=>some (.int i)
 | .str x _=>some (.str x)
 | .bytes b _=>some (.Hn b)
 | .float b _=>some (.Lw b)
 | .ref a=>some (.ref a)
 | .type n=>some (.ty n)
 | _=>none
theorem RelV.abs {x:V}{u:Value}(r:RelV x u):AL u=some x:=by
 cases x with
 | By=>cases r;rfl
 | bl _=>cases r;rfl
 | int _=>obtain⟨t,rfl⟩:=r;rfl
 | str _=>obtain⟨t,rfl⟩:=r;rfl
 | Hn _=>obtain⟨t,rfl⟩:=r;rfl
 | Lw _=>obtain⟨t,rfl⟩:=r;rfl
 | ref _=>cases r;rfl
 | ty _=>cases r;rfl
theorem RelV.inj {x y:V}{u:Value}(r:RelV x u)(q:RelV y u):x=y:=Option.some.inj (r.abs.symm.trans q.abs)
theorem Vals.inj:∀ {xs ys:List V}{us:List Value},Vals xs us->Vals ys us->xs=ys
 | _,_,_,.nil,.nil=>rfl
 | _,_,_,.cons r t,.cons r' t'=>by rw[r.inj r',Vals.inj t t']
section
variable {X:Cx}{pins:List (Addr×Obj)}{σ:St}{H:Hp}{s:Shared}{a:Addr}{xs ys:List V}
theorem CF.of {K:PySem.W.Frag}(h:H a=some (.tup xs)):CF K H a xs:=.inl (.inl h)
theorem Inv.list (I:Inv X pins σ H s)(h:Ck X.K H a xs):∃ its:List Value,Vals xs its/\PlainL s.heap a its.toArray/\xs.length<=sizeLine:=by
 rcases h with h|⟨o,its,n,hk,hc,hd,hs,hz,r⟩
 ·obtain⟨z,its,n,r,e⟩:=h.ok I.BD
  exact⟨its,r,⟨_,n,e,rfl,rfl,rfl⟩,z⟩
 ·refine⟨its.toList,r,⟨o,n,I.Dv a o hk,hc,hd,by simpa using hs⟩,?_⟩
  have e:=r.length
  simp only[Array.length_toList] at e
  omega
theorem Inv.tuple (I:Inv X pins σ H s)(h:CF X.K H a xs):∃ its:List Value,Vals xs its/\IsTup s.heap a its.toArray/\xs.length<=sizeLine:=by
 rcases h with h|⟨o,its,n,hk,hc,hs,hz,r⟩
 ·obtain⟨z,its,r,p⟩:=h.ok I.BD
  exact⟨its,r,p,z⟩
 ·refine⟨its.toList,r,⟨o,I.Dv a o hk,hc,n,by simpa using hs⟩,?_⟩
  have e:=r.length
  simp only[Array.length_toList] at e
  omega
theorem Inv.BZ (I:Inv X pins σ H s)(h:Ck X.K H a xs)(h':Ck X.K H a ys):xs=ys:=by
 obtain⟨its,r,⟨o,n,e,_,_,d⟩,_⟩:=I.list h
 obtain⟨its',r',⟨o',n',e',_,_,d'⟩,_⟩:=I.list h'
 rw[e] at e';cases e'
 rw[d] at d'
 injection d' with d1 _
 have:its=its':=by simpa using congrArg Array.toList d1
 subst this
 exact r.inj r'
theorem Inv.CO (I:Inv X pins σ H s)(h:CF X.K H a xs)(h':CF X.K H a ys):xs=ys:=by
 obtain⟨its,r,⟨o,e,_,n,d⟩,_⟩:=I.tuple h
 obtain⟨its',r',⟨o',e',_,n',d'⟩,_⟩:=I.tuple h'
 rw[e] at e';cases e'
 rw[d] at d'
 injection d' with d1 _
 have:its=its':=by simpa using congrArg Array.toList d1
 subst this
 exact r.inj r'
end
noncomputable abbrev Cx.Dj (X:Cx)(E:Value->Shared->Prop):Cx:={X with xe:=E}
noncomputable abbrev Cx.Ca (X:Cx):Cx:=X.Dj fun _ _=>False
theorem Cx.Ok.Dj {X:Cx}(ok:X.Ok)(E:Value->Shared->Prop):(X.Dj E).Ok:=
 ⟨ok.mod,ok.kind,ok.glob,ok.blt,ok.above,ok.inj,ok.has,ok.Gj,ok.hd,ok.frames,ok.Bu,ok.GS,ok.bs,ok.Et,ok.DF,ok.DG,ok.B9,ok.DH⟩
theorem Cx.Ok.B1 {X:Cx}{E:Value->Shared->Prop}(ok:(X.Dj E).Ok):X.Ok:=
 ⟨ok.mod,ok.kind,ok.glob,ok.blt,ok.above,ok.inj,ok.has,ok.Gj,ok.hd,ok.frames,ok.Bu,ok.GS,ok.bs,ok.Et,ok.DF,ok.DG,ok.B9,ok.DH⟩
section
variable {X:Cx}{pins:List (Addr×Obj)}{σ:St}{H:Hp}{s:Shared}{E:Value->Shared->Prop}
theorem Inv.Dj (I:Inv X pins σ H s)(E:Value->Shared->Prop):Inv (X.Dj E) pins σ H s:=⟨I.ok.Dj E,I.os,I.bare,I.base,I.loc,I.cell,I.free,I.BY,I.pin,I.BD,I.len⟩
theorem Inv.B1 (I:Inv (X.Dj E) pins σ H s):Inv X pins σ H s:=⟨I.ok.B1,I.os,I.bare,I.base,I.loc,I.cell,I.free,I.BY,I.pin,I.BD,I.len⟩
theorem SP.B1 {D:Ends}{f:Flow}{s':Shared}(h:SP (X.Dj E) pins D f s'):SP X pins D f s':=by
 cases f with
 | next=>obtain⟨Bz,H',I,q⟩:=h;exact⟨Bz,H',I.B1,q⟩
 | brk=>obtain⟨Bz,H',I,q⟩:=h;exact⟨Bz,H',I.B1,q⟩
 | cont=>obtain⟨Bz,H',I,q⟩:=h;exact⟨Bz,H',I.B1,q⟩
 | ret u=>obtain⟨v,Bz,H',I,r,q⟩:=h;exact⟨v,Bz,H',I.B1,r,q⟩
end
section
variable {X:Cx}{st:Stmt}{rest:List Stmt}{t u:TS}{e:Expr}{te:TE}{pos:Pos}
def l0:TS:=fun D σ H=>D.nx σ H
def AM (t u:TS):TS:=fun D σ H=>t {D with nx:=u D} σ H
theorem fW:Ex X [] l0:=fun _ _ σ H _ I h=>wpAny_execs_nil ⟨σ,H,I,h⟩
theorem cQ (h1:PS X st t)(h2:Ex X rest u):Ex X (st::rest) (AM t u):=by
 intro pins s σ H D I h
 refine wpAny_execs_cons (BG (h1 pins s σ H {D with nx:=u D} I h) fun f s1 q=>?_)
 cases f with
 | next=>
  obtain⟨Bz,H',I',q⟩:=q
  exact h2 pins s1 Bz H' D I' q
 | ret v=>exact q
 | brk=>exact q
 | cont=>exact q
def uY:TS:=fun D σ H=>D.bk σ H
def xx:TS:=fun D σ H=>D.ct σ H
theorem qg:PS X (.Pass pos) l0:=fun _ _ σ H _ I h=>wpAny_Pass ⟨σ,H,I,h⟩
theorem l5:PS X (.Break pos) uY:=fun _ _ σ H _ I h=>wpAny_Break ⟨σ,H,I,h⟩
theorem gP:PS X (.Continue pos) xx:=fun _ _ σ H _ I h=>wpAny_Continue ⟨σ,H,I,h⟩
theorem Inv.quiet {pins:List (Addr×Obj)}{σ:St}{H:Hp}{s:Shared}(I:Inv X pins σ H s):interactive X.env=false:=by simp[interactive,I.ok.kind]
theorem uZ {x j pos pos'}:PS X (.Expr (.Constant (.str x) j pos) pos') l0:=fun _ s σ H _ I h=>wpAny_Expr (Calls.Constant_str (show SP X _ _ .next {s with toks:=s.toks+1} from ⟨σ,H,I.tok _,h⟩)) I.quiet
def xy (te:TE):TS:=fun D σ H=>te σ H fun _ H1=>D.nx σ H1
theorem fX (he:PE X e te)(hs:swapsWith e none pos.line X.env=pure false:=by rfl):PS X (.Expr e pos) (xy te):=by
 intro pins s σ H D I h
 exact wpAny_Expr_any (BG (he pins s σ H _ I h) fun v s1 ⟨x,H1,I1,r1,q1⟩=>⟨σ,H1,I1,q1⟩) I.quiet hs
def AN (te:TE):TS:=fun D σ H=>te σ H D.rt
theorem iV (he:PE X e te):PS X (.Return (some e) pos) (AN te):=by
 intro pins s σ H D I h
 exact wpAny_Return_some (BG (he pins s σ H _ I h) fun v s1 ⟨x,H1,I1,r1,q1⟩=>⟨x,σ,H1,I1,r1,q1⟩)
def xA:TS:=fun D _ H=>D.rt .By H
theorem qh:PS X (.Return none pos) xA:=fun _ _ σ H _ I h=>wpAny_Return_none ⟨.By,σ,H,I,rfl,h⟩
def AO (c:TT)(t u:TS):TS:=fun D σ H=>c σ H fun b H1=>if b=true then t D σ H1 else u D σ H1
theorem xB {c:Expr}{a b:List Stmt}{tc:TT}(hc:PT X c tc)(ha:Ex X a t)(hb:Ex X b u):PS X (.If c a b pos) (AO tc t u):=by
 intro pins s σ H D I h
 refine wpAny_If (BG (hc pins s σ H _ I h) fun d s1 ⟨H1,I1,q1⟩=>?_)
 cases d with
 | true=>exact ha pins s1 σ H1 D I1 q1
 | false=>exact hb pins s1 σ H1 D I1 q1
def u0:TS:=fun _ _ _=>False
theorem l7:PS X st u0:=fun _ _ _ _ _ _ h=>h.elim
end
noncomputable abbrev TG:=V->St->Hp->(St->Hp->Prop)->Prop
noncomputable abbrev GX:=List V->St->Hp->(St->Hp->Prop)->Prop
def PG (X:Cx)(target:Expr)(t:TG):Prop:=
 ∀ (pins:List (Addr×Obj)) (s:Shared) (σ:St) (H:Hp) (v:V) (u:Value) (Q:St->Hp->Prop),Inv X pins σ H s->RelV v u->t v σ H Q->
  wpAny (model X.prog X.w) X.A (assign target X.env u) (fun _ s'=>∃ Bz H',Inv X pins Bz H' s'/\Q Bz H') X.xe s
def JD (X:Cx)(ts:List Expr)(t:GX):Prop:=
 ∀ (pins:List (Addr×Obj)) (s:Shared) (σ:St) (H:Hp) (vs:List V) (us:List Value) (Q:St->Hp->Prop),Inv X pins σ H s->Vals vs us->t vs σ H Q->
  wpAny (model X.prog X.w) X.A (assignInOrder ((assignEach ts X.env).map (·.2)) us) (fun _ s'=>∃ Bz H',Inv X pins Bz H' s'/\Q Bz H') X.xe s
section
variable {X:Cx}{pos:Pos}
def l8 (i:Nat):TG:=fun v σ H Q=>Q (σ.set i (some v)) H
theorem qi {i:Nat}{x:Str}(hN:X.N.Nodup)(hi:X.N[i]? = some x)(hx:Loc X.env.scope x)(hf:X.fn x=true∨X.env.scope.names.lookup x=some .local:=by first|exact .inl rfl|exact .inr rfl|assumption):PG X (.Name x pos) (l8 i):=by
 intro pins s σ H v u Q I r h
 exact wpAny_assign_Name (cP I hN hi hx r (fun s' I'=>⟨_,H,I',h⟩) hf)
def xC:GX:=fun vs σ H Q=>vs=[]/\Q σ H
def sd (t:TG)(u:GX):GX:=fun vs σ H Q=>∃ v r,vs=v::r/\t v σ H fun Bz H'=>u r Bz H' Q
theorem qj:JD X [] xC:=by
 intro pins s σ H vs us Q I r h
 obtain⟨e,h⟩:=h
 subst e
 cases r
 exact assignInOrder_nil ⟨σ,H,I,h⟩
theorem l9 {e:Expr}{es:List Expr}{t:TG}{u:GX}(h1:PG X e t)(h2:JD X es u)
  (hs:(assignEach (e::es) X.env).map (·.2)=assign e X.env::(assignEach es X.env).map (·.2):=by rfl):JD X (e::es) (sd t u):=by
 intro pins s σ H vs us Q I r h
 obtain⟨v,vr,e1,h⟩:=h
 subst e1
 cases r with
 | cons r rr=>
  rw[hs]
  refine assignInOrder_cons (BG (h1 pins s σ H _ _ _ I r h) fun _ s1 ⟨Nw,H1,I1,q1⟩=>?_)
  exact h2 pins s1 Nw H1 _ _ Q I1 rr q1
def u3 (te:TE)(g:TG):TS:=fun D σ H=>te σ H fun x H1=>g x σ H1 D.nx
theorem u4 {tg e:Expr}{te:TE}{g:TG}(he:PE X e te)(hg:PG X tg g)(hs:swapsWithSole [tg] e pos.line X.env=pure false:=by rfl)(hw:swappedStores [tg] e X.env=pure none:=by rfl)
  (h1:(assignEach [tg] X.env).map (·.2)=[assign tg X.env]:=by rfl):PS X (.Assign [tg] e pos) (u3 te g):=by
 intro pins s σ H D I h
 refine wpAny_Assign_stores (BG (he pins s σ H _ I h) fun v s1 ⟨x,H1,I1,r1,q1⟩=>?_) hs hw
 rw[h1]
 exact BG (hg pins s1 σ H1 x v _ I1 r1 q1) fun _ s2 q=>q
theorem u5 {i:Nat}{x:Str}{e:Expr}{te:TE}{pos':Pos}(hN:X.N.Nodup)(hi:X.N[i]? = some x)(hx:Loc X.env.scope x)(he:PE X e te)(hs:swapsWith e (some (.Name x pos')) pos.line X.env=pure false:=by rfl)(hf:X.fn x=true∨X.env.scope.names.lookup x=some .local:=by first|exact .inl rfl|exact .inr rfl|assumption) :
  PS X (.Assign [.Name x pos'] e pos) (u3 te (l8 i)):=by
 intro pins s σ H D I h
 refine wpAny_Assign_Name (BG (he pins s σ H _ I h) fun v s1 ⟨y,H1,I1,r1,q1⟩=>?_) hs
 exact cP I1 hN hi hx r1 (fun s2 I2=>⟨_,H1,I2,q1⟩) hf
end
structure It where
 go:Nat->Hp->Prop
 Gn:Nat->Hp->V->Hp->Prop
 stop:Nat->Hp->Prop
def cG (X:Cx)(pins:List (Addr×Obj))(H:Hp)(b:Addr):Prop:=
 H b=none/\b≠X.env.locals/\b∉X.fs/\(b∈X.ex∨X.BS.heap.objs.size<=b)/\(∀ x c,X.env.cells.lookup x=some c->c≠b)/\∀ p∈X.pn++pins,p.1≠b
theorem Inv.D2 {X:Cx}{pins:List (Addr×Obj)}{σ:St}{H H':Hp}{s:Shared}{b:Addr}(I:Inv X pins σ H s)(hb:s.heap.objs.size<=b)(hn:H' b=none):cG X pins H' b:=by
 refine⟨hn,Nat.ne_of_gt (Nat.lt_of_lt_of_le I.lt hb),I.Lz hb,.inr (Nat.le_trans I.sz hb),fun x c e z=>?_,fun p hp z=>?_⟩
 ·obtain⟨v,q⟩:=I.cell x c e
  exact absurd (Nat.lt_of_lt_of_le q.lt (by rw[z];exact hb)) (Nat.lt_irrefl _)
 ·exact absurd (Nat.lt_of_lt_of_le (Heap.lt_size (I.pin p hp).1) (by rw[z];exact hb)) (Nat.lt_irrefl _)
structure Turn (P:Program)(w:World)(K:PySem.W.Frag)(tg:Expr)(J:It)(fp:List Addr)(it:Addr)(tn:Nat->Heap->Prop):Prop where
 mem:it∈fp
 obj:∀ i h,tn i h->∀ b∈fp,∃ o,h.get? b=some o/\∀ v,o.data≠.cell v
 keep:∀ i h h',tn i h->(∀ b∈fp,∀ o,h.get? b=some o->h'.get? b=some o)->tn i h'
 item:∀ (X:Cx),X.prog=P->X.w=w->X.K=K->X.calm=true->∀ (i:Nat) (pins:List (Addr×Obj)) (s:Shared) (σ:St) (H:Hp) (E:Value->Shared->Prop),Inv X pins σ H s->(∀ b∈fp,cG X pins H b)->tn i s.heap->J.go i H->
  wpAny (model P w) X.A (pyNext (.ref it)) (fun r s1=>∃ u,r=some u/\
   wpAny (model P w) X.A (letOwnedTupleGo tg (.ref it) u) (fun _ s2=>∃ x H',Inv X pins σ H' s2/\RelV x u/\J.Gn i H x H'/\tn (i+1) s2.heap/\∀ b∈fp,H' b=none) E s1) E s
 done:∀ (X:Cx),X.prog=P->X.w=w->X.K=K->X.calm=true->∀ (i:Nat) (pins:List (Addr×Obj)) (s:Shared) (σ:St) (H:Hp) (E:Value->Shared->Prop),Inv X pins σ H s->(∀ b∈fp,cG X pins H b)->tn i s.heap->J.stop i H->
  wpAny (model P w) X.A (pyNext (.ref it)) (fun r s1=>r=none/\Inv X pins σ H s1) E s
 self:∀ (A:Around) (i:Nat) (s:Shared) (Q:Value->Shared->Prop) (E:Value->Shared->Prop),tn i s.heap->Q (.ref it) s->wpAny (model P w) A (pyIter (.ref it)) Q E s
noncomputable abbrev TI:=St->Hp->(It->Hp->Prop)->Prop
def IQ (X:Cx)(pins:List (Addr×Obj))(σ:St)(tg:Expr)(R:It->Hp->Prop)(KY:Value)(s2:Shared):Prop:=
 ∃ (it:Addr) (fp:List Addr) (tn:Nat->Heap->Prop) (J:It) (H':Hp),KY=.ref it/\Inv X pins σ H' s2/\Turn X.prog X.w X.K tg J fp it tn/\tn 0 s2.heap/\(∀ b∈fp,cG X pins H' b)/\R J H'
def PI (X:Cx)(tg iter:Expr)(wi:TI):Prop:=
 ∀ (pins:List (Addr×Obj)) (s:Shared) (σ:St) (H:Hp) (R:It->Hp->Prop),Inv X pins σ H s->wi σ H R->
  wpAny (model X.prog X.w) X.A (eval iter X.env) (fun v s1=>wpAny (model X.prog X.w) X.A (pyIter v) (IQ X pins σ tg R) X.xe s1) X.xe s
theorem gQ {M : Model}{A : Around}{E : Value -> Shared -> Prop}{s : Shared}{tg : Expr}{it : Addr}{u : Value}{o : Obj}{n : String}{vs : Array Value}{Q : Unit -> Shared -> Prop}(ho : s.heap.get? it = some o)(hc : o.cls = .type n)(hd : o.data = .fields vs)
    (hn : ["enumerate", "zip", "dict_itemiterator", "dict_reverseitemiterator", "odict_iterator", "itertools.zip_longest", "itertools.pairwise"].contains n = false) (hQ : Q () s) : wpAny M A (letOwnedTupleGo tg (.ref it) u) Q E s := by
  unfold letOwnedTupleGo
  cases tg <;> first
    | exact wpAny_pure hQ
    | (cases u <;> first
        | exact wpAny_pure hQ
        | (refine wpAny_bind (wpAny_load ho ?_)
           rw [hc, hd]
           show wpAny M A (if (["enumerate", "zip", "dict_itemiterator", "dict_reverseitemiterator", "odict_iterator", "itertools.zip_longest", "itertools.pairwise"].contains n&&vs[0]? == some (rawInt _)) = true then _ else _) Q E s
           rw [if_neg (by intro h; rw [hn, Bool.false_and] at h; cases h)]
           exact wpAny_pure hQ))
noncomputable def KZ (K:PySem.W.Frag)(a:Addr):It:=
 ⟨fun i H=>∃ xs x,Ck K H a xs/\xs[i]? = some x,fun i H x H'=>H'=H/\∀ xs,Ck K H a xs->xs[i]? = some x,fun i H=>∃ xs,Ck K H a xs/\xs.length<=i⟩
noncomputable def LF (K:PySem.W.Frag)(a:Addr):It:=
 ⟨fun i H=>∃ xs x,CF K H a xs/\xs[i]? = some x,fun i H x H'=>H'=H/\∀ xs,CF K H a xs->xs[i]? = some x,fun i H=>∃ xs,CF K H a xs/\xs.length<=i⟩
noncomputable def JE (lo:Int)(n:Nat):It:=⟨fun i _=>i < n,fun i H x H'=>H'=H/\x=.int (lo+i),fun i _=>n<=i⟩
theorem kT {P:Program}{w:World}{K:PySem.W.Frag}{tg:Expr}(a it:Addr):Turn P w K tg (KZ K a) [it] it (fun i h=>h.IsListIter it a i) where
 mem:=by simp
 obj:=fun i h st b hb=>by
  have e:b=it:=by simpa using hb
  subst e
  obtain⟨o,e,c,d⟩:=st
  exact⟨o,e,fun v z=>by rw[d] at z;cases z⟩
 keep:=fun i h h' st k=>st.at fun o e=>k it (by simp) o e
 item:=by
  intro X hP hw hK hc i pins s σ H E I hf st hg
  subst hP hw hK
  obtain⟨xs,x,hq,hx⟩:=hg
  obtain⟨its,rv,p,hz⟩:=I.list hq
  obtain⟨u,hu,ru⟩:=rv.get hx
  obtain⟨f0,f1,f2,f3,f4,f5⟩:=hf it (by simp)
  refine wpAny_pyNext_list_item st p.isList (x:=u) (by simpa using hu) fun h' Ey sb=>?_
  have I1:Inv X pins σ H {s with heap:=h'}:=I.turned (t':=s.toks) (fun b o hb e=>(sb.2 b hb).trans e) f0 f1 f3 f4 f5
  obtain⟨o,e,c,d⟩:=id Ey
  exact⟨u,rfl,gQ (s:={s with heap:=h'}) e c d (by decide) ⟨x,H,I1,ru,⟨rfl,fun ys hy=>by rw[I.BZ hy hq];exact hx⟩,Ey,fun b hb=>(hf b hb).1⟩⟩
 done:=by
  intro X hP hw hK hc i pins s σ H E I hf st hg
  subst hP hw hK
  obtain⟨xs,hq,hx⟩:=hg
  obtain⟨its,rv,p,hz⟩:=I.list hq
  obtain⟨f0,f1,f2,f3,f4,f5⟩:=hf it (by simp)
  have hl:=rv.length
  exact wpAny_pyNext_list_end (I.ok.hd hc) st p.isList (by simp;omega) fun h' eb=>⟨rfl,I.turned (t':=s.toks) (fun b o hb e=>eb b o hb e) f0 f1 f3 f4 f5⟩
 self:=fun _ _ _ _ _ st h=>wpAny_pyIter_listiter st h
theorem iW {P:Program}{w:World}{K:PySem.W.Frag}{tg:Expr}(a it:Addr):Turn P w K tg (LF K a) [it] it (fun i h=>h.IsTupleIter it a i) where
 mem:=by simp
 obj:=fun i h st b hb=>by
  have e:b=it:=by simpa using hb
  subst e
  obtain⟨o,e,c,d⟩:=st
  exact⟨o,e,fun v z=>by rw[d] at z;cases z⟩
 keep:=fun i h h' st k=>st.at fun o e=>k it (by simp) o e
 item:=by
  intro X hP hw hK hc i pins s σ H E I hf st hg
  subst hP hw hK
  obtain⟨xs,x,hq,hx⟩:=hg
  obtain⟨its,rv,p,hz⟩:=I.tuple hq
  obtain⟨u,hu,ru⟩:=rv.get hx
  obtain⟨f0,f1,f2,f3,f4,f5⟩:=hf it (by simp)
  refine wpAny_pyNext_tuple_item st (show s.heap.IsTuple a its.toArray from p) (x:=u) (by simpa using hu) fun h' Ey sb=>?_
  have I1:Inv X pins σ H {s with heap:=h'}:=I.turned (t':=s.toks) (fun b o hb e=>(sb.2 b hb).trans e) f0 f1 f3 f4 f5
  obtain⟨o,e,c,d⟩:=id Ey
  exact⟨u,rfl,gQ (s:={s with heap:=h'}) e c d (by decide) ⟨x,H,I1,ru,⟨rfl,fun ys hy=>by rw[I.CO hy hq];exact hx⟩,Ey,fun b hb=>(hf b hb).1⟩⟩
 done:=by
  intro X hP hw hK hc i pins s σ H E I hf st hg
  subst hP hw hK
  obtain⟨xs,hq,hx⟩:=hg
  obtain⟨its,rv,p,hz⟩:=I.tuple hq
  obtain⟨f0,f1,f2,f3,f4,f5⟩:=hf it (by simp)
  have hl:=rv.length
  exact wpAny_pyNext_tuple_end (I.ok.hd hc) st (show s.heap.IsTuple a its.toArray from p) (by simp;omega) fun h' eb=>⟨rfl,I.turned (t':=s.toks) (fun b o hb e=>eb b o hb e) f0 f1 f3 f4 f5⟩
 self:=fun _ _ _ _ _ st h=>wpAny_pyIter_tupleiter st h
theorem iX {P:Program}{w:World}{K:PySem.W.Frag}{tg:Expr}(it:Addr)(lo:Int)(n:Nat):Turn P w K tg (JE lo n) [it] it (fun i h=>IsRangeIter h it (lo+(i:Nat)*1) ((n:Int) - (i:Nat)) 1) where
 mem:=by simp
 obj:=fun i h st b hb=>by
  have e:b=it:=by simpa using hb
  subst e
  exact⟨_,st,fun v z=>by
   have z':Data.fields _=Data.cell v:=z
   cases z'⟩
 keep:=fun i h h' st k=>k it (by simp) _ st
 item:=by
  intro X hP hw hK hc i pins s σ H E I hf st hg
  subst hP hw hK
  obtain⟨f0,f1,f2,f3,f4,f5⟩:=hf it (by simp)
  have W:=Walks.range (prog:=X.prog) (w:=X.w) (I.ok.hd hc) it lo 1 n
  refine W.item i s _ _ hg st fun v h' tk hv Ey kk=>?_
  obtain⟨t,rfl⟩:=hv
  have I1:Inv X pins σ H {s with heap:=h',toks:=tk}:=I.turned (fun b o hb e=>kk b o (by simpa using hb) e) f0 f1 f3 f4 f5
  refine⟨_,rfl,gQ (s:={s with heap:=h',toks:=tk}) (n:="range_iterator") Ey rfl rfl (by decide) ⟨.int (lo+i),H,I1,⟨t,?_⟩,⟨rfl,rfl⟩,Ey,fun b hb=>(hf b hb).1⟩⟩
  rw[Int.mul_one]
 done:=by
  intro X hP hw hK hc i pins s σ H E I hf st hg
  subst hP hw hK
  obtain⟨f0,f1,f2,f3,f4,f5⟩:=hf it (by simp)
  exact wpAny_pyNext_range_end (I.ok.hd hc) st (by have:n<=i:=hg;omega) fun h' eb=>⟨rfl,I.turned (t':=s.toks) (fun b o hb e=>eb b o hb e) f0 f1 f3 f4 f5⟩
 self:=fun _ _ _ _ _ st h=>wpAny_pyIter_rangeiter st h
section
variable {X:Cx}{tg:Expr}
theorem ma {pins:List (Addr×Obj)}{σ:St}{H:Hp}{s:Shared}{R:It->Hp->Prop}{E:Value->Shared->Prop}{lo hi:Int}{t u v:Tok}{tk:Nat}(I:Inv X pins σ H s)(h1 : -(2 ^ 62)<=lo)(h2:lo < 2 ^ 62)(h3 : -(2 ^ 62)<=hi)(h4:hi < 2 ^ 62)
  (q:R (JE lo (hi - lo).toNat) H):wpAny (model X.prog X.w) X.A (pyIter (.ref s.heap.objs.size)) (IQ X pins σ tg R) E {s with heap:=s.heap.push {cls:=.type "range",data:=.fields #[.int lo t,.int hi u,.int 1 v]},toks:=tk}:=by
 refine wpAny_pyIter_range (IsRange.new ..) (small_one h1 h2 h3 h4) ?_
 have I1:Inv X pins σ H {s with heap:=s.heap.push {cls:=.type "range",data:=.fields #[.int lo t,.int hi u,.int 1 v]},toks:=tk}:=I.kept fun b o e=>Heap.get?_push_of_some _ e
 refine⟨(s.heap.push {cls:=.type "range",data:=.fields #[.int lo t,.int hi u,.int 1 v]}).objs.size,[(s.heap.push {cls:=.type "range",data:=.fields #[.int lo t,.int hi u,.int 1 v]}).objs.size],_,_,H,rfl,
  I1.kept (t':=tk) fun b o e=>Heap.get?_push_of_some _ e,iX _ lo (hi - lo).toNat,?_,fun b hb=>?_,q⟩
 ·have e1:lo+((0:Nat):Int)*1=lo:=by simp
  have e2:(((hi - lo).toNat:Nat):Int) - ((0:Nat):Int)=Builtin.Range.rangeSize lo hi 1:=by rw[rangeSize_one];split<;>omega
  show IsRangeIter _ _ (lo+((0:Nat):Int)*1) ((((hi - lo).toNat:Nat):Int) - ((0:Nat):Int)) 1
  rw[e1,e2]
  exact Heap.get?_push_size _ rfl
 ·have e:b=(s.heap.push {cls:=.type "range",data:=.fields #[.int lo t,.int hi u,.int 1 v]}).objs.size:=by simpa using hb
  subst e
  exact I1.D2 (Nat.le_refl _) (I1.BD.fresh (Nat.le_refl _))
def xD (ta:TA):TI:=fun σ H R=>ta σ H fun vs H1=>∃ j:Int,vs=[.int j]/\-(2 ^ 62)<=j/\j < 2 ^ 62/\R (JE 0 j.toNat) H1
theorem e9 {a:Expr}{ta:TA}{p pos:Pos}(hg:Gl X "range") (hm:X.mg "range" = none) (ha:PA X [a] ta) (hs:starEach [a] X.env=[(false,eval a X.env)]:=by rfl):PI X tg (.Call (.Name "range" p) [a] [] pos) (xD ta):=by
 intro pins s σ H R I h
 refine Call_ (bV I hg hm boot_range (PyProof.Rows.callWith_type1 (BG (ha pos pins s σ H _ I h) fun us s1 ⟨vs,H1,I1,r1,q1⟩=>?_) hs rfl))
 obtain⟨j,e,q1,q2,q⟩:=q1
 subst e
 cases r1 with
 | cons r rr=>
  cases rr
  obtain⟨t,rfl⟩:=r
  exact call_range_1 (ma I1 (by omega) (by omega) q1 q2 (by simpa using q))
def AQ (wi:TI)(g:TG)(tb:TS):TS:=fun D σ H=>wi σ H fun J H1=>∃ W:Nat->Nat->St->Hp->Prop,(∃ m,W 0 m σ H1)/\∀ i m σ H,W i m σ H->
 (J.stop i H/\D.nx σ H)∨(J.go i H/\∃ N:St->Hp->Prop,(∀ Bz H',N Bz H'->∃ m',m' < m/\W (i+1) m' Bz H')/\∀ x H',J.Gn i H x H'->g x σ H' fun D3 H2=>tb {D with nx:=N,ct:=N,bk:=D.nx} D3 H2)
noncomputable def dj (fp:List Addr)(h:Heap):List (Addr×Obj):=fp.filterMap fun b=>(h.get? b).map fun o=>(b,o)
theorem bW {fp:List Addr}{h:Heap}{b:Addr}{o:Obj}(hb:b∈fp)(e:h.get? b=some o):(b,o)∈dj fp h:=List.mem_filterMap.mpr ⟨b,hb,by rw[e];rfl⟩
theorem kU {fp:List Addr}{h:Heap}{p:Addr×Obj}(hp:p∈dj fp h):p.1∈fp/\h.get? p.1=some p.2:=by
 obtain⟨b,hb,e⟩:=List.mem_filterMap.mp hp
 cases q:h.get? b with
 | none=>rw[q] at e;cases e
 | some o=>
  rw[q] at e
  have e':(b,o)=p:=Option.some.inj e
  subst e'
  exact⟨hb,q⟩
theorem Inv.pinned {pins:List (Addr×Obj)}{σ:St}{H:Hp}{s:Shared}{fp:List Addr}(I:Inv X pins σ H s)(hf:∀ b∈fp,cG X pins H b)(ho:∀ b∈fp,∃ o,s.heap.get? b=some o/\∀ v,o.data≠.cell v):Inv X (pins++dj fp s.heap) σ H s:=
 I.ET fun p hp=>(List.mem_append.mp hp).elim (fun z=>I.pin p (List.mem_append_right _ z)) fun z=>by
  obtain⟨hb,e⟩:=kU z
  obtain⟨f0,f1,f2,_⟩:=hf p.1 hb
  obtain⟨o,e',d⟩:=ho p.1 hb
  rw[e] at e';cases e'
  exact⟨e,f0,f1,f2,d⟩
theorem Inv.CI {pins pl:List (Addr×Obj)}{σ:St}{H:Hp}{s:Shared}(I:Inv X (pins++pl) σ H s):Inv X pins σ H s:=I.ET fun p hp=>I.pin p (List.mem_append_right _ (List.mem_append_left _ hp))
theorem md {iter:Expr}{body:List Stmt}{wi:TI}{g:TG}{tb:TS}{pos:Pos}(hp:PassesOwn (model X.prog X.w) X.A X.env X.xe)(hc:X.calm=true)(hi:PI X tg iter wi)(hg:PG X tg g)(hb:Ex X body tb)
  (hs:∀ x,foldedSetIterable iter X.env x=pure x:=by intro _;rfl):PS X (.For tg iter body [] pos) (AQ wi g tb):=by
 intro pins s σ H D I h
 refine wpAny_For (BG (hi pins s σ H _ I h) fun v s1 h1=>BG h1 fun KY s2 h2=>?_) hs
 obtain⟨it,fp,tn,J,H2,e,I2,T,GY,f2,W,⟨m0,w0⟩,turn⟩:=h2
 subst e
 -- LG stays true of Hu Hv objects through Hu loop
 have Ez:∀ {H':Hp},(∀ b∈fp,H' b=none)->∀ b∈fp,cG X pins H' b:=fun hn b hb=>⟨hn b hb,(f2 b hb).2⟩
 refine codeAny_forLoop_any (fun n s'=>∃ i Bz H',Inv X pins Bz H' s'/\tn i s'.heap/\(∀ b∈fp,H' b=none)/\W i n Bz H') ?_ m0 ⟨0,σ,H2,I2,GY,fun b hb=>(f2 b hb).1,w0⟩
 rintro n s3 ⟨i,JF,H3,I3,Nx,Ny,w3⟩
 rcases turn i n JF H3 w3 with ⟨stop,qn⟩|⟨go,N,hN,step⟩
 ·refine wpAny_passesOwn hp (BG (T.done X rfl rfl rfl hc i pins s3 JF H3 X.xe I3 (Ez Ny) Nx stop) fun r s4 ⟨hr,I4⟩=>?_)
  subst hr
  exact wpAny_execs_nil ⟨JF,H3,I4,qn⟩
 ·refine wpAny_passesOwn hp (BG (T.item X rfl rfl rfl hc i pins s3 JF H3 X.xe I3 (Ez Ny) Nx go) fun r s4 ⟨u,hr,h4⟩=>?_)
  subst hr
  refine wpAny_passesOwn hp (BG h4 fun _ s5 ⟨x,H5,I5,r5,y5,JG,LH⟩=>?_)
  have Pj:=I5.pinned (Ez LH) (T.obj _ _ JG)
  refine wpAny_passesOwn hp (BG (hg _ s5 JF H5 x u _ Pj r5 (step x H5 y5)) fun _ s6 ⟨Hw,H6,I6,q6⟩=>?_)
  refine wpAny_passesOwn hp (BG (hb _ s6 Hw H6 _ I6 q6) fun f s7 q7=>?_)
  have again:∀ {FQ:St}{H7:Hp},Inv X (pins++dj fp s5.heap) FQ H7 s7->N FQ H7->∃ m,m < n/\∃ i Bz H',Inv X pins Bz H' s7/\tn i s7.heap/\(∀ b∈fp,H' b=none)/\W i m Bz H':=fun {FQ H7} I7 n7=>by
   obtain⟨m',hm,w7⟩:=hN FQ H7 n7
   refine⟨m',hm,i+1,FQ,H7,I7.CI,T.keep _ _ _ JG fun b hb o e=>(I7.pin (b,o) (List.mem_append_right _ (List.mem_append_right _ (bW hb e)))).1,fun b hb=>?_,w7⟩
   obtain⟨o,e,d⟩:=T.obj _ _ JG b hb
   exact(I7.pin (b,o) (List.mem_append_right _ (List.mem_append_right _ (bW hb e)))).2.1
  cases f with
  | next=>obtain⟨FQ,H7,I7,n7⟩:=q7;exact again I7 n7
  | cont=>obtain⟨FQ,H7,I7,n7⟩:=q7;exact again I7 n7
  | brk=>obtain⟨FQ,H7,I7,q7⟩:=q7;exact⟨FQ,H7,I7.CI,q7⟩
  | ret v=>obtain⟨x7,FQ,H7,I7,r7,q7⟩:=q7;exact⟨x7,FQ,H7,I7.CI,r7,q7⟩
end
noncomputable abbrev R2:=V->V->Hp->VK->Prop
def Dw (X:Cx)(f:Value->Value->Sem Value)(r:R2):Prop:=
 ∀ (pins:List (Addr×Obj)) (s:Shared) (σ:St) (H:Hp) (x y:V) (v u:Value) (Q:VK),Inv X pins σ H s->RelV x v->RelV y u->r x y H Q->
  wpAny (model X.prog X.w) X.A (f v u) (EP X pins σ Q) X.xe s
def LI (X:Cx)(f:Value->Sem Value)(r:V->Hp->VK->Prop):Prop:=
 ∀ (pins:List (Addr×Obj)) (s:Shared) (σ:St) (H:Hp) (x:V) (v:Value) (Q:VK),Inv X pins σ H s->RelV x v->r x H Q->
  wpAny (model X.prog X.w) X.A (f v) (EP X pins σ Q) X.xe s
def bD (X:Cx)(f:Value)(r:List V->Hp->VK->Prop):Prop:=
 ∀ (pins:List (Addr×Obj)) (s:Shared) (σ:St) (H:Hp) (xs:List V) (us:List Value) (Q:VK),Inv X pins σ H s->Vals xs us->r xs H Q->
  wpAny (model X.prog X.w) X.A (call f us) (EP X pins σ Q) X.xe s
def AR (X:Cx)(r:V->Hp->(Bool->Hp->Prop)->Prop):Prop:=
 ∀ (pins:List (Addr×Obj)) (s:Shared) (σ:St) (H:Hp) (x:V) (v:Value) (Q:Bool->Hp->Prop),Inv X pins σ H s->RelV x v->r x H Q->
  wpAny (model X.prog X.w) X.A (truthy v) (TP X pins σ Q) X.xe s
def K0 (r:R2)(ta tb:TE):TE:=fun σ H Q=>ta σ H fun x H1=>tb σ H1 fun y H2=>r x y H2 Q
def Pk (r:V->Hp->VK->Prop)(ta:TE):TE:=fun σ H Q=>ta σ H fun x H1=>r x H1 Q
noncomputable def rI (C:Int->Int->Prop)(g:Int->Int->V):R2:=fun x y H Q=>∃ i j,x=.int i/\y=.int j/\C i j/\Q (g i j) H
noncomputable def LJ (g:Int->Int->V):R2:=fun x y H Q=>∃ i j,x=.int i/\y=.int j/\Q (g i j) H
def rU (g:Int->V):V->Hp->VK->Prop:=fun x H Q=>∃ i,x=.int i/\Q (g i) H
section
variable {X:Cx}{a b c:Expr}{ta tb tc:TE}{pos:Pos}
theorem u6 (ha:PE X a ta)(hb:PE X b tb){pins:List (Addr×Obj)}{s:Shared}{σ:St}{H:Hp}{R:V->V->Hp->Prop}(I:Inv X pins σ H s)
  (h:ta σ H fun x H1=>tb σ H1 fun y H2=>R x y H2) {Q:Value->Shared->Prop}{f:Value->Value->Sem Value}
  (hf:∀ v u s2 x y H2,Inv X pins σ H2 s2->RelV x v->RelV y u->R x y H2->wpAny (model X.prog X.w) X.A (f v u) Q X.xe s2) :
  wpAny (model X.prog X.w) X.A (eval a X.env) (fun v BE=>wpAny (model X.prog X.w) X.A (eval b X.env) (fun u D1=>wpAny (model X.prog X.w) X.A (f v u) Q X.xe D1) X.xe BE) X.xe s:=by
 refine BG (ha pins s σ H _ I h) fun v s1 ⟨x,H1,I1,r1,q1⟩=>?_
 refine BG (hb pins s1 σ H1 _ I1 q1) fun u s2 ⟨y,H2,I2,r2,q2⟩=>?_
 exact hf v u s2 x y H2 I2 r1 r2 q2
theorem me {op:Operator}{r:R2}(ho:Dw X (binaryOp op) r)(ha:PE X a ta)(hb:PE X b tb):PE X (.BinOp a op b pos) (K0 r ta tb):=by
 intro pins s σ H Q I h
 exact wpAny_BinOp (u6 ha hb I h fun v u s2 x y H2 I2 rx ry q=>ho pins s2 σ H2 x y v u Q I2 rx ry q)
theorem xE {op:UnaryOp}{r:V->Hp->VK->Prop}(ho:LI X (unaryOp op) r)(ha:PE X a ta):PE X (.UnaryOp op a pos) (Pk r ta):=by
 intro pins s σ H Q I h
 exact UnaryOp_ (BG (ha pins s σ H _ I h) fun v s1 ⟨x,H1,I1,r1,q1⟩=>ho pins s1 σ H1 x v Q I1 r1 q1)
theorem K1 {f:Value->Value->Sem Value}{C:Int->Int->Prop}{g:Int->Int->Int}
  (rule:∀ (i j:Int) (t u:Tok) (s:Shared) (Q:Value->Shared->Prop) (E:Value->Shared->Prop),C i j->Q (.int (g i j) s.toks) {s with toks:=s.toks+1}->wpAny (model X.prog X.w) X.A (f (.int i t) (.int j u)) Q E s) :
  Dw X f (rI C fun i j=>.int (g i j)):=by
 intro pins s σ H x y v u Q I rx ry h
 obtain⟨i,j,rfl,rfl,hc,q⟩:=h
 obtain⟨t,rfl⟩:=rx
 obtain⟨t',rfl⟩:=ry
 exact rule i j t t' s _ _ hc ⟨.int (g i j),H,I.tok _,⟨_,rfl⟩,q⟩
theorem xF {f:Value->Value->Sem Value}{g:Int->Int->Int}
  (rule:∀ (i j:Int) (t u:Tok) (s:Shared) (Q:Value->Shared->Prop) (E:Value->Shared->Prop),Q (.int (g i j) s.toks) {s with toks:=s.toks+1}->wpAny (model X.prog X.w) X.A (f (.int i t) (.int j u)) Q E s) :
  Dw X f (LJ fun i j=>.int (g i j)):=by
 intro pins s σ H x y v u Q I rx ry h
 obtain⟨i,j,rfl,rfl,q⟩:=h
 obtain⟨t,rfl⟩:=rx
 obtain⟨t',rfl⟩:=ry
 exact rule i j t t' s _ _ ⟨.int (g i j),H,I.tok _,⟨_,rfl⟩,q⟩
def AS (i j:Int):Prop:=0 < j/\j < 1073741824
def AU (i j:Int):Prop:=0<=j/\j<=1000000/\i.natAbs < 2 ^ 64
def u7 (i j:Int):Prop:=(-(2 ^ 64) < i/\i < 2 ^ 64)∨(-(2 ^ 64) < j/\j < 2 ^ 64)
theorem u7.ok {i j:Int}(h:u7 i j):IntMulOk i j:=by
 rcases h with ⟨h1,h2⟩|⟨h1,h2⟩
 ·exact .of_left (intBits_le_64 h1 h2)
 ·exact .of_right (intBits_le_64 h1 h2)
theorem u9:Dw X (binaryOp .Add) (LJ fun i j=>.int (i+j)):=xF fun _ _ _ _ _ _ _ q=>add_int q
theorem vd:Dw X (binaryOp .Sub) (LJ fun i j=>.int (i - j)):=xF fun _ _ _ _ _ _ _ q=>sub_int q
theorem ve:Dw X (binaryOp .Mult) (rI u7 fun i j=>.int (i*j)):=K1 fun _ _ _ _ _ _ _ hc q=>mul_int q hc.ok
theorem ql:Dw X (binaryOp .FloorDiv) (rI AS fun i j=>.int (i / j)):=K1 fun i j _ _ _ _ _ hc q=>by
 have h1:(0:Int) < j:=hc.1
 have h2:j < 1073741824:=hc.2
 exact floordiv_int (by omega) (by rw[Int.fdiv_eq_ediv_of_nonneg i (by omega)];exact q) (.inl (PyProof.noPylong_small (by omega)))
theorem vf:Dw X (binaryOp .Mod) (rI (fun _ j=>0 < j) fun i j=>.int (i % j)):=K1 fun i j _ _ _ _ _ hc q=>by
 have h1:(0:Int) < j:=hc
 exact mod_int' (by omega) (by rw[Int.fmod_eq_emod_of_nonneg i (by omega)];exact q)
theorem vg:Dw X (binaryOp .Pow) (rI AU fun i j=>.int (i ^ j.toNat)):=K1 fun _ _ _ _ _ _ _ hc q=>pow_int_small hc.1 hc.2.1 hc.2.2 q
theorem Pl {f:Value->Sem Value}{g:Int->Int}
  (rule:∀ (i:Int) (t:Tok) (s:Shared) (Q:Value->Shared->Prop) (E:Value->Shared->Prop),Q (.int (g i) s.toks) {s with toks:=s.toks+1}->wpAny (model X.prog X.w) X.A (f (.int i t)) Q E s) :
  LI X f (rU fun i=>.int (g i)):=by
 intro pins s σ H x v Q I rx h
 obtain⟨i,rfl,q⟩:=h
 obtain⟨t,rfl⟩:=rx
 exact rule i t s _ _ ⟨.int (g i),H,I.tok _,⟨_,rfl⟩,q⟩
theorem vi:LI X (unaryOp .USub) (rU fun i=>.int (-i)):=Pl fun _ _ _ _ _ q=>neg_int q
end
section
variable {X:Cx}{a b c:Expr}{ta tb tc:TE}{pos:Pos}
theorem qm {op:CmpOp}{r:R2}(ho:Dw X (compareOp op) r)(ha:PE X a ta)(hb:PE X b tb)(hm:behindInMarks op b=false):PE X (.Compare a [op] [b] pos) (K0 r ta tb):=by
 intro pins s σ H Q I h
 exact wpAny_Compare1 (u6 ha hb I h fun v u s2 x y H2 I2 rx ry q=>ho pins s2 σ H2 x y v u Q I2 rx ry q) hm
def se (t:TE):TT:=fun σ H Q=>t σ H fun x H'=>∃ k,x=.bl k/\Q k H'
theorem qo {op:CmpOp}{r:R2}(ho:Dw X (compareOp op) r)(ha:PE X a ta)(hb:PE X b tb)(hm:behindInMarks op b=false):PT X (.Compare a [op] [b] pos) (se (K0 r ta tb)):=by
 intro pins s σ H Q I h
 refine wpAny_isTrue_Compare1 (BG (ha pins s σ H _ I h) fun v s1 ⟨x,H1,I1,r1,q1⟩=>BG (hb pins s1 σ H1 _ I1 q1) fun u s2 ⟨y,H2,I2,r2,q2⟩=>
  BG (ho pins s2 σ H2 x y v u _ I2 r1 r2 q2) fun c s3 ⟨z,H3,I3,r3,k,e,q3⟩=>?_) hm
 subst e
 cases r3
 exact wpAny_truthy_bool ⟨H3,I3,q3⟩
def mf (r r':R2)(ta tb tc:TE):TE:=fun σ H Q=>ta σ H fun x H1=>tb σ H1 fun y H2=>r x y H2 fun z H3=>∃ k,z=.bl k/\
 (if k=true then tc σ H3 fun w' H4=>r' y w' H4 Q else Q (.bl false) H3)
theorem mh {op Cb:CmpOp}{r r':R2}(ho:Dw X (compareOp op) r)(CD:Dw X (compareOp Cb) r')(ha:PE X a ta)(hb:PE X b tb)(hc:PE X c tc)
  (hm:lastMarks [op,Cb] [b,c]=false:=by with_unfolding_all rfl):PE X (.Compare a [op,Cb] [b,c] pos) (mf r r' ta tb tc):=by
 intro pins s σ H Q I h
 refine Compare_chain (BG (ha pins s σ H _ I h) fun v s1 ⟨x,H1,I1,r1,q1⟩=>chain_link (BG (hb pins s1 σ H1 _ I1 q1) fun u s2 ⟨y,H2,I2,r2,q2⟩=>
  BG (ho pins s2 σ H2 x y v u _ I2 r1 r2 q2) fun d s3 ⟨z,H3,I3,r3,k,e,q3⟩=>?_)) hm
 subst e
 cases r3
 refine wpAny_truthy_bool ?_
 cases k with
 | false=>exact ite_ff ⟨.bl false,H3,I3,rfl,q3⟩
 | true=>exact ite_tt (chain_last (BG (hc pins s3 σ H3 _ I3 q3) fun w' s4 ⟨z',H4,I4,r4,q4⟩=>CD pins s4 σ H4 y z' u w' Q I4 r2 r4 q4))
theorem mi {op Cb:CmpOp}{r r':R2}(ho:Dw X (compareOp op) r)(CD:Dw X (compareOp Cb) r')(ha:PE X a ta)(hb:PE X b tb)(hc:PE X c tc)
  (hm:lastMarks [op,Cb] [b,c]=false:=by with_unfolding_all rfl):PT X (.Compare a [op,Cb] [b,c] pos) (se (mf r r' ta tb tc)):=by
 intro pins s σ H Q I h
 refine isTrue_chain (BG (ha pins s σ H _ I h) fun v s1 ⟨x,H1,I1,r1,q1⟩=>test_link (BG (hb pins s1 σ H1 _ I1 q1) fun u s2 ⟨y,H2,I2,r2,q2⟩=>
  BG (ho pins s2 σ H2 x y v u _ I2 r1 r2 q2) fun d s3 ⟨z,H3,I3,r3,k,e,q3⟩=>?_)) hm
 subst e
 cases r3
 refine wpAny_truthy_bool ?_
 cases k with
 | false=>
  obtain⟨k',e',q'⟩:=q3
  cases e'
  exact ite_ff ⟨H3,I3,q'⟩
 | true=>
  refine ite_tt (test_last (BG (hc pins s3 σ H3 _ I3 q3) fun w' s4 ⟨z',H4,I4,r4,q4⟩=>BG (CD pins s4 σ H4 y z' u w' _ I4 r2 r4 q4) fun d' s5 ⟨z2,H5,I5,r5,k2,e2,q5⟩=>?_))
  subst e2
  cases r5
  exact wpAny_truthy_bool ⟨H5,I5,q5⟩
def AV (K:PySem.W.Frag)(x:V)(H:Hp)(k:Bool):Prop:=
 match x with
 | .By=>k=false
 | .bl b=>k=b
 | .int i=>k=(i != 0)
 | .str y=>y.length<=sizeLine/\k=((y.length:Int) != 0)
 | .Hn y=>y.size<=sizeLine/\k=((y.size:Int) != 0)
 | .ref p=>(∃ xs,Ck K H p xs/\k = !xs.isEmpty)∨(∃ xs,CF K H p xs/\k = !xs.isEmpty)∨∃ kvs,H p=some (.dK kvs)/\k = !kvs.isEmpty
 | _=>False
theorem iY {κ:Type}{kvs:List (κ×V)}{vs:List (κ×Value)}(r:KV kvs vs):(!vs.isEmpty) = !kvs.isEmpty:=by
 cases r<;>rfl
theorem dS {xs:List V}{its:List Value}(r:Vals xs its):(!its.toArray.isEmpty) = !xs.isEmpty:=by
 cases r<;>simp
theorem dU:(sizeLine:Nat) < 2 ^ 63:=by rw[sizeLine_eq];decide
theorem vj:AR X (fun x H Q=>∃ k,AV X.K x H k/\Q k H):=by
 intro pins s σ H x v Q I rx h
 obtain⟨k,e,q⟩:=h
 have hl:=dU
 have hs:sizeLine=16777216:=sizeLine_eq
 cases x with
 | By=>
  cases rx
  have e':k=false:=e
  subst e'
  exact truthy_none ⟨H,I,q⟩
 | bl b=>
  cases rx
  have e':k=b:=e
  subst e'
  exact wpAny_truthy_bool ⟨H,I,q⟩
 | int i=>
  obtain⟨t,rfl⟩:=rx
  have e':k=(i != 0):=e
  subst e'
  exact PySem.P.truthy_int ⟨H,I,q⟩
 | str y=>
  obtain⟨t,rfl⟩:=rx
  obtain⟨hy,e'⟩:y.length<=sizeLine/\k=((y.length:Int) != 0):=e
  subst e'
  exact PySem.P.truthy_str (by omega) ⟨H,I.tok _,q⟩
 | Hn y=>
  obtain⟨t,rfl⟩:=rx
  obtain⟨hy,e'⟩:y.size<=sizeLine/\k=((y.size:Int) != 0):=e
  subst e'
  exact PySem.W.truthy_bytes (by omega) ⟨H,I.tok _,q⟩
 | ref p=>
  cases rx
  have e':(∃ xs,Ck X.K H p xs/\k = !xs.isEmpty)∨(∃ xs,CF X.K H p xs/\k = !xs.isEmpty)∨∃ kvs,H p=some (.dK kvs)/\k = !kvs.isEmpty:=e
  rcases e' with ⟨xs,hx,e'⟩|⟨xs,hx,e'⟩|⟨kvs,hx,e'⟩
  ·subst e'
   obtain⟨its,r,pl,hz⟩:=I.list hx
   have hlen:=r.length
   exact wpAny_truthy_list pl.isList (by simp only[List.size_toArray];omega) ⟨H,I.tok _,by rw[dS r];exact q⟩
  ·subst e'
   obtain⟨its,r,pl,hz⟩:=I.tuple hx
   have hlen:=r.length
   exact truthy_tuple pl (by simp only[List.size_toArray];omega) ⟨H,I.tok _,by rw[dS r];exact q⟩
  ·subst e'
   obtain⟨hz,hS,vs,r,m⟩:kvs.length<=sizeLine/\(p == sysModules)=false/\∃ vs,KV kvs vs/\s.heap.DictOf (aL X.prog X.w) p vs:=I.BD p _ hx
   have hlen:kvs.length=vs.length:=Paired.length r
   exact wpAny_truthy_dict hS m (by omega) ⟨H,I.tok _,by rw[iY r];exact q⟩
 | _=>exact(show False from e).elim
theorem iZ:Dw X (binaryOp .Add) (fun x y H Q=>∃ i j,x=.str i/\y=.str j/\i.length+j.length<=sizeLine/\Q (.str (i++j)) H):=by
 intro pins s σ H x y v u Q I rx ry h
 obtain⟨i,j,rfl,rfl,hz,q⟩:=h
 obtain⟨t,rfl⟩:=rx
 obtain⟨t',rfl⟩:=ry
 exact add_str (fun t' tk=>⟨.str (i++j),H,I.tok _,⟨_,rfl⟩,q⟩) hz
theorem vals1 {x:V}{us:List Value}(r:Vals [x] us):∃ u,us=[u]/\RelV x u:=by
 cases r with
 | cons r1 r2=>cases r2;exact⟨_,rfl,r1⟩
theorem vals2 {x y:V}{us:List Value}(r:Vals [x,y] us):∃ u w',us=[u,w']/\RelV x u/\RelV y w':=by
 cases r with
 | cons r1 r2=>
  cases r2 with
  | cons r3 r4=>cases r4;exact⟨_,_,rfl,r1,r3⟩
theorem kW (hc:X.calm=true):bD X (.builtin "max") (fun xs H Q=>∃ i j,xs=[.int i,.int j]/\Q (.int (if j > i then j else i)) H):=by
 intro pins s σ H xs us Q I r h
 obtain⟨i,j,rfl,q⟩:=h
 obtain⟨u,w',rfl,⟨t,rfl⟩,⟨t',rfl⟩⟩:=vals2 r
 refine max_two_ints (I.ok.hd hc) fun h' tk k=>⟨_,H,I.kept k,?_,q⟩
 by_cases hj:j > i
 ·rw[if_pos hj,if_pos hj];exact⟨_,rfl⟩
 ·rw[if_neg hj,if_neg hj];exact⟨_,rfl⟩
theorem kX (hc:X.calm=true):bD X (.builtin "min") (fun xs H Q=>∃ i j,xs=[.int i,.int j]/\Q (.int (if j < i then j else i)) H):=by
 intro pins s σ H xs us Q I r h
 obtain⟨i,j,rfl,q⟩:=h
 obtain⟨u,w',rfl,⟨t,rfl⟩,⟨t',rfl⟩⟩:=vals2 r
 refine min_two_ints (I.ok.hd hc) fun h' tk k=>⟨_,H,I.kept k,?_,q⟩
 by_cases hj:j < i
 ·rw[if_pos hj,if_pos hj];exact⟨_,rfl⟩
 ·rw[if_neg hj,if_neg hj];exact⟨_,rfl⟩
theorem mj:bD X (.builtin "ord") (fun xs H Q=>∃ x,xs=[.str x]/\x.length=1/\Q (.int (x.cps.getD 0 0:Nat)) H):=by
 intro pins s σ H xs us Q I r h
 obtain⟨x,rfl,hz,q⟩:=h
 obtain⟨u,rfl,t,rfl⟩:=vals1 r
 exact ord_of_one hz ⟨.int _,H,I.tok _,⟨_,rfl⟩,q⟩
def AW (K:PySem.W.Frag)(x:V)(H:Hp)(n:Nat):Prop:=
 match x with
 | .str y=>y.length<=sizeLine/\n=y.length
 | .Hn y=>y.size<=sizeLine/\n=y.size
 | .ref p=>(∃ xs,Ck K H p xs/\n=xs.length)∨∃ xs,CF K H p xs/\n=xs.length
 | _=>False
theorem dW:bD X (.builtin "len") (fun xs H Q=>∃ x n,xs=[x]/\AW X.K x H n/\Q (.int n) H):=by
 intro pins s σ H xs us Q I r h
 obtain⟨x,n,rfl,e,q⟩:=h
 obtain⟨u,rfl,rx⟩:=vals1 r
 have hl:=dU
 have hs:sizeLine=16777216:=sizeLine_eq
 cases x with
 | str y=>
  obtain⟨t,rfl⟩:=rx
  obtain⟨hy,e'⟩:y.length<=sizeLine/\n=y.length:=e
  subst e'
  exact len_str (by omega) ⟨.int _,H,I.tok _,⟨_,rfl⟩,q⟩
 | Hn y=>
  obtain⟨t,rfl⟩:=rx
  obtain⟨hy,e'⟩:y.size<=sizeLine/\n=y.size:=e
  subst e'
  exact PySem.W.len_bytes (by omega) ⟨.int _,H,I.tok _,⟨_,rfl⟩,q⟩
 | ref p=>
  cases rx
  have e':(∃ xs,Ck X.K H p xs/\n=xs.length)∨∃ xs,CF X.K H p xs/\n=xs.length:=e
  rcases e' with ⟨xs,hx,e'⟩|⟨xs,hx,e'⟩
  ·subst e'
   obtain⟨its,r',pl,hz⟩:=I.list hx
   have hlen:=r'.length
   exact Calls.call_len_list pl.isList (by simp only[List.size_toArray];omega) ⟨.int xs.length,H,I.tok _,⟨_,by simp only[List.size_toArray];rw[hlen]⟩,q⟩
  ·subst e'
   obtain⟨its,r',pl,hz⟩:=I.tuple hx
   have hlen:=r'.length
   exact len_tuple pl (by simp only[List.size_toArray];omega) ⟨.int xs.length,H,I.tok _,⟨_,by simp only[List.size_toArray];rw[hlen]⟩,q⟩
 | _=>exact(show False from e).elim
end
theorem eS.some_of {v:V}{o:Option Value}(r:eS (some v) o):∃ u,o=some u/\RelV v u:=by
 cases o with
 | none=>exact(show False from r).elim
 | some u=>exact⟨u,rfl,r⟩
structure Cs (k:Nat)(A:Around):Prop where
 hd:k < 1000->A.handled=none
 dp:A.depth+3*(k % 1000)+5 < recursionLimit
 un:A.units+16*(k % 1000)+200 < cLine
theorem Cs.deeper {k:Nat}{A:Around}(r:Cs (k+1) A)(env:Env)(hk:k % 1000≠999):Cs k (A.deeper env):=
 ⟨fun z=>r.hd (by omega),by have:=r.dp;show A.depth+1+3*(k % 1000)+5 < _;omega,by have:=r.un;show A.units+3+16*(k % 1000)+200 < _;omega⟩
theorem Cs.depth {k:Nat}{A:Around}(r:Cs k A):A.depth < recursionLimit:=by have:=r.dp;omega
def i3:TA:=fun _ H Q=>Q [] H
def cu (ta:TE)(tr:TA):TA:=fun σ H Q=>ta σ H fun x H1=>tr σ H1 fun xs H2=>Q (x::xs) H2
section
variable {X:Cx}{e:Expr}{es:List Expr}{te:TE}{t:TA}{pos:Pos}
theorem aX:PA X [] i3:=fun _ _ _ _ H Q I h=>Calls.spliced_nil ⟨[],H,I,.nil,h⟩
theorem ay (ha:PE X e te)(hr:PA X es t)(hs:starEach (e::es) X.env=(false,eval e X.env)::starEach es X.env:=by rfl):PA X (e::es) (cu te t):=by
 intro pos pins s σ H Q I h
 rw[hs]
 show wpAny _ _ (spliced ((false,eval e X.env)::backTo pos (starEach es X.env))) _ _ s
 refine Calls.spliced_cons (BG (ha pins s σ H _ I h) fun u s1 ⟨x,H1,I1,r1,q1⟩=>?_)
 exact BG (hr pos pins s1 σ H1 _ I1 q1) fun us s2 ⟨xs,H2,I2,r2,q2⟩=>⟨x::xs,H2,I2,.cons r1 r2,q2⟩
def AX (t:TA):TE:=fun σ H Q=>t σ H fun xs H1=>xs.length<=sizeLine/\∀ p,H1 p=none->Q (.ref p) (upd H1 p (.tup xs))
def AY (t:TA):TE:=fun σ H Q=>t σ H fun xs H1=>xs.length<=sizeLine/\∀ p,H1 p=none->Q (.ref p) (upd H1 p (.lst xs))
theorem i4 {x1}(h:PA X es t):PE X (.Tuple es x1 pos) (AX t):=by
 intro pins s σ H Q I hq
 refine wpAny_Tuple_spliced (BG (h pos pins s σ H _ I hq) fun us s1 ⟨xs,H1,I1,r,z,q⟩=>⟨by rw[<- r.length];exact z,?_⟩)
 have hf:H1 s1.heap.objs.size=none:=I1.BD.fresh (Nat.le_refl _)
 refine⟨.ref s1.heap.objs.size,upd H1 s1.heap.objs.size (.tup xs),I1.laid (t':=s1.toks) (fun b u e=>Heap.get?_push_of_some _ e) (Nat.le_refl _) ?_,rfl,q _ hf⟩
 exact⟨z,us,r,⟨_,Heap.get?_push_size _ rfl,rfl,_,rfl⟩⟩
theorem ml (h:PA X es t):PE X (.List es pos) (AY t):=by
 intro pins s σ H Q I hq
 refine wpAny_List_spliced (BG (h pos pins s σ H _ I hq) fun us s1 ⟨xs,H1,I1,r,z,q⟩=>⟨by rw[<- r.length];exact z,?_⟩)
 have hf:H1 s1.heap.objs.size=none:=I1.BD.fresh (Nat.le_refl _)
 refine⟨.ref s1.heap.objs.size,upd H1 s1.heap.objs.size (.lst xs),I1.laid (t':=s1.toks) (fun b u e=>Heap.get?_push_of_some _ e) (Nat.le_refl _) ?_,rfl,q _ hf⟩
 exact⟨z,us,0,r,Heap.get?_push_size _ rfl⟩
end
noncomputable abbrev Sp:=List V->Hp->VK->XK->Prop
noncomputable abbrev Cy:=List Env->Hp->Shared->XK->Value->Shared->Prop
structure EA (P:Program)(w:World)(K:PySem.W.Frag)(mg:Str->Option Value)(base:Heap)(A:Around)(outer:List Env)(s:Shared)(H:Hp):Prop where
 frames:A.frames=some outer
 mod:Mod K mg base
 bs:∀ b o,base.get? b=some o->s.heap.get? b=some o/\H b=none
 Et:base.objs.size<=s.heap.objs.size
 B9:s.heap.FunFrames base outer
 DH:∀ b∈Cg outer,H b=none
 BD:BX P w H s.heap
 bare:AllBare s.gens
def CE (outer:List Env)(P:Program)(w:World)(H:Hp)(s:Shared)(Q:VK)(u:Value)(s':Shared):Prop:=
 ∃ v H',s'.os=s.os/\AllBare s'.gens/\Un (Cg outer) [] H H' s.heap s'.heap/\BX P w H' s'.heap/\RelV v u/\Q v H'
def CR (CX:Cy)(outer:List Env)(P:Program)(w:World)(H:Hp)(s:Shared)(Q:VK)(E:XK)(r:Result)(s':Shared):Prop:=
 match r with
 | .ok (.ret u)=>CE outer P w H s Q u s'
 | .ok _=>False
 | .error e=>CX outer H s E e s'
structure CJ (P:Program)(w:World)(K:PySem.W.Frag)(mg:Str->Option Value)(base:Heap)(CX:Cy)(k:Nat)(f:Addr)(fd:FuncData)(ps:List Str)(sp:Sp):Prop where
 len:∀ vs H Q E,sp vs H Q E->vs.length=ps.length
 run:∀ (A:Around) (outer:List Env) (s:Shared) (H:Hp) (args:Args) (us:List Value) (vs:List V) (Q:VK) (E:XK),Cs k A->EA P w K mg base A outer s H->BindsTo s fd args (ps.zip us)->Vals vs us->sp vs H Q E->
  codeAny (model P w) A (.call (.ref f) args) (CR CX outer P w H s Q E) s
section
variable {X:Cx}{pins:List (Addr×Obj)}{σ:St}{H:Hp}{s s':Shared}
theorem Inv.Dk (I:Inv X pins σ H s):EA X.prog X.w X.K X.mg X.base X.A X.stack s H:=
 ⟨I.ok.frames,I.ok.mod,I.bs,Nat.le_trans I.ok.Et I.sz,I.stack,I.DI,I.BD,I.bare⟩
theorem Inv.after {Q:VK}{u:Value}(I:Inv X pins σ H s)(h:CE X.stack X.prog X.w H s Q u s'):EP X pins σ Q u s':=by
 obtain⟨v,H',os,bare,un,BD,r,q⟩:=h
 obtain⟨hh,g,d,t,Pm⟩:=s'
 obtain rfl:Pm=s.os:=os
 exact⟨v,H',I.call (h':=hh) (g':=g) (d':=d) (t':=t) (ch:=[]) un BD bare (fun b z=>absurd z (by simp)),r,q⟩
end
def Binds (K:PySem.W.Frag)(fd:FuncData)(ps:List Str)(ds:List Value):Prop:=
 ∀ (s:Shared) (us:List Value),K.In s.heap->(us++ds).length=ps.length->BindsTo s fd ⟨us,[]⟩ (ps.zip (us++ds))
theorem Binds.all {K:PySem.W.Frag}{fd:FuncData}{ps:List Str}(h:∀ us:List Value,us.length=ps.length->bindArgs fd ⟨us,[]⟩=pure (ps.zip us)):Binds K fd ps []:=fun s us _ hl=>by
 rw[List.append_nil] at hl ⊢
 exact .of_eq (h us hl)
def Passes (CX:Cy)(X:Cx)(E:XK):Prop:=∀ (pins:List (Addr×Obj)) (σ:St) (H:Hp) (s:Shared) (e:Value) (s':Shared),Inv X pins σ H s->CX X.stack H s E e s'->X.xe e s'
structure DJ (N P:List Str)(sc:Scope):Prop where
 kind:sc.kind=.function
 co:sc.isCoroutine=false
 gen:sc.isGenerator=false
 nd:N.Nodup
 pre:N.take P.length=P
 par:∀ x∈P,sc.names.lookup x=some .local∨sc.names.lookup x=some .cell
 Hx:∀ y∈sc.names,y.2≠.free
theorem ff {kindOf:Str->Option NameKind}{x:Str}:∀ {binds:List (Str×Value)}{m:Str->Option Value},(∀ v,(x,v)∉binds)->bindL kindOf binds m x=m x
 | [],_,_=>rfl
 | (n,v)::r,m,h=>by
  unfold bindL
  rw[ff fun w hw=>h w (List.mem_cons_of_mem _ hw)]
  split
  ·have:x≠n:=by rintro rfl;exact h v List.mem_cons_self
   simp[this]
  ·rfl
theorem fg {kindOf:Str->Option NameKind}{x:Str}:∀ {binds:List (Str×Value)}{m:Str->Option Value},(∀ v,(x,v)∉binds)->bindC kindOf binds m x=m x
 | [],_,_=>rfl
 | (n,v)::r,m,h=>by
  unfold bindC
  rw[fg fun w hw=>h w (List.mem_cons_of_mem _ hw)]
  split
  ·rfl
  ·have:x≠n:=by rintro rfl;exact h v List.mem_cons_self
   simp[this]
theorem fq {kindOf:Str->Option NameKind}{x:Str}{v:Value}:∀ {P:List Str}{vs:List Value}{i:Nat}{m:Str->Option Value},P.Nodup->P[i]? = some x->vs[i]? = some v->kindOf x=some .local->
  bindL kindOf (P.zip vs) m x=some v
 | [],_,_,_,_,h,_,_=>by simp at h
 | _::_,[],_,_,_,_,h,_=>by simp at h
 | p::P,w::vs,0,m,nd,h1,h2,hk=>by
  simp at h1 h2;subst h1;subst h2
  show bindL kindOf ((p,w)::P.zip vs) m p=_
  unfold bindL
  rw[ff fun v hv=>(List.nodup_cons.mp nd).1 (List.of_mem_zip hv).1,if_pos hk]
  simp
 | p::P,w::vs,i+1,m,nd,h1,h2,hk=>by
  show bindL kindOf ((p,w)::P.zip vs) m x=_
  unfold bindL
  exact fq (i:=i) (List.nodup_cons.mp nd).2 (by simpa using h1) (by simpa using h2) hk
theorem ft {kindOf:Str->Option NameKind}{x:Str}{v:Value}:∀ {P:List Str}{vs:List Value}{i:Nat}{m:Str->Option Value},P.Nodup->P[i]? = some x->vs[i]? = some v->kindOf x≠some .local->
  bindC kindOf (P.zip vs) m x=some v
 | [],_,_,_,_,h,_,_=>by simp at h
 | _::_,[],_,_,_,_,h,_=>by simp at h
 | p::P,w::vs,0,m,nd,h1,h2,hk=>by
  simp at h1 h2;subst h1;subst h2
  show bindC kindOf ((p,w)::P.zip vs) m p=_
  unfold bindC
  rw[fg fun v hv=>(List.nodup_cons.mp nd).1 (List.of_mem_zip hv).1,if_neg hk]
  simp
 | p::P,w::vs,i+1,m,nd,h1,h2,hk=>by
  show bindC kindOf ((p,w)::P.zip vs) m x=_
  unfold bindC
  exact ft (i:=i) (List.nodup_cons.mp nd).2 (by simpa using h1) (by simpa using h2) hk
noncomputable def start (N:List Str)(vs:List V):St:=vs.map some++List.replicate (N.length - vs.length) none
noncomputable def bX (CX:Cy)(P:Program)(w:World)(K:PySem.W.Frag)(mg:Str->Option Value)(base:Heap)(N:List Str)(qual:Str)(scope:Scope)(f:Addr)(cd:Value)(A:Around)(outer:List Env)(s:Shared)(H:Hp)(E:XK):Cx where
 prog:=P
 w:=w
 K:=K
 mg:=mg
 base:=base
 A:=A.deeper (envOfC qual scope s.heap.objs.size f cd)
 N:=N
 BS:=s
 Cr:=H
 env:=envOfC qual scope s.heap.objs.size f cd
 outer:=outer
 stack:=envOfC qual scope s.heap.objs.size f cd::outer
 ex:=[]
 calm:=A.handled.isNone
 fn:=fun _=>true
 pn:=[]
 xe:=fun e s'=>wpAny (model P w) (A.deeper (envOfC qual scope s.heap.objs.size f cd)) (leaving (envOfC qual scope s.heap.objs.size f cd) e) (fun _ Gp=>CX outer H s E e Gp) (fun e' Gp=>CX outer H s E e' Gp) s'
theorem gR {sc:Scope}{n:Nat}{x:Str}(h:sc.names.lookup x=some .cell):∃ c,(cellsFrom n sc.names []).lookup x=some c:=by
 have q:=PySem.W.cellsFrom_some sc.names n [] (.inl h)
 exact Option.isSome_iff_exists.mp q
theorem kY {CX:Cy}{P:Program}{w:World}{K:PySem.W.Frag}{mg:Str->Option Value}{base:Heap}{N ps:List Str}{qual:Str}{scope:Scope}{f:Addr}{cd:Value}{A:Around}{outer:List Env}{s s1:Shared}{H:Hp}{E:XK}{us:List Value}{vs:List V}
  (S:DJ N ps scope) (e0:EA P w K mg base A outer s H) (hl:vs.length=ps.length) (r:Vals vs us)
  (x:InCallC s s.heap.objs.size (bindL (envOfC qual scope s.heap.objs.size f cd).kindOf (ps.zip us) fun _=>none) (cellsFrom (s.heap.objs.size+1) scope.names []) (bindC (envOfC qual scope s.heap.objs.size f cd).kindOf (ps.zip us) fun _=>none) s1) :
  Inv (bX CX P w K mg base N qual scope f cd A outer s H E) [] (start N vs) H s1:=by
 have En:ps.length<=N.length:=by have:=congrArg List.length S.pre;rw[List.length_take] at this;omega
 obtain⟨h1,tk,rfl,hk⟩:=x.done
 have JH:∀ b:Addr,b∉(bX CX P w K mg base N qual scope f cd A outer s H E).ex:=fun b z=>absurd (show b∈([]:List Addr) from z) (by simp)
 refine⟨⟨e0.mod,S.kind,rfl,rfl,Nat.le_refl _,fun y z c h1 h2=>?_,fun y hy=>?_,fun y c _ h=>?_,fun h=>Option.isNone_iff_eq_none.mp h,Around.frames_deeper e0.frames,.inr ⟨rfl,rfl⟩,fun b z=>absurd z (JH b),e0.bs,e0.Et,fun b _ _=>JH b,fun b z=>absurd z (JH b),e0.B9,e0.DH⟩,
  rfl,e0.bare,Un.kept hk,⟨_,x.toInCall.ns,fun i y v h1 h2 h3=>?_⟩,fun y c h=>⟨_,x.cell y c h⟩,e0.BD.fresh (Nat.le_refl _),fun y c h=>?_,fun p hp=>absurd (show p∈([]:List (Addr×Obj)) from hp) (by simp),e0.BD.kept hk,?_⟩
 ·exact name_of_addr x.apart (PySem.mem_of_lookup h1) (PySem.mem_of_lookup h2)
 ·have hy:scope.names.lookup y=some .cell∨scope.names.lookup y=some .free:=hy
  rcases hy with hy|hy
  ·exact gR hy
  ·exact absurd rfl (S.Hx _ (PySem.mem_of_lookup hy))
 ·exact Nat.le_of_lt (x.above y c (PySem.mem_of_lookup h))
 ·have hi:i < vs.length:=by
   unfold start at h2
   by_cases hi:i < vs.length
   ·exact hi
   ·rw[List.getElem?_append_right (by simpa using hi)] at h2
    rw[List.getElem?_replicate] at h2
    split at h2<;>cases h2
  have ha:vs[i]? = some v:=by
   unfold start at h2
   rw[List.getElem?_append_left (by simpa using hi),List.getElem?_map] at h2
   cases e:vs[i]? with
   | none=>rw[e] at h2;cases h2
   | some a=>rw[e] at h2;cases h2;rfl
  obtain⟨u,hu,rv⟩:=r.get ha
  have hp:ps[i]? = some y:=by
   rw[<- S.pre,List.getElem?_take_of_lt (by omega)];exact h1
  have Nz:ps.Nodup:=by rw[<- S.pre];exact S.nd.sublist (List.take_sublist _ _)
  refine⟨u,rv,?_⟩
  rcases S.par y (List.mem_of_getElem? hp) with k|k
  ·exact .inl ⟨k,fq Nz hp hu k⟩
  ·obtain⟨c,e⟩:=gR (n:=s.heap.objs.size+1) k
   refine .inr ⟨.inl k,c,e,?_⟩
   have q:=x.cell y c e
   rw[ft Nz hp hu (by show scope.names.lookup y≠_;rw[k];decide)] at q
   exact q
 ·exact e0.BD.fresh (Nat.le_of_lt (x.above y c (PySem.mem_of_lookup h)))
 ·unfold start
  show _=N.length
  rw[List.length_append,List.length_map,List.length_replicate]
  omega
theorem sf {CX:Cy}{P:Program}{w:World}{K:PySem.W.Frag}{mg:Str->Option Value}{base:Heap}{k:Nat}{f:Addr}{name qual:Str}{params:Arguments}{body:List Stmt}{scope:Scope}{dV kV doc pm Dl ct oc:Value}{an od:Option Addr}
  {Gq:Array (Option Value)}{N ps:List Str}{sp:Sp} (lk:K.lookup f=some ⟨oc,od,.func (PySem.W.fnOf name qual params body scope dV kV doc pm an Dl ct),Gq⟩) (FN:PySem.W.codeIn K Dl qual=true) (S:DJ N ps scope)
  (Pn:k % 1000≠999) (len:∀ vs H Q E,sp vs H Q E->vs.length=ps.length)
  (FR:∀ (A:Around) (outer:List Env) (s:Shared) (H:Hp) (vs:List V) (Q:VK) (E:XK),Cs k (A.deeper (envOfC qual scope s.heap.objs.size f Dl))->sp vs H Q E->
   ∃ t,Ex (bX CX P w K mg base N qual scope f Dl A outer s H E) body t/\t {nx:=fun _ H'=>Q .By H',rt:=Q} (start N vs) H) :
  CJ P w K mg base CX (k+1) f (PySem.W.fnOf name qual params body scope dV kV doc pm an Dl ct) ps sp:=by
 refine⟨len,fun A outer s H args us vs Q E hr e0 hb r DZ=>?_⟩
 have hl:=len _ _ _ _ DZ
 have KX:K.In s.heap:=e0.mod.Ht.keeps fun b o e=>(e0.bs b o e).1
 have lim:s.heap.NoLimit:=e0.mod.nolimit.keeps fun b o e=>(e0.bs b o e).1
 have JI:∀ y∈ps.zip us,scope.names.lookup y.1=some .local∨(scope.names.lookup y.1=some .cell/\((cellsFrom (s.heap.objs.size+1) scope.names []).lookup y.1).isSome=true):=fun ⟨n,v⟩ hy=>by
  rcases S.par n (List.of_mem_zip hy).1 with q|q
  ·exact .inl q
  ·exact .inr ⟨q,PySem.W.cellsFrom_some _ _ _ (.inl q)⟩
 refine codeAny_call_function hr.depth (KX _ _ lk) rfl S.co S.gen rfl (PySem.W.codeRec_of KX FN) (hb _ _ _ _ ?_)
 refine wpAny_newFunctionEnv_cells S.kind JI fun env he s1 x=>?_
 subst he
 refine⟨lim.keeps x.toInCall.keep,codeAny_func ?_⟩
 obtain⟨t,ht,hq⟩:=FR A outer s H vs Q E (hr.deeper _ Pn) DZ
 have I:Inv (bX CX P w K mg base N qual scope f Dl A outer s H E) [] (start N vs) H s1:=kY S e0 hl r x
 refine wpAny_mono (ht [] s1 (start N vs) H _ I hq) (fun fl s' hs=>?_) fun e s' hs=>hs
 have fin:∀ {Bz:St}{H':Hp}{v:V}{u:Value},Inv (bX CX P w K mg base N qual scope f Dl A outer s H E) [] Bz H' s'->RelV v u->Q v H'->CE outer P w H s Q u s':=
  fun {Bz H' v u} J rv q=>⟨v,H',J.os,J.bare,J.base,J.BD,rv,q⟩
 cases fl with
 | ret u=>
  obtain⟨v,Bz,H',J,rv,q⟩:=hs
  exact fin J rv q
 | next=>
  obtain⟨Bz,H',J,q⟩:=hs
  exact fin (v:=V.By) (u:=Value.none) J rfl q
 | brk=>
  obtain⟨_,_,_,q⟩:=hs
  exact False.elim q
 | cont=>
  obtain⟨_,_,_,q⟩:=hs
  exact False.elim q
section
variable {X:Cx}{x:Str}{p pos:Pos}{e:Expr}{es:List Expr}{t:TA}{id T:String}{r:List V->Hp->VK->Prop}
def LK (r:List V->Hp->VK->Prop)(t:TA):TE:=fun σ H Q=>t σ H fun vs H1=>r vs H1 Q
theorem cR (hc:bD X (.builtin id) r)(hg:Gl X x)(hm:X.mg x=none)(hv:bootBuiltins x=some (.builtin id))(ha:PA X (e::es) t)(hn:x≠"__name__":=by decide) (LL:(x == ("__debug__" : Str))=false:=by decide)
  (he:starEach (e::es) X.env=(false,eval e X.env)::starEach es X.env:=by rfl) (En:(backTo pos (starEach es X.env)).any (·.1)=false:=by rfl):PE X (.Call (.Name x p) (e::es) [] pos) (LK r t):=by
 intro pins s σ H Q I h
 refine wpAny_Call_Name_kw (bV I hg hm hv ?_ hn LL)
 exact PyProof.Rows.callWith_builtin1 (BG (ha pos pins s σ H _ I h) fun us s1 ⟨vs,H1,I1,r1,q1⟩=>hc pins s1 σ H1 vs us Q I1 r1 q1) he En
theorem kZ (hc:bD X (.type T) r)(hg:Gl X x)(hm:X.mg x=none)(hv:bootBuiltins x=some (.type T))(ha:PA X (e::es) t)(hn:x≠"__name__":=by decide) (LL:(x == ("__debug__" : Str))=false:=by decide)
  (he:starEach (e::es) X.env=(false,eval e X.env)::starEach es X.env:=by rfl) (En:(backTo pos (starEach es X.env)).any (·.1)=false:=by rfl):PE X (.Call (.Name x p) (e::es) [] pos) (LK r t):=by
 intro pins s σ H Q I h
 refine wpAny_Call_Name_kw (bV I hg hm hv ?_ hn LL)
 exact PyProof.Rows.callWith_type1 (BG (ha pos pins s σ H _ I h) fun us s1 ⟨vs,H1,I1,r1,q1⟩=>hc pins s1 σ H1 vs us Q I1 r1 q1) he En
end
end L2
namespace HT
open PySem PyProof.Rows
section
variable {prog:Program}{w:World}{A:Around}{E:Value->Shared->Prop}{s:Shared}
noncomputable def DK (n d:Nat):Option Int->Nat
 | none=>d
 | some v=>if v < 0 then (v+(n:Int)).toNat else min v.toNat n
end
end HT
namespace L2
open PySem PySem.Spec PyProof.Rows
noncomputable abbrev TO:=St->Hp->(Option Int->Hp->Prop)->Prop
def PO (X:Cx)(e:Option Expr)(t:TO):Prop:=
 ∀ (pins:List (Addr×Obj)) (s:Shared) (σ:St) (H:Hp) (Q:Option Int->Hp->Prop),Inv X pins σ H s->t σ H Q->
  wpAny (model X.prog X.w) X.A (evalPart e X.env) (fun u s'=>∃ o H',Inv X pins σ H' s'/\IsPart u o/\Q o H') X.xe s
noncomputable def qr:TO:=fun _ H Q=>Q none H
noncomputable def xG (t:TE):TO:=fun σ H Q=>t σ H fun x H1=>∃ i,x=.int i/\Q (some i) H1
section
variable {X:Cx}{e:Expr}{te:TE}{lo hi:Option Expr}{tl th:TO}{pos p2:Pos}
theorem qt:PO X none qr:=by
 intro pins s σ H Q I h
 rw[evalPart_none]
 exact wpAny_pure ⟨none,H,I,.none,h⟩
theorem qu (h:PE X e te):PO X (some e) (xG te):=by
 intro pins s σ H Q I hw
 rw[evalPart_some]
 refine BG (h pins s σ H _ I hw) fun u s1 ⟨x,H1,I1,r1,q1⟩=>?_
 obtain⟨i,rfl,q⟩:=q1
 obtain⟨t,rfl⟩:=r1
 exact⟨some i,H1,I1,.int i t,q⟩
def K2 (X:Cx)(r:V->Option Int->Option Int->Hp->VK->Prop):Prop:=
 ∀ (pins:List (Addr×Obj)) (s:Shared) (σ:St) (H:Hp) (x:V) (v vl vu:Value) (lo hi:Option Int) (sl:Addr) (Q:VK),Inv X pins σ H s->RelV x v->s.heap.IsSliceOf sl vl vu .none->IsPart vl lo->IsPart vu hi->r x lo hi H Q->
  ∃ T id,typeLookup (.type T) "__getitem__" = pure (some (.builtin id))/\s.TypeIs v T/\wpAny (model X.prog X.w) X.A (getItem v (.ref sl)) (EP X pins σ Q) X.xe s
def Po (r:V->Option Int->Option Int->Hp->VK->Prop)(te:TE)(tl th:TO):TE:=fun σ H Q=>te σ H fun x H1=>tl σ H1 fun l H2=>th σ H2 fun u H3=>r x l u H3 Q
theorem gS {r:V->Option Int->Option Int->Hp->VK->Prop}(hr:K2 X r)(he:PE X e te)(hl:PO X lo tl)(hu:PO X hi th):PE X (.Subscript e (.Slice lo hi none p2) pos) (Po r te tl th):=by
 intro pins s σ H Q I h
 refine Subscript_ (BG (he pins s σ H _ I h) fun v s1 ⟨x,H1,I1,r1,q1⟩=>?_)
 refine wpAny_Slice (BG (hl pins s1 σ H1 _ I1 q1) fun vl s2 ⟨l,H2,I2,pl,q2⟩=>BG (hu pins s2 σ H2 _ I2 q2) fun vu s3 ⟨u,H3,I3,pu,q3⟩=>?_)
 rw[evalPart_none]
 refine wpAny_pure ?_
 have I4:Inv X pins σ H3 {s3 with heap:=s3.heap.push {cls:=.type "slice",data:=.fields #[vl,vu,.none]}}:=I3.kept (t':=s3.toks) fun b ob q=>Heap.get?_push_of_some _ q
 obtain⟨T,id,hT,ht,hg⟩:=hr pins {s3 with heap:=s3.heap.push {cls:=.type "slice",data:=.fields #[vl,vu,.none]}} σ H3 x v vl vu l u s3.heap.objs.size Q I4 r1 (Heap.IsSliceOf.new ..) pl pu q3
 show wpAny (model X.prog X.w) X.A (subscriptTail e (.Slice lo hi none p2) v (.ref s3.heap.objs.size)) (EP X pins σ Q) X.xe {s3 with heap:=s3.heap.push {cls:=.type "slice",data:=.fields #[vl,vu,.none]}}
 exact tail_any (ops:=[.ref s3.heap.objs.size,v]) ht hT hg (by with_unfolding_all rfl)
noncomputable def k6 (xs:List V)(lo hi:Option Int):List V:=(xs.drop (HT.DK xs.length 0 lo)).take (HT.DK xs.length xs.length hi - HT.DK xs.length 0 lo)
theorem gU (xs:List V)(lo hi:Option Int):(k6 xs lo hi).length<=xs.length:=by
 unfold k6
 rw[List.length_take,List.length_drop]
 omega
end
noncomputable def GZ (n:Nat)(i:Int):Option Nat:=if 0<=i then (if i < n then some i.toNat else none) else if -(n:Int)<=i then some (i+n).toNat else none
noncomputable def Dm {α:Type}(xs:List α)(i:Int):Option α:=(GZ xs.length i).bind fun j=>xs[j]?
theorem qv {n:Nat}{i:Int}{j:Nat}(h:GZ n i=some j):seqIndex? i n=some j/\j < n/\-(n:Int)<=i/\i < n:=by
 unfold GZ at h
 by_cases h0:0<=i
 ·rw[if_pos h0] at h
  by_cases h1:i < n
  ·rw[if_pos h1] at h
   have e:i.toNat=j:=Option.some.inj h
   exact⟨by rw[seqIndex_of h0 h1,e],by omega,by omega,h1⟩
  ·rw[if_neg h1] at h;cases h
 ·rw[if_neg h0] at h
  by_cases h1 : -(n:Int)<=i
  ·rw[if_pos h1] at h
   have e:(i+n).toNat=j:=Option.some.inj h
   exact⟨by rw[seqIndex_neg (by omega) h1,e],by omega,h1,by omega⟩
  ·rw[if_neg h1] at h;cases h
theorem fY {α:Type}{xs:List α}{i:Int}{v:α}(h:Dm xs i=some v):∃ j,seqIndex? i xs.length=some j/\xs[j]? = some v/\j < xs.length/\-(xs.length:Int)<=i/\i < xs.length:=by
 unfold Dm at h
 cases e:GZ xs.length i with
 | none=>rw[e] at h;cases h
 | some j=>
  rw[e] at h
  obtain⟨h1,h2,h3,h4⟩:=qv e
  exact⟨j,h1,h,h2,h3,h4⟩
def qw (b:Expr):Prop:=∀ o i,subscripted b false o i=operate [o,i] (getItem o i)
def Gd (X:Cx)(r:R2):Prop:=
 ∀ (value slice:Expr) (pins:List (Addr×Obj)) (s:Shared) (σ:St) (H:Hp) (x y:V) (v u:Value) (Q:VK),Inv X pins σ H s->RelV x v->RelV y u->r x y H Q->
  subscripted slice false v u=operate [v,u] (getItem v u)->wpAny (model X.prog X.w) X.A (subscriptTail value slice v u) (EP X pins σ Q) X.xe s
def NA (X:Cx)(id:String)(r:V->List V->Hp->VK->Prop):Prop:=
 ∀ (pins:List (Addr×Obj)) (s:Shared) (σ:St) (H:Hp) (x:V) (xs:List V) (v:Value) (us:List Value) (Q:VK),Inv X pins σ H s->RelV x v->Vals xs us->r x xs H Q->
  wpAny (model X.prog X.w) X.A (call (.builtin id) (v::us)) (EP X pins σ Q) X.xe s
section
variable {X:Cx}{a b:Expr}{ta tb:TE}{pos:Pos}
theorem Gd.or {r r':R2}(h:Gd X r)(h':Gd X r'):Gd X (fun x y H Q=>r x y H Q∨r' x y H Q):=by
 intro value slice pins s σ H x y v u Q I rx ry q hs
 rcases q with q|q
 ·exact h value slice pins s σ H x y v u Q I rx ry q hs
 ·exact h' value slice pins s σ H x y v u Q I rx ry q hs
theorem xH {r:R2}(hr:Gd X r)(ha:PE X a ta)(hb:PE X b tb)(hs:qw b):PE X (.Subscript a b pos) (K0 r ta tb):=by
 intro pins s σ H Q I h
 exact Subscript_ (u6 ha hb I h fun v u s2 x y H2 I2 rx ry q=>hr a b pins s2 σ H2 x y v u Q I2 rx ry q (hs _ _))
noncomputable def xI (K:PySem.W.Frag):R2:=fun x y H Q=>∃ p xs i v,x=.ref p/\y=.int i/\Ck K H p xs/\Dm xs i=some v/\Q v H
noncomputable def xJ (K:PySem.W.Frag):R2:=fun x y H Q=>∃ p xs i v,x=.ref p/\y=.int i/\CF K H p xs/\Dm xs i=some v/\Q v H
noncomputable def xK:R2:=fun x y H Q=>∃ z i c,x=.str z/\y=.int i/\z.length<=sizeLine/\Dm z.cps.toList i=some c/\Q (.str ⟨#[c]⟩) H
theorem qx:Gd X (xI X.K):=by
 intro value slice pins s σ H x y v u Q I rx ry h hs
 obtain⟨p,xs,i,z,rfl,rfl,hq,he,q⟩:=h
 cases rx
 obtain⟨t,rfl⟩:=ry
 obtain⟨its,r,pl,hz⟩:=I.list hq
 obtain⟨j,h1,h2,h3,h4,h5⟩:=fY he
 obtain⟨w,ew,Gr⟩:=r.get h2
 have hl:=r.length
 have hn:=dU
 have fin:EP X pins σ Q w s:=⟨z,H,I,Gr,q⟩
 by_cases h0:0<=i
 ·have hj:i.toNat=j:=by
   rw[seqIndex_of h0 h5] at h1
   exact Option.some.inj h1
  exact item_listR pl.isList h0 (by omega) (by rw[hj];simpa using ew) fin hs
 ·have hj:(i+(its.toArray.size:Int)).toNat=j:=by
   rw[seqIndex_neg (by omega) h4] at h1
   rw[List.size_toArray,<- hl]
   exact Option.some.inj h1
  exact subscriptTail_builtinR (x:=w) pl.isList.typeIs slot_list_getitem.lookup
   (wpAny_getItem_list_neg (Q:=fun r s'=>r=w/\EP X pins σ Q r s') pl.isList (by omega) (by rw[List.size_toArray]<;>omega) (by omega) (by rw[hj];simpa using ew) ⟨rfl,fin⟩) hs
theorem vk:Gd X (xJ X.K):=by
 intro value slice pins s σ H x y v u Q I rx ry h hs
 obtain⟨p,xs,i,z,rfl,rfl,hq,he,q⟩:=h
 cases rx
 obtain⟨t,rfl⟩:=ry
 obtain⟨its,r,pl,hz⟩:=I.tuple hq
 obtain⟨j,h1,h2,h3,h4,h5⟩:=fY he
 obtain⟨w,ew,Gr⟩:=r.get h2
 have hl:=r.length
 have hn:=dU
 have fin:EP X pins σ Q w s:=⟨z,H,I,Gr,q⟩
 exact subscriptTail_builtinR (x:=w) pl.typeIs slot_tuple_getitem.lookup
  (getItem_tuple (j:=j) (Q:=fun r s'=>r=w/\EP X pins σ Q r s') pl (by omega) (by omega) (by rw[List.size_toArray,<- hl];exact h1) (by simpa using ew) ⟨rfl,fin⟩) hs
theorem vm:Gd X xK:=by
 intro value slice pins s σ H x y v u Q I rx ry h hs
 obtain⟨z,i,c,rfl,rfl,hz,he,q⟩:=h
 obtain⟨t,rfl⟩:=rx
 obtain⟨t',rfl⟩:=ry
 obtain⟨j,h1,h2,h3,h4,h5⟩:=fY he
 have hl:z.cps.toList.length=z.length:=by simp[Str.length]
 rw[hl] at h1 h4 h5
 have hn:=dU
 exact tail_any (typeIs_str s z t) slot_str_getitem.lookup (getItem_str (c:=c) (by
  have e1:decide (i < -(2 ^ 63:Int))=false:=decide_eq_false (by omega)
  have e2:decide (i >= 2 ^ 63)=false:=decide_eq_false (by omega)
  rw[e1,e2,Bool.or_false]) (by rw[h1];simpa using h2) ⟨.str ⟨#[c]⟩,H,I.tok _,⟨_,rfl⟩,q⟩) hs
noncomputable def Pp (K:PySem.W.Frag):R2:=fun x y H Q=>xI K x y H Q∨xJ K x y H Q∨xK x y H Q
theorem vn:Gd X (Pp X.K):=qx.or (vk.or vm)
theorem fZ (lo hi:Option Int)(n:Nat):(sliceBounds lo hi none n).1=((HT.DK n 0 lo:Nat):Int)/\(sliceBounds lo hi none n).2.1=((HT.DK n n hi:Nat):Int)/\(sliceBounds lo hi none n).2.2=1:=by
 refine⟨?_,?_,rfl⟩
 ·cases lo with
  | none=>simp[sliceBounds,HT.DK]
  | some i=>
   simp only[sliceBounds,HT.DK,Option.getD_none,show (1:Int) > 0 by decide,if_true]
   by_cases h:i < 0
   ·simp only[h,if_true]<;>omega
   ·simp only[h,if_false]<;>omega
 ·cases hi with
  | none=>simp[sliceBounds,HT.DK]
  | some i=>
   simp only[sliceBounds,HT.DK,Option.getD_none,show (1:Int) > 0 by decide,if_true]
   by_cases h:i < 0
   ·simp only[h,if_true]<;>omega
   ·simp only[h,if_false]<;>omega
theorem eT (its:List Value)(lo hi:Option Int):slicePick its.toArray lo hi none=((its.drop (HT.DK its.length 0 lo)).take (HT.DK its.length its.length hi - HT.DK its.length 0 lo)).toArray:=by
 obtain⟨h1,h2,h3⟩:=fZ lo hi its.toArray.size
 unfold slicePick
 rw[h1,h2,h3]
 simp only[sliceRange_one,pick_run,List.size_toArray]<;>rfl
def AZ (K:PySem.W.Frag):V->Option Int->Option Int->Hp->VK->Prop:=fun x lo hi H Q=>∃ a xs,x=.ref a/\Ck K H a xs/\∀ p,H p=none->Q (.ref p) (upd H p (.lst (k6 xs lo hi)))
theorem jF:K2 X (AZ X.K):=by
 intro pins s σ H x v vl vu lo hi sl Q I rx hs pl pu h
 obtain⟨a,xs,rfl,hx,q⟩:=h
 cases rx
 obtain⟨its,r,ht,hz⟩:=I.list hx
 have hlen:=r.length
 refine⟨"list",_,slot_list_getitem.lookup,ht.isList.typeIs,?_⟩
 refine wpAny_getItem_list_slice ht.isList hs pl pu .none (by simp) ?_ (by rw[List.size_toArray]<;>omega)
 rw[eT,<- hlen]
 refine⟨.ref s.heap.objs.size,_,I.laid (t':=s.toks) (o:=.lst (k6 xs lo hi)) (fun b ob q=>Heap.get?_push_of_some _ q) (Nat.le_refl _) ?_,rfl,q _ (I.BD.fresh (Nat.le_refl _))⟩
 exact⟨Nat.le_trans (gU xs lo hi) hz,_,0,(r.drop (HT.DK xs.length 0 lo)).take (HT.DK xs.length xs.length hi - HT.DK xs.length 0 lo),Heap.get?_push_size _ rfl⟩
theorem eU:bD X (.type "tuple") (fun xs H Q=>∃ p ys,xs=[.ref p]/\((Ck X.K H p ys/\∀ l,H l=none->Q (.ref l) (upd H l (.tup ys)))∨(CF X.K H p ys/\Q (.ref p) H))):=by
 intro pins s σ H xs us Q I r h
 obtain⟨p,ys,rfl,h⟩:=h
 obtain⟨u,rfl,rx⟩:=vals1 r
 cases rx
 rcases h with ⟨hq,q⟩|⟨hq,q⟩
 ·obtain⟨its,r',pl,hz⟩:=I.list hq
  have hlen:=r'.length
  refine call_tuple_list pl.isList (fun h' kp=>?_) (by simp only[List.size_toArray]<;>omega)
  have I1:Inv X pins σ H {s with heap:=h'}:=I.kept (t':=s.toks) kp
  have I2:Inv X pins σ (upd H h'.objs.size (.tup ys)) {s with heap:=h'.push {cls:=.type "tuple",data:=.seq its.toArray}}:=
   I1.laid (t':=s.toks) (fun b o e=>Heap.get?_push_of_some _ e) (Nat.le_refl _) (show aF X.prog X.w _ _ _ (.tup ys) from ⟨hz,its,r',IsTup.new _ _⟩)
  exact⟨.ref h'.objs.size,_,I2,rfl,q _ (I1.BD.fresh (Nat.le_refl _))⟩
 ·obtain⟨its,r',pl,hz⟩:=I.tuple hq
  exact call_tuple_same pl ⟨.ref p,H,I,rfl,q⟩
def NB (K:PySem.W.Frag)(T:String)(x:V)(H:Hp):Prop:=match x with
 | .str _=>T = "str"
 | .int _=>T = "int"
 | .ref p=>(T = "list"/\∃ xs,Ck K H p xs)∨(T = "tuple"/\∃ o,K.lookup p=some o/\o.cls=.type "tuple"/\o.dict=none)∨
   (T = "dict"/\((∃ kvs,H p=some (.dK kvs))∨∃ kvs,H p=some (.dT kvs)))∨(T = "set"/\∃ S n,H p=some (.set S n))
 | _=>False
theorem vp {pins:List (Addr×Obj)}{σ:St}{H:Hp}{s:Shared}{T:String}{x:V}{v:Value}(I:Inv X pins σ H s)(r:RelV x v)(ty:NB X.K T x H) :
  s.TypeIs v T/\∀ a,v=.ref a->∃ ob,s.heap.get? a=some ob/\ob.dict=none:=by
 cases x with
 | str z=>
  obtain⟨t,rfl⟩:=r
  cases (show T = "str" from ty)
  exact⟨typeIs_str s z t,fun _ e=>nomatch e⟩
 | int i=>
  obtain⟨t,rfl⟩:=r
  cases (show T = "int" from ty)
  exact⟨typeIs_int s i t,fun _ e=>nomatch e⟩
 | ref p=>
  cases r
  rcases ty with ⟨rfl,xs,hq⟩|⟨rfl,o,hk,hc,hd⟩|⟨rfl,hk⟩|⟨rfl,S,n,hk⟩
  ·obtain⟨its,_,pl,_⟩:=I.list hq
   refine⟨pl.isList.typeIs,fun a e=>?_⟩
   cases e
   obtain⟨o,n,e,c,hd,_⟩:=pl
   exact⟨o,e,hd⟩
  ·refine⟨⟨o,I.Dv p o hk,hc⟩,fun a e=>?_⟩
   cases e
   exact⟨o,I.Dv _ o hk,hd⟩
  ·have z:∃ o,s.heap.get? p=some o/\o.ExactDict:=by
    rcases hk with ⟨kvs,hk⟩|⟨kvs,hk⟩
    ·obtain⟨_,_,_,_,o,_,_,e,ex,_⟩:=I.BD p _ hk
     exact⟨o,e,ex⟩
    ·obtain⟨_,_,_,_,o,_,_,e,ex,_⟩:=I.BD p _ hk
     exact⟨o,e,ex⟩
   obtain⟨o,e,ex⟩:=z
   refine⟨⟨o,e,ex.1⟩,fun a e2=>?_⟩
   cases e2
   exact⟨o,e,ex.2.1⟩
  ·obtain⟨o,_,_,_,e,ex,_⟩:=I.BD p _ hk
   refine⟨⟨o,e,ex.1⟩,fun a e2=>?_⟩
   cases e2
   exact⟨o,e,ex.2.1⟩
 | _=>exact False.elim ty
def NC (K:PySem.W.Frag)(T:String)(r:V->List V->Hp->VK->Prop)(to:TE)(t:TA):TE:=fun σ H Q=>to σ H fun x H1=>NB K T x H1/\t σ H1 fun xs H2=>r x xs H2 Q
variable {o e:Expr}{es:List Expr}{to:TE}{t:TA}{name:Str}{apos BF:Pos}{T id:String}{r:V->List V->Hp->VK->Prop}
theorem gV (pa:PlainAttrs T)(slot:Slot T name id)(IT:typeOf (.builtin id)=pure (.type "method_descriptor")) (hm:NA X id r) (ho:PE X o to) (ha:PA X (e::es) t)
  (D4:attributeBase o name X.env (eval o X.env)=eval o X.env:=by rfl)
  (DL:((backTo BF (starEach (e::es) X.env)).all (fun x=>!x.1)&&(backToKw BF (keywordEach [] X.env)).all (fun x=>x.1.isSome)
  &&decide ((e::es).length+([]:List Keyword).length+(if ([]:List Keyword).isEmpty then 0 else 1) < 30))=true:=by rfl)
  (JJ:(apos.endLine == BF.line)=true:=by rfl) (hs:starEach (e::es) X.env=(false,eval e X.env)::starEach es X.env:=by rfl) (Hy:(backTo BF (starEach es X.env)).any (·.1)=false:=by rfl) :
  PE X (.Call (.Attribute o name apos) (e::es) [] BF) (NC X.K T r to t):=by
 intro pins s σ H Q I h
 refine wpAny_Call_method_late D4 DL JJ rfl (BG (ho pins s σ H _ I h) fun v s1 ⟨x,H1,I1,r1,ty,q1⟩=>?_)
 obtain⟨h1,h2⟩:=vp I1 r1 ty
 refine⟨T,id,pa,slot,IT,h1,h2,?_⟩
 have hA:=ha BF pins s1 σ H1 _ I1 q1
 rw[hs] at hA ⊢
 refine Calls.callWith_builtin (by show (false||(backTo BF (starEach es X.env)).any (·.1))=false;rw[Hy]<;>rfl) (Calls.evalArgs_plain ?_)
 exact BG hA fun us s2 ⟨vs,H2,I2,r2,q2⟩=>hm pins s2 σ H2 x vs v us Q I2 r1 r2 q2
end
def ND (X:Cx)(id:String)(r:V->List V->Hp->VK->Prop):Prop:=
 ∀ (pins:List (Addr×Obj)) (s:Shared) (σ:St) (H:Hp) (x:V) (xs:List V) (v:Value) (us:List Value) (Q:VK),Inv X pins σ H s->RelV x v->Vals xs us->r x xs H Q->
  wpAny (model X.prog X.w) X.A (call (.builtin id) (v::us)) (EP X pins σ Q) X.xe s
theorem Vals.one:∀ {x:V}{us:List Value},Vals [x] us->∃ u,us=[u]/\RelV x u
 | _,_,.cons r .nil=>⟨_,rfl,r⟩
theorem Vals.rep {xs:List V}{us:List Value}(h:Vals xs us):∀ k:Nat,Vals (List.replicate k xs).flatten (List.replicate k us).flatten
 | 0=>.nil
 | k+1=>by
  rw[List.replicate_succ,List.replicate_succ,List.flatten_cons,List.flatten_cons]
  exact Vals.append h (Vals.rep h k)
theorem foldl_rep (its:List Value):∀ (k:Nat) (acc:List Value),
  List.foldl (fun x1 x2=>x1++x2) acc.toArray (List.replicate k its.toArray)=(acc++(List.replicate k its).flatten).toArray
 | 0,acc=>by simp
 | k+1,acc=>by
  have e:acc.toArray++its.toArray=(acc++its).toArray:=by simp
  have e2:(acc++its)++(List.replicate k its).flatten=acc++(List.replicate (k+1) its).flatten:=by
   rw[List.replicate_succ,List.flatten_cons,List.append_assoc]
  rw[<- e2,<- foldl_rep its k (acc++its),<- e,List.replicate_succ,List.foldl_cons]
section
variable {X:Cx}{pins:List (Addr×Obj)}{σ:St}{H:Hp}{s:Shared}{l b:Addr}{xs ys zs:List V}
theorem Inv.EB {its its':List Value}{n:Nat}{f:Array Value->Array Value}{t':Nat}(I:Inv X pins σ H s)(hH:H l=some (.lst xs))
  (e:s.heap.get? l=some {cls:=.type "list",data:=.seq its.toArray n}) (hf:f its.toArray=its'.toArray) (hv:Vals ys its') (hz:ys.length<=sizeLine) :
  Inv X pins σ (upd H l (.lst ys)) {s with heap:=s.heap.update l (Obj.mapSeq f),toks:=t'}:=by
 have q:=PySem.IsL.update e f
 rw[hf] at q
 refine I.write (x:=l) (e:=l) (by rw[hH];exact trivial) (.inl rfl) (fun b' u hb hu=>(Heap.get?_update_other s.heap (Obj.mapSeq f) (Ne.symm hb)).trans hu) ⟨_,q⟩ ?_
 exact⟨hz,its',_,hv,q⟩
theorem Inv.Hz {its:List Value}{t':Nat}(I:Inv X pins σ H s)(hv:Vals ys its)(hz:ys.length<=sizeLine) :
  Inv X pins σ (upd H s.heap.objs.size (.lst ys)) {s with heap:=s.heap.push {cls:=.type "list",data:=.seq its.toArray},toks:=t'}:=
 I.laid (fun _ _ q=>Heap.get?_push_of_some _ q) (Nat.le_refl _) ⟨hz,its,0,hv,Heap.get?_push_size _ rfl⟩
theorem Inv.fresh (I:Inv X pins σ H s):H s.heap.objs.size=none:=I.BD.fresh (Nat.le_refl _)
theorem Inv.JK (I:Inv X pins σ H s)(hH:H l=some (.lst xs)):xs.length<=sizeLine/\∃ (its:List Value) (n:Nat),Vals xs its/\xs.length=its.length/\s.heap.get? l=some {cls:=.type "list",data:=.seq its.toArray n}:=by
 obtain⟨z,its,n,r,e⟩:=I.BD l _ hH
 exact⟨z,its,n,r,r.length,e⟩
theorem mn {n:Nat}(h:n<=sizeLine):Builtin.List.listTooLong n=false:=by
 unfold Builtin.List.listTooLong
 exact decide_eq_false (by omega)
end
section
variable {X:Cx}
def qy:V->List V->Hp->VK->Prop:=fun x vs H Q=>∃ l xs y,x=.ref l/\vs=[y]/\H l=some (.lst xs)/\xs.length < sizeLine/\Q .By (upd H l (.lst (xs++[y])))
theorem fu:ND X "list.append" qy:=by
 intro pins s σ H x vs v us Q I rx rv h
 obtain⟨l,xs,y,rfl,rfl,hH,hz,q⟩:=h
 cases rx
 obtain⟨u,rfl,ru⟩:=rv.one
 obtain⟨z,its,n,r,hl,e⟩:=I.JK hH
 refine call_meets F.slot_list_append ⟨_,e,rfl⟩ F.entry_list_append (F.args_list_append_2 _ _) (PySem.list_append l its.toArray n u (by rw[List.size_toArray];omega)) ⟨e,?_⟩
 refine⟨.By,_,I.EB (its':=its++[u]) hH e (by simp) (r.append (.cons ru .nil)) ?_,rfl,q⟩
 rw[List.length_append,List.length_singleton]
 omega
theorem len_rep {α:Type}(xs:List α)(k:Nat):(List.replicate k xs).flatten.length=k*xs.length:=by
 induction k with
 | zero=>simp
 | succ k ih=>rw[List.replicate_succ,List.flatten_cons,List.length_append,ih,Nat.succ_mul,Nat.add_comm]
end
end L2
namespace Att
open PySem PySem.W PySem.Calls PyProof.Rows
theorem dI {P:Params}{h:Heap}:∀ (ns:List Int) (vs:List Value),WellAll P h vs (ns.map WData.int)->IntsAre vs ns:=by
 intro ns
 induction ns with
 | nil=>
  intro vs w
  rw[List.map_nil] at w
  cases w
  exact .nil
 | cons n ns ih=>
  intro vs w
  rw[List.map_cons] at w
  cases w with
  | cons a b=>
   cases a
   exact .cons _ _ (ih _ b)
theorem k7 {l:OpenLaw}{n:Nat}(hn:l.most=some n){P:Params}{h:Heap}{args:List WData}{vals:List Value}
  (Gs:l.row.toRowW.claim.pre args=true) (LM:WellAll P h vals args) :
  ∃ a vs ns,vals=[Value.ref a]/\args=[WData.list (ns.map WData.int)]/\h.get? a=some {cls:=.type "list",data:=.seq vs.toArray}/\IntsAre vs ns/\ns.length<=n:=by
 have Pq:WShape.hasAll [] args [.list .int]=true:=(pre_splitW Gs).1
 have hc:l.pre.holds [] {args:=args} = true:=(pre_splitW Gs).2
 obtain⟨d,r,rfl,h1,h2⟩:=hasAllW_cons Pq
 obtain rfl:=hasAllW_nil h2
 obtain⟨xs,rfl,h3⟩:=hasW_list h1
 obtain⟨ns,rfl⟩:=items_int h3
 have hlen:ns.length<=n:=by
  unfold OpenLaw.pre at hc
  have h4:(WTm.not (.lt (.lit (.int (n:Int))) (.len (.arg 0)))).holds [] {args:=[.list (ns.map .int)]} = true:=by
   have h4:=(holds_andW hc).1
   rw[hn] at h4
   exact h4
  have h5:=condW_of h4 (w_not (w_lt w_lit (w_len_list (w_arg rfl))))
  rw[List.length_map] at h5
  refine Nat.le_of_not_lt fun q=>?_
  have q':(n:Int) < ((ns.length:Nat):Int):=by omega
  first
   | (rw[decide_eq_true q'] at h5;exact absurd h5 (by decide))
   | (simp at h5;omega)
 cases LM with
 | cons w1 w2=>
  cases w2
  cases w1 with
  | list ho EC=>exact⟨_,_,ns,rfl,rfl,ho,dI ns _ EC,hlen⟩
theorem k8 (l:OpenLaw)(args:List WData):l.row.toRowW.claim.post args (.bool true) args=true:=
 postW_of (r:=l.row.toRowW) (X:=(true == true))
  (show WShape.has [] (.bool true) .bool=true by first|rfl|decide|simp[WShape.has,WShape.arms,WShape.armsAll])
  (show (WTm.eq .res (.lit (.bool true))).value [] {args:=args,res:=some (.bool true),after:=args} = some (.bool (true == true)) from w_eq_bool (w_res rfl) w_lit) rfl
theorem D5 {l:OpenLaw}{n:Nat}{q:Program}{loose:List Str}{XP:(Str->Option Value)->Heap->Prop}{YP:World->Heap->Prop}{d:DefRec}
  (hn:l.most=some n) (JL:d.params.defaults=[])
  (call:∀ (w:World) (BS BE:Shared) (mg mb:Str->Option Value) (fa:Addr) (o:Obj) (pm cd doc:Value) (a:Addr) (vs:List Value) (ns:List Int),
   Ground q loose [] XP w BS mg mb BE.heap->YP w BE.heap->
   BE.heap.get? fa=some o->o.data=.func (docDef d.name d.params d.body d.scope pm cd doc)->BE.heap.CodeRec cd d.name->mg d.name=some (.ref fa)->
   BE.heap.get? a=some {cls:=.type "list",data:=.seq vs.toArray}->IntsAre vs ns->ns.length<=n->BE.gens = #[]->
   codeAny (model l.prog w) callerA (.call (.ref fa) ⟨[.ref a],[]⟩) (fun r s'=>r=.ok (.ret (.bool true))/\OldK BE.heap s'.heap/\s'.os=BE.os/\AllBare s'.gens) BE) :
  WalkO q loose XP YP l.row.toRowW d [] (fun f vs=>PySem.call f vs):=by
 intro w BS BE mg mb G Y fa o pm cd doc dV kV ho hd FN hD hmg hg args vals as Gs Pr SV LM LN
 obtain rfl:dV=.none:=Dflts.none hD JL
 obtain rfl:kV=.none:=Dflts.noKw hD
 obtain⟨a,vs,ns,rfl,rfl,HA,hints,hlen⟩:=k7 hn Gs LM
 refine enter_call (codeAny_mono (call w BS BE mg mb fa o pm cd doc a vs ns G Y ho (fd_plain hd) FN hmg HA hints hlen hg) fun r s' hq=>?_)
 obtain⟨rfl,h2,h3,h4⟩:=hq
 exact⟨.inl ⟨.bool true,.bool true,[],rfl,fun _=>rfl,.bool true,k8 l _,fun _=>⟨List.Pairwise.nil,fun _ hm=>(nomatch hm)⟩⟩,h2,h3,h4⟩
end Att
namespace L2
open PySem PySem.Spec PyProof.Rows
def KL (K:PySem.W.Frag)(a:Addr)(xs:List V):Prop:=
 ∃ (its:List Value) (n:Nat),K.lookup a=some {cls:=.type "list",data:=.seq its.toArray n}/\its.length<=sizeLine/\Vals xs its
def Ls (K:PySem.W.Frag)(H:Hp)(a:Addr)(xs:List V):Prop:=Rd H a (.lst xs)∨KL K a xs
theorem fx:∀ {vs:List Value}{ns:List Int},IntsAre vs ns->Vals (ns.map V.int) vs
 | _,_,.nil=>.nil
 | _,_,.cons n t h=>.cons ⟨t,rfl⟩ (fx h)
def vq (H:Hp):Prop:=∀ b,H b=none∨∃ o xs,H b=some (.BI o (.lst xs))
theorem mq {P:Program}{w:World}{K:PySem.W.Frag}{mg mb:Str->Option Value}{CX:Cy}{k:Nat}{fa a:Addr}{fd:FuncData}{x:Str}{sp:Sp}{BE:Shared}{vs:List Value}{ns:List Int}
  (KX:K.In BE.heap) (HB:BE.heap.Ns mainGlobals mg) (hb:BE.heap.Ns builtinsNs mb) (Pt:∀ x:Str,x≠"__name__"->mb x=bootBuiltins x) (LO:BE.heap.NoLimit) (hg:BE.gens = #[])
  (ha:BE.heap.get? a=some {cls:=.type "list",data:=.seq vs.toArray}) (hi:IntsAre vs ns) (hl:ns.length<=sizeLine) (hr:Cs k callerA)
  (F:∀ base:Heap,K.In base->base.Ns mainGlobals mg->CJ P w K mg base CX k fa fd [x] sp) (JM:∀ (s:Shared) (u:Value),BindsTo s fd ⟨[u],[]⟩ [(x,u)])
  (DZ:∀ H:Hp,vq H->Ls K H a (ns.map V.int)->sp [.ref a] H (fun v _=>v=.bl true) fun _ _ _=>False)
  (LP:∀ H e s',CX [] H BE (fun _ _ _=>False) e s'->False) :
  codeAny (model P w) callerA (.call (.ref fa) ⟨[.ref a],[]⟩) (fun r s'=>r=.ok (.ret (.bool true))/\OldK BE.heap s'.heap/\s'.os=BE.os/\AllBare s'.gens) BE:=by
 have rv:=fx hi
 have LQ:=hi.length
 -- from an abstract heap in NF nothing but Hu HC may be tracked
 have core:∀ H:Hp,vq H->Ls K H a (ns.map V.int)->BX P w H BE.heap->(∀ b,H b≠none->b=a)->(H a≠none->K.lookup a=none)->
   codeAny (model P w) callerA (.call (.ref fa) ⟨[.ref a],[]⟩) (fun r s'=>r=.ok (.ret (.bool true))/\OldK BE.heap s'.heap/\s'.os=BE.os/\AllBare s'.gens) BE:=by
  intro H hO hS BD hA hK
  have EV:∀ {b:Addr}{o:Obj},BE.heap.get? b=some o->H b=none->(fV BE.heap H).get? b=some o:=fun e n=>lV e n
  have JH:∀ {b:Addr}{o:Obj}{es:Array DictEntry}{ep:Nat},BE.heap.get? b=some o->o.data=.dict es ep->H b=none:=fun {b o es ep} e d=>by
   cases q:H b with
   | none=>rfl
   | some u=>
    have e':b=a:=hA b (by rw[q];simp)
    subst e'
    rw[ha] at e;cases e
    have d':Data.seq vs.toArray _=Data.dict es ep:=d
    cases d'
  have K3:∀ {b:Addr}{m:Str->Option Value},BE.heap.Ns b m->(fV BE.heap H).Ns b m:=fun {b m} ⟨o,es,ep,e,d,r⟩=>⟨o,es,ep,EV e (JH e d),d,r⟩
  have NG:K.In (fV BE.heap H):=fun b o e=>EV (KX b o e) (by
   cases q:H b with
   | none=>rfl
   | some u=>
    have e':b=a:=hA b (by rw[q];simp)
    subst e'
    rw[hK (by rw[q];simp)] at e;cases e)
  have hM:Mod K mg (fV BE.heap H):=⟨NG,K3 HB,⟨mb,K3 hb,Pt⟩,let ⟨mc,h1,h2⟩:=LO;⟨mc,K3 h1,h2⟩⟩
  have e0:EA P w K mg (fV BE.heap H) callerA [] BE H:=⟨rfl,hM,fun b o e=>qe e,Nat.le_of_eq (kS _ _),trivial,fun b hb=>absurd (show b∈([]:List Addr) from hb) (by simp),BD,.of_eq hg⟩
  refine codeAny_mono ((F _ NG (K3 HB)).run callerA [] BE H ⟨[.ref a],[]⟩ [.ref a] [.ref a] _ _ hr e0 (JM BE (.ref a)) (.cons rfl .nil) (DZ H hO hS)) fun r s' h=>?_
  cases r with
  | error e=>exact(LP H e s' h).elim
  | ok fl=>
   cases fl with
   | next=>exact False.elim h
   | brk=>exact False.elim h
   | cont=>exact False.elim h
   | ret u=>
    obtain⟨v,H',os,bare,un,LR,r',q⟩:=h
    have q':v=.bl true:=q
    subst q'
    obtain rfl:u=Value.bool true:=r'
    refine⟨rfl,OldK.of_keep fun b o e=>?_,os,bare⟩
    cases q:H b with
    | none=>exact un.keep b o e q (by intro z;exact absurd (show b∈([]:List Addr) from z) (by simp)) (by simp)
    | some u=>
     rcases hO b with z|⟨ob,xs,z⟩
     ·rw[q] at z;cases z
     ·have z2:=un.B8 b ob _ z
      obtain⟨e1,_⟩:=BD b _ z
      obtain⟨e2,_⟩:=LR b _ z2
      rw[e] at e1;cases e1
      exact e2
 cases hk:K.lookup a with
 | some o=>
  -- Hu HC is one of Hu JN own objects
  have e:=KX a o hk
  rw[ha] at e
  cases e
  refine core (fun _=>none) (fun _=>.inl rfl) (.inr ⟨vs,_,hk,by rw[LQ];exact hl,rv⟩) (fun b u z=>by have z':(none:Option HO)=some u:=z;cases z') (fun b z=>absurd rfl z) fun z=>absurd rfl z
 | none=>
  refine core (fun b=>if b=a then some (.BI {cls:=.type "list",data:=.seq vs.toArray} (.lst (ns.map V.int))) else none) (fun b=>?_) (.inl (.inr ⟨{cls:=.type "list",data:=.seq vs.toArray},if_pos rfl⟩)) (fun b u z=>?_) (fun b z=>?_) fun _=>hk
  ·by_cases hb:b=a
   ·exact .inr ⟨_,_,if_pos hb⟩
   ·exact .inl (if_neg hb)
  ·by_cases hb:b=a
   ·have z':=(if_pos hb).symm.trans z
    cases z'
    subst hb
    exact⟨ha,by rw[List.length_map];exact hl,vs,_,rv,ha⟩
   ·have z':=(if_neg hb).symm.trans z
    cases z'
  ·by_cases hb:b=a
   ·exact hb
   ·exact absurd (if_neg hb) z
theorem qz {l:PySem.W.OpenLaw}{n k:Nat}{q:Program}{loose:List Str}{XP:(Str->Option Value)->Heap->Prop}{YP:World->Heap->Prop}{d:DefRec}{K:Params->PySem.W.Frag}{CX:World->Cy}{sp:World->Sp}{x:Str}
  (hn:l.most=some n) (K4:n<=sizeLine) (JL:d.params.defaults=[]) (hr:Cs k callerA)
  (hY:∀ (w:World) (h:Heap),YP w h->(K w.params).In h)
  (F:∀ (w:World) (mg:Str->Option Value) (fa:Addr) (h:Heap),(K w.params).In h->h.Ns mainGlobals mg->mg d.name=some (.ref fa)->
   ∃ fd:FuncData,(∀ (s:Shared) (u:Value),BindsTo s fd ⟨[u],[]⟩ [(x,u)])/\
    ∀ base:Heap,(K w.params).In base->base.Ns mainGlobals mg->CJ l.prog w (K w.params) mg base (CX w) k fa fd [x] (sp w))
  (DZ:∀ (w:World) (H:Hp) (a:Addr) (ns:List Int),ns.length<=n->vq H->Ls (K w.params) H a (ns.map V.int)->sp w [.ref a] H (fun v _=>v=.bl true) fun _ _ _=>False)
  (LP:∀ (w:World) (H:Hp) (s:Shared) (e:Value) (s':Shared),CX w [] H s (fun _ _ _=>False) e s'->False) :
  PySem.W.WalkO q loose XP YP l.row.toRowW d [] (fun f vs=>PySem.call f vs):=by
 refine Att.D5 hn JL fun w BS BE mg mb fa o pm cd doc a vs ns G Y ho hd FN hmg HA hints hlen hg=>?_
 have KX:=hY w _ Y
 obtain⟨fd,hb,hF⟩:=F w mg fa _ KX G.T.g hmg
 exact mq KX G.T.g G.T.b G.T.builtins G.T.nolimit hg HA hints (Nat.le_trans hlen K4) hr hF hb (fun H hO hS=>DZ w H a ns hlen hO hS) fun H e s'=>LP w H BE e s'
noncomputable def bq (s:Stmt):Arguments:=match s with
 | .FunctionDef _ a _ _ _ _ _ _ _ _=>a
 | _=>{posonlyargs:=[],args:=[],vararg:=none,kwonlyargs:=[],kw_defaults:=[],kwarg:=none,defaults:=[]}
noncomputable def aG (s:Stmt):List Stmt:=match s with
 | .FunctionDef _ _ b _ _ _ _ _ _ _=>b
 | _=>[]
noncomputable def au (s:Stmt):Scope:=match s with
 | .FunctionDef _ _ _ _ _ _ sc _ _ _=>sc
 | _=>{kind:=.function,names:=[],isGenerator:=false,isCoroutine:=false}
structure G0 (K:PySem.W.Frag)(x qual:Str)(st:Stmt)(f:Addr)(fd:FuncData):Prop where
 ex:∃ (oc:Value) (od:Option Addr) (kV doc pm:Value) (an:Option Addr) (Dl ct:Value) (Gq:Array (Option Value)),
  fd=PySem.W.fnOf x qual (bq st) (aG st) (au st) .none kV doc pm an Dl ct/\K.lookup f=some ⟨oc,od,.func fd,Gq⟩/\PySem.W.codeIn K Dl qual=true
 kp:PySem.W.keepIn K (.ref f)=true
section
variable {P:Program}{w:World}{K:PySem.W.Frag}{mg:Str->Option Value}{base:Heap}
theorem G0.binds {x qual:Str}{st:Stmt}{f:Addr}{fd:FuncData}{ps:List Str}(F:G0 K x qual st f fd)
  (h:∀ (kV doc pm:Value) (an:Option Addr) (Dl ct:Value) (us:List Value),us.length=ps.length->bindArgs (PySem.W.fnOf x qual (bq st) (aG st) (au st) .none kV doc pm an Dl ct) ⟨us,[]⟩=pure (ps.zip us)):Binds K fd ps []:=by
 obtain⟨oc,od,kV,doc,pm,an,Dl,ct,Gq,rfl,lk,FN⟩:=F.ex
 exact .all (h kV doc pm an Dl ct)
theorem dX {x qual:Str}{st:Stmt}{f:Addr}{oc:Value}{od an:Option Addr}{Gq:Array (Option Value)}{kV doc pm Dl ct:Value}(l:K.lookup f=some ⟨oc,od,.func (PySem.W.fnOf x qual (bq st) (aG st) (au st) .none kV doc pm an Dl ct),Gq⟩)
  (c:PySem.W.codeIn K Dl qual=true) (k:PySem.W.keepIn K (.ref f)=true):G0 K x qual st f (PySem.W.fnOf x qual (bq st) (aG st) (au st) .none kV doc pm an Dl ct):=⟨⟨oc,od,kV,doc,pm,an,Dl,ct,Gq,rfl,l,c⟩,k⟩
end
def aj (H H':Hp):Prop:=∀ b o,H b=some o->H' b=some o
theorem aj.refl (H:Hp):aj H H:=fun _ _ h=>h
theorem aj.trans {H H1 H2:Hp}(a:aj H H1)(b:aj H1 H2):aj H H2:=fun c o h=>b c o (a c o h)
theorem aj.free {H H':Hp}(e:aj H H'){l:Addr}(h:H' l=Option.none):H l=Option.none:=by
 cases q:H l with
 | none=>rfl
 | some o=>
  rw[e l o q] at h
  cases h
theorem aj.seq {K:PySem.W.Frag}{H H':Hp}{a:Addr}{xs:List V}(e:aj H H')(h:Ck K H a xs):Ck K H' a xs:=by
 rcases h with (h|⟨o,h⟩)|h
 ·exact .inl (.inl (e _ _ h))
 ·exact .inl (.inr ⟨o,e _ _ h⟩)
 ·exact .inr h
theorem ar {X:Cx}{e:Expr}{t t':TE}(h:PE X e t)(m:∀ σ H Q,t' σ H Q->t σ H Q):PE X e t':=fun pins s σ H Q I q=>h pins s σ H Q I (m σ H Q q)
theorem cK {X:Cx}{e:Expr}{t t':TT}(h:PT X e t)(m:∀ σ H Q,t' σ H Q->t σ H Q):PT X e t':=fun pins s σ H Q I q=>h pins s σ H Q I (m σ H Q q)
theorem f6 {X:Cx}{e:List Expr}{t t':TA}(h:PA X e t)(m:∀ σ H Q,t' σ H Q->t σ H Q):PA X e t':=fun pos pins s σ H Q I q=>h pos pins s σ H Q I (m σ H Q q)
theorem aM {X:Cx}{e:Stmt}{t t':TS}(h:PS X e t)(m:∀ D σ H,t' D σ H->t D σ H):PS X e t':=fun pins s σ H D I q=>h pins s σ H D I (m D σ H q)
theorem cC {X:Cx}{e:List Stmt}{t t':TS}(h:Ex X e t)(m:∀ D σ H,t' D σ H->t D σ H):Ex X e t':=fun pins s σ H D I q=>h pins s σ H D I (m D σ H q)
theorem dY {X:Cx}{tg e:Expr}{t t':TI}(h:PI X tg e t)(m:∀ σ H Q,t' σ H Q->t σ H Q):PI X tg e t':=fun pins s σ H Q I q=>h pins s σ H Q I (m σ H Q q)
def EW (X:Cx)(scope:Scope)(cl:List (Str×Addr))(N:List Str)(C:Addr)(s3:Shared)(H3:Hp)(fp:List Addr)(xe:Value->Shared->Prop:=fun _ _=>False):Cx:=
 {X with N:=N,BS:=s3,Cr:=H3,env:=compEnvC scope cl C X.env,outer:=X.stack,ex:=fp,fn:=fun _=>false,pn:=[],xe:=xe}
structure CP (X:Cx)(scope:Scope)(cl:List (Str×Addr))(Fr:List (Str×Nat))(Tg:List Str):Prop where
 JO:closureFor scope X.env=pure cl
 kind:scope.kind=.function
 DM:∀ y∈scope.names,y.2≠.cell
 loc:∀ y∈scope.names,y.2=.local->scope.names.lookup y.1=some .local
 sub:∀ x c,cl.lookup x=some c->X.env.cells.lookup x=some c
 has:∀ x,((relabel scope X.env).names.lookup x=some .cell∨(relabel scope X.env).names.lookup x=some .free)->∃ c,cl.lookup x=some c
 out:∀ p∈Fr,X.N[p.2]? = some p.1/\(X.env.kindOf p.1=some .cell∨X.env.kindOf p.1=some .free)/\((relabel scope X.env).names.lookup p.1=some .cell∨(relabel scope X.env).names.lookup p.1=some .free)
noncomputable def stC (Fr:List (Str×Nat))(Tg:List Str)(σ:St):St:=Fr.map (fun p=>(σ[p.2]?).join)++List.replicate Tg.length none
section
variable {X:Cx}{scope:Scope}{cl:List (Str×Addr)}{Fr:List (Str×Nat)}{Tg:List Str}{pins:List (Addr×Obj)}{σ:St}{H3:Hp}{s3:Shared}{fp:List Addr}
theorem vt (S:CP X scope cl Fr Tg)(I:Inv X pins σ H3 s3)(hf:∀ b∈fp,cG X pins H3 b)(LS:∀ b∈fp,b < s3.heap.objs.size)(N:List Str)(xe:Value->Shared->Prop):(EW X scope cl N s3.heap.objs.size s3 H3 fp xe).Ok where
 mod:=I.ok.mod
 kind:=S.kind
 glob:=I.ok.glob
 blt:=I.ok.blt
 above:=Nat.le_refl _
 inj:=fun x y c h1 h2=>I.ok.inj x y c (S.sub x c h1) (S.sub y c h2)
 has:=fun x h=>S.has x h
 Gj:=fun x c h _=>absurd (show false=true from h) (by decide)
 hd:=I.ok.hd
 frames:=I.ok.frames
 Bu:=.inl rfl
 GS:=fun b hb=>⟨Nat.ne_of_lt (LS b hb),fun x c e z=>(hf b hb).2.2.2.2.1 x c (S.sub x c e) z⟩
 bs:=I.bs
 Et:=Nat.le_trans I.ok.Et I.sz
 DF:=fun b o e hb=>by
  rcases (hf b hb).2.2.2.1 with z|z
  ·exact I.ok.DF b o e z
  ·exact absurd (Nat.lt_of_lt_of_le (Heap.lt_size e) (Nat.le_trans I.ok.Et z)) (Nat.lt_irrefl _)
 DG:=fun b hb z=>by
  rcases List.mem_cons.mp (I.Eu b z) with z|z
  ·exact(hf b hb).2.1 z
  ·exact(hf b hb).2.2.1 z
 B9:=I.stack
 DH:=I.DI
theorem k9 (S:CP X scope cl Fr Tg)(I:Inv X pins σ H3 s3)(hf:∀ b∈fp,cG X pins H3 b)(LS:∀ b∈fp,b < s3.heap.objs.size){h':Heap}{tk:Nat}
  (HB:h'.Ns s3.heap.objs.size (fun _=>none)) (hk:∀ b o,s3.heap.get? b=some o->h'.get? b=some o) (xe:Value->Shared->Prop) :
  Inv (EW X scope cl (Fr.map (·.1)++Tg) s3.heap.objs.size s3 H3 fp xe) [] (stC Fr Tg σ) H3 {s3 with heap:=h',toks:=tk} where
 ok:=vt S I hf LS _ _
 os:=rfl
 bare:=I.bare
 base:=Un.kept hk
 loc:=by
  refine⟨_,HB,fun i x v e1 e2 e3=>?_⟩
  have hi:i < Fr.length:=by
   by_cases hi:i < Fr.length
   ·exact hi
   ·unfold stC at e2
    rw[List.getElem?_append_right (by simpa using hi),List.getElem?_replicate] at e2
    split at e2<;>cases e2
  have K5:(Fr.map (·.1))[i]? = some x:=by
   rw[<- e1]
   exact(List.getElem?_append_left (by simpa using hi)).symm
  have Ci:(Fr.map (fun p=>(σ[p.2]?).join))[i]? = some (some v):=by
   rw[<- e2]
   exact(List.getElem?_append_left (by simpa using hi)).symm
  rw[List.getElem?_map] at K5 Ci
  obtain⟨p,hp,rfl⟩:=Option.map_eq_some_iff.mp K5
  rw[hp] at Ci
  have Gu:(σ[p.2]?).join=some v:=Option.some.inj Ci
  have e4:σ[p.2]? = some (some v):=by
   cases q:σ[p.2]? with
   | none=>rw[q] at Gu;cases Gu
   | some y=>rw[q] at Gu;rw[show y=some v from Gu]
  obtain⟨o1,o2,o3⟩:=S.out p (List.mem_of_getElem? hp)
  obtain⟨m,hn,hl⟩:=I.loc
  have hv:JA X.env.scope p.1:=by
   rcases o2 with o2|o2
   ·exact .inr (.inl o2)
   ·exact .inr (.inr o2)
  obtain⟨u,r,l⟩:=hl p.2 p.1 v o1 e4 hv
  refine⟨u,r,.inr ⟨o3,?_⟩⟩
  obtain⟨c,hc⟩:=S.has p.1 o3
  refine⟨c,hc,?_⟩
  have FK:=S.sub _ _ hc
  rcases l with ⟨k,_⟩|⟨_,c2,h2,z⟩
  ·rcases o2 with o2|o2<;>(rw[k] at o2;cases o2)
  ·rw[FK] at h2;cases h2
   obtain⟨o,ho,hd⟩:=z
   exact⟨o,hk _ _ ho,hd⟩
 cell:=fun x c e=>by
  obtain⟨v,o,ho,hd⟩:=I.cell x c (S.sub x c e)
  exact⟨v,o,hk _ _ ho,hd⟩
 free:=I.BD.fresh (Nat.le_refl _)
 BY:=fun x c e=>I.BY x c (S.sub x c e)
 pin:=fun p hp=>absurd (show p∈([]:List (Addr×Obj)) from hp) (by simp)
 BD:=I.BD.kept hk
 len:=by
  unfold stC
  show _=(Fr.map (·.1)++Tg).length
  simp
end
def Gv (X:Cx)(ifs:List Expr)(t:TT):Prop:=
 ∀ (pins:List (Addr×Obj)) (s:Shared) (σ:St) (H:Hp) (Q:Bool->Hp->Prop),Inv X pins σ H s->t σ H Q->
  wpAny (model X.prog X.w) X.A (forIn ifs true fun c r=>if r=true then do let ok <- isTrue c X.env (eval c X.env);pure (ForInStep.yield ok) else pure (ForInStep.yield r)) (TP X pins σ Q) X.xe s
theorem dG {M:Model}{A:Around}{E:Value->Shared->Prop}{s:Shared}{env:Env}{Q:Bool->Shared->Prop}(h:Q false s):∀ ifs:List Expr,
  wpAny M A (forIn ifs false fun c r=>if r=true then do let ok <- isTrue c env (eval c env);pure (ForInStep.yield ok) else pure (ForInStep.yield r)) Q E s
 | []=>by
  rw[List.forIn_nil]
  exact wpAny_pure h
 | c::cs=>by
  rw[List.forIn_cons]
  rw[if_neg Bool.false_ne_true]
  exact wpAny_bind (wpAny_pure (dG h cs))
theorem qA {X:Cx}:Gv X [] (fun _ H Q=>Q true H):=fun pins s σ H Q I q=>by
 rw[List.forIn_nil]
 exact wpAny_pure ⟨H,I,q⟩
theorem mr {X:Cx}{c:Expr}{cs:List Expr}{t u:TT}(hc:PT X c t)(hr:Gv X cs u):Gv X (c::cs) (xu t u):=fun pins s σ H Q I q=>by
 rw[List.forIn_cons,if_pos rfl]
 refine wpAny_bind (wpAny_bind (BG (hc pins s σ H _ I q) fun b s1 ⟨H1,I1,q1⟩=>wpAny_pure ?_))
 cases b with
 | true=>exact hr pins s1 σ H1 Q I1 q1
 | false=>exact dG ⟨H1,I1,q1⟩ cs
def mz (wi:TI)(start:St->St)(g:TG)(tt:TT)(te:TE):TE:=fun σ H Q=>wi σ H fun J H1=>∀ D,H1 D=none->∃ W:Nat->Nat->St->Hp->Prop,(∃ m,W 0 m (start σ) (upd H1 D (.lst [])))/\
 ∀ i m Bz H',W i m Bz H'->(J.stop i H'/\Q (.ref D) H')∨(J.go i H'/\∀ x H2,J.Gn i H' x H2->g x Bz H2 fun D3 H3=>tt D3 H3 fun b H4=>
  if b=true then te D3 H4 fun v H5=>∃ ys,H5 D=some (.lst ys)/\ys.length < sizeLine/\∃ m',m' < m/\W (i+1) m' D3 (upd H5 D (.lst (ys++[v])))
  else ∃ m',m' < m/\W (i+1) m' D3 H4)
section
variable {X:Cx}{scope:Scope}{cl:List (Str×Addr)}{Fr:List (Str×Nat)}{Tg:List Str}{elt tg iter:Expr}{ifs:List Expr}{wi:TI}{g:TG}{tt:TT}{te:TE}{pos:Pos}
theorem f7 (scope:Scope)(pos:Pos)(it acc:Value)(env:Env) :
  compTurn (.ListComp elt [⟨tg,iter,ifs,0⟩] scope pos) 0 it acc env=(do
   standAt iter.pos
   match <- pyNext it with
   | none=>pure (.done .next)
   | some v=>
    letOwnedTupleGo tg it v
    assign tg env v
    let ok <- forIn ifs true fun c r=>if r=true then do let ok <- isTrue c env (eval c env);pure (ForInStep.yield ok) else pure (ForInStep.yield r)
    if ok=true then
     (do let _ <- call (.builtin "list.append") [acc,<- eval elt env])
    again (.compLoop (.ListComp elt [⟨tg,iter,ifs,0⟩] scope pos) 0 it acc env)):=by rfl
theorem dZ {XE:Addr->Shared->Hp->List Addr->Value->Shared->Prop}(hc:X.calm=true)(S:CP X scope cl Fr Tg)
  (hg:∀ C s H fp,PG (EW X scope cl (Fr.map (·.1)++Tg) C s H fp (XE C s H fp)) tg g) (ht:∀ C s H fp,Gv (EW X scope cl (Fr.map (·.1)++Tg) C s H fp (XE C s H fp)) ifs tt)
  (he:∀ C s H fp,PE (EW X scope cl (Fr.map (·.1)++Tg) C s H fp (XE C s H fp)) elt te)
  {pins:List (Addr×Obj)}{σ:St}{H2:Hp}{s2:Shared}{it:Addr}{fp:List Addr}{tn:Nat->Heap->Prop}{J:It}{Q:VK} (I2:Inv X pins σ H2 s2) (T:Turn X.prog X.w X.K tg J fp it tn) (GY:tn 0 s2.heap)
  (f2:∀ b∈fp,cG X pins H2 b)
  (q:∀ D,H2 D=none->∃ W:Nat->Nat->St->Hp->Prop,(∃ m,W 0 m (stC Fr Tg σ) (upd H2 D (.lst [])))/\
   ∀ i m Bz H',W i m Bz H'->(J.stop i H'/\Q (.ref D) H')∨(J.go i H'/\∀ x H2,J.Gn i H' x H2->g x Bz H2 fun D3 H3=>tt D3 H3 fun b H4=>
    if b=true then te D3 H4 fun v H5=>∃ ys,H5 D=some (.lst ys)/\ys.length < sizeLine/\∃ m',m' < m/\W (i+1) m' D3 (upd H5 D (.lst (ys++[v])))
    else ∃ m',m' < m/\W (i+1) m' D3 H4))
  {E:Value->Shared->Prop}{RR:Value->Env->Result->Shared->Prop}
  (hR:∀ D C s' H',(∃ m,s'.heap.Ns C m)->Inv X pins σ H' s'->cG X pins H' C->Q (.ref D) H'->∀ V:Env,V.locals=C->V.frame=X.env.frame->RR (.ref D) V (.ok .next) s')
  (hX:∀ D C s3 H3,(∀ s5 Gw H5,Inv (EW X scope cl (Fr.map (·.1)++Tg) C s3 H3 fp (XE C s3 H3 fp)) [] Gw H5 s5->(∃ m,s5.heap.Ns C m)/\Inv X pins σ H5 s5/\cG X pins H5 C)->∀ e s',XE C s3 H3 fp e s'->
   notedBy (model X.prog X.w) X.A (compEnvC scope cl C X.env) (fun x Gp=>∀ V:Env,V.locals=C->V.frame=X.env.frame->RR (.ref D) V (.error x) Gp) e s') :
  wpAny (model X.prog X.w) X.A (newList []) (fun acc Gx=>wpAny (model X.prog X.w) X.A (newFunctionEnv scope X.env.globals cl [] X.env.qual none .none (some X.env)) (fun JP LU=>
   codeAny (model X.prog X.w) X.A (.compStart (.ListComp elt [⟨tg,iter,ifs,0⟩] scope pos) 0 (.ref it) acc {JP with scope:=relabel scope X.env}) (RR acc JP) LU) E Gx) E s2:=by
 have Pu:∀ b∈fp,b < s2.heap.objs.size:=fun b hb=>by
  obtain⟨o,e,_⟩:=T.obj _ _ GY b hb
  exact Heap.lt_size e
 -- Hu G1
 refine wpAny_newObj_type ?_
 have I3:Inv X pins σ (upd H2 s2.heap.objs.size (.lst [])) {s2 with heap:=s2.heap.push {cls:=.type "list",data:=.seq ([]:List Value).toArray},toks:=s2.toks}:=I2.Hz (ys:=[]) (its:=[]) .nil (Nat.zero_le _)
 generalize hD:s2.heap.objs.size=D at I3 ⊢
 have Pw:H2 D=none:=by rw[<- hD];exact I2.fresh
 generalize NH:({s2 with heap:=s2.heap.push {cls:=.type "list",data:=.seq ([]:List Value).toArray},toks:=s2.toks}:Shared)=s3 at I3
 have k3:∀ b o,s2.heap.get? b=some o->s3.heap.get? b=some o:=fun b o e=>by rw[<- NH];exact Heap.get?_push_of_some _ e
 have Px:s3.heap.objs.size=D+1:=by rw[<- NH,<- hD];exact Heap.size_push ..
 have JQ:∀ b∈fp,b < D:=fun b hb=>by rw[<- hD];exact Pu b hb
 have LV:∀ b∈fp,b < s3.heap.objs.size:=fun b hb=>by rw[Px];exact Nat.lt_succ_of_lt (JQ b hb)
 have f3:∀ b∈fp,cG X pins (upd H2 D (.lst [])) b:=fun b hb=>by
  obtain⟨a1,a2⟩:=f2 b hb
  refine⟨?_,a2⟩
  rw[ag (Nat.ne_of_lt (JQ b hb))]
  exact a1
 obtain⟨W,⟨m0,w0⟩,turn⟩:=q D Pw
 refine wpAny_newFunctionEnv S.DM (by intro y hy;simp at hy) (fun h4 HB NI=>codeAny_mono (R:=fun r s'=>∀ V:Env,V.locals=s3.heap.objs.size->V.frame=X.env.frame->RR (.ref D) V r s') ?_ fun r s' z=>z _ rfl rfl) S.kind
 have k4:∀ b o,s3.heap.get? b=some o->h4.get? b=some o:=fun b o e=>
  NI.extBut b o (Nat.ne_of_lt (Heap.lt_size e)) (Heap.get?_push_of_some _ e)
 have NJ:tn 0 h4:=T.keep _ _ _ GY fun b hb o e=>k4 b o (k3 b o e)
 have I4:=k9 (fp:=fp) (h':=h4) (tk:=s3.toks+([]:List (Str×Value)).length) S I3 f3 LV (by simpa using HB) k4 (XE s3.heap.objs.size s3 (upd H2 D (.lst [])) fp)
 generalize hC:s3.heap.objs.size=C at I4 HB NI ⊢
 have LW:=hX D C s3 (upd H2 D (.lst []))
 generalize hZ:XE C s3 (upd H2 D (.lst [])) fp=Z at I4 LW
 generalize hY:EW X scope cl (Fr.map (·.1)++Tg) C s3 (upd H2 D (.lst [])) fp Z=Y at I4 LW
 have yP:Y.prog=X.prog:=by rw[<- hY];rfl
 have yw:Y.w=X.w:=by rw[<- hY];rfl
 have yK:Y.K=X.K:=by rw[<- hY];rfl
 have yA:Y.A=X.A:=by rw[<- hY];rfl
 have yc:Y.calm=true:=by rw[<- hY];exact hc
 have yx:Y.xe=Z:=by rw[<- hY];rfl
 have ye:Y.env=compEnvC scope cl C X.env:=by rw[<- hY];rfl
 have JR:Y.ex=fp:=by rw[<- hY];rfl
 have Py:Y.pn=[]:=by rw[<- hY];rfl
 have Pz:Y.fs=Cg X.stack:=by rw[<- hY];rfl
 have yH:Y.Cr=upd H2 D (.lst []):=by rw[<- hY];rfl
 have G2:Y.BS=s3:=by rw[<- hY];rfl
 have PB:PG Y tg g:=by rw[<- hY,<- hZ];exact hg _ _ _ _
 have IU:Gv Y ifs tt:=by rw[<- hY,<- hZ];exact ht _ _ _ _
 have PD:PE Y elt te:=by rw[<- hY,<- hZ];exact he _ _ _ _
 have Ez:∀ {H':Hp},(∀ b∈fp,H' b=none)->∀ b∈fp,cG Y [] H' b:=fun hn b hb=>by
  have LX:=I4.ok
  refine⟨hn b hb,(LX.GS b (by rw[JR];exact hb)).1,LX.DG b (by rw[JR];exact hb),.inl (by rw[JR];exact hb),(LX.GS b (by rw[JR];exact hb)).2,fun p hp=>absurd hp (by rw[Py];simp)⟩
 have PF:∀ b∈fp,(upd H2 D (.lst [])) b=none:=fun b hb=>(f3 b hb).1
 -- back to Hu frame
 have back:∀ (s5:Shared) (Gw:St) (H5:Hp),Inv Y [] Gw H5 s5->(∃ m,s5.heap.Ns C m)/\Inv X pins σ H5 s5/\cG X pins H5 C:=by
  intro s5 Gw H5 I5
  have LY:∃ m,s5.heap.Ns C m:=by
   obtain⟨m,hn,_⟩:=I5.loc
   rw[ye] at hn
   exact⟨m,hn⟩
  have PH:Un (Cg X.stack) fp (upd H2 D (.lst [])) H5 s3.heap s5.heap:=by
   have u:=I5.base
   rw[Pz,JR,yH,G2] at u
   exact u
  have PJ:s5.os=s3.os:=by have:=I5.os;rw[G2] at this;exact this
  have LZ:BX X.prog X.w H5 s5.heap:=by have:=I5.BD;rw[yP,yw] at this;exact this
  have Fu:∀ b∈fp,(b∈X.ex∨X.BS.heap.objs.size<=b)/\b≠X.env.locals/\(∀ x c,X.env.cells.lookup x=some c->c≠b)/\∀ p∈X.pn++pins,p.1≠b:=fun b hb=>by
   obtain⟨_,a1,_,a3,a4,a5⟩:=f3 b hb
   exact⟨a3,a1,a4,a5⟩
  have JS:H5 C=none:=by
   have:=I5.free
   rw[ye] at this
   exact this
  exact⟨LY,I3.FL PJ PH LZ I5.bare Fu,I3.D2 (Nat.le_of_eq hC) JS⟩
 have nz:∀ {α:Type}{t:Sem α}{Q:α->Shared->Prop}{s:Shared},wpAny (model X.prog X.w) X.A t Q Z s->wpAny (model X.prog X.w) X.A t Q (notedBy (model X.prog X.w) X.A (compEnvC scope cl C X.env) fun x Gp=>∀ V:Env,V.locals=C->V.frame=X.env.frame->RR (.ref D) V (.error x) Gp) s:=fun h=>wpAny_mono h (fun _ _ z=>z) fun e s' z=>LW back e s' z
 have loop:∀ (s5:Shared) (Gw:St) (H5:Hp) (i m:Nat),Inv Y [] Gw H5 s5->tn i s5.heap->(∀ b∈fp,H5 b=none)->W i m Gw H5->
   codeAny (model X.prog X.w) X.A (.compLoop (.ListComp elt [⟨tg,iter,ifs,0⟩] scope pos) 0 (.ref it) (.ref D) (compEnvC scope cl C X.env)) (fun r s'=>∀ V:Env,V.locals=C->V.frame=X.env.frame->RR (.ref D) V r s') s5:=by
  intro s5 Gw H5 i m I5 JG LH w5
  refine codeAny_loop rfl (fun n s'=>∃ i Bz H',Inv Y [] Bz H' s'/\tn i s'.heap/\(∀ b∈fp,H' b=none)/\W i n Bz H') ?_ m ⟨i,Gw,H5,I5,JG,LH,w5⟩
  rintro n s6 ⟨i,Hw,H6,I6,NK,NL,w6⟩
  show wpAny _ X.A ((compTurn (.ListComp elt [⟨tg,iter,ifs,0⟩] scope pos) 0 (.ref it) (.ref D) (compEnvC scope cl C X.env)).onRaise (fun x=>do noteFrame x (compEnvC scope cl C X.env);theTreesLotGoes x)) _ _ s6
  refine wpAny_noted ?_
  rw[f7]
  refine wpAny_bind (wpAny_standAt (wpAny_bind ?_))
  have nx:∀ {α:Type}{t:Sem α}{Q:α->Shared->Prop}{E':Value->Shared->Prop}{s:Shared},wpAny (model X.prog X.w) X.A t Q (fun _ _=>False) s->wpAny (model X.prog X.w) X.A t Q E' s:=fun h=>wpAny_mono h (fun _ _ z=>z) fun _ _ z=>z.elim
  rcases turn i n Hw H6 w6 with ⟨stop,qn⟩|⟨go,step⟩
  ·have h:=T.done Y yP yw yK yc i [] s6 Hw H6 (fun _ _=>False) I6 (Ez NL) NK stop
   rw[yA] at h
   refine nx (BG h fun r s7 ⟨hr,I7⟩=>?_)
   subst hr
   refine wpAny_pure ?_
   obtain⟨b1,b2,b3⟩:=back s7 Hw H6 I7
   exact hR D C s7 H6 b1 b2 b3 qn
  ·have h:=T.item Y yP yw yK yc i [] s6 Hw H6 (fun _ _=>False) I6 (Ez NL) NK go
   rw[yA] at h
   refine nx (BG h fun r s7 ⟨u,hr,h7⟩=>?_)
   subst hr
   refine wpAny_bind (nx (BG h7 fun _ s8 ⟨x,H8,I8,r8,y8,L0,PK⟩=>?_))
   have PL:=I8.pinned (Ez PK) (T.obj _ _ L0)
   have h9:=PB _ s8 Hw H8 x u _ PL r8 (step x H8 y8)
   rw[yP,yw,yA,yx,ye] at h9
   refine wpAny_bind (nz (BG h9 fun _ s9 ⟨L1,H9,I9,q9⟩=>?_))
   have G3:=IU _ s9 L1 H9 _ I9 q9
   rw[yP,yw,yA,yx,ye] at G3
   refine wpAny_bind (nz (BG G3 fun ok PM ⟨PN,NM,IV⟩=>?_))
   have again:∀ {Bz:St}{H':Hp}{s':Shared},Inv Y ([]++dj fp s8.heap) Bz H' s'->(∃ m',m' < n/\W (i+1) m' Bz H')->∃ m,m < n/\∃ i Bz H',Inv Y [] Bz H' s'/\tn i s'.heap/\(∀ b∈fp,H' b=none)/\W i m Bz H':=fun {Bz H' s'} I' ⟨m',hm,w'⟩=>by
    refine⟨m',hm,i+1,Bz,H',I'.CI,T.keep _ _ _ L0 fun b hb o e=>(I'.pin (b,o) (List.mem_append_right _ (List.mem_append_right _ (bW hb e)))).1,fun b hb=>?_,w'⟩
    obtain⟨o,e,d⟩:=T.obj _ _ L0 b hb
    exact(I'.pin (b,o) (List.mem_append_right _ (List.mem_append_right _ (bW hb e)))).2.1
   cases ok with
   | false=>
    rw[if_neg Bool.false_ne_true] at IV
    refine wpAny_bind (wpAny_pure (wpAny_pure ⟨rfl,again NM IV⟩))
   | true=>
    rw[if_pos rfl] at IV
    have IW:=PD _ PM L1 PN _ NM IV
    rw[yP,yw,yA,yx,ye] at IW
    refine wpAny_bind (wpAny_bind (nz (BG IW fun y PQ ⟨v,NN,PR,PU,ys,ey,zy,PV⟩=>?_)))
    have JT:=fu (X:=Y) ([]++dj fp s8.heap) PQ L1 NN (.ref D) [v] (.ref D) [y] (fun v' H'=>v'=.By/\H'=upd NN D (.lst (ys++[v]))) PR rfl (.cons PU .nil) ⟨D,ys,v,rfl,rfl,ey,zy,rfl,rfl⟩
    rw[yP,yw,yA,yx] at JT
    refine wpAny_bind (nz (BG JT fun z SW ⟨SX,SY,PX,S1,S2,L3⟩=>?_))
    subst L3
    exact wpAny_pure (wpAny_pure ⟨rfl,again PX PV⟩)
 have start:=loop {s3 with heap:=h4,toks:=s3.toks+([]:List (Str×Value)).length} (stC Fr Tg σ) (upd H2 D (.lst [])) 0 m0 I4 NJ PF w0
 have e5:∀ (s':Shared),s' = {s3 with heap:=h4,toks:=s3.toks+([]:List (Str×Value)).length}->codeAny (model X.prog X.w) X.A (.compLoop (.ListComp elt [⟨tg,iter,ifs,0⟩] scope pos) 0 (.ref it) (.ref D) (compEnvC scope cl C X.env)) (fun r s'=>∀ V:Env,V.locals=C->V.frame=X.env.frame->RR (.ref D) V r s') s':=by
  rintro _ rfl
  exact start
 exact codeAny_compStart_list (e5 _ rfl) (T.self _ _ _ _ _ NJ (e5 _ rfl))
theorem jG (hc:X.calm=true)(S:CP X scope cl Fr Tg)(hi:PI X tg iter wi)
  (hg:∀ C s H fp,PG (EW X scope cl (Fr.map (·.1)++Tg) C s H fp) tg g) (ht:∀ C s H fp,Gv (EW X scope cl (Fr.map (·.1)++Tg) C s H fp) ifs tt)
  (he:∀ C s H fp,PE (EW X scope cl (Fr.map (·.1)++Tg) C s H fp) elt te) (hs:∀ x,foldedSetIterable iter X.env x=pure x:=by intro _;rfl) :
  PE X (.ListComp elt [⟨tg,iter,ifs,0⟩] scope pos) (mz wi (stC Fr Tg) g tt te):=by
 intro pins s σ H Q I h
 rw[eval_ListComp]
 refine wpAny_comprehension_free (use:=none) rfl hs S.JO S.kind S.loc (BG (hi pins s σ H _ I h) fun xv s1 h1=>BG h1 fun KY s2 h2=>?_)
 obtain⟨it,fp,tn,J,H2,rfl,I2,T,GY,f2,q⟩:=h2
 refine dZ (XE:=fun _ _ _ _ _ _=>False) (RR:=fun acc V=>compPost (model X.prog X.w) X.A X.xe none (EP X pins σ Q) acc V.locals) hc S hg ht he I2 T GY f2 q ?_ fun _ _ _ _ _ _ _ z=>z.elim
 intro D C s' H' ⟨m,hn⟩ I' F' q' V hV _
 subst hV
 obtain⟨f0,f1,f2,f3,f4,f5⟩:=F'
 exact⟨m,hn,fun h' sb=>⟨.ref D,H',I'.turned (t':=s'.toks) (fun b o hb e=>(sb.2 b hb).trans e) f0 f1 f3 f4 f5,rfl,q'⟩⟩
theorem qB {y:Str}{py spos:Pos}{i:Nat}(hc:X.calm=true)(hN:X.N.Nodup)(NO:X.N[i]? = some y)(hy:X.env.kindOf y=some .local)(S:CP X scope cl Fr Tg)(hi:PI X tg iter wi)
  (hg:∀ C s H fp,PG (EW X scope cl (Fr.map (·.1)++Tg) C s H fp) tg g) (ht:∀ C s H fp,Gv (EW X scope cl (Fr.map (·.1)++Tg) C s H fp) ifs tt)
  (he:∀ C s H fp,PE (EW X scope cl (Fr.map (·.1)++Tg) C s H fp) elt te)
  (JU:swapsWith (.ListComp elt [⟨tg,iter,ifs,0⟩] scope pos) (some (.Name y py)) spos.line X.env=pure true) (hs:∀ x,foldedSetIterable iter X.env x=pure x:=by intro _;rfl) :
  PS X (.Assign [.Name y py] (.ListComp elt [⟨tg,iter,ifs,0⟩] scope pos) spos) (fun D σ H=>mz wi (stC Fr Tg) g tt te σ H fun v H'=>D.nx (σ.set i (some v)) H'):=by
 intro pins s σ H D I h
 rw[exec_Assign_Name_used _ _ _ _ JU]
 refine wpAny_bind (wpAny_standAt (wpAny_bind ?_))
 show wpAny _ X.A (do let _ <- comprehension (.ListComp elt [⟨tg,iter,ifs,0⟩] scope pos) scope X.env _ (newList []) false (eval iter X.env) (some (assign (.Name y py) X.env))) _ _ s
 refine wpAny_bind (BG (wpAny_comprehension_free (use:=some (assign (.Name y py) X.env)) (Q:=fun _ s'=>SP X pins D .next s') rfl hs S.JO S.kind S.loc
  (BG (hi pins s σ H _ I h) fun xv s1 h1=>BG h1 fun KY s2 h2=>?_)) fun _ s' hq=>wpAny_pure (wpAny_pure hq))
 obtain⟨it,fp,tn,J,H2,rfl,I2,T,GY,f2,q⟩:=h2
 refine dZ (Q:=fun v H'=>D.nx (σ.set i (some v)) H') (XE:=fun _ _ _ _ _ _=>False) (RR:=fun acc V=>compPost (model X.prog X.w) X.A X.xe (some (assign (.Name y py) X.env)) (fun _ s'=>SP X pins D .next s') acc V.locals) hc S hg ht he I2 T GY f2 q ?_ fun _ _ _ _ _ _ _ z=>z.elim
 intro D' C s' H' ⟨m,hn⟩ I' F' q' V hV _
 subst hV
 obtain⟨f0,f1,f2,f3,f4,f5⟩:=F'
 show wpAny _ X.A (assign (.Name y py) X.env (.ref D')) _ _ _
 refine wpAny_assign_Name (eZ I' hN NO (.inl hy) (show RelV (.ref D') (.ref D') from rfl) (fun Gp PY ⟨a,sb,ha⟩=>?_) (.inr hy))
 have PZ:V.locals≠a:=by
  rcases ha with rfl|ha
  ·exact f1
  ·exact fun z=>f4 y a ha z.symm
 refine⟨m,hn.sameBut sb PZ,fun h' P0=>⟨_,H',PY.turned (t':=Gp.toks) (fun b o hb e=>(P0.2 b hb).trans e) f0 f1 f3 f4 f5,q'⟩⟩
end
open PySem.SeqAt
section
variable {prog:Program}{w:World}{A:Around}{E:Value->Shared->Prop}{s:Shared}
theorem i6:typeLookup (.type "list_reverseiterator") "__len__" = pure none:=by rw[typeLookup_type,builtinLookup_eq_fast];kernel_rfl
theorem mB:typeLookup (.type "list_reverseiterator") "__length_hint__" = pure (some (.builtin "list_reverseiterator.__length_hint__")):=by rw[typeLookup_type,builtinLookup_eq_fast];kernel_rfl
theorem d6 {I l:Addr}{i:Int}{Q:Bool->Shared->Prop}(hit:s.heap.IsRevIter I l i)(h:Q false s):wpAny (model prog w) A (Builtin.List.listLengthHint (.ref I)) Q E s:=by
 unfold Builtin.List.listLengthHint
 refine wpAny_bind (wpAny_specialOf hit.typeIs i6 ?_)
 show wpAny _ A (specialOf (Value.ref I) (Str.ofString "__length_hint__") >>= _) _ _ _
 refine wpAny_bind (wpAny_specialOf hit.typeIs mB ?_)
 generalize Fe:("list_reverseiterator.__length_hint__" : String)=P1
 wp_delta
 rw[show splitId P1=some ("list_reverseiterator","__length_hint__") from by subst Fe;decide +kernel]
 subst Fe
 refine wpAny_bind (wpAny_isInstance (T:="list_reverseiterator") (b:=true) hit.typeIs (by rw[isSubtype_type];kernel_rfl) ?_)
 refine wpAny_ite_split (fun Ff=>absurd Ff (by decide)) (fun _=>?_)
 refine wpAny_ite_split (fun _=>?_) (fun Ff=>absurd (by decide +kernel) Ff)
 refine wpAny_ite_split (fun Ff=>absurd Ff (by decide +kernel)) (fun _=>?_)
 exact wpAny_pure h
theorem dm {R:Result->Shared->Prop}(hh:A.handled=none)(I l S:Addr)(items:Array Value)(ED:l≠I)(res:Value)(c₀:Nat)(hit:s.heap.IsRevIter I l ((items.size:Int) - 1))(hl:s.heap.IsList l items)(NP:S≠I)(P2:S≠l)
  (hS:s.heap.get? S=some {cls:=.type "list",data:=.seq #[] c₀})
  (hR:∀ h' tk Cv c',(∀ b o,b≠S->b≠I->s.heap.get? b=some o->h'.get? b=some o)->h'.get? S=some {cls:=.type "list",dict:=none,data:=.seq Cv c',slots:=#[]}->
   ItemsOf (fun i v=>items[items.size - 1 - i]? = some v) Cv items.size->R (.ok (.ret res)) {s with heap:=h',toks:=tk}) (hn:items.size<=sizeLine) :
  wpAny (model prog w) A.in1 (Builtin.List.listExtendWith (.ref S) (.ref I) res)
   (fun fin s'=>match fin with|.done f=>R (.ok f) s'|.again c'=>c'.quiet=true/\codeAny (model prog w) A c' R s') (fun e s'=>R (.error e) s') s:=by
 have P4:S∉[I,l]:=fun hm=>by
  rcases List.mem_cons.mp hm with e|hm
  ·exact NP e
  ·exact P2 (List.mem_singleton.mp hm)
 unfold Builtin.List.listExtendWith
 refine wpAny_bind (wpAny_typeOf hit.typeIs ?_)
 have h1:Builtin.List.listSameRef (.ref S) (.ref I)=false:=by simp[Builtin.List.listSameRef,NP]
 have h2:(Value.type "list_reverseiterator" == Value.type "list")=false:=by decide
 have h3:(Value.type "list_reverseiterator" == Value.type "tuple")=false:=by decide
 simp only[h1,h2,h3,Bool.or_false,Bool.false_eq_true,if_false]
 refine wpAny_bind (wpAny_pyIter_revIter hit ?_)
 refine wpAny_bind (wpAny_holding (d6 hit ?_))
 refine wpAny_ite_split (fun Ff=>absurd Ff (by decide)) (fun _=>?_)
 have W:=(Walks.listRev (prog:=prog) (w:=w) (A:=A.in1) hh I l ED items).toS
 refine wpAny_pure ⟨plainId_quiet F.plain_extend_loop _,codeAny_extend_loopS W hn S P4 res items.size 0 _ #[] c₀ rfl (Nat.zero_le _) ⟨Nat.zero_le _,by simpa using hit,hl⟩ hS (ItemsOf.nil _) fun s' Cv c' hm L4 CZ=>?_⟩
 rw[Moved.eq_with hm]
 refine hR s'.heap s'.toks Cv c' (fun b o hb Fg e=>hm.heap b o (fun HE=>?_) e) L4 CZ
 rcases List.mem_cons.mp HE with e'|HE
 ·exact hb e'
 ·exact Fg (List.mem_singleton.mp HE)
theorem eV {Q:Value->Shared->Prop}(hh:A.handled=none)(I l:Addr)(items:Array Value)(ED:l≠I)(hit:s.heap.IsRevIter I l ((items.size:Int) - 1))(hl:s.heap.IsList l items)
  (hQ:∀ h' tk Cv c',(∀ b o,b≠I->s.heap.get? b=some o->h'.get? b=some o)->
   h'.get? s.heap.objs.size=some {cls:=.type "list",dict:=none,data:=.seq Cv c',slots:=#[]}->ItemsOf (fun i v=>items[items.size - 1 - i]? = some v) Cv items.size->Q (.ref s.heap.objs.size) {s with heap:=h',toks:=tk}) (hn:items.size<=sizeLine) :
  wpAny (model prog w) A (call (.type "list") [.ref I]) Q E s:=by
 have ltI:I < s.heap.objs.size:=by obtain⟨o,e,_⟩:=hit;exact Heap.lt_size e
 have K6:l < s.heap.objs.size:=by obtain⟨o,e,_⟩:=hl;exact Heap.lt_size e
 refine callType_codes (Q₁:=fun obj BE=>obj=.ref s.heap.objs.size/\BE = {s with heap:=s.heap.push {cls:=.type "list",data:=.seq #[]}}) F.called_list (F.typeCall_list_1 _) F.entry_list_init
  (code_list_new _ ⟨rfl,rfl⟩) fun obj BE Fh=>?_
 obtain⟨rfl,rfl⟩:=Fh
 have hS:(s.heap.push {cls:=.type "list",data:=.seq #[]}).get? s.heap.objs.size=some {cls:=.type "list",data:=.seq #[]}:=Heap.get?_push_size _ rfl
 refine⟨⟨_,hS,rfl⟩,F.args_list_init_2 _ _,?_⟩
 show wpAny _ _ (do let old <- Builtin.List.listItems (.ref s.heap.objs.size);Builtin.List.listUpdate (.ref s.heap.objs.size) (fun _=>#[]);letGo old.toList.reverse;Builtin.List.listExtendWith (.ref s.heap.objs.size) (.ref I) .none) _ _ _
 refine wpAny_bind ?_
 unfold Builtin.List.listItems
 refine wpAny_bind (wpAny_seqItems hS rfl (wpAny_pure ?_))
 show wpAny _ _ (updateSeq s.heap.objs.size (fun _=>#[]) >>= fun _=>letGo (#[]:Array Value).toList.reverse >>= fun _=>Builtin.List.listExtendWith (.ref s.heap.objs.size) (.ref I) .none) _ _ _
 refine wpAny_bind (wpAny_updateSeq hS rfl ?_)
 have JV:=Heap.get?_update_self (Obj.mapSeq (fun _=>(#[]:Array Value))) hS rfl
 have Fv:∀ b o,b≠s.heap.objs.size->s.heap.get? b=some o->((s.heap.push {cls:=.type "list",data:=.seq #[]}).update s.heap.objs.size (Obj.mapSeq (fun _=>(#[]:Array Value)))).get? b=some o:=
  fun b o hb e=>(Heap.get?_update_other _ _ (Ne.symm hb)).trans (Heap.get?_push_of_some _ e)
 refine wpAny_bind (wpAny_letGo ?_)
 refine dm (A:=A.in1) hh I l _ items ED .none _ (hit.at fun o e=>Fv I o (Nat.ne_of_lt ltI) e) (hl.at fun o e=>Fv l o (Nat.ne_of_lt K6) e) (Nat.ne_of_gt ltI) (Nat.ne_of_gt K6) JV (fun h' tk Cv c' hk L4 CZ=>?_) hn
 exact⟨rfl,hQ h' tk Cv c' (fun b o hb e=>hk b o (Nat.ne_of_lt (Heap.lt_size e)) hb (Fv b o (Nat.ne_of_lt (Heap.lt_size e)) e)) L4 CZ⟩
end
section
variable {X:Cx}{e:Expr}{t:TE}{p p' pos pos':Pos}
theorem Vals.rev:∀ {xs:List V}{us:List Value},Vals xs us->Vals xs.reverse us.reverse
 | [],[],_=>.nil
 | x::xs,u::us,.cons r rs=>by
  rw[List.reverse_cons,List.reverse_cons]
  exact(Vals.rev rs).append (.cons r .nil)
theorem qC (hc:X.calm=true)(g1:Gl X "list") (m1:X.mg "list" = none) (g2:Gl X "reversed") (m2:X.mg "reversed" = none) (he:PE X e t) (BU:∀ es,starEach (e::es) X.env=(false,eval e X.env)::starEach es X.env) :
  PE X (.Call (.Name "list" p) [.Call (.Name "reversed" p') [e] [] pos'] [] pos) (fun σ H Q=>t σ H fun v H1=>∃ l ys,v=.ref l/\Ck X.K H1 l ys/\∀ q,H1 q=none->Q (.ref q) (upd H1 q (.lst ys.reverse))):=by
 intro pins s σ H Q I h
 refine wpAny_Call_Name_kw (bV (u:=.type "list") I g1 m1 (by decide +kernel) ?_ (by decide) (by decide))
 refine PyProof.Rows.callWith_type1 ?_ rfl rfl
 show wpAny _ _ (spliced ((false,eval (.Call (.Name "reversed" p') [e] [] pos') X.env)::backTo pos (starEach [] X.env))) _ _ s
 have key:wpAny (model X.prog X.w) X.A (eval (.Call (.Name "reversed" p') [e] [] pos') X.env) (fun u s1=>∃ s0 l ys its H1,Inv X pins σ H1 s0/\Vals ys its/\s0.heap.IsList l its.toArray/\ys.length<=sizeLine/\u=.ref s0.heap.objs.size/\s1 = {s0 with heap:=s0.heap.push (revObj l ((its.toArray.size:Int) - 1))}/\∀ q,H1 q=none->Q (.ref q) (upd H1 q (.lst ys.reverse))) X.xe s:=by
  refine wpAny_Call_Name_kw (bV (u:=.type "reversed") I g2 m2 (by decide +kernel) ?_ (by decide) (by decide))
  refine PyProof.Rows.callWith_type1 ?_ (BU []) rfl
  rw[BU []]
  show wpAny _ _ (spliced ((false,eval e X.env)::backTo pos' (starEach [] X.env))) _ _ s
  refine Calls.spliced_cons (BG (he pins s σ H _ I h) fun u s1 ⟨x,H1,I1,r1,l,ys,ex,hq,q1⟩=>?_)
  subst ex
  cases r1
  refine Calls.spliced_nil ?_
  obtain⟨its,r',pl,hz⟩:=I1.list hq
  exact call_reversed_list pl.isList ⟨s1,l,ys,its,H1,I1,r',pl.isList,hz,rfl,rfl,q1⟩
 refine Calls.spliced_cons (BG key fun u s1 ⟨s0,l,ys,its,H1,I1,rv,hl,hz,eu,es,q1⟩=>?_)
 subst eu es
 refine Calls.spliced_nil ?_
 have hlen:=rv.length
 have K6:l < s0.heap.objs.size:=by obtain⟨o,e,_⟩:=hl;exact Heap.lt_size e
 have hit:(s0.heap.push (revObj l ((its.toArray.size:Int) - 1))).IsRevIter s0.heap.objs.size l ((its.toArray.size:Int) - 1):=⟨_,Heap.get?_push_size _ rfl,rfl,rfl⟩
 have JW:(s0.heap.push (revObj l ((its.toArray.size:Int) - 1))).IsList l its.toArray:=hl.at fun o e=>Heap.get?_push_of_some _ e
 have hsz:(s0.heap.push (revObj l ((its.toArray.size:Int) - 1))).objs.size=s0.heap.objs.size+1:=Heap.size_push ..
 refine eV (s:={s0 with heap:=s0.heap.push (revObj l ((its.toArray.size:Int) - 1))}) (show X.A.handled=none from I.ok.hd hc) s0.heap.objs.size l its.toArray (Nat.ne_of_lt K6) hit JW (fun h' tk Cv c' kp e CZ=>?_) (by simp only[List.size_toArray]<;>omega)
 have ha:Cv=(its.reverse).toArray:=by
  apply Array.ext
  ·rw[CZ.1];simp
  ·intro i h1 h2
   have:=CZ.2 i Cv[i] (Array.getElem?_eq_getElem h1)
   rw[CZ.1] at h1
   have h3:i < its.length:=by simpa using h1
   simp only[List.size_toArray,List.getElem?_toArray] at this
   rw[List.getElem?_eq_getElem (by omega)] at this
   have:=Option.some.inj this
   rw[<- this]
   simp[List.getElem_reverse]
 subst ha
 exact⟨.ref _,_,I1.laid (t':=tk) (fun b o e=>kp b o (Nat.ne_of_lt (Heap.lt_size e)) (Heap.get?_push_of_some _ e)) (by show s0.heap.objs.size<=(s0.heap.push _).objs.size;rw[hsz];exact Nat.le_succ _) (show aF X.prog X.w _ h' _ (.lst ys.reverse) from ⟨by simpa using hz,its.reverse,c',rv.rev,e⟩),rfl,q1 _ (I1.BD.fresh (by show s0.heap.objs.size<=(s0.heap.push _).objs.size;rw[hsz];exact Nat.le_succ _))⟩
end
section
variable {X:Cx}
theorem gW {x:Str}{n:Int}(h0 : -16000<=n)(h1:n<=16000)(hx:x.length<=1000):MulOk x n:=by
 refine⟨?_,fun hn _=>?_,fun hn _=>?_⟩
 ·rw[Bool.or_eq_false_iff]
  exact⟨decide_eq_false (by omega),decide_eq_false (by omega)⟩
 ·have:(1000:Int)<=(2 ^ 63 - 1) / n:=Int.le_ediv_of_mul_le (by omega) (by omega)
  omega
 ·have:x.length*n.toNat<=1000*16000:=Nat.mul_le_mul hx (by omega)
  unfold Builtin.Str.tooLong
  exact decide_eq_false (by rw[sizeLine_eq];omega)
theorem i7:Dw X (binaryOp .Mult) (fun x y H Q=>∃ i j,x=.str i/\y=.int j/\-16000<=j/\j<=16000/\i.length<=1000/\Q (.str (Txt.mul i j)) H):=by
 intro pins s σ H x y v u Q I rx ry h
 obtain⟨i,j,rfl,rfl,h0,h1,hz,q⟩:=h
 obtain⟨t,rfl⟩:=rx
 obtain⟨t',rfl⟩:=ry
 exact SB.mul (gW h0 h1 hz) fun t' tk=>⟨.str (Txt.mul i j),H,I.tok _,⟨_,rfl⟩,q⟩
noncomputable def dn (z:Str):List V:=z.cps.toList.map fun c=>.str ⟨#[c]⟩
theorem i8 {z:Str}{Cv:Array Value}(CZ:ItemsOf (SignAt z) Cv z.cps.size):Vals (dn z) Cv.toList:=by
 have hl:Cv.toList.length=z.cps.toList.length:=by rw[Array.length_toList,Array.length_toList,CZ.1]
 have key:∀ (cs:List Nat) (vs:List Value),vs.length=cs.length->(∀ (i:Nat) (v:Value),vs[i]? = some v->∃ c u,cs[i]? = some c/\v=Value.str ⟨#[c]⟩ u)->Vals (cs.map fun c=>V.str ⟨#[c]⟩) vs:=by
  intro cs
  induction cs with
  | nil=>
   intro vs hl _
   cases vs with
   | nil=>exact .nil
   | cons _ _=>cases hl
  | cons c cs ih=>
   intro vs hl hv
   cases vs with
   | nil=>cases hl
   | cons v vs=>
    obtain⟨c',u,e1,e2⟩:=hv 0 v rfl
    have K5:c=c':=by simpa using e1
    subst K5 e2
    exact .cons ⟨u,rfl⟩ (ih vs (by simpa using hl) fun i w hw=>by simpa using hv (i+1) w (by simpa using hw))
 refine key _ _ hl fun i v hv=>?_
 obtain⟨c,u,e1,e2⟩:=CZ.2 i v (by rw[<- Array.getElem?_toList];exact hv)
 exact⟨c,u,by rw[Array.getElem?_toList];exact e1,e2⟩
theorem d8 (hc:X.calm=true):bD X (.type "tuple") (fun xs H Q=>∃ z:Str,xs=[.str z]/\z.length<=sizeLine/\∀ l,H l=none->Q (.ref l) (upd H l (.tup (dn z)))):=by
 intro pins s σ H xs us Q I r h
 obtain⟨z,rfl,hz,q⟩:=h
 obtain⟨u,rfl,t,rfl⟩:=vals1 r
 refine call_tuple_str (hsz:=hz) (show X.A.handled=none from I.ok.hd hc) z t (fun h' tk acc kp CZ=>?_)
 have rv:=i8 CZ
 have I1:Inv X pins σ H {s with heap:=h',toks:=tk}:=I.kept (t':=tk) kp
 exact⟨.ref _,_,I1.laid (t':=tk) (fun b o e=>Heap.get?_push_of_some _ e) (Nat.le_refl _) (show aF X.prog X.w _ _ _ (.tup (dn z)) from ⟨by unfold dn;simpa[Str.length] using hz,acc.toList,rv,by simpa using IsTup.new h' acc⟩),rfl,q _ (I1.BD.fresh (Nat.le_refl _))⟩
end
open PySem.W
section
variable {κ:Type} [DecidableEq κ]
noncomputable def dq (kvs:List (κ×V))(k:κ):Option V:=(kvs.find? fun kv=>decide (kv.1=k)).map (·.2)
noncomputable def putK (kvs:List (κ×V))(k:κ)(v:V):List (κ×V):=
 if (kvs.any fun kv=>decide (kv.1=k))=true then kvs.map (fun kv=>if kv.1=k then (kv.1,v) else kv) else kvs++[(k,v)]
theorem d9 {p:κ×V}{r:List (κ×V)}{k:κ}(e:p.1=k):dq (p::r) k=some p.2:=by simp[dq,List.find?_cons,e]
theorem ef {p:κ×V}{r:List (κ×V)}{k:κ}(e:¬ p.1=k):dq (p::r) k=dq r k:=by simp[dq,List.find?_cons,e]
theorem gX (k:κ):∀ kvs:List (κ×V),(kvs.any fun kv=>decide (kv.1=k))=(dq kvs k).isSome
 | []=>rfl
 | p::r=>by
  rw[List.any_cons]
  by_cases e:p.1=k
  ·simp only[d9 e,decide_eq_true e,Bool.true_or,Option.isSome_some]
  ·rw[ef e,decide_eq_false e,Bool.false_or];exact gX k r
theorem dH (kvs:List (κ×V))(k:κ)(v:V):(putK kvs k v).length<=kvs.length+1:=by
 unfold putK
 split
 ·rw[List.length_map];omega
 ·rw[List.length_append,List.length_cons,List.length_nil];omega
theorem eS.Cc {o:Option V}{u:Option Value}(r:eS o u):o.isSome=u.isSome:=by
 cases o with
 | none=>cases u with
  | none=>rfl
  | some _=>exact(show False from r).elim
 | some _=>cases u with
  | none=>exact(show False from r).elim
  | some _=>rfl
theorem KV.val {kvs:List (κ×V)}{vs:List (κ×Value)}(r:KV kvs vs)(k:κ):eS (dq kvs k) (valueAt vs k):=by
 unfold KV at r
 induction r with
 | nil=>exact True.intro
 | @cons p q ps qs h t ih=>
  obtain⟨h1,h2⟩:=h
  by_cases e:p.1=k
  ·have e':q.1=k:=h1.symm.trans e
   have b:valueAt (q::qs) k=some q.2:=by simp[valueAt,List.find?_cons,e']
   rw[d9 e,b];exact h2
  ·have e':¬ q.1=k:=fun z=>e (h1.trans z)
   have b:valueAt (q::qs) k=valueAt qs k:=by simp[valueAt,List.find?_cons,e']
   rw[ef e,b];exact ih
theorem KV.any {kvs:List (κ×V)}{vs:List (κ×Value)}(r:KV kvs vs)(k:κ):(kvs.any fun kv=>decide (kv.1=k))=vs.any fun kv=>decide (kv.1=k):=by
 unfold KV at r
 induction r with
 | nil=>rfl
 | cons h t ih=>rw[List.any_cons,List.any_cons,ih,h.1]
theorem KV.HF {kvs:List (κ×V)}{vs:List (κ×Value)}(r:KV kvs vs)(k:κ){y:V}{u:Value}(ry:RelV y u) :
  KV (kvs.map fun kv=>if kv.1=k then (kv.1,y) else kv) (vs.map fun kv=>if kv.1=k then (kv.1,u) else kv):=by
 unfold KV at r ⊢
 induction r with
 | nil=>exact .nil
 | @cons p q ps qs h t ih=>
  rw[List.map_cons,List.map_cons]
  refine .cons ?_ ih
  obtain⟨h1,h2⟩:=h
  by_cases e:p.1=k
  ·rw[if_pos e,if_pos (h1.symm.trans e)];exact⟨h1,ry⟩
  ·rw[if_neg e,if_neg (fun z=>e (h1.trans z))];exact⟨h1,h2⟩
theorem KV.put {kvs:List (κ×V)}{vs:List (κ×Value)}(r:KV kvs vs)(k:κ){y:V}{u:Value}(ry:RelV y u):KV (putK kvs k y) (stored vs k u):=by
 unfold putK stored
 rw[r.any k]
 by_cases e:(vs.any fun kv=>decide (kv.1=k))=true
 ·rw[if_pos e,if_pos e];exact r.HF k ry
 ·rw[if_neg e,if_neg e];exact Paired.snoc r ⟨rfl,ry⟩
theorem KV.length {kvs:List (κ×V)}{vs:List (κ×Value)}(r:KV kvs vs):kvs.length=vs.length:=Paired.length r
end
theorem gY {P:Program}{w:World}{k:Key}{u:Value}(r:RelV (kV k) u):(aL P w).is k u=true:=by
 cases k with
 | inl i=>obtain⟨t,e⟩:=(show ∃ t,u=Value.int i t from r);subst e;exact gM P w i t
 | inr x=>obtain⟨t,e⟩:=(show ∃ t,u=Value.str x t from r);subst e;exact gN P w x t
theorem fy {P:Program}{w:World}:∀ {ks:List Key}{us:List Value},Vals (ks.map kV) us->ItemsAre (aL P w) ks us
 | [],_,r=>by rw[List.map_nil] at r;cases r;exact .nil
 | k::ks,_,r=>by
  rw[List.map_cons] at r
  cases r with
  | cons h t=>exact .cons (gY h) (fy t)
abbrev KT (H:Hp):List (List Key×V)->List (List Key×Addr×Value)->Prop:=Paired fun p q=>p.1=q.1/\H q.2.1=some (.tup (p.1.map kV))/\RelV p.2 q.2.2
theorem KT.val {H:Hp}{kvs:List (List Key×V)}{xs:List (List Key×Addr×Value)}(r:KT H kvs xs)(k:List Key):eS (dq kvs k) ((atKey xs k).map (·.2)):=by
 induction r with
 | nil=>exact True.intro
 | @cons p q ps qs h t ih=>
  obtain⟨h1,_,h2⟩:=h
  by_cases e:p.1=k
  ·have e':q.1=k:=h1.symm.trans e
   have b:atKey (q::qs) k=some q.2:=by simp[atKey,List.find?_cons,e']
   rw[d9 e,b];exact h2
  ·have e':¬ q.1=k:=fun z=>e (h1.trans z)
   have b:atKey (q::qs) k=atKey qs k:=by simp[atKey,List.find?_cons,e']
   rw[ef e,b];exact ih
theorem KT.HF {H:Hp}{kvs:List (List Key×V)}{xs:List (List Key×Addr×Value)}(r:KT H kvs xs)(k:List Key){y:V}{u:Value}(ry:RelV y u) :
  KT H (kvs.map fun kv=>if kv.1=k then (kv.1,y) else kv) (xs.map (putAt k u)):=by
 induction r with
 | nil=>exact .nil
 | @cons p q ps qs h t ih=>
  rw[List.map_cons,List.map_cons]
  refine .cons ?_ ih
  obtain⟨h1,h2,h3⟩:=h
  unfold putAt
  by_cases e:p.1=k
  ·rw[if_pos e,if_pos (h1.symm.trans e)];exact⟨h1,h2,ry⟩
  ·rw[if_neg e,if_neg (fun z=>e (h1.trans z))];exact⟨h1,h2,h3⟩
theorem KT.put {H:Hp}{kvs:List (List Key×V)}{xs:List (List Key×Addr×Value)}(r:KT H kvs xs)(k:List Key){b:Addr}{y:V}{u:Value}(hb:H b=some (.tup (k.map kV)))(ry:RelV y u) :
  KT H (putK kvs k y) (storedH xs k b u):=by
 have e:(kvs.any fun kv=>decide (kv.1=k))=(atKey xs k).isSome:=by
  rw[gX,(r.val k).Cc,Option.isSome_map]
 unfold putK storedH
 rw[e]
 by_cases q:(atKey xs k).isSome=true
 ·rw[if_pos q,if_pos q];exact r.HF k ry
 ·rw[if_neg q,if_neg q];exact Paired.snoc r ⟨rfl,hb,ry⟩
theorem KT.keeps {H H':Hp}{kvs:List (List Key×V)}{xs:List (List Key×Addr×Value)}(r:KT H kvs xs)(ht:∀ b ys,H b=some (.tup ys)->H' b=some (.tup ys)):KT H' kvs xs:=
 Paired.Hq r fun _ _ z=>⟨z.1,ht _ _ z.2.1,z.2.2⟩
section
variable {P:Program}{w:World}{H:Hp}{h:Heap}{a:Addr}
theorem sg {u:HO}(ok:BX P w H h)(e:Rd H a u):aF P w H h a u:=e.ok ok
theorem gZ {kvs:List (Key×V)}(ok:BX P w H h)(e:Rd H a (.dK kvs)):kvs.length<=sizeLine/\(a == sysModules)=false/\∃ vs,KV kvs vs/\h.DictOf (aL P w) a vs:=
 show aF P w H h a (.dK kvs) from sg ok e
theorem xM {kvs:List (Key×V)}(ok:BX P w H h)(e:H a=some (.dK kvs)):kvs.length<=sizeLine/\(a == sysModules)=false/\∃ vs,KV kvs vs/\h.DictOf (aL P w) a vs:=gZ ok (.inl e)
theorem eg {ks:List Key}(ok:BX P w H h)(e:H a=some (.tup (ks.map kV))):(tupleKind (aL P w)).is h ks a:=by
 obtain⟨_,its,r,o,h1,h2,n,h3⟩:=(show aF P w H h a (.tup (ks.map kV)) from ok a _ e)
 exact⟨o,its.toArray,n,h1,h2,h3,by simpa using fy r⟩
theorem g6 {kvs:List (List Key×V)}(ok:BX P w H h)(e:Rd H a (.dT kvs)):kvs.length<=sizeLine/\(a == sysModules)=false/\
  ∃ xs,KT H kvs xs/\h.DictOfH (tupleKind (aL P w)) a xs:=by
 obtain⟨z,y,xs,r,o,es,ep,h1,h2,h3,h4,h5⟩:=(show aF P w H h a (.dT kvs) from sg ok e)
 refine⟨z,y,xs,r,o,es,ep,h1,h2,h3,h4,fun x hx=>?_,h5⟩
 have all:∀ {l:List (List Key×V)}{m:List (List Key×Addr×Value)},KT H l m->∀ x∈m,(tupleKind (aL P w)).is h x.1 x.2.1:=by
  intro l m q
  induction q with
  | nil=>intro x hx;exact nomatch hx
  | @cons p q ps qs hq t ih=>
   intro x hx
   rcases List.mem_cons.mp hx with e|hx
   ·subst e
    exact eg ok (by rw[<- hq.1];exact hq.2.1)
   ·exact ih x hx
 exact all r x hx
theorem xN {kvs:List (List Key×V)}(ok:BX P w H h)(e:H a=some (.dT kvs)):kvs.length<=sizeLine/\(a == sysModules)=false/\
  ∃ xs,KT H kvs xs/\h.DictOfH (tupleKind (aL P w)) a xs:=g6 ok (.inl e)
end
def f9 (H:Hp)(a:Addr)(y:V)(r:Option V):Prop:=
 (∃ kvs k,Rd H a (.dK kvs)/\y=kV k/\r=dq kvs k)∨∃ kvs k b,Rd H a (.dT kvs)/\y=.ref b/\H b=some (.tup (k.map kV))/\r=dq kvs k
def xO (H:Hp)(a:Addr)(y v:V)(H':Hp):Prop:=
 (∃ kvs k,H a=some (.dK kvs)/\y=kV k/\kvs.length < sizeLine/\H'=upd H a (.dK (putK kvs k v)))∨
 ∃ kvs k b,H a=some (.dT kvs)/\y=.ref b/\H b=some (.tup (k.map kV))/\kvs.length < sizeLine/\H'=upd H a (.dT (putK kvs k v))
section
variable {X:Cx}{pins:List (Addr×Obj)}{σ:St}{H:Hp}{s:Shared}{a:Addr}{y v:V}{u r:Value}{o:Option V}{A:Around}{E:Value->Shared->Prop}
theorem Inv.big (I:Inv X pins σ H s):sysModules < s.heap.objs.size:=by
 have h:mainGlobals < s.heap.objs.size:=(I.mod.glob.keeps I.bk).lt
 exact Nat.lt_trans (by decide) h
theorem la {Q:Value->Shared->Prop}(hu:A.units+1 < cLine)(I:Inv X pins σ H s)(g:f9 H a y (some v))(ry:RelV y u)(h:∀ w' s',Inv X pins σ H s'->RelV v w'->Q w' s') :
  wpAny (model X.prog X.w) A (getItem (.ref a) u) Q E s:=by
 rcases g with ⟨kvs,k,e,ey,l⟩|⟨kvs,k,b,e,ey,eb,l⟩
 ·subst ey
  obtain⟨z,hd,vs,rel,dd⟩:=gZ I.BD e
  obtain⟨w',hw,Gr⟩:=eS.some_of (v:=v) (o:=valueAt vs k) (by rw[l];exact rel.val k)
  exact wpAny_getItem_of (gY ry) dd.mapOf hw (h w' _ (I.tok _) Gr)
 ·subst ey
  cases (show u=Value.ref b from ry)
  obtain⟨z,hd,xs,rel,dd⟩:=g6 I.BD e
  obtain⟨w',hw,Gr⟩:=eS.some_of (v:=v) (o:=(atKey xs k).map (·.2)) (by rw[l];exact rel.val k)
  obtain⟨p,hp,P5⟩:=Option.map_eq_some_iff.mp hw
  refine wpAny_getItem_heap (tupleKind_room_in1 hu) (eg I.BD eb) dd hp ?_
  rw[P5]
  exact h w' _ (I.tok _) Gr
theorem A0 {Q:Value->Shared->Prop}(hu:A.units+1 < cLine)(I:Inv X pins σ H s)(g:f9 H a y o)(ry:RelV y u)(h:∀ s',Inv X pins σ H s'->Q (.bool o.isSome) s') :
  wpAny (model X.prog X.w) A (compareOp .In u (.ref a)) Q E s:=by
 rcases g with ⟨kvs,k,e,ey,l⟩|⟨kvs,k,b,e,ey,eb,l⟩
 ·subst ey
  obtain⟨z,hd,vs,rel,dd⟩:=gZ I.BD e
  refine wpAny_in_of (gY ry) hd dd.mapOf ?_
  rw[<- (rel.val k).Cc,<- l]
  exact h _ (I.tok _)
 ·subst ey
  cases (show u=Value.ref b from ry)
  obtain⟨z,hd,xs,rel,dd⟩:=g6 I.BD e
  refine wpAny_in_heap (tupleKind_room_in1 hu) (eg I.BD eb) hd dd ?_
  have q:=(rel.val k).Cc
  rw[Option.isSome_map] at q
  rw[<- q,<- l]
  exact h _ (I.tok _)
theorem qD {Q:Value->Shared->Prop}(hu:A.units+1 < cLine)(I:Inv X pins σ H s)(g:f9 H a y o)(ry:RelV y u)(h:∀ s',Inv X pins σ H s'->Q (.bool (!o.isSome)) s') :
  wpAny (model X.prog X.w) A (compareOp .NotIn u (.ref a)) Q E s:=by
 rcases g with ⟨kvs,k,e,ey,l⟩|⟨kvs,k,b,e,ey,eb,l⟩
 ·subst ey
  obtain⟨z,hd,vs,rel,dd⟩:=gZ I.BD e
  refine wpAny_notIn_of (gY ry) hd dd.mapOf ?_
  rw[<- (rel.val k).Cc,<- l]
  exact h _ (I.tok _)
 ·subst ey
  cases (show u=Value.ref b from ry)
  obtain⟨z,hd,xs,rel,dd⟩:=g6 I.BD e
  refine wpAny_notIn_heap (tupleKind_room_in1 hu) (eg I.BD eb) hd dd ?_
  have q:=(rel.val k).Cc
  rw[Option.isSome_map] at q
  rw[<- q,<- l]
  exact h _ (I.tok _)
theorem jH {h':Heap}{t':Nat}{ob:HO}(I:Inv X pins σ H s)(mu:Jy (H a))(hs:Heap.SameBut a s.heap h')(he:∃ q,h'.get? a=some q)(new:aF X.prog X.w (upd H a ob) h' a ob) :
  Inv X pins σ (upd H a ob) {s with heap:=h',toks:=t'}:=
 I.write (x:=a) (e:=a) mu (.inl rfl) (fun b q hb z=>(hs.2 b hb).trans z) he new
theorem vw {P:Program}{w:World}{H':Hp}{h':Heap}{kvs:List (Key×V)}{vs:List (Key×Value)}(z:kvs.length<=sizeLine)(hd:(a == sysModules)=false)(rel:KV kvs vs)(dd:h'.DictOf (aL P w) a vs) :
  aF P w H' h' a (.dK kvs):=⟨z,hd,vs,rel,dd⟩
theorem lb {H':Hp}{Q:Unit->Shared->Prop}(hu:A.units+1 < cLine)(I:Inv X pins σ H s)(g:xO H a y v H')(ry:RelV y u)(rv:RelV v r)(h:∀ s',Inv X pins σ H' s'->Q () s') :
  wpAny (model X.prog X.w) A (setItem (.ref a) u r) Q E s:=by
 rcases g with ⟨kvs,k,e,ey,l,eH⟩|⟨kvs,k,b,e,ey,eb,l,eH⟩
 ·subst ey eH
  obtain⟨z,hd,vs,rel,dd⟩:=xM I.BD e
  have hz:vs.length<=sizeLine:=by rw[<- rel.length];exact z
  have hl:(putK kvs k v).length<=sizeLine:=by have:=dH kvs k v;omega
  refine wpAny_setItem_pairs (hsz:=hz) (gY ry) dd fun h' K7 hs=>h _ ?_
  have he:∃ q,h'.get? a=some q:=let ⟨q,_,_,hq,_⟩:=K7;⟨q,hq⟩
  exact jH I (by rw[e];exact True.intro) hs he (vw hl hd (rel.put k rv) K7)
 ·subst ey eH
  cases (show u=Value.ref b from ry)
  obtain⟨z,hd,xs,rel,dd⟩:=xN I.BD e
  have hz:xs.length<=sizeLine:=by rw[<- Paired.length rel];exact z
  have hl:(putK kvs k v).length<=sizeLine:=by have:=dH kvs k v;omega
  refine wpAny_setItem_heap (hsz:=hz) (tupleKind_room_in1 hu) (eg I.BD eb) dd fun h' K7 hs=>h _ ?_
  obtain⟨q,es,ep,hq,h2,h3,h4,_,h5⟩:=K7
  refine jH I (by rw[e];exact True.intro) hs ⟨q,hq⟩ ⟨hl,hd,_,(rel.put k eb rv).keeps fun c ys ec=>?_,q,es,ep,hq,h2,h3,h4,h5⟩
  rw[ag (xq ec e (fun z=>nomatch z))]
  exact ec
end
def xP (i:Expr):Prop:=∀ ov iv,subscripted i false ov iv=operate [ov,iv] (getItem ov iv)
theorem qE {prog:Program}{w:World}{A:Around}{E:Value->Shared->Prop}{s:Shared}{env:Env}{value slice:Expr}{pos:Pos}{T id:String}{Q:Value->Shared->Prop}
  (hl:typeLookup (.type T) "__getitem__" = pure (some (.builtin id))) (hs:xP slice)
  (h:wpAny (model prog w) A (eval value env) (fun o BE=>wpAny (model prog w) A (eval slice env) (fun i D1=>D1.TypeIs o T/\wpAny (model prog w) A (getItem o i) Q E D1) E BE) E s) :
  wpAny (model prog w) A (eval (.Subscript value slice pos) env) Q E s:=by
 refine Subscript_ (wpAny_mono h (fun o BE Fh=>wpAny_mono Fh (fun i D1 EE=>?_) fun _ _ x=>x) fun _ _ x=>x)
 obtain⟨hT,EE⟩:=EE
 unfold subscriptTail
 refine wpAny_bind ?_
 rw[getitemInPython_of_ne hT.not_modules]
 refine wpAny_bind (wpAny_specialOf hT hl ?_)
 have fin:wpAny (model prog w) A (subscripted slice false o i) (fun r Gx=>wpAny (model prog w) A (letTemporaryGo value o r >>= fun _=>pure r) Q E Gx) E D1:=by
  rw[hs o i]
  exact wpAny_operating (wpAny_mono EE (fun r Gx L5=>wpAny_bind (wpAny_letTemporaryGo (wpAny_pure L5))) fun _ _ x=>x)
 first
  | exact wpAny_pure (wpAny_bind fin)
  | exact wpAny_bind (wpAny_pure (wpAny_bind fin))
  | exact wpAny_bind fin
theorem g7 {X:Cx}{pins:List (Addr×Obj)}{σ:St}{H:Hp}{s:Shared}{a:Addr}{y:V}{o:Option V}(I:Inv X pins σ H s)(g:f9 H a y o):s.TypeIs (.ref a) "dict":=by
 rcases g with ⟨kvs,k,e,_,_⟩|⟨kvs,k,b,e,_,_,_⟩
 ·obtain⟨_,_,vs,_,dd⟩:=gZ I.BD e
  exact dd.typeIs
 ·obtain⟨_,_,xs,_,dd⟩:=g6 I.BD e
  exact dd.typeIs
def xQ (td ty:TE):TE:=fun σ H Q=>td σ H fun x H1=>ty σ H1 fun y H2=>∃ a v,x=.ref a/\f9 H2 a y (some v)/\Q v H2
def A1 (ty td:TE):TE:=fun σ H Q=>ty σ H fun y H1=>td σ H1 fun x H2=>∃ a o,x=.ref a/\f9 H2 a y o/\Q (.bl o.isSome) H2
def qF (ty td:TE):TE:=fun σ H Q=>ty σ H fun y H1=>td σ H1 fun x H2=>∃ a o,x=.ref a/\f9 H2 a y o/\Q (.bl (!o.isSome)) H2
def xR (td ty tv:TE):TS:=fun D σ H=>tv σ H fun v H1=>td σ H1 fun x H2=>ty σ H2 fun y H3=>∃ a H4,x=.ref a/\xO H3 a y v H4/\D.nx σ H4
section
variable {X:Cx}{o i e value:Expr}{pos pos' JX:Pos}{td ty tv:TE}
theorem qG (hu:X.A.units+1 < cLine)(ho:PE X o td)(hi:PE X i ty)(hs:xP i):PE X (.Subscript o i pos) (xQ td ty):=by
 intro pins s σ H Q I h
 refine qE PySem.F.slot_dict_getitem.lookup hs (BG (ho pins s σ H _ I h) fun u s1 ⟨x,H1,I1,rx,q1⟩=>BG (hi pins s1 σ H1 _ I1 q1) fun iv s2 ⟨y,H2,I2,ry,a,v,ex,g,q2⟩=>?_)
 subst ex
 obtain rfl:u=Value.ref a:=rx
 exact⟨g7 I2 g,la hu I2 g ry fun w' s3 I3 Gr=>⟨v,H2,I3,Gr,q2⟩⟩
theorem mC (hu:X.A.units+1 < cLine)(hi:PE X i ty)(ho:PE X o td):PC X .In i o (A1 ty td):=by
 intro pins s σ H Q I h
 refine BG (hi pins s σ H _ I h) fun iv s1 ⟨y,H1,I1,ry,q1⟩=>BG (ho pins s1 σ H1 _ I1 q1) fun u s2 ⟨x,H2,I2,rx,a,ov,ex,g,q2⟩=>?_
 subst ex
 obtain rfl:u=Value.ref a:=rx
 exact A0 hu I2 g ry fun s3 I3=>⟨.bl ov.isSome,H2,I3,rfl,q2⟩
theorem fA (hu:X.A.units+1 < cLine)(hi:PE X i ty)(ho:PE X o td):PC X .NotIn i o (qF ty td):=by
 intro pins s σ H Q I h
 refine BG (hi pins s σ H _ I h) fun iv s1 ⟨y,H1,I1,ry,q1⟩=>BG (ho pins s1 σ H1 _ I1 q1) fun u s2 ⟨x,H2,I2,rx,a,ov,ex,g,q2⟩=>?_
 subst ex
 obtain rfl:u=Value.ref a:=rx
 exact qD hu I2 g ry fun s3 I3=>⟨.bl (!ov.isSome),H2,I3,rfl,q2⟩
theorem qH (hu:X.A.units+1 < cLine)(ho:PE X o td)(hi:PE X i ty)(hv:PE X value tv)(hs:swapsWith value (some (.Subscript o i pos')) pos.line X.env=pure false) :
  PS X (.Assign [.Subscript o i pos'] value pos) (xR td ty tv):=by
 intro pins s σ H D I h
 refine wpAny_Assign_Subscript (BG (hv pins s σ H _ I h) fun r s1 ⟨v,H1,I1,rv,q1⟩=>BG (ho pins s1 σ H1 _ I1 q1) fun u s2 ⟨x,H2,I2,rx,q2⟩=>BG (hi pins s2 σ H2 _ I2 q2) fun iv s3 ⟨y,H3,I3,ry,a,H4,ex,g,q3⟩=>?_) hs
 subst ex
 obtain rfl:u=Value.ref a:=rx
 exact lb hu I3 g ry rv fun s4 I4=>⟨σ,H4,I4,q3⟩
end
theorem mD {P:Program}{w:World}{H:Hp}(h:Heap)(hb:sysModules < h.objs.size):aF P w H (h.push {cls:=.type "dict",data:=.dict #[]}) h.objs.size (.dK []):=
 ⟨Nat.zero_le _,beq_eq_false_iff_ne.mpr (Ne.symm (Nat.ne_of_lt hb)),[],.nil,Heap.DictOf.new h⟩
def vx:TE:=fun _ H Q=>∀ p,H p=none->Q (.ref p) (upd H p (.dK []))
section
variable {X:Cx}{pos:Pos}
theorem ei:PE X (.Dict [] [] pos) vx:=fun pins s σ H Q I h=>
 wpAny_Dict_empty ⟨.ref s.heap.objs.size,_,I.laid (a:=s.heap.objs.size) (o:=.dK []) (t':=s.toks) (fun _ _ q=>Heap.get?_push_of_some _ q) (Nat.le_refl _) (mD s.heap I.big),rfl,h _ (I.BD.fresh (Nat.le_refl _))⟩
end
open PySem.Builtin PySem.Builtin.Str
section
variable {X:Cx}
theorem qI {x:Str}{e:Expr}{j:Nat}{p q pos:Pos}{t:TE}(hx:x.length<=1000)(h:PE X e t) :
  PE X (.JoinedStr [.Constant (.str x) j p,.FormattedValue e 114 none q] pos) (fun σ H Q=>t σ H fun v H'=>∃ z,v=.str z/\x.length+(reprText z).length<=sizeLine/\Q (.str (x++reprText z)) H'):=by
 intro pins s σ H Q I hq
 have hs:sizeLine=16777216:=sizeLine_eq
 refine JoinedStr_many (joinParts_cons (BG (dR (X:=X) (x:=x) (j:=j) (pos:=p) pins s σ H (fun v H'=>v=.str x/\H'=H) I ⟨rfl,rfl⟩) fun v s1 ⟨y,H1,I1,r1,e1,e2⟩=>?_))
 subst e1 e2
 obtain⟨t1,rfl⟩:=r1
 have ex:Str.empty++x=x:=Str.empty_append x
 refine⟨by rw[ex];omega,?_⟩
 rw[ex]
 refine joinParts_cons (wpAny_FormattedValue_repr (BG (h pins s1 σ _ _ I1 hq) fun v s2 ⟨y,H2,I2,r2,z,e2,hz,q2⟩=>?_))
 subst e2
 obtain⟨t2,rfl⟩:=r2
 refine pyReprObj_str ?_ (by omega)
 refine formatField_str (fun t' tk=>⟨by rw[strLen_append];exact hz,?_⟩) (by omega)
 exact joinParts_nil ⟨.str _,H2,(I2.tok _).tok _,⟨_,rfl⟩,q2⟩ (by rw[strLen_append];exact hz)
theorem qJ {x w:Str}{e:Expr}{j j':Nat}{p q r pos:Pos}{t:TE}(hx:x.length<=1000)(h:PE X e t) :
  PE X (.JoinedStr [.Constant (.str x) j p,.FormattedValue e 114 none q,.Constant (.str w) j' r] pos) (fun σ H Q=>t σ H fun v H'=>∃ z,v=.str z/\x.length+(reprText z).length+w.length<=sizeLine/\Q (.str (x++reprText z++w)) H'):=by
 intro pins s σ H Q I hq
 have hs:sizeLine=16777216:=sizeLine_eq
 refine JoinedStr_many (joinParts_cons (BG (dR (X:=X) (x:=x) (j:=j) (pos:=p) pins s σ H (fun v H'=>v=.str x/\H'=H) I ⟨rfl,rfl⟩) fun v s1 ⟨y,H1,I1,r1,e1,e2⟩=>?_))
 subst e1 e2
 obtain⟨t1,rfl⟩:=r1
 have ex:Str.empty++x=x:=Str.empty_append x
 refine⟨by rw[ex];omega,?_⟩
 rw[ex]
 refine joinParts_cons (wpAny_FormattedValue_repr (BG (h pins s1 σ _ _ I1 hq) fun v s2 ⟨y,H2,I2,r2,z,e2,hz,q2⟩=>?_))
 subst e2
 obtain⟨t2,rfl⟩:=r2
 refine pyReprObj_str ?_ (by omega)
 refine formatField_str (fun t' tk=>⟨by rw[strLen_append];omega,?_⟩) (by omega)
 refine joinParts_cons (BG (dR (X:=X) (x:=w) (j:=j') (pos:=r) pins _ σ H2 (fun v H'=>v=.str w/\H'=H2) ((I2.tok _).tok _) ⟨rfl,rfl⟩) fun v s3 ⟨y,H3,I3,r3,e3,e4⟩=>?_)
 subst e3 e4
 obtain⟨t3,rfl⟩:=r3
 refine⟨by rw[strLen_append,strLen_append];omega,?_⟩
 exact joinParts_nil ⟨.str _,_,I3.tok _,⟨_,rfl⟩,q2⟩ (by rw[strLen_append,strLen_append];omega)
end
end L2
namespace L2.Zp
open PySem
inductive Kq where
 | l|t
def Sq (k:Kq)(h:Heap)(a:Addr)(xs:Array Value):Prop:=match k with
 | .l=>h.IsList a xs
 | .t=>h.IsTuple a xs
def It (k:Kq)(h:Heap)(i a:Addr)(n:Nat):Prop:=match k with
 | .l=>h.IsListIter i a n
 | .t=>h.IsTupleIter i a n
theorem Sq.to {k:Kq}{h h':Heap}{a:Addr}{xs:Array Value}(q:Sq k h a xs)(e:∀ o,h.get? a=some o->h'.get? a=some o):Sq k h' a xs:=by
 cases k with
 | l=>obtain⟨o,ho,r⟩:=q;exact⟨o,e o ho,r⟩
 | t=>obtain⟨o,ho,r⟩:=q;exact⟨o,e o ho,r⟩
theorem It.to {k:Kq}{h h':Heap}{i a:Addr}{n:Nat}(q:It k h i a n)(e:∀ o,h.get? i=some o->h'.get? i=some o):It k h' i a n:=by
 cases k with
 | l=>obtain⟨o,ho,r⟩:=q;exact⟨o,e o ho,r⟩
 | t=>obtain⟨o,ho,r⟩:=q;exact⟨o,e o ho,r⟩
theorem It.lt {k:Kq}{h:Heap}{i a:Addr}{n:Nat}(q:It k h i a n):i < h.objs.size:=by
 cases k with
 | l=>obtain⟨o,ho,_⟩:=q;exact Heap.lt_size ho
 | t=>obtain⟨o,ho,_⟩:=q;exact Heap.lt_size ho
section
variable {prog:Program}{w:World}{A:Around}{E:Value->Shared->Prop}{s:Shared}
theorem mE {i a:Addr}{n:Nat}{xs:Array Value}{x:Value}{Q:Value->Shared->Prop}(c:s.heap.IsTupleIter i a n)(q:s.heap.IsTuple a xs)(hx:xs[n]? = some x)
  (k:∀ h',h'.IsTupleIter i a (n+1)->Heap.SameBut i s.heap h'->Q x {s with heap:=h'}):wpAny (model prog w) A (Builtin.SmallTypes.nextOf (.ref i)) Q E s:=by
 have ty:=c.typeIs
 obtain⟨oi,gi,ci,di⟩:=c
 obtain⟨oa,ga,_,na,da⟩:=q
 unfold Builtin.SmallTypes.nextOf
 refine wpAny_bind (wpAny_callSpecial?_slot (name:=Str.ofString "__next__") ty F.slot_tuple_iterator_next (wpAny_call_entry F.slot_tuple_iterator_next ty F.entry_tuple_iterator_next ?_ (F.args_tuple_iterator_next_1 _)))
 show wpAny _ _ (field (.ref i) 0 >>= _) _ _ s
 refine wpAny_bind (wpAny_field gi di (x:=.ref a) rfl ?_)
 show wpAny _ _ (if (Value.ref a == Value.none)=true then _ else _) _ _ s
 rw[if_neg (by intro z;cases z)]
 show wpAny _ _ (field (.ref i) 1 >>= _) _ _ s
 refine wpAny_bind (wpAny_field gi di (x:=.int n 0) rfl ?_)
 show wpAny _ _ (seqItems? (.ref a) >>= _) _ _ s
 refine wpAny_bind (wpAny_seqItems ga da ?_)
 simp only[Int.toNat_natCast,hx]
 refine wpAny_bind (wpAny_setField gi di (by simp) (wpAny_pure ⟨x,rfl,wpAny_pure (k _ ⟨_,Heap.get?_update_self _ gi (Obj.isFreed_of_fields (Obj.data_mapFields di _)),(Obj.cls_mapFields ..).trans ci,?_⟩ (Heap.SameBut.update ..))⟩))
 rw[Obj.data_mapFields di]
 simp[rawInt]
theorem qK {i a:Addr}{n:Nat}{xs:Array Value}{Q:Value->Shared->Prop}(hh:A.handled=none)(c:s.heap.IsTupleIter i a n)(q:s.heap.IsTuple a xs)(hx:xs[n]? = none)
  (k:∀ h' e,Heap.ExtBut i s.heap h'->(∃ o,h'.get? e=some o/\o.cls=.type "StopIteration")->E (.ref e) {s with heap:=h'}):wpAny (model prog w) A (Builtin.SmallTypes.nextOf (.ref i)) Q E s:=by
 have ty:=c.typeIs
 obtain⟨oi,gi,ci,di⟩:=c
 obtain⟨oa,ga,_,na,da⟩:=q
 unfold Builtin.SmallTypes.nextOf
 refine wpAny_bind (wpAny_callSpecial?_slot (name:=Str.ofString "__next__") ty F.slot_tuple_iterator_next (wpAny_call_entry F.slot_tuple_iterator_next ty F.entry_tuple_iterator_next ?_ (F.args_tuple_iterator_next_1 _)))
 show wpAny _ _ (field (.ref i) 0 >>= _) _ _ s
 refine wpAny_bind (wpAny_field gi di (x:=.ref a) rfl ?_)
 show wpAny _ _ (if (Value.ref a == Value.none)=true then _ else _) _ _ s
 rw[if_neg (by intro z;cases z)]
 show wpAny _ _ (field (.ref i) 1 >>= _) _ _ s
 refine wpAny_bind (wpAny_field gi di (x:=.int n 0) rfl ?_)
 show wpAny _ _ (seqItems? (.ref a) >>= _) _ _ s
 refine wpAny_bind (wpAny_seqItems ga da ?_)
 simp only[Int.toNat_natCast,hx]
 refine wpAny_bind (wpAny_rule (wpAny_bind (wpAny_setField gi di (by simp) (wpAny_bind ?_))))
 simp only[newExc,newTuple]
 refine wpAny_bind (wpAny_newObj_type (wpAny_bind (m:=firstArgMember _ _) (wpAny_of_eq (a:=Value.none) (by first|rfl|(simp only[firstArgMember];rfl)) (wpAny_newObj_type ?_ (by size_fits)))) (by size_fits))
 simp only[raiseNew]
 refine wpAny_bind (wpAny_handled ?_)
 first|rw[show A.in1.handled=none from hh]|rw[hh]
 exact wpAny_bind (wpAny_pure (wpAny_throw (k _ _ (((Heap.SameBut.update ..).extBut.push _).push _) ⟨_,Heap.get?_push_size _ rfl,rfl⟩)))
theorem gb {k:Kq}{i a:Addr}{n:Nat}{xs:Array Value}{x:Value}{Q:Value->Shared->Prop}(c:It k s.heap i a n)(q:Sq k s.heap a xs)(hx:xs[n]? = some x)
  (f:∀ h',It k h' i a (n+1)->Heap.SameBut i s.heap h'->Q x {s with heap:=h'}):wpAny (model prog w) A (Builtin.SmallTypes.nextOf (.ref i)) Q E s:=by
 cases k with
 | l=>exact wpAny_nextOf_list_item c q hx f
 | t=>exact mE c q hx f
theorem mF {k:Kq}{i a:Addr}{n:Nat}{xs:Array Value}{Q:Value->Shared->Prop}(hh:A.handled=none)(c:It k s.heap i a n)(q:Sq k s.heap a xs)(hx:xs[n]? = none)
  (f:∀ h' e,Heap.ExtBut i s.heap h'->(∃ o,h'.get? e=some o/\o.cls=.type "StopIteration")->E (.ref e) {s with heap:=h'}):wpAny (model prog w) A (Builtin.SmallTypes.nextOf (.ref i)) Q E s:=by
 cases k with
 | l=>exact wpAny_nextOf_list_end hh c q hx f
 | t=>exact qK hh c q hx f
end
section
variable {prog:Program}{w:World}{A:Around}{E:Value->Shared->Prop}{s:Shared}
def Kept (z TO i j:Addr)(h h':Heap):Prop:=∀ c o,c≠z->c≠TO->c≠i->c≠j->h.get? c=some o->h'.get? c=some o
theorem lh {p q:Kq}{z TI TO i j l m:Addr}{n n':Nat}{xs ys:Array Value}{x y a b:Value}{Q:Value->Shared->Prop}(D:ZipApart z TI TO i j l m)(hz:IsZip s.heap z TI TO .none)(hI:IsPair s.heap TI (.ref i) (.ref j))(hO:IsPair s.heap TO a b)
  (ci:It p s.heap i l n) (cj:It q s.heap j m n') (sl:Sq p s.heap l xs) (sm:Sq q s.heap m ys) (hx:xs[n]? = some x) (hy:ys[n']? = some y)
  (k:∀ h',IsZip h' z TI TO (rawInt s.heap.objs.size)->IsPair h' TO x y->It p h' i l (n+1)->It q h' j m (n' + 1)->IsPair h' s.heap.objs.size x y->h'.objs.size=s.heap.objs.size+1->Kept z TO i j s.heap h'->Q (.ref s.heap.objs.size) {s with heap:=h'}) :
  wpAny (model prog w) A (Builtin.«zip.__next__» ⟨[.ref z],[]⟩) (fun fin s'=>∃ v,fin=.done (.ret v)/\Q v s') E s:=by
 show wpAny _ _ (field (.ref z) 2 >>= _) _ _ _
 refine wpAny_bind (wpAny_field hz rfl (x:=.bool false) rfl ?_)
 show wpAny _ _ (field (.ref z) 3 >>= _) _ _ _
 refine wpAny_bind (wpAny_field hz rfl (x:=.ref TI) rfl (wpAny_bind (wpAny_seqItems hI rfl ?_)))
 show wpAny _ _ (Builtin.SmallTypes.ownedTupleIsFree (.ref z) >>= _) _ _ _
 refine wpAny_bind ?_
 unfold Builtin.SmallTypes.ownedTupleIsFree
 refine wpAny_bind (wpAny_field hz rfl (x:=.none) rfl (wpAny_pure ?_))
 simp only[if_true]
 refine wpAny_bind (wpAny_rule (wpAny_bind (wpAny_field hz rfl (x:=.ref TO) rfl (wpAny_bind (wpAny_setField_rec hz (by simp) fun h1 z1 e1=>?_)))))
 have K8:IsZip h1 z TI TO .ellipsis:=z1
 refine wpAny_bind ?_
 simp only[List.zipIdx_cons,List.zipIdx_nil,List.forIn_cons,List.forIn_nil]
 refine wpAny_bind (wpAny_bind (wpAny_onRaise ?_))
 show wpAny _ _ (Builtin.SmallTypes.nextOf (.ref i) >>= _) _ _ _
 refine wpAny_bind (gb (ci.to fun o e=>e1.extBut _ _ D.i1z e) (sl.to fun o e=>e1.extBut _ _ D.l1z e) hx fun h2 NQ e2=>wpAny_pure ?_)
 have O2:IsPair h2 TO a b:=e2.extBut _ _ D.TOi1 (e1.extBut _ _ D.TOz hO)
 refine wpAny_bind (wpAny_seqItems O2 rfl (wpAny_bind (wpAny_updateSeq_pair O2 fun h3 O3 e3=>?_)))
 have P6:IsPair h3 TO x b:=O3
 refine wpAny_bind (wpAny_letGo (wpAny_pure (wpAny_bind (wpAny_bind (wpAny_onRaise ?_)))))
 show wpAny _ _ (Builtin.SmallTypes.nextOf (.ref j) >>= _) _ _ _
 refine wpAny_bind (gb (cj.to fun o e=>e3.extBut _ _ D.TOi2.symm (e2.extBut _ _ D.i12.symm (e1.extBut _ _ D.i2z e))) (sm.to fun o e=>e3.extBut _ _ D.l2TO (e2.extBut _ _ D.l2i1 (e1.extBut _ _ D.l2z e))) hy fun h4 P7 e4=>wpAny_pure ?_)
 have O4:IsPair h4 TO x b:=e4.extBut _ _ D.TOi2 P6
 refine wpAny_bind (wpAny_seqItems O4 rfl (wpAny_bind (wpAny_updateSeq_pair O4 fun h5 O5 e5=>?_)))
 have NR:IsPair h5 TO x y:=O5
 refine wpAny_bind (wpAny_letGo (wpAny_pure (wpAny_pure (wpAny_bind (wpAny_seqItems NR rfl (wpAny_bind (wpAny_newTuple ?_)))))))
 have sz:h5.objs.size=s.heap.objs.size:=by rw[e5.1,e4.1,e3.1,e2.1,e1.1]
 have z5:IsZip h5 z TI TO .ellipsis:=e5.extBut _ _ D.TOz.symm (e4.extBut _ _ D.i2z.symm (e3.extBut _ _ D.TOz.symm (e2.extBut _ _ D.i1z.symm K8)))
 have k5:Kept z TO i j s.heap h5:=fun c o c1 c2 c3 c4 e=>e5.extBut _ _ c2 (e4.extBut _ _ c4 (e3.extBut _ _ c2 (e2.extBut _ _ c3 (e1.extBut _ _ c1 e))))
 have P8:It p h5 i l (n+1):=NQ.to fun o e=>e5.extBut _ _ D.TOi1.symm (e4.extBut _ _ D.i12 (e3.extBut _ _ D.TOi1.symm e))
 have P9:It q h5 j m (n' + 1):=P7.to fun o e=>e5.extBut _ _ D.TOi2.symm e
 have lz:z < h5.objs.size:=Heap.lt_size z5
 show wpAny _ _ (Builtin.SmallTypes.ownedTupleHandOut (.ref z) (.ref h5.objs.size) >>= _) _ _ _
 refine wpAny_bind ?_
 unfold Builtin.SmallTypes.ownedTupleHandOut
 have z6:IsZip (h5.push {cls:=.type "tuple",data:=.seq #[x,y]}) z TI TO .ellipsis:=Heap.get?_push_of_some _ z5
 refine wpAny_bind (wpAny_setField_rec z6 (by simp) fun h7 z7 e7=>wpAny_setField_rec (show IsZip h7 z TI TO (rawInt h5.objs.size) from z7) (by simp) fun h8 z8 e8=>?_)
 have NT:IsZip h8 z TI TO (rawInt h5.objs.size):=z8
 have up:∀ c o,c≠z->h5.get? c=some o->h8.get? c=some o:=fun c o c1 e=>e8.extBut _ _ c1 (e7.extBut _ _ c1 (Heap.get?_push_of_some _ e))
 have t8:IsPair h8 h5.objs.size x y:=e8.extBut _ _ (Nat.ne_of_gt lz) (e7.extBut _ _ (Nat.ne_of_gt lz) (Heap.get?_push_size _ rfl))
 have s8:h8.objs.size=h5.objs.size+1:=by rw[e8.1,e7.1,Heap.size_push]
 rw[sz] at NT t8 s8
 refine wpAny_pure ⟨_,rfl,?_⟩
 show Q (.ref h5.objs.size) _
 rw[sz]
 exact k h8 NT (up _ _ D.TOz NR) (P8.to fun o e=>up _ o D.i1z e) (P9.to fun o e=>up _ o D.i2z e) t8 s8 fun c o c1 c2 c3 c4 e=>up c o c1 (k5 c o c1 c2 c3 c4 e)
theorem lj {p q:Kq}{z TI TO i j l m:Addr}{n n':Nat}{xs ys:Array Value}{a b:Value}{Q:PySem.Fin->Shared->Prop}(hh:A.handled=none)(D:ZipApart z TI TO i j l m)(hz:IsZip s.heap z TI TO .none)(hI:IsPair s.heap TI (.ref i) (.ref j))(hO:IsPair s.heap TO a b)
  (ci:It p s.heap i l n) (cj:It q s.heap j m n') (sl:Sq p s.heap l xs) (sm:Sq q s.heap m ys) (HG:xs[n]? = none∨ys[n']? = none)
  (k:∀ h' e,Kept z TO i j s.heap h'->(∃ o,h'.get? e=some o/\o.cls=.type "StopIteration")->E (.ref e) {s with heap:=h'}) :
  wpAny (model prog w) A (Builtin.«zip.__next__» ⟨[.ref z],[]⟩) Q E s:=by
 show wpAny _ _ (field (.ref z) 2 >>= _) _ _ _
 refine wpAny_bind (wpAny_field hz rfl (x:=.bool false) rfl ?_)
 show wpAny _ _ (field (.ref z) 3 >>= _) _ _ _
 refine wpAny_bind (wpAny_field hz rfl (x:=.ref TI) rfl (wpAny_bind (wpAny_seqItems hI rfl ?_)))
 show wpAny _ _ (Builtin.SmallTypes.ownedTupleIsFree (.ref z) >>= _) _ _ _
 refine wpAny_bind ?_
 unfold Builtin.SmallTypes.ownedTupleIsFree
 refine wpAny_bind (wpAny_field hz rfl (x:=.none) rfl (wpAny_pure ?_))
 simp only[if_true]
 refine wpAny_bind (wpAny_rule (wpAny_bind (wpAny_field hz rfl (x:=.ref TO) rfl (wpAny_bind (wpAny_setField_rec hz (by simp) fun h1 z1 e1=>?_)))))
 have K8:IsZip h1 z TI TO .ellipsis:=z1
 refine wpAny_bind ?_
 simp only[List.zipIdx_cons,List.zipIdx_nil,List.forIn_cons,List.forIn_nil]
 refine wpAny_bind (wpAny_bind (wpAny_onRaise ?_))
 show wpAny _ _ (Builtin.SmallTypes.nextOf (.ref i) >>= _) _ _ _
 cases hx:xs[n]? with
 | none=>
  refine wpAny_bind (mF hh (ci.to fun o e=>e1.extBut _ _ D.i1z e) (sl.to fun o e=>e1.extBut _ _ D.l1z e) hx fun h2 e e2 he=>?_)
  obtain⟨oe,g,c⟩:=he
  have z2:IsZip h2 z TI TO .ellipsis:=e2 _ _ D.i1z.symm K8
  have ne:e≠z:=fun v=>by rw[v,z2] at g;cases g;simp at c
  exact wpAny_setField_rec z2 (by simp) fun h3 _ e3=>k h3 e (fun d o c1 _ c3 _ v=>e3.extBut _ _ c1 (e2 _ _ c3 (e1.extBut _ _ c1 v))) ⟨oe,e3.extBut _ _ ne g,c⟩
 | some x=>
  have hy:ys[n']? = none:=by
   rcases HG with v|v
   ·rw[hx] at v;cases v
   ·exact v
  refine wpAny_bind (gb (ci.to fun o e=>e1.extBut _ _ D.i1z e) (sl.to fun o e=>e1.extBut _ _ D.l1z e) hx fun h2 NQ e2=>wpAny_pure ?_)
  have O2:IsPair h2 TO a b:=e2.extBut _ _ D.TOi1 (e1.extBut _ _ D.TOz hO)
  refine wpAny_bind (wpAny_seqItems O2 rfl (wpAny_bind (wpAny_updateSeq_pair O2 fun h3 O3 e3=>wpAny_bind (wpAny_letGo (wpAny_pure (wpAny_bind (wpAny_bind (wpAny_onRaise ?_))))))))
  show wpAny _ _ (Builtin.SmallTypes.nextOf (.ref j) >>= _) _ _ _
  refine wpAny_bind (mF hh (cj.to fun o e=>e3.extBut _ _ D.TOi2.symm (e2.extBut _ _ D.i12.symm (e1.extBut _ _ D.i2z e))) (sm.to fun o e=>e3.extBut _ _ D.l2TO (e2.extBut _ _ D.l2i1 (e1.extBut _ _ D.l2z e))) hy fun h4 e e4 he=>?_)
  obtain⟨oe,g,c⟩:=he
  have z4:IsZip h4 z TI TO .ellipsis:=e4 _ _ D.i2z.symm (e3.extBut _ _ D.TOz.symm (e2.extBut _ _ D.i1z.symm K8))
  have ne:e≠z:=fun v=>by rw[v,z4] at g;cases g;simp at c
  exact wpAny_setField_rec z4 (by simp) fun h5 _ e5=>k h5 e (fun d o c1 c2 c3 c4 v=>e5.extBut _ _ c1 (e4 _ _ c4 (e3.extBut _ _ c2 (e2.extBut _ _ c3 (e1.extBut _ _ c1 v))))) ⟨oe,e5.extBut _ _ ne g,c⟩
end
noncomputable def Eo:Kq->Addr->Obj
 | .l,a=>{cls:=.type "list_iterator",data:=.fields #[.ref a,.int 0 0]}
 | .t,a=>{cls:=.type "tuple_iterator",data:=.fields #[.ref a,.int 0 0]}
noncomputable def Hi (p:Kq)(h:Heap)(l:Addr):Heap:=h.push (Eo p l)
noncomputable def Hj (p q:Kq)(h:Heap)(l m:Addr):Heap:=(Hi p h l).push (Eo q m)
noncomputable def HI (p q:Kq)(h:Heap)(l m:Addr):Heap:=(Hj p q h l m).push {cls:=.type "tuple",data:=.seq #[.ref h.objs.size,.ref (Hi p h l).objs.size]}
noncomputable def HO (p q:Kq)(h:Heap)(l m:Addr):Heap:=(HI p q h l m).push {cls:=.type "tuple",data:=.seq #[.none,.none]}
noncomputable def HZ (p q:Kq)(h:Heap)(l m:Addr):Heap:=(HO p q h l m).push {cls:=.type "zip",data:=.fields #[.none,.bool false,.bool false,.ref (Hj p q h l m).objs.size,.ref (HI p q h l m).objs.size]}
theorem vy (l m:Addr)(xs ys:Array Value):Meets (Builtin.«zip.__new__» ⟨[.type "zip",.ref l,.ref m],[]⟩) (fun _ R s=>Sq .l s.heap l xs/\Sq .l s.heap m ys/\R (.ok (.ret (.ref (HO .l .l s.heap l m).objs.size))) {s with heap:=HZ .l .l s.heap l m}):=
 .of_wp fun prog w A R s h=>by
  obtain⟨hp,g,d,tk,os⟩:=s
  obtain⟨q1,q2,h⟩:=h
  have sub:=sub_zip
  have a1:Heap.IsList (Shared.heap ⟨hp,g,d,tk,os⟩) l xs:=q1
  have a2:Heap.IsList (Shared.heap ⟨hp.push {cls:=.type "list_iterator",data:=.fields #[.ref l,.int 0 0]},g,d,tk,os⟩) m ys:=Heap.IsList.push (show hp.IsList m ys from q2) _
  wp_walk using wpAny_pyIter_list a1,wpAny_pyIter_list a2
  exact⟨_,rfl,h⟩
theorem vz (l m:Addr)(xs ys:Array Value):Meets (Builtin.«zip.__new__» ⟨[.type "zip",.ref l,.ref m],[]⟩) (fun _ R s=>Sq .l s.heap l xs/\Sq .t s.heap m ys/\R (.ok (.ret (.ref (HO .l .t s.heap l m).objs.size))) {s with heap:=HZ .l .t s.heap l m}):=
 .of_wp fun prog w A R s h=>by
  obtain⟨hp,g,d,tk,os⟩:=s
  obtain⟨q1,q2,h⟩:=h
  have sub:=sub_zip
  have a1:Heap.IsList (Shared.heap ⟨hp,g,d,tk,os⟩) l xs:=q1
  have a2:Heap.IsTuple (Shared.heap ⟨hp.push {cls:=.type "list_iterator",data:=.fields #[.ref l,.int 0 0]},g,d,tk,os⟩) m ys:=Heap.IsTuple.push (show hp.IsTuple m ys from q2) _
  wp_walk using wpAny_pyIter_list a1,wpAny_pyIter_tuple a2
  exact⟨_,rfl,h⟩
theorem vA (l m:Addr)(xs ys:Array Value):Meets (Builtin.«zip.__new__» ⟨[.type "zip",.ref l,.ref m],[]⟩) (fun _ R s=>Sq .t s.heap l xs/\Sq .l s.heap m ys/\R (.ok (.ret (.ref (HO .t .l s.heap l m).objs.size))) {s with heap:=HZ .t .l s.heap l m}):=
 .of_wp fun prog w A R s h=>by
  obtain⟨hp,g,d,tk,os⟩:=s
  obtain⟨q1,q2,h⟩:=h
  have sub:=sub_zip
  have a1:Heap.IsTuple (Shared.heap ⟨hp,g,d,tk,os⟩) l xs:=q1
  have a2:Heap.IsList (Shared.heap ⟨hp.push {cls:=.type "tuple_iterator",data:=.fields #[.ref l,.int 0 0]},g,d,tk,os⟩) m ys:=Heap.IsList.push (show hp.IsList m ys from q2) _
  wp_walk using wpAny_pyIter_tuple a1,wpAny_pyIter_list a2
  exact⟨_,rfl,h⟩
theorem vB (l m:Addr)(xs ys:Array Value):Meets (Builtin.«zip.__new__» ⟨[.type "zip",.ref l,.ref m],[]⟩) (fun _ R s=>Sq .t s.heap l xs/\Sq .t s.heap m ys/\R (.ok (.ret (.ref (HO .t .t s.heap l m).objs.size))) {s with heap:=HZ .t .t s.heap l m}):=
 .of_wp fun prog w A R s h=>by
  obtain⟨hp,g,d,tk,os⟩:=s
  obtain⟨q1,q2,h⟩:=h
  have sub:=sub_zip
  have a1:Heap.IsTuple (Shared.heap ⟨hp,g,d,tk,os⟩) l xs:=q1
  have a2:Heap.IsTuple (Shared.heap ⟨hp.push {cls:=.type "tuple_iterator",data:=.fields #[.ref l,.int 0 0]},g,d,tk,os⟩) m ys:=Heap.IsTuple.push (show hp.IsTuple m ys from q2) _
  wp_walk using wpAny_pyIter_tuple a1,wpAny_pyIter_tuple a2
  exact⟨_,rfl,h⟩
theorem vC (p q:Kq)(l m:Addr)(xs ys:Array Value):Meets (Builtin.«zip.__new__» ⟨[.type "zip",.ref l,.ref m],[]⟩) (fun _ R s=>Sq p s.heap l xs/\Sq q s.heap m ys/\R (.ok (.ret (.ref (HO p q s.heap l m).objs.size))) {s with heap:=HZ p q s.heap l m}):=by
 cases p<;>cases q
 ·exact vy l m xs ys
 ·exact vz l m xs ys
 ·exact vA l m xs ys
 ·exact vB l m xs ys
theorem mG {k:Kq}{h h':Heap}{i a:Addr}(e:h'.get? i=some (Eo k a)):It k h' i a 0:=by
 cases k with
 | l=>exact⟨_,e,rfl,rfl⟩
 | t=>exact⟨_,e,rfl,rfl⟩
theorem g9 (k:Kq)(a:Addr):(Eo k a).isFreed=false:=by cases k<;>rfl
section
variable {prog:Program}{w:World}{A:Around}{E:Value->Shared->Prop}{s:Shared}
theorem FT {p q:Kq}{l m:Addr}{xs ys:Array Value}{Q:Value->Shared->Prop}(h1:Sq p s.heap l xs)(h2:Sq q s.heap m ys)
  (k:∀ h',IsZip h' (s.heap.objs.size+4) (s.heap.objs.size+2) (s.heap.objs.size+3) .none->IsPair h' (s.heap.objs.size+2) (.ref s.heap.objs.size) (.ref (s.heap.objs.size+1))->IsPair h' (s.heap.objs.size+3) .none .none->
   It p h' s.heap.objs.size l 0->It q h' (s.heap.objs.size+1) m 0->h'.objs.size=s.heap.objs.size+5->(∀ c o,s.heap.get? c=some o->h'.get? c=some o)->Q (.ref (s.heap.objs.size+4)) {s with heap:=h'}) :
  wpAny (model prog w) A (call (.type "zip") [.ref l,.ref m]) Q E s:=by
 refine callType_new F.called_zip (by decide) (F.typeCall_zip_2 _ _) (F.newCall_zip_2 _ _) (fun obj=>F.args_object_init_3 obj _ _) F.entry_zip_new (vC p q l m xs ys) ⟨h1,h2,?_⟩
 have n1:(Hi p s.heap l).objs.size=s.heap.objs.size+1:=Heap.size_push ..
 have n2:(Hj p q s.heap l m).objs.size=s.heap.objs.size+2:=(Heap.size_push ..).trans (by rw[n1])
 have n3:(HI p q s.heap l m).objs.size=s.heap.objs.size+3:=(Heap.size_push ..).trans (by rw[n2])
 have n4:(HO p q s.heap l m).objs.size=s.heap.objs.size+4:=(Heap.size_push ..).trans (by rw[n3])
 have n5:(HZ p q s.heap l m).objs.size=s.heap.objs.size+5:=(Heap.size_push ..).trans (by rw[n4])
 have NU:∀ c o,(HO p q s.heap l m).get? c=some o->(HZ p q s.heap l m).get? c=some o:=fun c o e=>Heap.get?_push_of_some _ e
 have NV:∀ c o,(HI p q s.heap l m).get? c=some o->(HZ p q s.heap l m).get? c=some o:=fun c o e=>NU c o (Heap.get?_push_of_some _ e)
 have NW:∀ c o,(Hj p q s.heap l m).get? c=some o->(HZ p q s.heap l m).get? c=some o:=fun c o e=>NV c o (Heap.get?_push_of_some _ e)
 have NX:∀ c o,(Hi p s.heap l).get? c=some o->(HZ p q s.heap l m).get? c=some o:=fun c o e=>NW c o (Heap.get?_push_of_some _ e)
 have g5:(HZ p q s.heap l m).get? (HO p q s.heap l m).objs.size=some _:=Heap.get?_push_size _ rfl
 have g4:(HZ p q s.heap l m).get? (HI p q s.heap l m).objs.size=some {cls:=.type "tuple",data:=.seq #[.none,.none]}:=NU _ _ (Heap.get?_push_size _ rfl)
 have g3:(HZ p q s.heap l m).get? (Hj p q s.heap l m).objs.size=some {cls:=.type "tuple",data:=.seq #[.ref s.heap.objs.size,.ref (Hi p s.heap l).objs.size]}:=NV _ _ (Heap.get?_push_size _ rfl)
 have g2:(HZ p q s.heap l m).get? (Hi p s.heap l).objs.size=some (Eo q m):=NW _ _ (Heap.get?_push_size _ (g9 q m))
 have g1:(HZ p q s.heap l m).get? s.heap.objs.size=some (Eo p l):=NX _ _ (Heap.get?_push_size _ (g9 p l))
 rw[n2,n3,n4] at g5
 rw[n3] at g4
 rw[n1,n2] at g3
 rw[n1] at g2
 show _/\_
 rw[n4]
 exact⟨⟨_,g5,rfl⟩,k _ g5 g3 g4 (mG (h:=s.heap) g1) (mG (h:=s.heap) g2) n5 fun c o e=>NX c o (Heap.get?_push_of_some _ e)⟩
end
section
variable {prog:Program}{w:World}{A:Around}{E:Value->Shared->Prop}{s:Shared}
theorem Gy {p q:Kq}{z TI TO i j l m:Addr}{n n':Nat}{xs ys:Array Value}{x y a b:Value}{Q:Option Value->Shared->Prop}(D:ZipApart z TI TO i j l m)(hz:IsZip s.heap z TI TO .none)(hI:IsPair s.heap TI (.ref i) (.ref j))(hO:IsPair s.heap TO a b)
  (ci:It p s.heap i l n) (cj:It q s.heap j m n') (sl:Sq p s.heap l xs) (sm:Sq q s.heap m ys) (hx:xs[n]? = some x) (hy:ys[n']? = some y)
  (k:∀ h',IsZip h' z TI TO (rawInt s.heap.objs.size)->IsPair h' TO x y->It p h' i l (n+1)->It q h' j m (n' + 1)->IsPair h' s.heap.objs.size x y->h'.objs.size=s.heap.objs.size+1->Kept z TO i j s.heap h'->Q (some (.ref s.heap.objs.size)) {s with heap:=h'}) :
  wpAny (model prog w) A (pyNext (.ref z)) Q E s:=by
 have ty:s.TypeIs (.ref z) "zip":=⟨_,hz,rfl⟩
 unfold pyNext
 refine wpAny_bind (wpAny_attempt (wpAny_callSpecial?_slot (name:=Str.ofString "__next__") ty F.slot_zip_next (wpAny_call_entry F.slot_zip_next ty F.entry_zip_next ?_ (F.args_zip_next_1 _))))
 exact lh D hz hI hO ci cj sl sm hx hy fun h' a1 a2 a3 a4 a5 a6 a7=>wpAny_pure (k h' a1 a2 a3 a4 a5 a6 a7)
theorem Gz {p q:Kq}{z TI TO i j l m:Addr}{n n':Nat}{xs ys:Array Value}{a b:Value}{Q:Option Value->Shared->Prop}(hh:A.handled=none)(D:ZipApart z TI TO i j l m)(hz:IsZip s.heap z TI TO .none)(hI:IsPair s.heap TI (.ref i) (.ref j))(hO:IsPair s.heap TO a b)
  (ci:It p s.heap i l n) (cj:It q s.heap j m n') (sl:Sq p s.heap l xs) (sm:Sq q s.heap m ys) (HG:xs[n]? = none∨ys[n']? = none)
  (k:∀ h',Kept z TO i j s.heap h'->Q none {s with heap:=h'}):wpAny (model prog w) A (pyNext (.ref z)) Q E s:=by
 have ty:s.TypeIs (.ref z) "zip":=⟨_,hz,rfl⟩
 unfold pyNext
 refine wpAny_bind (wpAny_attempt (wpAny_callSpecial?_slot (name:=Str.ofString "__next__") ty F.slot_zip_next (wpAny_call_entry F.slot_zip_next ty F.entry_zip_next (lj hh D hz hI hO ci cj sl sm HG fun h' e hk he=>?_) (F.args_zip_next_1 _))))
 obtain⟨o,g,c⟩:=he
 exact wpAny_bind (wpAny_isInstance (T:="StopIteration") (b:=true) ⟨o,g,c⟩ isSubtype_stop (wpAny_pure (k _ hk)))
end
end L2.Zp
namespace L2
open PySem PySem.Spec PyProof.Rows
def Fw (K:PySem.W.Frag)(H:Hp)(k:Zp.Kq)(a:Addr)(xs:List V):Prop:=match k with
 | .l=>Ck K H a xs
 | .t=>CF K H a xs
section
variable {X:Cx}{pins:List (Addr×Obj)}{σ:St}{H:Hp}{s:Shared}{h':Heap}{k:Zp.Kq}{a:Addr}{xs ys:List V}
theorem Inv.IY (I:Inv X pins σ H s)(h:Fw X.K H k a xs):∃ its:List Value,Vals xs its/\Zp.Sq k s.heap a its.toArray:=by
 cases k with
 | l=>obtain⟨its,rv,p,hz⟩:=I.list h;exact⟨its,rv,p.isList⟩
 | t=>obtain⟨its,rv,p,hz⟩:=I.tuple h;exact⟨its,rv,p⟩
theorem Inv.EX (I:Inv X pins σ H s)(h:Fw X.K H k a xs)(h':Fw X.K H k a ys):xs=ys:=by
 cases k with
 | l=>exact I.BZ h h'
 | t=>exact I.CO h h'
theorem Inv.turns {t':Nat}{ch:List Addr}(I:Inv X pins σ H s)(k:∀ b o,b∉ch->s.heap.get? b=some o->h'.get? b=some o)(hf:∀ b∈ch,cG X pins H b):Inv X pins σ H {s with heap:=h',toks:=t'}:=by
 have GV:∀ b u,H b=some u->b∉ch:=fun b u e z=>by rw[(hf b z).1] at e;cases e
 refine I.step (g':=s.gens) (d':=s.drawn) (ch:=ch) (fun b hb=>?_) (fun b o _ _ hc e _=>k b o hc e) (fun b o _ _ hc e _=>⟨o.slots,k b o hc e⟩) (fun _ _ _ _ n=>n)
  (fun b o hc e=>⟨o,k b o hc e⟩) (fun _ _ e=>e) (fun _ _ _ e=>e) (fun b ps e=>⟨#[],by rw[e];simp⟩) (fun m hm=>?_) (fun b u e=>?_) I.bare
 ·obtain⟨f0,f1,f2,f3,f4,f5⟩:=hf b hb
  exact⟨f3,f1,f4,f5⟩
 ·obtain⟨o,es,ep,ho,r⟩:=hm
  exact⟨o,es,ep,k _ o (fun z=>(hf _ z).2.1 rfl) ho,r⟩
 ·refine(I.BD b u e).CH (fun c v hc q=>k c v ?_ q) (fun _ q=>q) fun _ _ q=>q
  rcases hc with z|z
  ·rw[z];exact GV b u e
  ·exact GV c _ z
theorem Inv.FU {t':Nat}{ch:List Addr}{T:Addr}{ho:HO}(I:Inv X pins σ H s)(k:∀ b o,b∉ch->s.heap.get? b=some o->h'.get? b=some o)(hf:∀ b∈ch,cG X pins H b)(hp:s.heap.objs.size<=T)(new:aF X.prog X.w (upd H T ho) h' T ho):Inv X pins σ (upd H T ho) {s with heap:=h',toks:=t'}:=by
 have GV:∀ b u,H b=some u->b∉ch:=fun b u e z=>by rw[(hf b z).1] at e;cases e
 have hn:H T=none:=I.BD.fresh hp
 refine I.step (g':=s.gens) (d':=s.drawn) (ch:=ch) (fun b hb=>?_) (fun b o _ _ hc e _=>k b o hc e) (fun b o _ _ hc e _=>⟨o.slots,k b o hc e⟩) (fun b o _ e n=>by rw[ag (Nat.ne_of_lt (Nat.lt_of_lt_of_le (Heap.lt_size e) hp))];exact n)
  (fun b o hc e=>⟨o,k b o hc e⟩) (fun b xs q=>by rw[ag (aw q hn)];exact q) (fun b u xs q=>by rw[ag (aw q hn)];exact q) (fun b ps q=>⟨#[],by rw[ag (aw q hn),q];simp⟩) (fun m hm=>?_) (fun b u e=>?_) I.bare
 ·obtain⟨f0,f1,f2,f3,f4,f5⟩:=hf b hb
  exact⟨f3,f1,f4,f5⟩
 ·obtain⟨o,es,ep,ho,r⟩:=hm
  exact⟨o,es,ep,k _ o (fun z=>(hf _ z).2.1 rfl) ho,r⟩
 ·by_cases hb:b=T
  ·subst hb;rw[aq] at e;cases e;exact new
  ·rw[ag hb] at e
   refine(I.BD b u e).CH (fun c v hc q=>k c v ?_ q) (fun c q=>by rw[ag (aw q hn)];exact q) fun c xs q=>by rw[ag (aw q hn)];exact q
   rcases hc with z|z
   ·rw[z];exact GV b u e
   ·exact GV c _ z
end
noncomputable def L6 (K:PySem.W.Frag)(p q:Zp.Kq)(l m:Addr):It:=
 ⟨fun i H=>∃ xs ys x y,Fw K H p l xs/\Fw K H q m ys/\xs[i]? = some x/\ys[i]? = some y,
  fun i H v H'=>∃ T a b,v=.ref T/\H T=none/\H'=upd H T (.tup [a,b])/\∀ xs ys,Fw K H p l xs->Fw K H q m ys->xs[i]? = some a/\ys[i]? = some b,
  fun i H=>∃ xs ys,Fw K H p l xs/\Fw K H q m ys/\(xs.length<=i∨ys.length<=i)⟩
theorem Zp.It.obj {k:Zp.Kq}{h:Heap}{i a:Addr}{n:Nat}(c:Zp.It k h i a n):∃ o,h.get? i=some o/\∀ v,o.data≠.cell v:=by
 cases k with
 | l=>obtain⟨o,e,c,d⟩:=c;exact⟨o,e,fun v z=>by rw[d] at z;cases z⟩
 | t=>obtain⟨o,e,c,d⟩:=c;exact⟨o,e,fun v z=>by rw[d] at z;cases z⟩
theorem mH {P:Program}{w:World}{K:PySem.W.Frag}{es:List Expr}{c:Nat}{pos:Pos}(p q:Zp.Kq)(z TI TO i j l m:Addr)(D:ZipApart z TI TO i j l m) :
  Turn P w K (.Tuple es c pos) (L6 K p q l m) [z,TI,TO,i,j] z (fun n h=>IsZip h z TI TO .none/\IsPair h TI (.ref i) (.ref j)/\(∃ a b,IsPair h TO a b)/\Zp.It p h i l n/\Zp.It q h j m n) where
 mem:=by simp
 obj:=fun n h st b hb=>by
  obtain⟨hz,hI,⟨a,b',hO⟩,ci,cj⟩:=st
  simp only[List.mem_cons,List.not_mem_nil,or_false] at hb
  rcases hb with rfl|rfl|rfl|rfl|rfl
  ·exact⟨_,hz,fun v z=>by cases z⟩
  ·exact⟨_,hI,fun v z=>by cases z⟩
  ·exact⟨_,hO,fun v z=>by cases z⟩
  ·exact ci.obj
  ·exact cj.obj
 keep:=fun n h h' st k=>by
  obtain⟨hz,hI,⟨a,b',hO⟩,ci,cj⟩:=st
  exact⟨k z (by simp) _ hz,k TI (by simp) _ hI,⟨a,b',k TO (by simp) _ hO⟩,ci.to fun o e=>k i (by simp) o e,cj.to fun o e=>k j (by simp) o e⟩
 item:=by
  intro X hP hw hK hc n pins s σ H E I hf st hg
  subst hP hw hK
  obtain⟨hz,hI,⟨a,b',hO⟩,ci,cj⟩:=st
  obtain⟨xs,ys,x,y,K9,K',hx,hy⟩:=hg
  obtain⟨DN,Fx,p1⟩:=I.IY K9
  obtain⟨Ct,D6,p2⟩:=I.IY K'
  obtain⟨u1,L7,L8⟩:=Fx.get hx
  obtain⟨u2,P',Qa⟩:=D6.get hy
  refine Zp.Gy D hz hI hO ci cj p1 p2 (x:=u1) (y:=u2) (by simpa using L7) (by simpa using P') fun h1 a1 a2 a3 a4 a5 a6 hk=>?_
  refine⟨_,rfl,?_⟩
  have lz:z < s.heap.objs.size:=Heap.lt_size hz
  have Qb:s.heap.objs.size≠z:=Nat.ne_of_gt lz
  refine wpAny_letOwnedTupleGo_zip (s:={s with heap:=h1}) a1 fun h2 Qc EF=>?_
  have kk:∀ b o,b∉[z,TI,TO,i,j]->s.heap.get? b=some o->h2.get? b=some o:=fun b o hb e=>by
   simp only[List.mem_cons,List.not_mem_nil,or_false,not_or] at hb
   exact EF.extBut _ _ hb.1 (hk b o hb.1 hb.2.2.1 hb.2.2.2.1 hb.2.2.2.2 e)
  have hT:IsPair h2 s.heap.objs.size u1 u2:=EF.extBut _ _ Qb a5
  have I2:Inv X pins σ (upd H s.heap.objs.size (.tup [x,y])) {s with heap:=h2}:=I.FU (t':=s.toks) kk hf (Nat.le_refl _) ⟨by show 2<=sizeLine;decide,[u1,u2],.cons L8 (.cons Qa .nil),⟨_,hT,rfl,_,rfl⟩⟩
  refine⟨.ref s.heap.objs.size,_,I2,rfl,⟨_,x,y,rfl,I.BD.fresh (Nat.le_refl _),rfl,fun NY S3 g1 g2=>by rw[I.EX g1 K9,I.EX g2 K'];exact⟨hx,hy⟩⟩,⟨Qc,EF.extBut _ _ D.TIz (hk _ _ D.TIz D.TITO D.TIi1 D.TIi2 hI),⟨_,_,EF.extBut _ _ D.TOz a2⟩,a3.to fun o e=>EF.extBut _ _ D.i1z e,a4.to fun o e=>EF.extBut _ _ D.i2z e⟩,fun b hb=>?_⟩
  have Fg:b < s.heap.objs.size:=by
   simp only[List.mem_cons,List.not_mem_nil,or_false] at hb
   rcases hb with rfl|rfl|rfl|rfl|rfl
   ·exact lz
   ·exact Heap.lt_size hI
   ·exact Heap.lt_size hO
   ·exact ci.lt
   ·exact cj.lt
  rw[ag (Nat.ne_of_lt Fg)]
  exact(hf b hb).1
 done:=by
  intro X hP hw hK hc n pins s σ H E I hf st hg
  subst hP hw hK
  obtain⟨hz,hI,⟨a,b',hO⟩,ci,cj⟩:=st
  obtain⟨xs,ys,K9,K',hx⟩:=hg
  obtain⟨DN,Fx,p1⟩:=I.IY K9
  obtain⟨Ct,D6,p2⟩:=I.IY K'
  have l1:=Fx.length
  have l2:=D6.length
  refine Zp.Gz (I.ok.hd hc) D hz hI hO ci cj p1 p2 (by
   rcases hx with hx|hx
   ·exact .inl (Array.getElem?_eq_none (by simp;omega))
   ·exact .inr (Array.getElem?_eq_none (by simp;omega))) fun h1 hk=>⟨rfl,I.turns (t':=s.toks) (ch:=[z,TI,TO,i,j]) (fun b o hb e=>?_) hf⟩
  simp only[List.mem_cons,List.not_mem_nil,or_false,not_or] at hb
  exact hk b o hb.1 hb.2.2.1 hb.2.2.2.1 hb.2.2.2.2 e
 self:=fun _ _ _ _ _ st h=>wpAny_pyIter_zip st.1 h
def A2 (K:PySem.W.Frag)(ta:TA):TI:=fun σ H R=>ta σ H fun vs H1=>∃ p q l m xs ys,vs=[.ref l,.ref m]/\Fw K H1 p l xs/\Fw K H1 q m ys/\R (L6 K p q l m) H1
theorem Zp.Sq.lt {k:Zp.Kq}{h:Heap}{a:Addr}{xs:Array Value}(q:Zp.Sq k h a xs):a < h.objs.size:=by
 cases k with
 | l=>obtain⟨o,e,_⟩:=q;exact Heap.lt_size e
 | t=>obtain⟨o,e,_⟩:=q;exact Heap.lt_size e
theorem mI (N l m:Nat)(hl:l < N)(hm:m < N):ZipApart (N+4) (N+2) (N+3) N (N+1) l m:=by
 constructor<;>(intro e;have e':(_:Nat)=(_:Nat):=e;omega)
theorem vD {X:Cx}{a b:Expr}{ta:TA}{es:List Expr}{c:Nat}{p tp pos:Pos}(hg:Gl X "zip") (hm:X.mg "zip" = none) (ha:PA X [a,b] ta) (hs:starEach [a,b] X.env=[(false,eval a X.env),(false,eval b X.env)]) (EF:starEach [b] X.env=[(false,eval b X.env)]) :
  PI X (.Tuple es c tp) (.Call (.Name "zip" p) [a,b] [] pos) (A2 X.K ta):=by
 intro pins s σ H R I h
 refine Call_ (bV I hg hm boot_zip (PyProof.Rows.callWith_type1 (BG (ha pos pins s σ H _ I h) fun us s1 ⟨vs,H1,I1,r1,q1⟩=>?_) (by rw[hs,EF]) (by rw[EF];rfl)))
 obtain⟨k1,k2,l,m,xs,ys,e,g1,g2,q⟩:=q1
 subst e
 cases r1 with
 | cons r rr=>
  cases rr with
  | cons r' rr=>
   cases rr
   cases r
   cases r'
   obtain⟨DN,Fx,p1⟩:=I1.IY g1
   obtain⟨Ct,D6,p2⟩:=I1.IY g2
   have l1:=p1.lt
   have l2:=p2.lt
   refine Zp.FT p1 p2 fun h2 b1 b2 b3 b4 b5 b6 b7=>?_
   refine wpAny_pyIter_zip (s:={s1 with heap:=h2}) b1 ?_
   refine⟨s1.heap.objs.size+4,[s1.heap.objs.size+4,s1.heap.objs.size+2,s1.heap.objs.size+3,s1.heap.objs.size,s1.heap.objs.size+1],_,_,H1,rfl,I1.kept (t':=s1.toks) b7,mH k1 k2 _ _ _ _ _ l m (mI _ l m l1 l2),⟨b1,b2,⟨_,_,b3⟩,b4,b5⟩,fun b hb=>?_,q⟩
   have Fg:s1.heap.objs.size<=b:=by
    simp only[List.mem_cons,List.not_mem_nil,or_false] at hb
    rcases hb with rfl|rfl|rfl|rfl|rfl
    ·exact Nat.le_add_right _ _
    ·exact Nat.le_add_right _ _
    ·exact Nat.le_add_right _ _
    ·exact Nat.le_refl _
    ·exact Nat.le_add_right _ _
   exact I1.D2 Fg (I1.BD.fresh Fg)
end L2
namespace L2.Se
open PySem
open PyProof.Rows
section
variable {prog:Program}{w:World}{A:Around}{E:Value->Shared->Prop}{s:Shared}
instance:Inhabited Str:=⟨⟨#[]⟩⟩
end
end L2.Se
namespace L2.Sv
open PySem PyProof.Rows
noncomputable def Qd (σ:List Str)(v:Str):List Str:=if σ.any (· == v) then σ else σ++[v]
end L2.Sv
namespace L2
open PySem PySem.Spec PyProof.Rows PySem.SeqAt
noncomputable def dd (ns:List Int):List Int:=ns.foldl step_dedup []
noncomputable def xS (x:Str):List Str->List Str
 | []=>[x]
 | y::r=>if ltCps y.cps.toList x.cps.toList=true then y::xS x r else x::y::r
noncomputable def sh:List Str->List Str
 | []=>[]
 | x::r=>xS x (sh r)
noncomputable def Qe (ns:List Str):List Str:=ns.foldl Sv.Qd []
section
variable {X:Cx}
def A3:V->List V->Hp->VK->Prop:=fun x vs H Q=>∃ l xs i y,x=.ref l/\vs=[.int i,y]/\H l=some (.lst xs)/\0<=i/\i.toNat<=xs.length/\xs.length < sizeLine/\Q .By (upd H l (.lst (xs.take i.toNat++y::xs.drop i.toNat)))
theorem vE:ND X "list.insert" A3:=by
 intro pins s σ H x vs v us Q I rx rv h
 obtain⟨l,xs,i,y,rfl,rfl,hH,h0,hi,hz,q⟩:=h
 cases rx
 have hs:sizeLine=16777216:=sizeLine_eq
 cases rv with
 | cons r1 IZ=>
  obtain⟨t,rfl⟩:=r1
  obtain⟨u,rfl,ru⟩:=Vals.one IZ
  obtain⟨z,its,n,r,hl,e⟩:=I.JK hH
  refine call_meets F.slot_list_insert ⟨_,e,rfl⟩ F.entry_list_insert (F.args_list_insert_3 _ _ _) (AutoSeq1.list_insert_list_int_val_1 l its.toArray n i t u (by rw[fitsIndex_both (by omega) (by omega)];decide) (by rw[List.size_toArray];omega)) ⟨e,?_⟩
  refine⟨.By,_,I.EB (its':=its.take i.toNat++u::its.drop i.toNat) hH e ?_ ((r.take i.toNat).append (.cons ru (r.drop i.toNat))) ?_,rfl,q⟩
  ·have h1:¬ i < 0:=by omega
   have h2:min i.toNat its.toArray.size=i.toNat:=by rw[List.size_toArray];omega
   simp only[h1,if_false,h2]
   apply Array.ext'
   simp
   rw[List.take_of_length_le (by rw[List.length_drop];omega)]
  ·rw[List.length_append,List.length_cons,List.length_take,List.length_drop]
   omega
end
end L2
namespace L2.Sx
open PySem PyProof.Rows
noncomputable def dd (σ:List Str)(v:Str):List Str:=if σ.any (· == v) then σ else σ++[v]
end L2.Sx
namespace L2
open PySem PySem.Spec PyProof.Rows
end L2
namespace L2.Dp
open PySem PyProof.Rows
end L2.Dp
namespace L2
open PySem PySem.Spec PyProof.Rows
open PySem.SeqAt
section
variable {X:Cx}
theorem Inv.Bw {pins:List (Addr×Obj)}{σ:St}{H:Hp}{s:Shared}{p:Addr}{kvs:List (Key×V)}(I:Inv X pins σ H s)(e:Rd H p (.dK kvs)):kvs.length<=sizeLine/\(p == sysModules)=false/\∃ vs o es ep,KV kvs vs/\s.heap.get? p=some o/\o.data=.dict es ep/\s.heap.DictAt (aL X.prog X.w) p vs ep:=by
 obtain⟨h1,h2,vs,kv,o,es,ep,ho,c,hd,r⟩:=e.ok I.BD
 exact⟨h1,h2,vs,o,es,ep,kv,ho,hd,o,es,ho,c,hd,r⟩
theorem KV.len {κ:Type}{kvs:List (κ×V)}{vs:List (κ×Value)}(r:KV kvs vs):kvs.length=vs.length:=Paired.length r
theorem ll:bD X (.builtin "len") (fun xs H Q=>∃ (p:Addr) (kvs:List (Key×V)),xs=[.ref p]/\Rd H p (.dK kvs)/\Q (.int kvs.length) H):=by
 intro pins s σ H xs us Q I r h
 obtain⟨p,kvs,rfl,hp,q⟩:=h
 obtain⟨u,rfl,rx⟩:=vals1 r
 cases rx
 obtain⟨hz,lo,vs,o,es,ep,kv,ho,hd,hm⟩:=I.Bw hp
 have hs:sizeLine=16777216:=sizeLine_eq
 have hl:=kv.len
 exact call_len_dict lo hm.dictOf (by omega) ⟨.int kvs.length,H,I.tok _,⟨_,by rw[hl]⟩,q⟩
end
noncomputable def L9 (K:PySem.W.Frag)(l:Addr):It:=
 ⟨fun i H=>∃ xs x,Ck K H l xs/\xs[i]? = some x,
  fun i H v H'=>∃ T x,v=.ref T/\H T=none/\H'=upd H T (.tup [.int i,x])/\∀ xs,Ck K H l xs->xs[i]? = some x,
  fun i H=>∃ xs,Ck K H l xs/\xs.length<=i⟩
theorem lp {P:Program}{w:World}{K:PySem.W.Frag}{es:List Expr}{c:Nat}{pos:Pos}(e it l:Addr)(ED:e≠it) :
  Turn P w K (.Tuple es c pos) (L9 K l) [e,it] e (fun n h=>(∃ old,IsEnum h e it n old)/\h.IsListIter it l n) where
 mem:=by simp
 obj:=fun n h st b hb=>by
  obtain⟨⟨old,he⟩,ci⟩:=st
  simp only[List.mem_cons,List.not_mem_nil,or_false] at hb
  rcases hb with rfl|rfl
  ·exact⟨_,he,fun v z=>by cases z⟩
  ·obtain⟨o,e,c,d⟩:=ci
   exact⟨o,e,fun v z=>by rw[d] at z;cases z⟩
 keep:=fun n h h' st k=>by
  obtain⟨⟨old,he⟩,ci⟩:=st
  exact⟨⟨old,k e (by simp) _ he⟩,ci.at fun o q=>k it (by simp) o q⟩
 item:=by
  intro X hP hw hK hc n pins s σ H E I hf st hg
  subst hP hw hK
  obtain⟨⟨old,he⟩,ci⟩:=st
  obtain⟨xs,x,hq,hx⟩:=hg
  obtain⟨its,rv,p,hz⟩:=I.list hq
  obtain⟨u,hu,ru⟩:=rv.get hx
  refine wpAny_pyNext_enum_item he ci p.isList (x:=u) (by simpa using hu) ED fun h1 a1 a2 a3 a4 hk=>?_
  refine⟨_,rfl,?_⟩
  have le:e < s.heap.objs.size:=Heap.lt_size he
  have Qf:s.heap.objs.size≠e:=Nat.ne_of_gt le
  refine wpAny_letOwnedTupleGo_enum (s:={s with heap:=h1,toks:=s.toks+1}) a1 fun h2 Qg EF=>?_
  have kk:∀ b o,b∉[e,it]->s.heap.get? b=some o->h2.get? b=some o:=fun b o hb q=>by
   simp only[List.mem_cons,List.not_mem_nil,or_false,not_or] at hb
   exact EF.extBut _ _ hb.1 (hk b o hb.1 hb.2 q)
  have hT:=EF.extBut _ _ Qf a3
  have I2:Inv X pins σ (upd H s.heap.objs.size (.tup [.int n,x])) {s with heap:=h2,toks:=s.toks+1}:=I.FU (t':=s.toks+1) kk hf (Nat.le_refl _) ⟨by show 2<=sizeLine;decide,[.int n s.toks,u],.cons ⟨_,rfl⟩ (.cons ru .nil),⟨_,hT,rfl,_,rfl⟩⟩
  refine⟨.ref s.heap.objs.size,_,I2,rfl,⟨_,x,rfl,I.BD.fresh (Nat.le_refl _),rfl,fun NY g1=>by rw[I.BZ g1 hq];exact hx⟩,⟨⟨_,by rw[Int.natCast_succ];exact Qg⟩,a2.at fun o q=>EF.extBut _ _ ED.symm q⟩,fun b hb=>?_⟩
  have Fg:b < s.heap.objs.size:=by
   simp only[List.mem_cons,List.not_mem_nil,or_false] at hb
   rcases hb with rfl|rfl
   ·exact le
   ·obtain⟨o,q,_⟩:=ci
    exact Heap.lt_size q
  rw[ag (Nat.ne_of_lt Fg)]
  exact(hf b hb).1
 done:=by
  intro X hP hw hK hc n pins s σ H E I hf st hg
  subst hP hw hK
  obtain⟨⟨old,he⟩,ci⟩:=st
  obtain⟨xs,hq,hx⟩:=hg
  obtain⟨its,rv,p,hz⟩:=I.list hq
  have l1:=rv.length
  refine wpAny_pyNext_enum_end (I.ok.hd hc) he ci p.isList (Array.getElem?_eq_none (by simp;omega)) fun h1 hk=>⟨rfl,I.turns (t':=s.toks) (ch:=[e,it]) (fun b o hb q=>?_) hf⟩
  simp only[List.mem_cons,List.not_mem_nil,or_false,not_or] at hb
  exact hk b o hb.2 q
 self:=fun _ _ _ _ _ st h=>by
  obtain⟨⟨old,he⟩,_⟩:=st
  exact wpAny_pyIter_enum he h
def A4 (K:PySem.W.Frag)(ta:TA):TI:=fun σ H R=>ta σ H fun vs H1=>∃ l xs,vs=[.ref l]/\Ck K H1 l xs/\R (L9 K l) H1
theorem qL {X:Cx}{a:Expr}{ta:TA}{es:List Expr}{c:Nat}{p tp pos:Pos}(hg:Gl X "enumerate") (hm:X.mg "enumerate" = none) (ha:PA X [a] ta) (hs:starEach [a] X.env=[(false,eval a X.env)]) :
  PI X (.Tuple es c tp) (.Call (.Name "enumerate" p) [a] [] pos) (A4 X.K ta):=by
 intro pins s σ H R I h
 refine Call_ (bV I hg hm boot_enumerate (PyProof.Rows.callWith_type1 (BG (ha pos pins s σ H _ I h) fun us s1 ⟨vs,H1,I1,r1,q1⟩=>?_) hs rfl))
 obtain⟨l,xs,e,g1,q⟩:=q1
 subst e
 obtain⟨u,rfl,r⟩:=vals1 r1
 cases r
 obtain⟨DN,Fx,p1,hz⟩:=I1.list g1
 refine call_enumerate_list p1.isList fun h2 b1 b2 b3 b4=>?_
 refine wpAny_pyIter_enum (s:={s1 with heap:=h2}) b1 ?_
 refine⟨s1.heap.objs.size+1,[s1.heap.objs.size+1,s1.heap.objs.size],_,_,H1,rfl,I1.kept (t':=s1.toks) b4,lp _ _ l (Nat.succ_ne_self _),⟨⟨_,b1⟩,b2⟩,fun b hb=>?_,q⟩
 have Fg:s1.heap.objs.size<=b:=by
  simp only[List.mem_cons,List.not_mem_nil,or_false] at hb
  rcases hb with rfl|rfl
  ·exact Nat.le_add_right _ _
  ·exact Nat.le_refl _
 exact I1.D2 Fg (I1.BD.fresh Fg)
noncomputable def L' (K:PySem.W.Frag)(l:Addr)(n:Nat):It:=
 ⟨fun i H=>∃ xs,Ck K H l xs/\xs.length=n/\i < n,fun i H x H'=>H'=H/\∀ xs,Ck K H l xs->xs.length=n->xs[n - 1 - i]? = some x,fun i H=>i=n⟩
theorem mJ {P:Program}{w:World}{K:PySem.W.Frag}{tg:Expr}(l it:Addr)(n:Nat):Turn P w K tg (L' K l n) [it] it (fun i h=>h.IsRevIter it l ((n:Int) - 1 - (i:Int))) where
 mem:=by simp
 obj:=fun i h st b hb=>by
  have e:b=it:=by simpa using hb
  subst e
  obtain⟨o,e,c,d⟩:=st
  exact⟨o,e,fun v z=>by rw[d] at z;cases z⟩
 keep:=fun i h h' st k=>st.at fun o e=>k it (by simp) o e
 item:=by
  intro X hP hw hK hc i pins s σ H E I hf st hg
  subst hP hw hK
  obtain⟨xs,hq,hn,hi⟩:=hg
  obtain⟨its,rv,p,hz⟩:=I.list hq
  have hl:=rv.length
  obtain⟨x,hx⟩:∃ x,xs[n - 1 - i]? = some x:=⟨xs[n - 1 - i]'(by omega),List.getElem?_eq_getElem _⟩
  obtain⟨u,hu,ru⟩:=rv.get hx
  obtain⟨f0,f1,f2,f3,f4,f5⟩:=hf it (by simp)
  have e:(n:Int) - 1 - (i:Int)=((n - 1 - i:Nat):Int):=by omega
  rw[e] at st
  refine wpAny_pyNext_rev_item st p.isList (x:=u) (by simpa using hu) fun h' Ey sb=>?_
  have e2:((n - 1 - i:Nat):Int) - 1=(n:Int) - 1 - ((i+1:Nat):Int):=by omega
  rw[e2] at Ey
  have I1:Inv X pins σ H {s with heap:=h'}:=I.turned (t':=s.toks) (fun b o hb e=>(sb.2 b hb).trans e) f0 f1 f3 f4 f5
  obtain⟨o,e,c,d⟩:=id Ey
  exact⟨u,rfl,gQ (s:={s with heap:=h'}) e c d (by decide) ⟨x,H,I1,ru,⟨rfl,fun ys hy _=>by rw[I.BZ hy hq];exact hx⟩,Ey,fun b hb=>(hf b hb).1⟩⟩
 done:=by
  intro X hP hw hK hc i pins s σ H E I hf st hg
  subst hP hw hK
  have hg:i=n:=hg
  subst hg
  obtain⟨f0,f1,f2,f3,f4,f5⟩:=hf it (by simp)
  rw[show (i:Int) - 1 - (i:Int) = -1 by omega] at st
  exact wpAny_pyNext_rev_end (I.ok.hd hc) st fun h' eb=>⟨rfl,I.turned (t':=s.toks) (fun b o hb e=>eb b o hb e) f0 f1 f3 f4 f5⟩
 self:=fun _ _ _ _ _ st h=>wpAny_pyIter_revIter st h
def A5 (K:PySem.W.Frag)(ta:TA):TI:=fun σ H R=>ta σ H fun vs H1=>∃ l xs,vs=[.ref l]/\Ck K H1 l xs/\R (L' K l xs.length) H1
theorem vF {X:Cx}{a tg:Expr}{ta:TA}{p pos:Pos}(hg:Gl X "reversed") (hm:X.mg "reversed" = none) (ha:PA X [a] ta) (hs:starEach [a] X.env=[(false,eval a X.env)]) :
  PI X tg (.Call (.Name "reversed" p) [a] [] pos) (A5 X.K ta):=by
 intro pins s σ H R I h
 refine Call_ (bV (u:=.type "reversed") I hg hm (by decide +kernel) (PyProof.Rows.callWith_type1 (BG (ha pos pins s σ H _ I h) fun us s1 ⟨vs,H1,I1,r1,q1⟩=>?_) hs rfl))
 obtain⟨l,xs,e,g1,q⟩:=q1
 subst e
 obtain⟨u,rfl,r⟩:=vals1 r1
 cases r
 obtain⟨DN,Fx,p1,hz⟩:=I1.list g1
 have hl:=Fx.length
 refine call_reversed_list p1.isList ?_
 have hit:(s1.heap.push (revObj l ((DN.toArray.size:Int) - 1))).IsRevIter s1.heap.objs.size l ((xs.length:Int) - 1 - ((0:Nat):Int)):=⟨_,Heap.get?_push_size _ rfl,rfl,by show _=Data.fields #[.ref l,rawInt ((xs.length:Int) - 1 - ((0:Nat):Int))];rw[show ((xs.length:Int) - 1 - ((0:Nat):Int))=(DN.toArray.size:Int) - 1 by rw[List.size_toArray,hl];omega];rfl⟩
 refine wpAny_pyIter_revIter (s:={s1 with heap:=s1.heap.push (revObj l ((DN.toArray.size:Int) - 1))}) hit ?_
 refine⟨s1.heap.objs.size,[s1.heap.objs.size],_,_,H1,rfl,I1.kept (t':=s1.toks) fun b o e=>Heap.get?_push_of_some _ e,mJ l _ _,hit,fun b hb=>?_,q⟩
 have e:b=s1.heap.objs.size:=by simpa using hb
 subst e
 exact I1.D2 (Nat.le_refl _) (I1.BD.fresh (Nat.le_refl _))
inductive D where
 | By|bl (b:Bool)|int (i:Int)|str (x:Str)|tup (ds:List D)|lst (own:Bool) (ds:List D)|exc (c:Str)|Bw (own:Bool) (ks:List Key) (ds:List D)
 deriving Inhabited
mutual
noncomputable def er:D->D
 | .tup ds=>.tup (BA ds)
 | .lst _ ds=>.lst false (BA ds)
 | .Bw _ ks ds=>.Bw false ks (BA ds)
 | .By=>.By
 | .bl b=>.bl b
 | .int i=>.int i
 | .str x=>.str x
 | .exc c=>.exc c
noncomputable def BA:List D->List D
 | []=>[]
 | d::ds=>er d::BA ds
end
mutual
noncomputable def ao:D->Bool
 | .tup ds=>ai ds
 | .lst _ _=>false
 | .Bw _ _ _=>false
 | .By=>true
 | .bl _=>true
 | .int _=>true
 | .str _=>true
 | .exc _=>true
noncomputable def ai:List D->Bool
 | []=>true
 | d::ds=>ao d&&ai ds
end
theorem aZ:∀ ds:List D,BA ds=ds.map er
 | []=>rfl
 | d::ds=>by rw[BA,aZ ds];rfl
theorem bE:∀ ds:List D,ai ds=ds.all ao
 | []=>rfl
 | d::ds=>by rw[ai,bE ds];rfl
theorem bg (ds:List D):(BA ds).length=ds.length:=by rw[aZ,List.length_map]
mutual
theorem hG:∀ {d:D},ao d=true->er d=d
 | .By,_=>rfl
 | .bl _,_=>rfl
 | .int _,_=>rfl
 | .str _,_=>rfl
 | .exc _,_=>rfl
 | .tup ds,h=>by rw[er,bY (ds:=ds) h]
 | .lst o ds,h=>by cases (show false=true from h)
 | .Bw o ks ds,h=>by cases (show false=true from h)
theorem bY:∀ {ds:List D},ai ds=true->BA ds=ds
 | [],_=>rfl
 | d::ds,h=>by
  have h':(ao d&&ai ds)=true:=h
  rw[Bool.and_eq_true] at h'
  rw[BA,hG h'.1,bY h'.2]
end
mutual
theorem si:∀ d:D,er (er d)=er d
 | .By=>rfl
 | .bl _=>rfl
 | .int _=>rfl
 | .str _=>rfl
 | .exc _=>rfl
 | .tup ds=>by rw[er,er,Cj ds]
 | .lst _ ds=>by rw[er,er,Cj ds]
 | .Bw _ ks ds=>by rw[er,er,Cj ds]
theorem Cj:∀ ds:List D,BA (BA ds)=BA ds
 | []=>rfl
 | d::ds=>by rw[BA,BA,si d,Cj ds]
end
inductive Exc where
 | stuck|exc (c:Str)
noncomputable abbrev Res (α:Type):=Except Exc α
noncomputable abbrev Bu {α:Type}:Res α:=.error .stuck
noncomputable def Bn {α β:Type}(x:Res α)(f:α->Res β):Res β:=match x with
 | .ok a=>f a
 | .error e=>.error e
noncomputable def Bv {α:Type}(c:Bool)(x:Res α):Res α:=if c=true then x else Bu
def Bp {α:Type}(ex:Str->Prop)(x:Res α)(k:α->Prop):Prop:=match x with
 | .ok a=>k a
 | .error (.exc c)=>ex c
 | .error .stuck=>False
theorem Bp.Bn {α β:Type}{ex:Str->Prop}{x:Res α}{f:α->Res β}{k:β->Prop}(h:Bp ex (Bn x f) k):Bp ex x fun a=>Bp ex (f a) k:=by
 cases x with
 | ok a=>exact h
 | error e=>cases e<;>exact h
theorem Bp.Bv {α:Type}{ex:Str->Prop}{c:Bool}{x:Res α}{k:α->Prop}(h:Bp ex (Bv c x) k):c=true/\Bp ex x k:=by
 unfold L2.Bv at h
 cases c with
 | true=>exact⟨rfl,h⟩
 | false=>exact False.elim h
theorem Bp.mono {α:Type}{ex:Str->Prop}{x:Res α}{k k':α->Prop}(h:Bp ex x k)(m:∀ a,k a->k' a):Bp ex x k':=by
 cases x with
 | ok a=>exact m a h
 | error e=>cases e<;>exact h
theorem Bp.mk {α β:Type}{ex:Str->Prop}{x:Res α}{f:α->Res β}{k:β->Prop}(h:Bp ex x fun a=>Bp ex (f a) k):Bp ex (L2.Bn x f) k:=by
 cases x with
 | ok a=>exact h
 | error e=>cases e<;>exact h
theorem Bp.eq {α:Type}{ex:Str->Prop}{x:Res α}{k:α->Prop}(h:Bp ex x k):Bp ex x fun a=>x=.ok a/\k a:=by
 cases x with
 | ok a=>exact⟨rfl,h⟩
 | error e=>cases e<;>exact h
theorem Bp.ok {α:Type}{ex:Str->Prop}{a:α}{k:α->Prop}(h:Bp ex (.ok a:Res α) k):k a:=h
theorem Bp.no {α:Type}{ex:Str->Prop}{k:α->Prop}(h:Bp ex (Bu:Res α) k):False:=h
inductive LD where
 | l (xs:List V)|d (kvs:List (Key×V))
noncomputable abbrev LD.o:LD->HO
 | .l xs=>.lst xs
 | .d kvs=>.dK kvs
theorem KL.sq {K:PySem.W.Frag}{H:Hp}{a:Addr}{xs:List V}(h:KL K a xs):Ck K H a xs:=by
 obtain⟨its,n,h1,h2,h3⟩:=h
 exact .inr ⟨_,its.toArray,n,h1,rfl,rfl,rfl,by simpa using h2,by simpa using h3⟩
theorem Inv.ls {X:Cx}{pins:List (Addr×Obj)}{σ:St}{H:Hp}{s:Shared}{a:Addr}{xs:List V}(I:Inv X pins σ H s)(h:Ls X.K H a xs) :
  xs.length<=sizeLine/\∃ (its:List Value) (n:Nat),Vals xs its/\s.heap.get? a=some {cls:=.type "list",data:=.seq its.toArray n}:=by
 rcases h with h|⟨its,n,h1,h2,h3⟩
 ·obtain⟨z,its,n,r,e⟩:=h.ok I.BD
  exact⟨z,its,n,r,e⟩
 ·exact⟨by rw[h3.length];exact h2,its,n,h3,I.Dv _ _ h1⟩
noncomputable def nameIn (K:PySem.W.Frag)(C:Addr):Option Str:=match K.lookup C with
 | some ⟨_,_,.cls cd,_⟩=>some cd.name
 | _=>none
noncomputable def XU:HO:=.ext fun _=>True
def XO (K:PySem.W.Frag)(H:Hp)(a:Addr)(c:Str):Prop:=∃ (C:Addr) (o:Obj) (vs:Array Value),PySem.W.nsIn K mainGlobals c=some (some (.ref C))/\nameIn K C=some c/\H a=some (.BI o XU)/\o.cls=.ref C/\o.data=.fields vs
noncomputable def B5 (K:PySem.W.Frag)(H:Hp)(a:Addr):List V ⊕ Str->Prop
 | .inl xs=>CF K H a xs
 | .inr c=>XO K H a c
mutual
inductive Bq (K:PySem.W.Frag)(S:Addr->Prop)(H:Hp):V->D->Prop where
 | By:Bq K S H .By .By
 | bl (b:Bool):Bq K S H (.bl b) (.bl b)
 | int (i:Int):Bq K S H (.int i) (.int i)
 | str (x:Str):Bq K S H (.str x) (.str x)
 | exc {a:Addr}{c:Str}:B5 K H a (.inr c)->Bq K S H (.ref a) (.exc c)
 | tup {a:Addr}{xs:List V}{ds:List D}:CF K H a xs->Bo K S H xs ds->Bq K S H (.ref a) (.tup ds)
 | lst {a:Addr}{xs:List V}{o:Bool}{ds:List D}:S a->Rd H a (.lst xs)->Bo K S H xs ds->Bq K S H (.ref a) (.lst o ds)
 | lstK {a:Addr}{xs:List V}{o:Bool}{ds:List D}:KL K a xs->Bo K S H xs ds->Bq K S H (.ref a) (.lst o ds)
 | Bw {a:Addr}{kvs:List (Key×V)}{o:Bool}{ks:List Key}{ds:List D}:S a->Rd H a (.dK kvs)->kvs.map (·.1)=ks->Bo K S H (kvs.map (·.2)) ds->Bq K S H (.ref a) (.Bw o ks ds)
inductive Bo (K:PySem.W.Frag)(S:Addr->Prop)(H:Hp):List V->List D->Prop where
 | nil:Bo K S H [] []
 | cons {v:V}{d:D}{vs:List V}{ds:List D}:Bq K S H v d->Bo K S H vs ds->Bo K S H (v::vs) (d::ds)
end
mutual
inductive BC (K:PySem.W.Frag)(F:Addr->Prop)(H:Hp):V->D->List Addr->Prop where
 | By:BC K F H .By .By []
 | bl (b:Bool):BC K F H (.bl b) (.bl b) []
 | int (i:Int):BC K F H (.int i) (.int i) []
 | str (x:Str):BC K F H (.str x) (.str x) []
 | exc {a:Addr}{c:Str}:B5 K H a (.inr c)->BC K F H (.ref a) (.exc c) []
 | tup {a:Addr}{xs:List V}{ds:List D}{f:List Addr}:CF K H a xs->Br K F H xs ds f->BC K F H (.ref a) (.tup ds) f
 | EG {a:Addr}{xs:List V}{ds:List D}:F a->Rd H a (.lst xs)->Br K F H xs ds []->BC K F H (.ref a) (.lst false ds) []
 | lstK {a:Addr}{xs:List V}{ds:List D}:KL K a xs->Br K F H xs ds []->BC K F H (.ref a) (.lst false ds) []
 | CQ {a:Addr}{xs:List V}{ds:List D}{f:List Addr}:¬ F a->H a=some (.lst xs)->Br K F H xs ds f->BC K F H (.ref a) (.lst true ds) (a::f)
 | GA {a:Addr}{kvs:List (Key×V)}{ks:List Key}{ds:List D}:F a->Rd H a (.dK kvs)->kvs.map (·.1)=ks->Br K F H (kvs.map (·.2)) ds []->BC K F H (.ref a) (.Bw false ks ds) []
 | Fi {a:Addr}{kvs:List (Key×V)}{ks:List Key}{ds:List D}{f:List Addr}:¬ F a->H a=some (.dK kvs)->kvs.map (·.1)=ks->Br K F H (kvs.map (·.2)) ds f->BC K F H (.ref a) (.Bw true ks ds) (a::f)
inductive Br (K:PySem.W.Frag)(F:Addr->Prop)(H:Hp):List V->List D->List Addr->Prop where
 | nil:Br K F H [] [] []
 | cons {v:V}{d:D}{f:List Addr}{vs:List V}{ds:List D}{g:List Addr}:BC K F H v d f->Br K F H vs ds g->Br K F H (v::vs) (d::ds) (f++g)
end
theorem aj.rd {H H':Hp}{a:Addr}{u:HO}(e:aj H H')(h:Rd H a u):Rd H' a u:=by
 rcases h with h|⟨o,h⟩
 ·exact .inl (e _ _ h)
 ·exact .inr ⟨o,e _ _ h⟩
theorem aj.C0 {K:PySem.W.Frag}{H H':Hp}{a:Addr}{xs:List V ⊕ Str}(e:aj H H')(h:B5 K H a xs):B5 K H' a xs:=by
 cases xs with
 | inl xs=>
  rcases h with h|h
  ·exact .inl (e.rd h)
  ·exact .inr h
 | inr c=>
  obtain⟨C,o,vs,h0,h1,h2,h3⟩:=h
  exact⟨C,o,vs,h0,h1,e _ _ h2,h3⟩
theorem B5.upd {K:PySem.W.Frag}{H:Hp}{a l:Addr}{xs:List V ⊕ Str}{ys zs:List V}(hl:H l=some (.lst ys))(h:B5 K H a xs):B5 K (upd H l (.lst zs)) a xs:=by
 cases xs with
 | inl xs=>
  rcases h with h|h
  ·have:a≠l:=by
    rintro rfl
    rcases h with h|⟨o,h⟩<;>(rw[hl] at h;cases h)
   refine .inl ?_
   unfold Rd
   rw[ag this]
   exact h
  ·exact .inr h
 | inr c=>
  obtain⟨C,o,vs,h0,h1,h2,h3⟩:=h
  have:a≠l:=by
   rintro rfl
   rw[hl] at h2;cases h2
  exact⟨C,o,vs,h0,h1,by rw[ag this];exact h2,h3⟩
theorem Rd.some {H:Hp}{a:Addr}{u:HO}(h:Rd H a u):H a≠none:=by
 rcases h with h|⟨o,h⟩<;>(rw[h];simp)
section
variable {K:PySem.W.Frag}{S S' F F':Addr->Prop}{H H':Hp}
theorem Bq.step (hl:∀ a (u:LD),S a->Rd H a u.o->S' a/\Rd H' a u.o)(ht:∀ a xs,B5 K H a xs->B5 K H' a xs){v:V}{d:D}(h:Bq K S H v d):Bq K S' H' v d:=
 Bq.rec (motive_1:=fun v d _=>Bq K S' H' v d) (motive_2:=fun v d _=>Bo K S' H' v d) .By .bl .int .str (fun h=>.exc (ht _ (.inr _) h)) (fun h1 _ i=>.tup (ht _ (.inl _) h1) i)
  (fun h0 h1 _ i=>.lst (hl _ (.l _) h0 h1).1 (hl _ (.l _) h0 h1).2 i) (fun h1 _ i=>.lstK h1 i) (fun h0 h1 h2 _ i=>.Bw (hl _ (.d _) h0 h1).1 (hl _ (.d _) h0 h1).2 h2 i) .nil (fun _ _ i j=>.cons i j) h
theorem Bo.step (hl:∀ a (u:LD),S a->Rd H a u.o->S' a/\Rd H' a u.o)(ht:∀ a xs,B5 K H a xs->B5 K H' a xs){v:List V}{d:List D}(h:Bo K S H v d):Bo K S' H' v d:=
 Bo.rec (motive_1:=fun v d _=>Bq K S' H' v d) (motive_2:=fun v d _=>Bo K S' H' v d) .By .bl .int .str (fun h=>.exc (ht _ (.inr _) h)) (fun h1 _ i=>.tup (ht _ (.inl _) h1) i)
  (fun h0 h1 _ i=>.lst (hl _ (.l _) h0 h1).1 (hl _ (.l _) h0 h1).2 i) (fun h1 _ i=>.lstK h1 i) (fun h0 h1 h2 _ i=>.Bw (hl _ (.d _) h0 h1).1 (hl _ (.d _) h0 h1).2 h2 i) .nil (fun _ _ i j=>.cons i j) h
theorem Bq.mono {v:V}{d:D}(h:Bq K S H v d)(hS:∀ a,S a->S' a)(e:aj H H'):Bq K S' H' v d:=h.step (fun a xs s r=>⟨hS a s,e.rd r⟩) fun a xs s=>e.C0 s
theorem Bo.mono {v:List V}{d:List D}(h:Bo K S H v d)(hS:∀ a,S a->S' a)(e:aj H H'):Bo K S' H' v d:=h.step (fun a xs s r=>⟨hS a s,e.rd r⟩) fun a xs s=>e.C0 s
theorem Bo.D7 {v:List V}{d:List D}(h:Bo K S H v d):Bo K (fun a=>S a/\H a≠none) H v d:=h.step (fun a xs s r=>⟨⟨s,r.some⟩,r⟩) fun a xs s=>s
theorem Bq.frozen {v:V}{d:D}(h:Bq K F H v d):BC K F H v (L2.er d) []:=
 Bq.rec (motive_1:=fun v d _=>BC K F H v (L2.er d) []) (motive_2:=fun v d _=>Br K F H v (L2.BA d) []) .By .bl .int .str (fun h=>.exc h) (fun h1 _ i=>.tup h1 i) (fun h0 h1 _ i=>.EG h0 h1 i) (fun h1 _ i=>.lstK h1 i) (fun h0 h1 h2 _ i=>.GA h0 h1 h2 i) .nil (fun _ _ i j=>.cons (f:=[]) (g:=[]) i j) h
theorem Bo.frozen {v:List V}{d:List D}(h:Bo K F H v d):Br K F H v (L2.BA d) []:=
 Bo.rec (motive_1:=fun v d _=>BC K F H v (L2.er d) []) (motive_2:=fun v d _=>Br K F H v (L2.BA d) []) .By .bl .int .str (fun h=>.exc h) (fun h1 _ i=>.tup h1 i) (fun h0 h1 _ i=>.EG h0 h1 i) (fun h1 _ i=>.lstK h1 i) (fun h0 h1 h2 _ i=>.GA h0 h1 h2 i) .nil (fun _ _ i j=>.cons (f:=[]) (g:=[]) i j) h
theorem qM {a b:Bool}(h:(a&&b)=true):a=true/\b=true:=by rwa [Bool.and_eq_true] at h
theorem Bq.free {v:V}{d:D}(n:ao d=true)(h:Bq K S H v d):BC K F H v d []:=
 Bq.rec (motive_1:=fun v d _=>ao d=true->BC K F H v d []) (motive_2:=fun v d _=>ai d=true->Br K F H v d []) (fun _=>.By) (fun b _=>.bl b) (fun b _=>.int b) (fun b _=>.str b) (fun h _=>.exc h) (fun h1 _ i n=>.tup h1 (i n)) (fun _ _ _ _ n=>nomatch n) (fun _ _ _ n=>nomatch n) (fun _ _ _ _ _ n=>nomatch n) (fun _=>.nil) (fun _ _ i j n=>.cons (f:=[]) (g:=[]) (i (qM n).1) (j (qM n).2)) h n
theorem Bo.free {v:List V}{d:List D}(n:ai d=true)(h:Bo K S H v d):Br K F H v d []:=
 Bo.rec (motive_1:=fun v d _=>ao d=true->BC K F H v d []) (motive_2:=fun v d _=>ai d=true->Br K F H v d []) (fun _=>.By) (fun b _=>.bl b) (fun b _=>.int b) (fun b _=>.str b) (fun h _=>.exc h) (fun h1 _ i n=>.tup h1 (i n)) (fun _ _ _ _ n=>nomatch n) (fun _ _ _ n=>nomatch n) (fun _ _ _ _ _ n=>nomatch n) (fun _=>.nil) (fun _ _ i j n=>.cons (f:=[]) (g:=[]) (i (qM n).1) (j (qM n).2)) h n
theorem aY {p:Addr->Prop}:∀ a∈([]:List Addr),p a:=fun _ h=>nomatch h
theorem BC.read {v:V}{d:D}{f:List Addr}(hF:∀ a,F a->S a)(hf:∀ a∈f,S a)(h:BC K F H v d f):Bq K S H v d:=
 BC.rec (motive_1:=fun v d f _=>(∀ a∈f,S a)->Bq K S H v d) (motive_2:=fun v d f _=>(∀ a∈f,S a)->Bo K S H v d) (fun _=>.By) (fun b _=>.bl b) (fun b _=>.int b) (fun b _=>.str b) (fun h _=>.exc h) (fun h1 _ i hf=>.tup h1 (i hf))
  (fun h0 h1 _ i _=>.lst (hF _ h0) h1 (i aY)) (fun h1 _ i _=>.lstK h1 (i aY)) (fun _ h1 _ i hf=>.lst (hf _ (.head _)) (.inl h1) (i fun b hb=>hf b (.tail _ hb))) (fun h0 h1 h2 _ i _=>.Bw (hF _ h0) h1 h2 (i aY)) (fun _ h1 h2 _ i hf=>.Bw (hf _ (.head _)) (.inl h1) h2 (i fun b hb=>hf b (.tail _ hb))) (fun _=>.nil)
  (fun _ _ i j hf=>.cons (i fun a ha=>hf a (List.mem_append_left _ ha)) (j fun a ha=>hf a (List.mem_append_right _ ha))) h hf
theorem Br.read {v:List V}{d:List D}{f:List Addr}(hF:∀ a,F a->S a)(hf:∀ a∈f,S a)(h:Br K F H v d f):Bo K S H v d:=
 Br.rec (motive_1:=fun v d f _=>(∀ a∈f,S a)->Bq K S H v d) (motive_2:=fun v d f _=>(∀ a∈f,S a)->Bo K S H v d) (fun _=>.By) (fun b _=>.bl b) (fun b _=>.int b) (fun b _=>.str b) (fun h _=>.exc h) (fun h1 _ i hf=>.tup h1 (i hf))
  (fun h0 h1 _ i _=>.lst (hF _ h0) h1 (i aY)) (fun h1 _ i _=>.lstK h1 (i aY)) (fun _ h1 _ i hf=>.lst (hf _ (.head _)) (.inl h1) (i fun b hb=>hf b (.tail _ hb))) (fun h0 h1 h2 _ i _=>.Bw (hF _ h0) h1 h2 (i aY)) (fun _ h1 h2 _ i hf=>.Bw (hf _ (.head _)) (.inl h1) h2 (i fun b hb=>hf b (.tail _ hb))) (fun _=>.nil)
  (fun _ _ i j hf=>.cons (i fun a ha=>hf a (List.mem_append_left _ ha)) (j fun a ha=>hf a (List.mem_append_right _ ha))) h hf
theorem bJ {α:Type}{x:Option α}{y:α}(h:x=some y):x≠none:=fun e=>nomatch h.symm.trans e
theorem BC.step (hl:∀ a (u:LD),F a->Rd H a u.o->F' a/\Rd H' a u.o)(ht:∀ a xs,B5 K H a xs->B5 K H' a xs){v:V}{d:D}{f:List Addr}(k:∀ a∈f,¬ F a->H a≠none->¬ F' a/\H' a=H a)
  (h:BC K F H v d f):BC K F' H' v d f:=
 BC.rec (motive_1:=fun v d f _=>(∀ a∈f,¬ F a->H a≠none->¬ F' a/\H' a=H a)->BC K F' H' v d f) (motive_2:=fun v d f _=>(∀ a∈f,¬ F a->H a≠none->¬ F' a/\H' a=H a)->Br K F' H' v d f) (fun _=>.By) (fun b _=>.bl b) (fun b _=>.int b) (fun b _=>.str b)
  (fun h _=>.exc (ht _ (.inr _) h)) (fun h1 _ i k=>.tup (ht _ (.inl _) h1) (i k)) (fun h0 h1 _ i _=>.EG (hl _ (.l _) h0 h1).1 (hl _ (.l _) h0 h1).2 (i aY)) (fun h1 _ i _=>.lstK h1 (i aY))
  (fun h0 h1 _ i k=>.CQ (k _ (.head _) h0 (bJ h1)).1 ((k _ (.head _) h0 (bJ h1)).2.trans h1) (i fun b hb=>k b (.tail _ hb))) (fun h0 h1 h2 _ i _=>.GA (hl _ (.d _) h0 h1).1 (hl _ (.d _) h0 h1).2 h2 (i aY)) (fun h0 h1 h2 _ i k=>.Fi (k _ (.head _) h0 (bJ h1)).1 ((k _ (.head _) h0 (bJ h1)).2.trans h1) h2 (i fun b hb=>k b (.tail _ hb))) (fun _=>.nil)
  (fun _ _ i j k=>.cons (i fun a ha=>k a (List.mem_append_left _ ha)) (j fun a ha=>k a (List.mem_append_right _ ha))) h k
theorem Br.step (hl:∀ a (u:LD),F a->Rd H a u.o->F' a/\Rd H' a u.o)(ht:∀ a xs,B5 K H a xs->B5 K H' a xs){v:List V}{d:List D}{f:List Addr}(k:∀ a∈f,¬ F a->H a≠none->¬ F' a/\H' a=H a)
  (h:Br K F H v d f):Br K F' H' v d f:=
 Br.rec (motive_1:=fun v d f _=>(∀ a∈f,¬ F a->H a≠none->¬ F' a/\H' a=H a)->BC K F' H' v d f) (motive_2:=fun v d f _=>(∀ a∈f,¬ F a->H a≠none->¬ F' a/\H' a=H a)->Br K F' H' v d f) (fun _=>.By) (fun b _=>.bl b) (fun b _=>.int b) (fun b _=>.str b)
  (fun h _=>.exc (ht _ (.inr _) h)) (fun h1 _ i k=>.tup (ht _ (.inl _) h1) (i k)) (fun h0 h1 _ i _=>.EG (hl _ (.l _) h0 h1).1 (hl _ (.l _) h0 h1).2 (i aY)) (fun h1 _ i _=>.lstK h1 (i aY))
  (fun h0 h1 _ i k=>.CQ (k _ (.head _) h0 (bJ h1)).1 ((k _ (.head _) h0 (bJ h1)).2.trans h1) (i fun b hb=>k b (.tail _ hb))) (fun h0 h1 h2 _ i _=>.GA (hl _ (.d _) h0 h1).1 (hl _ (.d _) h0 h1).2 h2 (i aY)) (fun h0 h1 h2 _ i k=>.Fi (k _ (.head _) h0 (bJ h1)).1 ((k _ (.head _) h0 (bJ h1)).2.trans h1) h2 (i fun b hb=>k b (.tail _ hb))) (fun _=>.nil)
  (fun _ _ i j k=>.cons (i fun a ha=>k a (List.mem_append_left _ ha)) (j fun a ha=>k a (List.mem_append_right _ ha))) h k
theorem qN {p:Addr->Prop}{x:Addr}{f:List Addr}(h:p x)(i:∀ a∈f,p a):∀ a∈x::f,p a:=by
 intro b hb
 rcases List.mem_cons.mp hb with rfl|hb
 ·exact h
 ·exact i b hb
theorem xT {p:Addr->Prop}{f g:List Addr}(h:∀ a∈f,p a)(i:∀ a∈g,p a):∀ a∈f++g,p a:=fun b hb=>(List.mem_append.mp hb).elim (h b) (i b)
theorem BC.own {v:V}{d:D}{f:List Addr}(h:BC K F H v d f):∀ a∈f,¬ F a/\∃ u,H a=some u:=
 BC.rec (motive_1:=fun _ _ f _=>∀ a∈f,¬ F a/\∃ u,H a=some u) (motive_2:=fun _ _ f _=>∀ a∈f,¬ F a/\∃ u,H a=some u) aY (fun _=>aY) (fun _=>aY) (fun _=>aY) (fun _=>aY) (fun _ _ i=>i) (fun _ _ _ _=>aY) (fun _ _ _=>aY)
  (fun h0 h1 _ i=>qN ⟨h0,_,h1⟩ i) (fun _ _ _ _ _=>aY) (fun h0 h1 _ _ i=>qN ⟨h0,_,h1⟩ i) aY (fun _ _ i j=>xT i j) h
theorem Br.own {v:List V}{d:List D}{f:List Addr}(h:Br K F H v d f):∀ a∈f,¬ F a/\∃ u,H a=some u:=
 Br.rec (motive_1:=fun _ _ f _=>∀ a∈f,¬ F a/\∃ u,H a=some u) (motive_2:=fun _ _ f _=>∀ a∈f,¬ F a/\∃ u,H a=some u) aY (fun _=>aY) (fun _=>aY) (fun _=>aY) (fun _=>aY) (fun _ _ i=>i) (fun _ _ _ _=>aY) (fun _ _ _=>aY)
  (fun h0 h1 _ i=>qN ⟨h0,_,h1⟩ i) (fun _ _ _ _ _=>aY) (fun h0 h1 _ _ i=>qN ⟨h0,_,h1⟩ i) aY (fun _ _ i j=>xT i j) h
theorem Bo.ind {P:List V->List D->Prop}(n:P [] [])(c:∀ v d vs ds,Bq K S H v d->Bo K S H vs ds->P vs ds->P (v::vs) (d::ds)){vs:List V}{ds:List D}(h:Bo K S H vs ds):P vs ds:=
 Bo.rec (motive_1:=fun _ _ _=>True) (motive_2:=fun v d _=>P v d) trivial (fun _=>trivial) (fun _=>trivial) (fun _=>trivial) (fun _=>trivial) (fun _ _ _=>trivial) (fun _ _ _ _=>trivial) (fun _ _ _=>trivial) (fun _ _ _ _ _=>trivial) n (fun a b _ j=>c _ _ _ _ a b j) h
theorem Br.ind {P:List V->List D->List Addr->Prop}(n:P [] [] [])(c:∀ v d f vs ds g,BC K F H v d f->Br K F H vs ds g->P vs ds g->P (v::vs) (d::ds) (f++g)){vs:List V}{ds:List D}{f:List Addr}(h:Br K F H vs ds f):P vs ds f:=
 Br.rec (motive_1:=fun _ _ _ _=>True) (motive_2:=fun v d f _=>P v d f) trivial (fun _=>trivial) (fun _=>trivial) (fun _=>trivial) (fun _=>trivial) (fun _ _ _=>trivial) (fun _ _ _ _=>trivial) (fun _ _ _=>trivial) (fun _ _ _ _=>trivial) (fun _ _ _ _ _=>trivial) (fun _ _ _ _ _=>trivial) n (fun a b _ j=>c _ _ _ _ _ _ a b j) h
theorem Bo.length {vs:List V}{ds:List D}(h:Bo K S H vs ds):vs.length=ds.length:=
 Bo.ind (P:=fun v d=>v.length=d.length) rfl (fun _ _ _ _ _ _ j=>congrArg (· + 1) j) h
theorem Bo.get {i:Nat}{vs:List V}{ds:List D}{d:D}(h:Bo K S H vs ds)(e:ds[i]? = some d):∃ v,vs[i]? = some v/\Bq K S H v d:=
 Bo.ind (P:=fun vs ds=>∀ i d,ds[i]? = some d->∃ v,vs[i]? = some v/\Bq K S H v d) (fun i d e=>nomatch (show none=some d from e)) (fun v d _ _ a _ j i d e=>by
  cases i with
  | zero=>exact⟨_,rfl,Option.some.inj e ▸ a⟩
  | succ i=>exact j i d e) h i d e
theorem Bo.FV {i:Nat}{vs:List V}{ds:List D}{v:V}(h:Bo K S H vs ds)(e:vs[i]? = some v):∃ d,ds[i]? = some d/\Bq K S H v d:=
 Bo.ind (P:=fun vs ds=>∀ i v,vs[i]? = some v->∃ d,ds[i]? = some d/\Bq K S H v d) (fun i d e=>nomatch (show none=some d from e)) (fun v d _ _ a _ j i d e=>by
  cases i with
  | zero=>exact⟨_,rfl,Option.some.inj e ▸ a⟩
  | succ i=>exact j i d e) h i v e
theorem Bo.append {vs ws:List V}{ds es:List D}(h:Bo K S H vs ds)(h':Bo K S H ws es):Bo K S H (vs++ws) (ds++es):=
 Bo.ind (P:=fun v d=>Bo K S H (v++ws) (d++es)) h' (fun _ _ _ _ a _ j=>.cons a j) h
theorem Bo.take {vs:List V}{ds:List D}(n:Nat)(h:Bo K S H vs ds):Bo K S H (vs.take n) (ds.take n):=
 Bo.ind (P:=fun v d=>∀ n,Bo K S H (v.take n) (d.take n)) (fun n=>by cases n<;>exact .nil) (fun _ _ _ _ a _ j n=>by
  cases n with
  | zero=>exact .nil
  | succ n=>exact .cons a (j n)) h n
theorem Bo.drop {vs:List V}{ds:List D}(n:Nat)(h:Bo K S H vs ds):Bo K S H (vs.drop n) (ds.drop n):=
 Bo.ind (P:=fun v d=>∀ n,Bo K S H (v.drop n) (d.drop n)) (fun n=>by cases n<;>exact .nil) (fun _ _ _ _ a b j n=>by
  cases n with
  | zero=>exact .cons a b
  | succ n=>exact j n) h n
theorem Br.length {vs:List V}{ds:List D}{f:List Addr}(h:Br K F H vs ds f):vs.length=ds.length:=
 Br.ind (P:=fun v d _=>v.length=d.length) rfl (fun _ _ _ _ _ _ _ _ j=>congrArg (· + 1) j) h
theorem Br.append {vs ws:List V}{ds es:List D}{f g:List Addr}(h:Br K F H vs ds f)(h':Br K F H ws es g):Br K F H (vs++ws) (ds++es) (f++g):=
 Br.ind (P:=fun v d f=>Br K F H (v++ws) (d++es) (f++g)) h' (fun _ _ _ _ _ _ a _ j=>by
  rw[List.append_assoc]
  exact .cons a j) h
theorem Bq.Cd {v:V}{o:Bool}{ds:List D}(h:Bq K S H v (.lst o ds)):∃ a xs,v=.ref a/\Ck K H a xs/\Bo K S H xs ds:=by
 cases h with
 | lst h0 h1 h2=>exact⟨_,_,rfl,.inl h1,h2⟩
 | lstK h1 h2=>exact⟨_,_,rfl,h1.sq,h2⟩
theorem Bq.Fj {v:V}{o:Bool}{ds:List D}(h:Bq K S H v (.lst o ds)):∃ a xs,v=.ref a/\Ls K H a xs/\Bo K S H xs ds:=by
 cases h with
 | lst h0 h1 h2=>exact⟨_,_,rfl,.inl h1,h2⟩
 | lstK h1 h2=>exact⟨_,_,rfl,.inr h1,h2⟩
theorem Bq.Cw {v:V}{ds:List D}(h:Bq K S H v (.tup ds)):∃ a xs,v=.ref a/\CF K H a xs/\Bo K S H xs ds:=by
 cases h with
 | tup h1 h2=>exact⟨_,_,rfl,h1,h2⟩
theorem Bq.BH {v:V}{i:Int}(h:Bq K S H v (.int i)):v=.int i:=by cases h;rfl
theorem Bq.Fy {v:V}{i:Bool}(h:Bq K S H v (.bl i)):v=.bl i:=by cases h;rfl
theorem Bq.BR {v:V}{i:Str}(h:Bq K S H v (.str i)):v=.str i:=by cases h;rfl
theorem Bq.C1 {v:V}(h:Bq K S H v .By):v=.By:=by cases h;rfl
theorem Bo.NZ {vs:List V}{ns:List Bool}(h:Bo K S H vs (ns.map .bl)):vs=ns.map .bl:=
 Bo.ind (P:=fun v d=>∀ ns:List Bool,d=ns.map .bl->v=ns.map .bl) (fun ns e=>by
  cases ns with
  | nil=>rfl
  | cons n ns=>exact nomatch e) (fun _ _ _ _ a _ j ns e=>by
  cases ns with
  | nil=>exact nomatch e
  | cons n ns=>
   obtain⟨h1,h2⟩:=List.cons.inj e
   subst h1
   rw[j ns h2,a.Fy]
   rfl) h ns rfl
theorem Bo.ofInts:∀ (ns:List Int),Bo K S H (ns.map .int) (ns.map .int)
 | []=>.nil
 | n::ns=>.cons (.int n) (Bo.ofInts ns)
end
theorem aj.upd {H:Hp}{a:Addr}{o:HO}(h:H a=none):aj H (upd H a o):=fun b u e=>by
 rw[ag (aw e h)]
 exact e
inductive FW where
 | add|sub|mul|fdiv|mod|pow
 deriving DecidableEq
inductive Dx where
 | eq|ne|lt|le|gt|ge|EY|I0|EZ|Fz
 deriving DecidableEq
inductive Kd where
 | str|int|bool|list|tuple
 deriving DecidableEq
inductive Bi where
 | len|sum|min2|max2|GB|sorted|list|tuple|ord|int|all|any|str|set|abs
 deriving DecidableEq
inductive Mt where
 | join|index|starts
 deriving DecidableEq
inductive Tg where
 | nm (i:Nat)|tp (ts:List Tg)
structure Gm where
 N:List Str
 kd:List NameKind
 gl:List Nat
 df:Bool
 cm:Bool:=true
 rs:Bool:=true
 tr:Bool:=false
 io:Option Nat:=none
mutual
inductive IR where
 | c (d:D)
 | g (n:Nat) (d:D)
 | v (i:Nat)
 | bin (op:FW) (a b:IR)
 | neg (a:IR)
 | cmp (op:Dx) (a b:IR)
 | chain (op Cb:Dx) (a b c:IR)
 | BV (a b:IR)
 | E0 (a b:IR)
 | Ce (a:IR)
 | ite (t a b:IR)
 | tup (es:List IR)
 | lst (es:List IR)
 | idx (a i:IR)
 | sl (a:IR) (lo hi:Option IR)
 | call (f:Nat) (es:List IR)
 | bi (f:Bi) (es:List IR)
 | Dy
 | C2 (a k:IR)
 | G4 (n:Bool) (k a:IR)
 | Cp (a:IR) (k:Kd)
 | D8 (a:IR) (ns:List Nat) (tb:List (Str×Bool))
 | C3 (a:IR)
 | sset (a:IR)
 | EB (a:IR)
 | GC (a:IR)
 | E1 (a k e:IR)
 | HJ (x:Str) (a:IR) (y:Option Str)
 | Ja (m:Mt) (o:IR) (es:List IR)
 | comp (G:Gm) (fr:List Nat) (tg:Tg) (src:Sr) (ifs:List IR) (elt:IR)
inductive Sr where
 | Cf (n:IR)|Dz (a b:IR)|val (e:IR)|zip (a b:IR)|D9 (e:IR)|rev (e:IR)
end
inductive IS where
 | asg (tg:Tg) (e:IR)
 | par (i j:Nat) (a b:IR)
 | G5 (i:Nat) (k e:IR)
 | app (i:Nat) (e:IR)
 | JY (i:Nat) (k:Nat) (e:IR)
 | EH (i:Nat) (k e:IR)
 | G6 (i:Nat) (k e:IR)
 | JZ (j i:Nat) (body:List IS)
 | Jb (f:Nat) (es:List IR)
 | ext (i:Nat) (e:IR)
 | ins (i:Nat) (k e:IR)
 | N0 (i:Nat)
 | pop (j i:Nat)
 | N1 (j f:Nat) (es:List IR) (i:Nat)
 | J0 (j g:Nat) (a:IR) (f:Nat) (es:List IR) (i:Nat)
 | N2 (j:Nat) (e:IR)
 | J1 (i j:Nat)
 | N3 (i:Nat)
 | exp (e:IR)
 | ret (e:IR)
 | GD
 | BM (t:IR) (a b:List IS)
 | BP (tg:Tg) (src:Sr) (body:List IS)
 | FX (t:IR) (body:List IS)
 | brk|cnt|pass
 | never
 | CS (n:Nat) (c:Str) (w:Str)
 | CT (n:Nat) (c:Str) (e:IR)
 | J2 (i f:Nat) (es:List IR) (n:Nat) (cs:List Str) (k:Nat) (h:List IS)
 | DO (body:List IS) (n:Nat) (cs:List Str) (i:Nat) (h:List IS)
noncomputable abbrev Ev:=List (Option D)
inductive Fl where
 | nx (τ:Ev)|rt (d:D)|bk (τ:Ev)|ct (τ:Ev)
noncomputable def lq {α:Type}(xs:List α)(lo hi:Option Int):List α:=(xs.drop (HT.DK xs.length 0 lo)).take (HT.DK xs.length xs.length hi - HT.DK xs.length 0 lo)
noncomputable def aQ (n:Nat):Bool:=decide (n<=sizeLine)
noncomputable def bF (n:Nat):Bool:=decide (n < sizeLine)
noncomputable def C4:FW->D->D->Res D
 | .add,.int a,.int b=>.ok (.int (a+b))
 | .add,.str a,.str b=>Bv (aQ (a.length+b.length)) (.ok (.str (a++b)))
 | .add,.lst _ a,.lst _ b=>Bv (aQ (a.length+b.length)) (.ok (.lst true (a++b)))
 | .sub,.int a,.int b=>.ok (.int (a - b))
 | .mul,.int a,.int b=>Bv (decide (-(2 ^ 64) < a/\a < 2 ^ 64)||decide (-(2 ^ 64) < b/\b < 2 ^ 64)) (.ok (.int (a*b)))
 | .mul,.str a,.int b=>Bv (decide (-16000<=b/\b<=16000/\a.length<=1000)) (.ok (.str (Txt.mul a b)))
 | .mul,.lst _ a,.int b=>Bv (decide (0<=b/\b<=16000/\a.length<=1000)) (.ok (.lst true (List.flatten (List.replicate b.toNat a))))
 | .fdiv,.int a,.int b=>Bv (decide (0 < b/\b < 1073741824)) (.ok (.int (a / b)))
 | .mod,.int a,.int b=>Bv (decide (0 < b)) (.ok (.int (a % b)))
 | .pow,.int a,.int b=>Bv (decide (0<=b/\b<=1000000/\a.natAbs < 2 ^ 64)) (.ok (.int (a ^ b.toNat)))
 | _,_,_=>Bu
noncomputable def aK:D->D->Res D
 | .lst _ ds,.int i=>match Dm ds i with
  | some d=>.ok d
  | none=>Bu
 | .tup ds,.int i=>match Dm ds i with
  | some d=>.ok d
  | none=>Bu
 | .str z,.int i=>Bv (aQ z.length) (match Dm z.cps.toList i with
  | some c=>.ok (.str ⟨#[c]⟩)
  | none=>Bu)
 | _,_=>Bu
noncomputable def gc:D->Option Int->Option Int->Res D
 | .lst _ ds,lo,hi=>.ok (.lst true (lq ds lo hi))
 | .str z,lo,hi=>Bv (aQ z.length) (.ok (.str (Txt.slice z lo hi)))
 | _,_,_=>Bu
noncomputable def aB:D->Res Bool
 | .By=>.ok false
 | .bl b=>.ok b
 | .int i=>.ok (i != 0)
 | .str x=>Bv (aQ x.length) (.ok ((x.length:Int) != 0))
 | .tup ds=>.ok (!ds.isEmpty)
 | .lst _ ds=>.ok (!ds.isEmpty)
 | .exc _=>Bu
 | .Bw _ _ _=>Bu
noncomputable def bQ (f:D->D->Res Bool):List D->List D->Res Bool
 | [],[]=>.ok true
 | a::r,b::t=>Bn (f a b) fun x=>Bn (bQ f r t) fun y=>.ok (x&&y)
 | _,_=>.ok false
noncomputable def Cm:Nat->D->D->Res Bool
 | 0,_,_=>Bu
 | _+1,.exc _,_=>Bu
 | _+1,_,.exc _=>Bu
 | _+1,.Bw _ _ _,_=>Bu
 | _+1,_,.Bw _ _ _=>Bu
 | _+1,.By,.By=>.ok true
 | _+1,.By,_=>.ok false
 | _+1,.bl a,.bl b=>.ok (a == b)
 | _+1,.bl a,.int b=>.ok ((if a then 1 else 0) == b)
 | _+1,.bl _,_=>.ok false
 | _+1,.int a,.bl b=>.ok (a == (if b then 1 else 0))
 | _+1,.int a,.int b=>.ok (a == b)
 | _+1,.int _,_=>.ok false
 | _+1,.str a,.str b=>.ok (a == b)
 | _+1,.str _,_=>.ok false
 | n+1,.tup a,.tup b=>bQ (Cm n) a b
 | _+1,.tup _,_=>.ok false
 | n+1,.lst _ a,.lst _ b=>bQ (Cm n) a b
 | _+1,.lst _ _,_=>.ok false
noncomputable def CK (d:D):List D->Res Bool
 | []=>.ok false
 | e::r=>Bn (Cm 40 e d) fun x=>Bn (CK d r) fun y=>.ok (x||y)
noncomputable def hJ (x y:Str):Bool:=!(Builtin.Str.occurrences x y 0 x.length 1).isEmpty
noncomputable def bK:D->Bool
 | .By=>true
 | _=>false
noncomputable def dt:D->Bool
 | .exc _=>false
 | .Bw _ _ _=>false
 | _=>true
noncomputable def C9:Dx->D->D->Res Bool
 | .eq,a,b=>Cm 40 a b
 | .ne,a,b=>Bn (Cm 40 a b) fun r=>.ok !r
 | .lt,.int a,.int b=>.ok (decide (a < b))
 | .le,.int a,.int b=>.ok (decide (a<=b))
 | .gt,.int a,.int b=>.ok (decide (b < a))
 | .ge,.int a,.int b=>.ok (decide (b<=a))
 | .EY,.str y,.str x=>.ok (hJ x y)
 | .I0,.str y,.str x=>.ok (!hJ x y)
 | .EY,a,.lst _ ds=>CK a ds
 | .I0,a,.lst _ ds=>Bn (CK a ds) fun r=>.ok !r
 | .EY,a,.tup ds=>CK a ds
 | .I0,a,.tup ds=>Bn (CK a ds) fun r=>.ok !r
 | .EZ,a,.By=>.ok (bK a)
 | .Fz,a,.By=>.ok (!bK a)
 | .Fz,.bl a,.bl b=>.ok (a != b)
 | .Fz,.By,.bl _=>.ok true
 | _,_,_=>Bu
noncomputable def i9:List D->Option (List Int)
 | []=>some []
 | .int i::r=>(i9 r).map (i::·)
 | _::_=>none
noncomputable def ja:List D->Option (List Str)
 | []=>some []
 | .str i::r=>(ja r).map (i::·)
 | _::_=>none
noncomputable def bz:List D->Option (List Bool)
 | []=>some []
 | .bl i::r=>(bz r).map (i::·)
 | _::_=>none
noncomputable def aU:Kd->D->Bool
 | .str,.str _=>true
 | .int,.int _=>true
 | .int,.bl _=>true
 | .bool,.bl _=>true
 | .list,.lst _ _=>true
 | .tuple,.tup _=>true
 | _,_=>false
noncomputable def vG (tb:List (Str×Bool)):D->Res D
 | .exc c=>match tb.lookup c with
  | some b=>.ok (.bl b)
  | none=>Bu
 | _=>Bu
noncomputable def bh (x:Str):List D:=x.cps.toList.map fun c=>.str ⟨#[c]⟩
noncomputable def cH:Bi->List D->Res D
 | .len,[.str x]=>Bv (aQ x.length) (.ok (.int x.length))
 | .len,[.tup ds]=>.ok (.int ds.length)
 | .len,[.lst _ ds]=>.ok (.int ds.length)
 | .len,[.Bw _ ks _]=>.ok (.int ks.length)
 | .min2,[.int a,.int b]=>.ok (.int (if b < a then b else a))
 | .max2,[.int a,.int b]=>.ok (.int (if b > a then b else a))
 | .ord,[.str x]=>Bv (decide (x.length=1)) (.ok (.int (x.cps.getD 0 0:Nat)))
 | .tuple,[.lst _ ds]=>.ok (.tup ds)
 | .tuple,[.str x]=>Bv (aQ x.length) (.ok (.tup (bh x)))
 | .all,[.lst _ ds]=>match bz ds with
  | some bs=>.ok (.bl (bs.all id))
  | none=>Bu
 | .any,[.lst _ ds]=>match bz ds with
  | some bs=>.ok (.bl (bs.any id))
  | none=>Bu
 | _,_=>Bu
noncomputable def mK:D->Bool
 | .By=>true
 | .bl _=>true
 | .int _=>true
 | .str _=>true
 | _=>false
noncomputable def bL (ds:List D):Bool:=ds.all mK
noncomputable def ck:D->Option Key
 | .int i=>some (.inl i)
 | .str x=>some (.inr x)
 | _=>none
noncomputable def look:List Key->List D->Key->Option D
 | k::ks,d::ds,q=>if k=q then some d else look ks ds q
 | _,_,_=>none
noncomputable def lu (ks:List Key)(q:Key):Bool:=ks.any fun k=>decide (k=q)
noncomputable def cS (ks:List Key)(q:Key):List Key:=if lu ks q=true then ks else ks++[q]
noncomputable def cb (ks:List Key)(ds:List D)(q:Key)(d:D):List D:=if lu ks q=true then List.zipWith (fun k e=>if k=q then d else e) ks ds else ds++[d]
noncomputable def hU:D->D->Res D
 | .Bw _ ks ds,y=>match ck y with
  | some q=>(match look ks ds q with
   | some d=>.ok d
   | none=>Bu)
  | none=>Bu
 | _,_=>Bu
noncomputable def hW (n:Bool):D->D->Res D
 | .Bw _ ks ds,y=>match ck y with
  | some q=>.ok (.bl (n != (look ks ds q).isSome))
  | none=>Bu
 | _,_=>Bu
noncomputable def vH:D->Bool
 | .Bw _ _ _=>true
 | _=>false
noncomputable def vI:D->D->D->Res D
 | .Bw _ ks ds,y,z=>match ck y with
  | some q=>.ok ((look ks ds q).getD z)
  | none=>Bu
 | _,_,_=>Bu
noncomputable def xU:D->Res D
 | .Bw _ _ ds=>match i9 ds with
  | some ns=>.ok (.int ns.sum)
  | none=>Bu
 | _=>Bu
noncomputable def xV:D->Res D
 | .lst _ ds=>match ja ds with
  | some ns=>Bv (decide (ns.length < 1000)) (.ok (.int ((ns.foldl Sx.dd []).length:Nat)))
  | none=>Bu
 | _=>Bu
noncomputable def sj:List D->Option (List (Key×D))
 | []=>some []
 | .tup [k,v]::r=>match ck k,sj r with
  | some q,some ps=>some ((q,v)::ps)
  | _,_=>none
 | _::_=>none
noncomputable def J3:List (Key×D)->List Key->List D->List Key×List D
 | [],ks,ds=>(ks,ds)
 | (q,d)::r,ks,ds=>J3 r (cS ks q) (cb ks ds q d)
noncomputable def A6 (j:Nat)(τ:List (Option D)):D->Res (List (Option D))
 | .lst _ ds=>match sj ds with
  | some ps=>Bv (bL (ps.map (·.2))) (.ok (τ.set j (some (.Bw true (J3 ps [] []).1 (J3 ps [] []).2))))
  | none=>Bu
 | _=>Bu
noncomputable def A7 (i:Nat)(τ:List (Option D)):Option D->Option D->Res (List (Option D))
 | some (.Bw true ks ds),some (.Bw _ Ma Mb)=>Bv (bL ds&&bL Mb&&aQ (ks.length+Ma.length)) (.ok (τ.set i (some (.Bw true (J3 (Ma.zip Mb) ks ds).1 (J3 (Ma.zip Mb) ks ds).2))))
 | _,_=>Bu
noncomputable def gf:D->Bool
 | .str _=>true
 | _=>false
noncomputable def lx:Mt->D->List D->Res D
 | .starts,.str x,[.str y]=>.ok (.bl (Txt.startswith x y))
 | _,_,_=>Bu
noncomputable def du:D->Res (List D)
 | .lst _ ds=>.ok ds
 | .tup ds=>.ok ds
 | .str x=>Bv (aQ x.length) (.ok (bh x))
 | _=>Bu
noncomputable def jb:D->Res (List D)
 | .lst _ ds=>.ok ds
 | .tup ds=>.ok ds
 | _=>Bu
noncomputable def dv (ds es:List D):List D:=List.zipWith (fun a b=>.tup [a,b]) ds es
noncomputable def ej (ds:List D):List D:=List.zipWith (fun (k:Nat) d=>.tup [.int k,d]) (List.range ds.length) ds
noncomputable def qO:D->Res (List D)
 | .lst _ ds=>.ok (ej ds)
 | _=>Bu
noncomputable def qP:D->Res (List D)
 | .lst _ ds=>.ok ds.reverse
 | _=>Bu
noncomputable def qQ (x y:D):Res (List D):=Bn (jb x) fun ds=>Bn (jb y) fun es=>.ok (dv ds es)
noncomputable def bu (a b:Int):List D:=(List.range (b - a).toNat).map fun k=>.int (a+(k:Nat))
noncomputable def qR:D->Res D
 | .lst _ ds=>.ok (.lst true ds.reverse)
 | _=>Bu
noncomputable def xW:D->Res D
 | .lst _ ds=>match i9 ds with
  | some ns=>Bv (decide (ns.length < 64)) (.ok (.lst true ((PySem.W.sortI (dd ns)).map .int)))
  | none=>match ja ds with
   | some ns=>Bv (decide (ns.length < 64)) (.ok (.lst true ((sh (Qe ns)).map .str)))
   | none=>Bu
 | _=>Bu
noncomputable def qS (x:Str)(y:Option Str):D->Res D
 | .str z=>Bv (aQ (x.length+(reprText z).length+(y.getD Str.empty).length)) (.ok (.str (x++reprText z++y.getD Str.empty)))
 | _=>Bu
noncomputable def bA (i:Int):Bool:=decide (-(2 ^ 62)<=i/\i < 2 ^ 62)
noncomputable def aR {α β:Type}(f:α->Res (Option β)):List α->Res (List β)
 | []=>.ok []
 | x::xs=>Bn (f x) fun
  | some d=>Bn (aR f xs) fun r=>.ok (d::r)
  | none=>aR f xs
noncomputable def Dc {α:Type}:Res α->Res α
 | .error _=>Bu
 | .ok a=>.ok a
mutual
noncomputable def br:Tg->D->Ev->Res Ev
 | .nm i,d,τ=>.ok (τ.set i (some d))
 | .tp ts,.tup ds,τ=>Bv (decide (ds.length=ts.length)) (cT ts ds τ)
 | .tp ts,.lst _ ds,τ=>Bv (decide (ds.length=ts.length)) (cT ts ds τ)
 | .tp _,_,_=>Bu
noncomputable def cT:List Tg->List D->Ev->Res Ev
 | t::ts,d::ds,τ=>Bn (br t d τ) fun τ'=>cT ts ds τ'
 | [],[],τ=>.ok τ
 | _,_,_=>Bu
end
noncomputable def ah (τ:Ev)(i:Nat):Option D:=(τ[i]?).join
mutual
noncomputable def vars:IR->List Nat
 | .c _=>[]
 | .g _ _=>[]
 | .v i=>[i]
 | .bin _ a b=>vars a++vars b
 | .neg a=>vars a
 | .cmp _ a b=>vars a++vars b
 | .chain _ _ a b c=>vars a++vars b++vars c
 | .BV a b=>vars a++vars b
 | .E0 a b=>vars a++vars b
 | .Ce a=>vars a
 | .ite t a b=>vars t++vars a++vars b
 | .tup es=>av es
 | .lst es=>av es
 | .idx a i=>vars a++vars i
 | .sl a lo hi=>vars a++mL lo++mL hi
 | .call _ es=>av es
 | .bi _ es=>av es
 | .Dy=>[]
 | .C2 a k=>vars a++vars k
 | .G4 _ k a=>vars k++vars a
 | .Cp a _=>vars a
 | .D8 a _ _=>vars a
 | .C3 a=>vars a
 | .sset a=>vars a
 | .EB a=>vars a
 | .GC a=>vars a
 | .E1 a k e=>vars a++vars k++vars e
 | .HJ _ a _=>vars a
 | .Ja _ o es=>vars o++av es
 | .comp _ fr _ src _ _=>fr++cU src
noncomputable def av:List IR->List Nat
 | []=>[]
 | e::es=>vars e++av es
noncomputable def mL:Option IR->List Nat
 | none=>[]
 | some e=>vars e
noncomputable def cU:Sr->List Nat
 | .Cf n=>vars n
 | .Dz a b=>vars a++vars b
 | .val e=>vars e
 | .zip a b=>vars a++vars b
 | .D9 a=>vars a
 | .rev a=>vars a
end
mutual
noncomputable def Bt (cl:Nat->List D->Res D):IR->Ev->Res D
 | .c d,_=>.ok d
 | .g _ d,_=>.ok d
 | .v i,τ=>match ah τ i with
  | some d=>.ok d
  | none=>Bu
 | .bin op a b,τ=>Bn (Bt cl a τ) fun x=>Bn (Bt cl b τ) fun y=>C4 op x y
 | .neg a,τ=>Bn (Bt cl a τ) fun
  | .int i=>.ok (.int (-i))
  | _=>Bu
 | .cmp op a b,τ=>Bn (Bt cl a τ) fun x=>Bn (Bt cl b τ) fun y=>Bn (C9 op x y) fun r=>.ok (.bl r)
 | .chain op Cb a b c,τ=>Bn (Bt cl a τ) fun x=>Bn (Bt cl b τ) fun y=>Bn (C9 op x y) fun r=>
  if r=true then Bn (Bt cl c τ) fun z=>Bn (C9 Cb y z) fun r'=>.ok (.bl r') else .ok (.bl false)
 | .BV a b,τ=>Bn (Bt cl a τ) fun x=>Bn (aB x) fun r=>if r=true then Bt cl b τ else .ok x
 | .E0 a b,τ=>Bn (Bt cl a τ) fun x=>Bn (aB x) fun r=>if r=true then .ok x else Bt cl b τ
 | .Ce a,τ=>Bn (Bt cl a τ) fun x=>Bn (aB x) fun r=>.ok (.bl !r)
 | .ite t a b,τ=>Bn (Bt cl t τ) fun x=>Bn (aB x) fun r=>if r=true then Bt cl a τ else Bt cl b τ
 | .tup es,τ=>Bn (aI cl es τ) fun ds=>Bv (aQ ds.length) (.ok (.tup ds))
 | .lst es,τ=>Bn (aI cl es τ) fun ds=>Bv (aQ ds.length) (.ok (.lst true ds))
 | .idx a i,τ=>Bn (Bt cl a τ) fun x=>Bn (Bt cl i τ) fun y=>aK x y
 | .sl a lo hi,τ=>Bn (Bt cl a τ) fun x=>Bn (gj cl lo τ) fun l=>Bn (gj cl hi τ) fun h=>gc x l h
 | .call f es,τ=>Bn (aI cl es τ) fun ds=>cl f (BA ds)
 | .bi f es,τ=>Bn (aI cl es τ) fun ds=>cH f ds
 | .Dy,_=>.ok (.Bw true [] [])
 | .C2 a k,τ=>Bn (Bt cl a τ) fun x=>Bn (Bt cl k τ) fun y=>hU x y
 | .G4 n k a,τ=>Bn (Bt cl k τ) fun y=>Bn (Bt cl a τ) fun x=>hW n x y
 | .Cp a k,τ=>Bn (Bt cl a τ) fun x=>Bv (dt x) (.ok (.bl (aU k x)))
 | .D8 a _ tb,τ=>Bn (Bt cl a τ) (vG tb)
 | .C3 a,τ=>Bn (Bt cl a τ) qR
 | .sset a,τ=>Bn (Bt cl a τ) xW
 | .EB a,τ=>Bn (Bt cl a τ) xV
 | .GC a,τ=>Bn (Bt cl a τ) xU
 | .E1 a k e,τ=>Bn (Bt cl a τ) fun x=>Bv (vH x) (Bn (Bt cl k τ) fun y=>Bn (Bt cl e τ) fun z=>vI x y z)
 | .HJ x a y,τ=>Bn (Bt cl a τ) (qS x y)
 | .Ja m o es,τ=>Bn (Bt cl o τ) fun x=>Bv (gf x) (Bn (aI cl es τ) fun ds=>lx m x ds)
 | .comp G fr tg src ifs elt,τ=>Bn (bZ cl src τ) fun its=>Bv (bF its.length) (Bn (Dc (aR (fun x=>Bn (br tg x (fr.map (ah τ)++List.replicate (G.N.length - fr.length) none)) fun Ge=>
   Bn (cL cl ifs Ge) fun r=>if r=true then Bn (Bt cl elt Ge) fun d=>.ok (some d) else .ok none) its)) fun ds=>.ok (.lst true ds))
noncomputable def aI (cl:Nat->List D->Res D):List IR->Ev->Res (List D)
 | [],_=>.ok []
 | e::es,τ=>Bn (Bt cl e τ) fun d=>Bn (aI cl es τ) fun ds=>.ok (d::ds)
noncomputable def gj (cl:Nat->List D->Res D):Option IR->Ev->Res (Option Int)
 | none,_=>.ok none
 | some e,τ=>Bn (Bt cl e τ) fun
  | .int i=>.ok (some i)
  | _=>Bu
noncomputable def cL (cl:Nat->List D->Res D):List IR->Ev->Res Bool
 | [],_=>.ok true
 | e::es,τ=>Bn (Bn (Bt cl e τ) aB) fun r=>if r=true then cL cl es τ else .ok false
noncomputable def bZ (cl:Nat->List D->Res D):Sr->Ev->Res (List D)
 | .Cf n,τ=>Bn (Bt cl n τ) fun
  | .int i=>Bv (bA i) (.ok (bu 0 i))
  | _=>Bu
 | .Dz a b,τ=>Bn (Bt cl a τ) fun x=>Bn (Bt cl b τ) fun y=>match x,y with
  | .int i,.int j=>Bv (bA i&&bA j) (.ok (bu i j))
  | _,_=>Bu
 | .val e,τ=>Bn (Bt cl e τ) du
 | .zip a b,τ=>Bn (Bt cl a τ) fun x=>Bn (Bt cl b τ) fun y=>qQ x y
 | .D9 a,τ=>Bn (Bt cl a τ) qO
 | .rev a,τ=>Bn (Bt cl a τ) qP
end
noncomputable def J4 (cl:Nat->List D->Res D)(t:IR)(τ:Ev):Res Bool:=Bn (Bt cl t τ) aB
noncomputable def eW (is:List Nat):Nat->Ev->Ev
 | _,[]=>[]
 | k,o::τ=>(if is.contains k then o.map er else o)::eW is (k+1) τ
noncomputable abbrev BI (is:List Nat)(τ:Ev):Ev:=eW is 0 τ
noncomputable def aS : IR->Bool
 | .bin .add _ _=>true
 | .bin .mul _ _=>true
 | .sl _ _ _=>true
 | .comp _ _ _ _ _ _=>true
 | _=>false
noncomputable def aA (e:IR)(d:D)(τ:Ev):D×Ev:=
 if ao d=true then (d,τ)
 else match aS e,d with
  | true,.lst _ ds=>if ai ds=true then (.lst true ds,τ) else (.lst true (BA ds),BI (vars e) τ)
  | _,_=>(er d,BI (vars e) τ)
mutual
noncomputable def B6 (cl:Nat->List D->Res D)(mv:Bool):IR->Ev->Res (D×Ev)
 | .v i,τ=>match ah τ i with
  | some d=>if mv=true then .ok (d,τ.set i none) else .ok (er d,τ.set i (some (er d)))
  | none=>Bu
 | .tup es,τ=>Bn (ek cl mv es τ) fun p=>Bv (aQ p.1.length) (.ok (.tup p.1,p.2))
 | .lst es,τ=>Bn (ek cl mv es τ) fun p=>Bv (aQ p.1.length) (.ok (.lst true p.1,p.2))
 | .Dy,τ=>.ok (.Bw true [] [],τ)
 | .ite t a b,τ=>Bn (J4 cl t τ) fun r=>if r=true then B6 cl mv a τ else B6 cl mv b τ
 | .call f es,τ=>Bn (aI cl es τ) fun ds=>Bn (cl f (BA ds)) fun d=>if ao d=true then .ok (d,τ) else .ok (d,BI (av es) τ)
 | e,τ=>Bn (Bt cl e τ) fun d=>.ok (aA e d τ)
noncomputable def ek (cl:Nat->List D->Res D)(mv:Bool):List IR->Ev->Res (List D×Ev)
 | [],τ=>.ok ([],τ)
 | e::es,τ=>Bn (B6 cl mv e τ) fun p=>Bn (ek cl mv es p.2) fun q=>.ok (p.1::q.1,q.2)
end
noncomputable def forM (body:D->Ev->Res Fl):List D->Ev->Res Fl
 | [],τ=>.ok (.nx τ)
 | x::xs,τ=>Bn (body x τ) fun
  | .nx τ'=>forM body xs τ'
  | .ct τ'=>forM body xs τ'
  | .bk τ'=>.ok (.nx τ')
  | .rt d=>.ok (.rt d)
noncomputable def jc (test:Ev->Res Bool)(body:Ev->Res Fl):Nat->Ev->Res Fl
 | 0,_=>Bu
 | n+1,τ=>Bn (test τ) fun r=>if r=true then Bn (body τ) fun
  | .nx τ'=>jc test body n τ'
  | .ct τ'=>jc test body n τ'
  | .bk τ'=>.ok (.nx τ')
  | .rt d=>.ok (.rt d)
  else .ok (.nx τ)
noncomputable def ia (cl:Nat->List D->Res D)(s:Sr)(τ:Ev):Res (List D×Ev):=Bn (bZ cl s τ) fun its=>match s with
 | .Cf _=>.ok (its,τ)
 | .Dz _ _=>.ok (its,τ)
 | s=>.ok (BA its,BI (cU s) τ)
noncomputable def A8 (j i:Nat)(τ:Ev):D->Res Fl
 | .tup [d,.Bw false ks vs]=>Bv (bL vs) (.ok (.nx ((τ.set i (some (.Bw true ks vs))).set j (some d))))
 | _=>Bu
noncomputable def xX (cl:Nat->List D->Res D)(j g i:Nat)(x:D)(τ:Ev):D->Res Fl
 | .tup [d,.Bw false ks vs]=>Bv (bL vs) (Bn (Dc (cl g [er x,er d])) fun r=>.ok (.nx ((τ.set i (some (.Bw true ks vs))).set j (some r))))
 | _=>Bu
mutual
noncomputable def qT:D->Bool
 | .lst o ds=>!o&&fB ds
 | .tup ds=>fB ds
 | .Bw o _ ds=>!o&&fB ds
 | _=>true
noncomputable def fB:List D->Bool
 | []=>true
 | d::ds=>qT d&&fB ds
end
mutual
noncomputable def xY:D->Bool
 | .lst _ ds=>ib ds
 | .tup ds=>ib ds
 | .Bw o _ ds=>o&&ib ds
 | _=>true
noncomputable def ib:List D->Bool
 | []=>true
 | d::ds=>xY d&&ib ds
end
noncomputable def Mc:Ev->Bool
 | []=>true
 | none::τ=>Mc τ
 | some d::τ=>xY d&&Mc τ
noncomputable def A9:Key->D
 | .inl i=>.int i
 | .inr x=>.str x
noncomputable def xZ (i:Nat)(τ:Ev):Option D->Res Fl
 | some (.Bw false ks ds)=>Bv (Mc (τ.set i none)&&ib ds) (.ok (.nx (τ.set i (some (.Bw true ks ds)))))
 | _=>Bu
noncomputable def x9 (i:Nat):Fl->Res Fl
 | .nx τ=>xZ i τ (ah τ i)
 | .rt d=>.ok (.rt d)
 | _=>Bu
noncomputable def jd:D->Res Fl
 | .tup [d,.Bw false _ vs]=>Bv (ai vs) (.ok (.rt d))
 | _=>Bu
noncomputable def ya:Nat:=1000000
mutual
noncomputable def Cz (cl:Nat->List D->Res D):IS->Ev->Res Fl
 | .asg tg e,τ=>Bn (B6 cl false e τ) fun p=>Bn (br tg p.1 p.2) fun τ'=>.ok (.nx τ')
 | .par i j a b,τ=>Bn (ek cl false [a,b] τ) fun p=>match p.1 with
  | [x,y]=>.ok (.nx ((p.2.set i (some x)).set j (some y)))
  | _=>Bu
 | .G5 i k e,τ=>Bn (B6 cl false e τ) fun p=>match ah p.2 i with
  | some (.lst true ds)=>Bn (Bt cl k p.2) fun
   | .int z=>(match GZ ds.length z with
    | some j=>.ok (.nx (p.2.set i (some (.lst true (ds.set j p.1)))))
    | none=>Bu)
   | _=>Bu
  | _=>Bu
 | .app i e,τ=>match ah τ i with
  | some (.lst _ _)=>Bn (B6 cl false e τ) fun p=>(match ah p.2 i with
   | some (.lst true ds)=>Bv (bF ds.length) (.ok (.nx (p.2.set i (some (.lst true (ds++[p.1]))))))
   | _=>Bu)
  | _=>Bu
 | .EH i k e,τ=>Bn (Bt cl e τ) fun d=>match ah τ i with
  | some (.Bw true ks ds)=>Bn (Bt cl k τ) fun y=>(match ck y with
   | some q=>Bv (ao d&&ai ds&&bF ks.length) (.ok (.nx (τ.set i (some (.Bw true (cS ks q) (cb ks ds q d))))))
   | none=>Bu)
  | _=>Bu
 | .G6 i k e,τ=>Bn (Bt cl e τ) fun d=>match ah τ i with
  | some (.Bw true ks ds)=>Bn (Bt cl k (BI (vars e) τ)) fun y=>(match ck y with
   | some q=>Bv (fB ds&&bF ks.length) (.ok (.nx ((BI (vars e) τ).set i (some (.Bw true (cS ks q) (BA (cb ks ds q d)))))))
   | none=>Bu)
  | _=>Bu
 | .Jb f es,τ=>Bn (aI cl es τ) fun ds=>Bn (Dc (cl f (BA ds++[.Bw false [] []]))) jd
 | .JZ j i body,τ=>match ah τ i with
  | some (.Bw true ks ds)=>Bv (fB ds) (Bn (forM (fun x τ=>Bn (br (.nm j) x τ) fun τ'=>aH cl body τ') (ks.map A9) (τ.set i (some (.Bw false ks ds)))) (x9 i))
  | _=>Bu
 | .ext i e,τ=>match ah τ i with
  | some (.lst _ _)=>Bn (B6 cl false e τ) fun p=>(match p.1,ah p.2 i with
   | .lst _ es,some (.lst true ds)=>Bv (aQ (ds.length+es.length)) (.ok (.nx (p.2.set i (some (.lst true (ds++es))))))
   | _,_=>Bu)
  | _=>Bu
 | .ins i k e,τ=>match ah τ i with
  | some (.lst _ _)=>Bn (Bt cl k τ) fun y=>Bn (B6 cl false e τ) fun p=>(match y,ah p.2 i with
   | .int z,some (.lst true ds)=>Bv (decide (0<=z/\z.toNat<=ds.length)&&bF ds.length) (.ok (.nx (p.2.set i (some (.lst true (ds.take z.toNat++p.1::ds.drop z.toNat))))))
   | _,_=>Bu)
  | _=>Bu
 | .JY _ _ _,_=>Bu
 | .N0 i,τ=>match ah τ i with
  | some (.lst true ds)=>.ok (.nx (τ.set i (some (.lst true ds.reverse))))
  | _=>Bu
 | .pop j i,τ=>match ah τ i with
  | some (.lst true (.str x::ds))=>.ok (.nx ((τ.set i (some (.lst true ds))).set j (some (.str x))))
  | _=>Bu
 | .N2 j e,τ=>Bn (Bt cl e τ) fun d=>Bn (A6 j τ d) fun τ'=>.ok (.nx τ')
 | .J1 i j,τ=>Bn (A7 i τ (ah τ i) (ah τ j)) fun τ'=>.ok (.nx τ')
 | .N1 j f es i,τ=>match ah τ i with
  | some (.Bw true ks vs)=>Bv (bL vs) (Bn (aI cl es τ) fun ds=>Bn (Dc (cl f (BA ds++[.Bw false ks vs]))) (A8 j i (BI (av es) τ)))
  | _=>Bu
 | .J0 j g a f es i,τ=>match ah τ i with
  | some (.Bw true ks vs)=>Bv (bL vs) (Bn (Bt cl a τ) fun x=>Bn (aI cl es τ) fun ds=>Bn (Dc (cl f (BA ds++[.Bw false ks vs]))) (xX cl j g i x (BI (vars a++av es) τ)))
  | _=>Bu
 | .N3 i,τ=>match ah τ i with
  | some (.lst true _)=>.ok (.nx (τ.set i (some (.lst true []))))
  | _=>Bu
 | .exp e,τ=>Bn (Bt cl e τ) fun _=>.ok (.nx τ)
 | .ret e,τ=>Bn (B6 cl true e τ) fun p=>.ok (.rt p.1)
 | .GD,_=>.ok (.rt .By)
 | .BM t a b,τ=>Bn (J4 cl t τ) fun r=>if r=true then aH cl a τ else aH cl b τ
 | .BP tg s body,τ=>Bn (ia cl s τ) fun p=>forM (fun x τ=>Bn (br tg x τ) fun τ'=>aH cl body τ') p.1 p.2
 | .FX t body,τ=>jc (J4 cl t) (aH cl body) ya τ
 | .brk,τ=>.ok (.bk τ)
 | .cnt,τ=>.ok (.ct τ)
 | .pass,τ=>.ok (.nx τ)
 | .never,_=>Bu
 | .CS _ c _,_=>.error (.exc c)
 | .CT _ c e,τ=>Bn (Dc (Bt cl e τ)) fun _=>.error (.exc c)
 | .J2 i f es _ cs k h,τ=>Bn (Dc (aI cl es τ)) fun ds=>match cl f (BA ds) with
  | .ok d=>if ao d=true then .ok (.nx (τ.set i (some d))) else .ok (.nx ((BI (av es) τ).set i (some d)))
  | .error (.exc c)=>Bv (cs.contains c) (Bn (Dc (aH cl h (τ.set k (some (.exc c))))) fun
   | .nx τ'=>.ok (.nx (τ'.set k none))
   | _=>Bu)
  | .error .stuck=>Bu
 | .DO body _ cs i h,τ=>match aH cl body τ with
  | .ok (.nx τ')=>.ok (.nx τ')
  | .error (.exc c)=>Bv (cs.contains c) (Bn (Dc (aH cl h ((List.replicate τ.length none).set i (some (.exc c))))) fun
   | .nx τ'=>.ok (.nx (τ'.set i none))
   | _=>Bu)
  | _=>Bu
noncomputable def aH (cl:Nat->List D->Res D):List IS->Ev->Res Fl
 | [],τ=>.ok (.nx τ)
 | s::r,τ=>Bn (Cz cl s τ) fun
  | .nx τ'=>aH cl r τ'
  | .ct τ'=>.ok (.ct τ')
  | .bk τ'=>.ok (.bk τ')
  | .rt d=>.ok (.rt d)
end
structure Fn where
 np:Nat
 G:Gm
 body:List IS
 io:Option IR:=none
noncomputable def cn (cl:Nat->List D->Res D)(fn:Fn)(ds:List D):Res D:=
 Bv (decide (ds.length=fn.np)) (Bn (aH cl fn.body (ds.map some++List.replicate (fn.G.N.length - fn.np) none)) fun
  | .nx _=>.ok .By
  | .rt d=>.ok d
  | _=>Bu)
noncomputable def yb:D->D
 | .Bw _ ks vs=>.Bw true ks vs
 | d=>d
noncomputable def lA:List D->List D
 | []=>[]
 | [d]=>[yb d]
 | d::ds=>d::lA ds
noncomputable def Jc (p:Nat)(q:D×Ev):Res D:=match ah q.2 p with
 | some (.Bw true ks vs)=>Bv (ai vs) (.ok (.tup [q.1,.Bw false ks vs]))
 | _=>Bu
noncomputable def cp (cl:Nat->List D->Res D)(fn:Fn)(e:IR)(ds:List D):Res D:=
 Bv (decide (ds.length=fn.np)) (Bn (aH cl fn.body ((lA ds).map some++List.replicate (fn.G.N.length - fn.np) none)) fun
  | .nx τ=>Bn (B6 cl true e τ) (Jc (fn.np - 1))
  | _=>Bu)
noncomputable abbrev Tb:=Nat->Option Fn
noncomputable def ae (T:Tb):Nat->Nat->List D->Res D
 | 0,_,_=>Bu
 | n+1,f,ds=>match T f with
  | some fn=>(match fn.io with
   | none=>cn (ae T n) fn ds
   | some e=>cp (ae T n) fn e ds)
  | none=>Bu
theorem yd {cl:Nat->List D->Res D}{i:Nat}{τ:Ev}:Bt cl (.v i) τ=(match ah τ i with|some d=>.ok d|none=>Bu):=rfl
theorem yf {cl:Nat->List D->Res D}{i:Nat}{τ:Ev}{mv:Bool}:B6 cl mv (.v i) τ=(match ah τ i with|some d=>if mv=true then .ok (d,τ.set i none) else .ok (er d,τ.set i (some (er d)))|none=>Bu):=rfl
section
variable {X:Cx}{pins:List (Addr×Obj)}{σ:St}{H:Hp}{S:Addr->Prop}{s:Shared}
theorem Inv.CL (I:Inv X pins σ H s){a:Addr}{xs ys:List V}(h1:Ck X.K H a xs)(h2:CF X.K H a ys):False:=by
 obtain⟨its,_,⟨o,n,e,c,_⟩,_⟩:=I.list h1
 obtain⟨its',_,⟨o',e',c',_⟩,_⟩:=I.tuple h2
 rw[e] at e';cases e'
 rw[c] at c'
 injection c' with c'
 exact absurd c' (by decide)
theorem Inv.CC (I:Inv X pins σ H s){a:Addr}{c:Str}(h:B5 X.K H a (.inr c)):∃ C o vs,PySem.W.nsIn X.K mainGlobals c=some (some (.ref C))/\nameIn X.K C=some c/\s.heap.get? a=some o/\o.cls=.ref C/\o.data=.fields vs:=by
 obtain⟨C,o,vs,h0,h1,h2,h3,h4⟩:=h
 exact⟨C,o,vs,h0,h1,(I.BD a _ h2).1,h3,h4⟩
theorem Inv.GF (I:Inv X pins σ H s){a:Addr}{c c':Str}(h:B5 X.K H a (.inr c))(k:B5 X.K H a (.inr c')):c=c':=by
 obtain⟨C,o,vs,_,n1,e,c1,_⟩:=I.CC h
 obtain⟨C',o',S4,_,n2,e',c2,_⟩:=I.CC k
 rw[e] at e';cases e'
 rw[c1] at c2;cases c2
 rw[n1] at n2;cases n2
 rfl
theorem Inv.E2 (I:Inv X pins σ H s){a:Addr}{c:Str}{xs:List V}(h:B5 X.K H a (.inr c))(k:CF X.K H a xs):False:=by
 obtain⟨C,o,vs,_,_,e,c1,_⟩:=I.CC h
 obtain⟨its',_,⟨o',e',c',_⟩,_⟩:=I.tuple k
 rw[e] at e';cases e'
 rw[c1] at c';cases c'
theorem Inv.Dd (I:Inv X pins σ H s){a:Addr}{c:Str}{xs:List V}(h:B5 X.K H a (.inr c))(k:Ck X.K H a xs):False:=by
 obtain⟨C,o,vs,_,_,e,c1,_⟩:=I.CC h
 obtain⟨its',_,⟨o',n,e',c',_⟩,_⟩:=I.list k
 rw[e] at e';cases e'
 rw[c1] at c';cases c'
theorem Inv.EI (I:Inv X pins σ H s){a:Addr}{kvs:List (Key×V)}(h:Rd H a (.dK kvs)):∃ o es ep,s.heap.get? a=some o/\o.data=.dict es ep:=by
 obtain⟨_,_,vs,_,o,es,ep,e,c,d,_⟩:=h.ok I.BD
 exact⟨o,es,ep,e,d⟩
theorem Inv.E3 (I:Inv X pins σ H s){a:Addr}{kvs:List (Key×V)}{xs:List V}(h:Rd H a (.dK kvs))(k:CF X.K H a xs):False:=by
 obtain⟨o,es,ep,e,d⟩:=I.EI h
 obtain⟨its',_,⟨o',e',c',n,d'⟩,_⟩:=I.tuple k
 rw[e] at e';cases e'
 rw[d] at d';cases d'
theorem Inv.De (I:Inv X pins σ H s){a:Addr}{kvs:List (Key×V)}{xs:List V}(h:Rd H a (.dK kvs))(k:Ck X.K H a xs):False:=by
 obtain⟨o,es,ep,e,d⟩:=I.EI h
 obtain⟨its',_,⟨o',n,e',c',n',d'⟩,_⟩:=I.list k
 rw[e] at e';cases e'
 rw[d] at d';cases d'
theorem Inv.E4 (I:Inv X pins σ H s){a:Addr}{c:Str}{kvs:List (Key×V)}(h:B5 X.K H a (.inr c))(k:Rd H a (.dK kvs)):False:=by
 obtain⟨C,o,vs,_,_,e,c1,d1⟩:=I.CC h
 obtain⟨o',es,ep,e',d⟩:=I.EI k
 rw[e] at e';cases e'
 rw[d] at d1;cases d1
theorem Rd.dk {H:Hp}{a:Addr}{u v:List (Key×V)}(h:Rd H a (.dK u))(k:Rd H a (.dK v)):u=v:=by
 rcases h with h|⟨o,h⟩<;>rcases k with k|⟨o',k⟩<;>(rw[h] at k;cases k;try rfl)
mutual
theorem Bq.one (I:Inv X pins σ H s):∀ {v:V}{d e:D},Bq X.K S H v d->Bq X.K S H v e->er d=er e
 | _,_,_,.By,h=>by cases h;rfl
 | _,_,_,.bl b,h=>by cases h;rfl
 | _,_,_,.int i,h=>by cases h;rfl
 | _,_,_,.str x,h=>by cases h;rfl
 | _,_,_,.exc h0,h=>by
  cases h with
  | exc k1=>exact congrArg D.exc (I.GF h0 k1)
  | tup k1 k2=>exact(I.E2 h0 k1).elim
  | lst k0 k1 k2=>exact(I.Dd h0 (.inl k1)).elim
  | lstK k1 k2=>exact(I.Dd h0 k1.sq).elim
  | Bw k0 k1 k2 k3=>exact(I.E4 h0 k1).elim
 | _,_,_,.tup h1 h2,h=>by
  cases h with
  | exc k1=>exact(I.E2 k1 h1).elim
  | tup k1 k2=>
   have e:=I.CO h1 k1
   subst e
   rw[er,er,Bo.one I h2 k2]
  | lst k0 k1 k2=>exact(I.CL (.inl k1) h1).elim
  | lstK k1 k2=>exact(I.CL k1.sq h1).elim
  | Bw k0 k1 k2 k3=>exact(I.E3 k1 h1).elim
 | _,_,_,.lst h0 h1 h2,h=>by
  cases h with
  | exc k1=>exact(I.Dd k1 (.inl h1)).elim
  | tup k1 k2=>exact(I.CL (.inl h1) k1).elim
  | lst k0 k1 k2=>
   have e:=I.BZ (.inl h1) (.inl k1)
   subst e
   rw[er,er,Bo.one I h2 k2]
  | lstK k1 k2=>
   have e:=I.BZ (.inl h1) k1.sq
   subst e
   rw[er,er,Bo.one I h2 k2]
  | Bw k0 k1 k2 k3=>exact(I.De k1 (.inl h1)).elim
 | _,_,_,.lstK h1 h2,h=>by
  cases h with
  | exc k1=>exact(I.Dd k1 h1.sq).elim
  | tup k1 k2=>exact(I.CL h1.sq k1).elim
  | lst k0 k1 k2=>
   have e:=I.BZ h1.sq (.inl k1)
   subst e
   rw[er,er,Bo.one I h2 k2]
  | lstK k1 k2=>
   have e:=I.BZ h1.sq k1.sq
   subst e
   rw[er,er,Bo.one I h2 k2]
  | Bw k0 k1 k2 k3=>exact(I.De k1 h1.sq).elim
 | _,_,_,.Bw h0 h1 h2 h3,h=>by
  cases h with
  | exc k1=>exact(I.E4 k1 h1).elim
  | tup k1 k2=>exact(I.E3 h1 k1).elim
  | lst k0 k1 k2=>exact(I.De h1 (.inl k1)).elim
  | lstK k1 k2=>exact(I.De h1 k1.sq).elim
  | Bw k0 k1 k2 k3=>
   have e:=Rd.dk h1 k1
   subst e
   rw[er,er,Bo.one I h3 k3,<- h2,<- k2]
theorem Bo.one (I:Inv X pins σ H s):∀ {vs:List V}{ds es:List D},Bo X.K S H vs ds->Bo X.K S H vs es->BA ds=BA es
 | _,_,_,.nil,h=>by cases h;rfl
 | _,_,_,.cons h1 h2,h=>by
  cases h with
  | cons k1 k2=>rw[BA,BA,Bq.one I h1 k1,Bo.one I h2 k2]
end
end
theorem bw {α β:Type}{x:Res α}{f:α->Res β}{b:β}(h:Bn x f=.ok b):∃ a,x=.ok a/\f a=.ok b:=by
 cases x with
 | error e=>cases h
 | ok a=>exact⟨a,rfl,h⟩
theorem gk {α:Type}{c:Bool}{x:Res α}{b:α}(h:Bv c x=.ok b):c=true/\x=.ok b:=by
 unfold Bv at h
 cases c with
 | true=>exact⟨rfl,h⟩
 | false=>cases h
theorem bR {f:D->D->Res Bool}(hf:∀ d e r,f d e=.ok r->er d=er e->r=true):∀ {ds es:List D}{r:Bool},bQ f ds es=.ok r->BA ds=BA es->r=true
 | [],[],r,h,_=>by cases h;rfl
 | [],_::_,_,_,h=>by rw[BA,BA] at h;cases h
 | _::_,[],_,_,h=>by rw[BA,BA] at h;cases h
 | a::ds,b::es,r,h,h'=>by
  rw[BA,BA] at h'
  injection h' with e1 e2
  obtain⟨x,hx,h⟩:=bw (show Bn (f a b) (fun x=>Bn (bQ f ds es) fun y=>.ok (x&&y))=.ok r from h)
  obtain⟨y,hy,h⟩:=bw h
  cases h
  rw[hf a b x hx e1,bR hf hy e2]
  rfl
theorem cV:∀ (n:Nat) (d e:D) (r:Bool),Cm n d e=.ok r->er d=er e->r=true
 | 0,_,_,_,h,_=>by cases h
 | n+1,d,e,r,h,h'=>by
  cases d with
  | tup ds=>
   cases e with
   | tup es=>
    rw[er,er] at h'
    injection h' with e1
    exact bR (cV n) h e1
   | By=>rw[er,er] at h';cases h'
   | bl _=>rw[er,er] at h';cases h'
   | int _=>rw[er,er] at h';cases h'
   | str _=>rw[er,er] at h';cases h'
   | lst _ _=>rw[er,er] at h';cases h'
   | exc _=>cases h
   | Bw _ _ _=>cases h
  | lst o ds=>
   cases e with
   | lst o' es=>
    rw[er,er] at h'
    injection h' with _ e1
    exact bR (cV n) h e1
   | By=>rw[er,er] at h';cases h'
   | bl _=>rw[er,er] at h';cases h'
   | int _=>rw[er,er] at h';cases h'
   | str _=>rw[er,er] at h';cases h'
   | tup _=>rw[er,er] at h';cases h'
   | exc _=>cases h
   | Bw _ _ _=>cases h
  | exc _=>cases h
  | Bw _ _ _=>cases e<;>cases h
  | By=>cases e<;>first|(cases h;done)|(cases h;rfl)|(exfalso;simp[er] at h')
  | bl b=>cases e<;>first|(simp only[er,D.bl.injEq] at h';subst h';cases h;simp)|(exfalso;simp[er] at h')
  | int b=>cases e<;>first|(simp only[er,D.int.injEq] at h';subst h';cases h;simp)|(exfalso;simp[er] at h')
  | str b=>cases e<;>first|(simp only[er,D.str.injEq] at h';subst h';cases h;simp)|(exfalso;simp[er] at h')
theorem ic {f:D->D->Res Bool}:∀ {ds es:List D}{r:Bool},bQ f ds es=.ok r->ds.length≠es.length->r=false
 | [],[],_,_,h=>absurd rfl h
 | [],_::_,_,h,_=>by cases h;rfl
 | _::_,[],_,h,_=>by cases h;rfl
 | a::ds,b::es,r,h,n=>by
  obtain⟨x,hx,h⟩:=bw (show Bn (f a b) (fun x=>Bn (bQ f ds es) fun y=>.ok (x&&y))=.ok r from h)
  obtain⟨y,hy,h⟩:=bw h
  cases h
  rw[ic hy (fun z=>n (by rw[List.length_cons,List.length_cons,z]))]
  simp
theorem jI {f:D->D->Res Bool}:∀ {ds es:List D}{r:Bool},bQ f ds es=.ok r->ds.length=es.length->
  ∃ e:Nat->Bool,(∀ j a b,ds[j]? = some a->es[j]? = some b->f a b=.ok (e j))/\r=(List.range ds.length).all e
 | [],[],r,h,_=>by cases h;exact⟨fun _=>true,fun j a b h=>by simp at h,rfl⟩
 | [],_::_,_,_,h=>by cases h
 | _::_,[],_,_,h=>by cases h
 | a::ds,b::es,r,h,n=>by
  obtain⟨x,hx,h⟩:=bw (show Bn (f a b) (fun x=>Bn (bQ f ds es) fun y=>.ok (x&&y))=.ok r from h)
  obtain⟨y,hy,h⟩:=bw h
  cases h
  obtain⟨e,h1,h2⟩:=jI hy (by simpa using n)
  refine⟨fun j=>match j with|0=>x|k+1=>e k,fun j a' b' e1 e2=>?_,?_⟩
  ·cases j with
   | zero=>simp at e1 e2;subst e1 e2;exact hx
   | succ k=>exact h1 k a' b' (by simpa using e1) (by simpa using e2)
  ·rw[h2,List.length_cons,List.range_succ_eq_map,List.all_cons,List.all_map]
   rfl
section
variable {X:Cx}{pins:List (Addr×Obj)}{σ:St}{H:Hp}{S:Addr->Prop}{s:Shared}
structure G7 (A:Around)(s:Shared)(v u:Value)(r:Bool):Prop where
 eq:EqAt A s v u r
 rc:RcAt A s v u r
 ne:RcNeAt A s v u (!r)
theorem ig (n:Nat)(A:Around)(ih:∀ (x y:V)(v u:Value)(d e:D)(r:Bool),Bq X.K S H x d->Bq X.K S H y e->RelV x v->RelV y u->Cm n d e=.ok r->EqAt A.in1 s v u r)
  {xs ys:List V}{ds es:List D}{its its':List Value}{r:Bool} (rv:Vals xs its) (IZ:Vals ys its') (h2:Bo X.K S H xs ds) (k2:Bo X.K S H ys es) (hr:bQ (Cm n) ds es=.ok r) :
  ∃ e:Nat->Bool,(∀ j (q1:j < its.toArray.size) (q2:j < its'.toArray.size),EqAt A.in1 s its.toArray[j] its'.toArray[j] (e j))/\r=((List.range (min its.toArray.size its'.toArray.size)).all e&&its.toArray.size == its'.toArray.size):=by
 have l1:=h2.length
 have l2:=k2.length
 have l3:=rv.length
 have l4:=IZ.length
 have pair:∀ j (j1:j < its.toArray.size) (j2:j < its'.toArray.size) (b:Bool) (d1:j < ds.length) (d2:j < es.length),Cm n ds[j] es[j]=.ok b->EqAt A.in1 s its.toArray[j] its'.toArray[j] b:=by
  intro j j1 j2 b d1 d2 hb
  obtain⟨x',e1,m1⟩:=h2.get (i:=j) (d:=ds[j]) (by simp)
  obtain⟨y',e2,m2⟩:=k2.get (i:=j) (d:=es[j]) (by simp)
  obtain⟨v',ev,Fx⟩:=rv.get e1
  obtain⟨u',eu,L8⟩:=IZ.get e2
  have hv:its.toArray[j]=v':=by
   have:=(List.getElem?_eq_some_iff.mp ev).2
   simpa using this
  have La:its'.toArray[j]=u':=by
   have:=(List.getElem?_eq_some_iff.mp eu).2
   simpa using this
  rw[hv,La]
  exact ih x' y' v' u' _ _ _ m1 m2 Fx L8 hb
 have z1:its.toArray.size=ds.length:=by simp;omega
 have z2:its'.toArray.size=es.length:=by simp;omega
 by_cases hl:ds.length=es.length
 ·obtain⟨e,q1,q2⟩:=jI hr hl
  refine⟨e,fun j j1 j2=>pair j j1 j2 _ (by omega) (by omega) (q1 j _ _ (by simp) (by simp)),?_⟩
  rw[q2,z1,z2,hl]
  simp
 ·have G8:=ic hr hl
  have each:∀ (ds es:List D) (r:Bool),bQ (Cm n) ds es=.ok r->∀ j (q1:j < ds.length) (q2:j < es.length),∃ b,Cm n ds[j] es[j]=.ok b:=by
   intro ds
   induction ds with
   | nil=>intro es r _ j q1;simp at q1
   | cons a ds ih=>
    intro es r h j q1 q2
    cases es with
    | nil=>simp at q2
    | cons b es=>
     obtain⟨x,hx,h⟩:=bw (show Bn (Cm n a b) (fun x=>Bn (bQ (Cm n) ds es) fun y=>.ok (x&&y))=.ok r from h)
     obtain⟨y,hy,h⟩:=bw h
     cases j with
     | zero=>exact⟨x,hx⟩
     | succ k=>exact ih es y hy k (by simpa using q1) (by simpa using q2)
  refine⟨fun j=>if q:j < ds.length/\j < es.length then ((match Cm n (ds[j]'q.1) (es[j]'q.2) with|.ok b=>b|.error _=>false)) else false,fun j j1 j2=>?_,?_⟩
  ·have d1:j < ds.length:=by omega
   have d2:j < es.length:=by omega
   obtain⟨b,hb⟩:=each ds es r hr j d1 d2
   have q:=pair j j1 j2 b d1 d2 hb
   show EqAt A.in1 s its.toArray[j] its'.toArray[j] (dite _ _ _)
   rw[dif_pos (show j < ds.length/\j < es.length from ⟨d1,d2⟩),hb]
   exact q
  ·rw[G8]
   have:(its.toArray.size == its'.toArray.size)=false:=by
    rw[beq_eq_false_iff_ne,z1,z2]
    exact hl
   rw[this,Bool.and_false]
theorem mM (I:Inv X pins σ H s)(n:Nat)(A:Around)(ih:∀ (x y:V)(v u:Value)(d e:D)(r:Bool),Bq X.K S H x d->Bq X.K S H y e->RelV x v->RelV y u->Cm n d e=.ok r->EqAt A.in1 s v u r)
  {a b:Addr}{o o':Bool}{xs ys:List V}{ds es:List D}{r:Bool} (ha:Ck X.K H a xs) (hb:Ck X.K H b ys) (h2:Bo X.K S H xs ds) (k2:Bo X.K S H ys es)
  (m1:Bq X.K S H (.ref a) (.lst o ds)) (m2:Bq X.K S H (.ref b) (.lst o' es)) (hr:bQ (Cm n) ds es=.ok r) (BO:A.units < cLine):G7 A s (.ref a) (.ref b) r:=by
 obtain⟨its,rv,p,_⟩:=I.list ha
 obtain⟨its',IZ,p',_⟩:=I.list hb
 obtain⟨e,he,Jd⟩:=ig n A ih rv IZ h2 k2 hr
 have both:RcAt A s (.ref a) (.ref b) r/\RcNeAt A s (.ref a) (.ref b) (!r):=by
  by_cases hl:its.toArray.size=its'.toArray.size
  ·have HK:r=(List.range its.toArray.size).all e:=by
    rw[Jd,<- hl,Nat.min_self]
    simp
   rw[HK]
   exact⟨.lists p.isList p'.isList hl BO he,.lists p.isList p'.isList hl BO he⟩
  ·have ED:(its.toArray.size != its'.toArray.size)=true:=by simpa using hl
   have HK:r=false:=by
    rw[Jd]
    have:(its.toArray.size == its'.toArray.size)=false:=by rw[beq_eq_false_iff_ne];exact hl
    rw[this,Bool.and_false]
   rw[HK]
   exact⟨.lists_lengths p.isList p'.isList ED BO,.lists_lengths p.isList p'.isList ED BO⟩
 refine⟨?_,both.1,both.2⟩
 by_cases Ff:a=b
 ·subst Ff
  have hd:=Bq.one I m1 m2
  rw[er,er] at hd
  injection hd with _ hd
  rw[bR (cV n) hr hd]
  exact .same _
 ·exact .of_refs Ff both.1
set_option maxHeartbeats 4000000 in
theorem gm (I:Inv X pins σ H s):∀ (n:Nat) (A:Around) (x y:V) (v u:Value) (d e:D) (r:Bool),Bq X.K S H x d->Bq X.K S H y e->RelV x v->RelV y u->Cm n d e=.ok r->
  A.units+n < cLine->G7 A s v u r
 | 0,_,_,_,_,_,_,_,_,_,_,_,_,h,_=>by cases h
 | n+1,A,x,y,v,u,d,e,r,hx,hy,rx,ry,h,hu=>by
  have BO:A.units < cLine:=by omega
  have L7:A.in1.units+n < cLine:=by show A.units+1+n < cLine;omega
  have ih:∀ (x y:V) (v u:Value) (d e:D) (r:Bool),Bq X.K S H x d->Bq X.K S H y e->RelV x v->RelV y u->Cm n d e=.ok r->EqAt A.in1 s v u r:=
   fun x y v u d e r a1 a2 a3 a4 a5=>(gm I n A.in1 x y v u d e r a1 a2 a3 a4 a5 L7).eq
  cases d with
  | By=>
   cases hx.C1;cases rx
   cases e with
   | By=>cases hy.C1;cases ry;cases h;exact⟨.same _,.none_none,.none_none⟩
   | bl b'=>cases hy.Fy;cases ry;cases h;exact⟨.none_bool _,.none_bool _,.none_bool _⟩
   | int i'=>cases hy.BH;obtain⟨t2,rfl⟩:=ry;cases h;exact⟨.none_int _ _,.none_int _ _,.none_int _ _⟩
   | str z'=>cases hy.BR;obtain⟨t2,rfl⟩:=ry;cases h;exact⟨.none_str _ _,.none_str _ _,.none_str _ _⟩
   | tup es=>obtain⟨a2,FY,rfl,q2,m2⟩:=hy.Cw;cases ry;obtain⟨Ct,D6,p2,_⟩:=I.tuple q2;cases h;exact⟨.none_tuple p2 BO,.none_tuple p2 BO,.none_tuple p2 BO⟩
   | lst o' es=>obtain⟨a2,FY,rfl,q2,m2⟩:=hy.Cd;cases ry;obtain⟨Ct,D6,p2,_⟩:=I.list q2;cases h;exact⟨.none_list p2.isList BO,.none_list p2.isList BO,.none_list p2.isList BO⟩
   | exc _=>cases h
   | Bw _ _ _=>cases h
  | bl b=>
   cases hx.Fy;cases rx
   cases e with
   | By=>cases hy.C1;cases ry;cases h;exact⟨.bool_none _,.bool_none _,.bool_none _⟩
   | bl b'=>cases hy.Fy;cases ry;cases h;exact⟨.bool_bool _ _,.bool_bool _ _,.bool_bool _ _⟩
   | int i'=>cases hy.BH;obtain⟨t2,rfl⟩:=ry;cases h;exact⟨.bool_int _ _ _,.bool_int _ _ _,.bool_int _ _ _⟩
   | str z'=>cases hy.BR;obtain⟨t2,rfl⟩:=ry;cases h;exact⟨.bool_str _ _ _,.bool_str _ _ _,.bool_str _ _ _⟩
   | tup es=>obtain⟨a2,FY,rfl,q2,m2⟩:=hy.Cw;cases ry;obtain⟨Ct,D6,p2,_⟩:=I.tuple q2;cases h;exact⟨.bool_tuple _ p2 BO,.bool_tuple _ p2 BO,.bool_tuple _ p2 BO⟩
   | lst o' es=>obtain⟨a2,FY,rfl,q2,m2⟩:=hy.Cd;cases ry;obtain⟨Ct,D6,p2,_⟩:=I.list q2;cases h;exact⟨.bool_list _ p2.isList BO,.bool_list _ p2.isList BO,.bool_list _ p2.isList BO⟩
   | exc _=>cases h
   | Bw _ _ _=>cases h
  | int i=>
   cases hx.BH;obtain⟨t1,rfl⟩:=rx
   cases e with
   | By=>cases hy.C1;cases ry;cases h;exact⟨.int_none _ _,.int_none _ _,.int_none _ _⟩
   | bl b'=>cases hy.Fy;cases ry;cases h;exact⟨.int_bool _ _ _,.int_bool _ _ _,.int_bool _ _ _⟩
   | int i'=>cases hy.BH;obtain⟨t2,rfl⟩:=ry;cases h;exact⟨.int_int _ _ _ _,.int_int _ _ _ _,.int_int _ _ _ _⟩
   | str z'=>cases hy.BR;obtain⟨t2,rfl⟩:=ry;cases h;exact⟨.int_str _ _ _ _,.int_str _ _ _ _,.int_str _ _ _ _⟩
   | tup es=>obtain⟨a2,FY,rfl,q2,m2⟩:=hy.Cw;cases ry;obtain⟨Ct,D6,p2,_⟩:=I.tuple q2;cases h;exact⟨.int_tuple _ _ p2 BO,.int_tuple _ _ p2 BO,.int_tuple _ _ p2 BO⟩
   | lst o' es=>obtain⟨a2,FY,rfl,q2,m2⟩:=hy.Cd;cases ry;obtain⟨Ct,D6,p2,_⟩:=I.list q2;cases h;exact⟨.int_list _ _ p2.isList BO,.int_list _ _ p2.isList BO,.int_list _ _ p2.isList BO⟩
   | exc _=>cases h
   | Bw _ _ _=>cases h
  | str z=>
   cases hx.BR;obtain⟨t1,rfl⟩:=rx
   cases e with
   | By=>cases hy.C1;cases ry;cases h;exact⟨.str_none _ _,.str_none _ _,.str_none _ _⟩
   | bl b'=>cases hy.Fy;cases ry;cases h;exact⟨.str_bool _ _ _,.str_bool _ _ _,.str_bool _ _ _⟩
   | int i'=>cases hy.BH;obtain⟨t2,rfl⟩:=ry;cases h;exact⟨.str_int _ _ _ _,.str_int _ _ _ _,.str_int _ _ _ _⟩
   | str z'=>cases hy.BR;obtain⟨t2,rfl⟩:=ry;cases h;exact⟨.str_str _ _ _ _,.str_str _ _ _ _,.str_str _ _ _ _⟩
   | tup es=>obtain⟨a2,FY,rfl,q2,m2⟩:=hy.Cw;cases ry;obtain⟨Ct,D6,p2,_⟩:=I.tuple q2;cases h;exact⟨.str_tuple _ _ p2 BO,.str_tuple _ _ p2 BO,.str_tuple _ _ p2 BO⟩
   | lst o' es=>obtain⟨a2,FY,rfl,q2,m2⟩:=hy.Cd;cases ry;obtain⟨Ct,D6,p2,_⟩:=I.list q2;cases h;exact⟨.str_list _ _ p2.isList BO,.str_list _ _ p2.isList BO,.str_list _ _ p2.isList BO⟩
   | exc _=>cases h
   | Bw _ _ _=>cases h
  | tup ds=>
   obtain⟨a1,Qh,rfl,q1,m1⟩:=hx.Cw;cases rx;obtain⟨DN,Fx,p1,_⟩:=I.tuple q1
   cases e with
   | By=>cases hy.C1;cases ry;cases h;exact⟨.tuple_none p1 BO,.tuple_none p1 BO,.tuple_none p1 BO⟩
   | bl b'=>cases hy.Fy;cases ry;cases h;exact⟨.tuple_bool _ p1 BO,.tuple_bool _ p1 BO,.tuple_bool _ p1 BO⟩
   | int i'=>cases hy.BH;obtain⟨t2,rfl⟩:=ry;cases h;exact⟨.tuple_int _ _ p1 BO,.tuple_int _ _ p1 BO,.tuple_int _ _ p1 BO⟩
   | str z'=>cases hy.BR;obtain⟨t2,rfl⟩:=ry;cases h;exact⟨.tuple_str _ _ p1 BO,.tuple_str _ _ p1 BO,.tuple_str _ _ p1 BO⟩
   | tup es=>
    have CA:=hx
    have J6:=hy
    obtain⟨a2,FY,rfl,q2,m2⟩:=hy.Cw;cases ry;obtain⟨Ct,D6,p2,_⟩:=I.tuple q2
    have hr:bQ (Cm n) ds es=.ok r:=h
    obtain⟨e,he,Jd⟩:=ig n A ih Fx D6 m1 m2 hr
    refine⟨?_,?_,?_⟩
    ·by_cases Ff:a1=a2
     ·subst Ff
      have hd:=Bq.one I CA J6
      rw[er,er] at hd
      injection hd with hd
      rw[bR (cV n) hr hd]
      exact .same _
     ·rw[Jd]
      exact .of_refs Ff (.tuples p1 p2 BO he)
    ·rw[Jd]
     exact .tuples p1 p2 BO he
    ·rw[Jd]
     exact .tuples p1 p2 BO he
   | lst o' es=>obtain⟨a2,FY,rfl,q2,m2⟩:=hy.Cd;cases ry;obtain⟨Ct,D6,p2,_⟩:=I.list q2;cases h;exact⟨.tuple_list p1 p2.isList BO,.tuple_list p1 p2.isList BO,.tuple_list p1 p2.isList BO⟩
   | exc _=>cases h
   | Bw _ _ _=>cases h
  | lst o ds=>
   obtain⟨a1,Qh,rfl,q1,m1⟩:=hx.Cd;cases rx;obtain⟨DN,Fx,p1,_⟩:=I.list q1
   cases e with
   | By=>cases hy.C1;cases ry;cases h;exact⟨.list_none p1.isList BO,.list_none p1.isList BO,.list_none p1.isList BO⟩
   | bl b'=>cases hy.Fy;cases ry;cases h;exact⟨.list_bool _ p1.isList BO,.list_bool _ p1.isList BO,.list_bool _ p1.isList BO⟩
   | int i'=>cases hy.BH;obtain⟨t2,rfl⟩:=ry;cases h;exact⟨.list_int _ _ p1.isList BO,.list_int _ _ p1.isList BO,.list_int _ _ p1.isList BO⟩
   | str z'=>cases hy.BR;obtain⟨t2,rfl⟩:=ry;cases h;exact⟨.list_str _ _ p1.isList BO,.list_str _ _ p1.isList BO,.list_str _ _ p1.isList BO⟩
   | tup es=>obtain⟨a2,FY,rfl,q2,m2⟩:=hy.Cw;cases ry;obtain⟨Ct,D6,p2,_⟩:=I.tuple q2;cases h;exact⟨.list_tuple p1.isList p2 BO,.list_tuple p1.isList p2 BO,.list_tuple p1.isList p2 BO⟩
   | lst o' es=>
    have CA:=hx
    have J6:=hy
    obtain⟨a2,FY,rfl,q2,m2⟩:=hy.Cd;cases ry;obtain⟨Ct,D6,p2,_⟩:=I.list q2
    exact mM I n A ih q1 q2 m1 m2 CA J6 h BO
   | exc _=>cases h
   | Bw _ _ _=>cases h
  | exc _=>cases h
  | Bw _ _ _=>cases e<;>cases h
end
abbrev nw (S:Addr->Prop)(H:Hp):Addr->Prop:=fun a=>S a∨H a=none
abbrev Kk (K:PySem.W.Frag)(S:Addr->Prop)(H:Hp)(Q:VK):D->Prop:=fun d=>∀ w H',aj H H'->Bq K (nw S H) H' w d->Q w H'
theorem Bq.nw {K:PySem.W.Frag}{S:Addr->Prop}{H:Hp}{v:V}{d:D}(h:Bq K S H v d):Bq K (nw S H) H v d:=h.mono (fun _=>.inl) (.refl _)
theorem vJ {K:PySem.W.Frag}{S:Addr->Prop}{H:Hp}{p:Addr}{vs:List V}{ds:List D}(hp:H p=none)(h:Bo K S H vs ds):Bq K (nw S H) (upd H p (.tup vs)) (.ref p) (.tup ds):=
 .tup (.inl (.inl aq)) (h.mono (fun _=>.inl) (.upd hp))
theorem mO {K:PySem.W.Frag}{S:Addr->Prop}{H:Hp}{p:Addr}{vs:List V}{ds:List D}{o:Bool}(hp:H p=none)(h:Bo K S H vs ds):Bq K (nw S H) (upd H p (.lst vs)) (.ref p) (.lst o ds):=
 .lst (.inr hp) (.inl aq) (h.mono (fun _=>.inl) (.upd hp))
noncomputable def GG:FW->Operator
 | .add=>.Add|.sub=>.Sub|.mul=>.Mult|.fdiv=>.FloorDiv|.mod=>.Mod|.pow=>.Pow
noncomputable def DP:Dx->CmpOp
 | .eq=>.Eq|.ne=>.NotEq|.lt=>.Lt|.le=>.LtE|.gt=>.Gt|.ge=>.GtE|.EY=>.In|.I0=>.NotIn|.EZ=>.Is|.Fz=>.IsNot
noncomputable def Ba (K:PySem.W.Frag)(ex:Str->Prop)(op:FW):R2:=fun x y H Q=>∃ S d e,Bq K S H x d/\Bq K S H y e/\Bp ex (C4 op d e) (Kk K S H Q)
noncomputable def Bb (K:PySem.W.Frag)(ex:Str->Prop)(op:Dx):R2:=fun x y H Q=>∃ S d e,Bq K S H x d/\Bq K S H y e/\Bp ex (C9 op d e) fun r=>Q (.bl r) H
section
variable {X:Cx}{ex:Str->Prop}
theorem aP {n:Nat}(h:aQ n=true):n<=sizeLine:=of_decide_eq_true h
theorem dM {n:Nat}(h:bF n=true):n < sizeLine:=of_decide_eq_true h
theorem jJ:Dw X (binaryOp .Add) (fun x y H Q=>∃ l b xs zs,x=.ref l/\y=.ref b/\Ls X.K H l xs/\Ls X.K H b zs/\xs.length+zs.length<=sizeLine/\∀ p,H p=none->Q (.ref p) (upd H p (.lst (xs++zs)))):=by
 intro pins s σ H x y v u Q I rx ry h
 obtain⟨l,b,xs,zs,rfl,rfl,hH,hB,hz,q⟩:=h
 cases rx
 cases ry
 obtain⟨hl,its,n,r,e⟩:=I.ls hH
 obtain⟨Lb,Ct,n2,r2,e'⟩:=I.ls hB
 have e1:=r.length
 have e2:=r2.length
 refine PySem.P.add_list e e' ?_ (by rw[List.size_toArray,List.size_toArray];omega)
 have ea:its.toArray++Ct.toArray=(its++Ct).toArray:=by simp
 rw[ea]
 exact⟨.ref _,_,I.Hz (t':=s.toks) (r.append r2) (by rw[List.length_append];omega),rfl,q _ I.fresh⟩
theorem mP {vs:List V}{its:List Value}(r:Vals vs its):∀ k:Nat,Vals (List.replicate k vs).flatten (List.replicate k its).flatten:=r.rep
theorem jK:Dw X (binaryOp .Mult) (fun x y H Q=>∃ l k xs,x=.ref l/\y=.int k/\Ls X.K H l xs/\0<=k/\k<=16000/\xs.length<=1000/\∀ p,H p=none->Q (.ref p) (upd H p (.lst (List.replicate k.toNat xs).flatten))):=by
 intro pins s σ H x y v u Q I rx ry h
 obtain⟨l,k,xs,rfl,rfl,hH,h1,h2,hx,q⟩:=h
 cases rx
 obtain⟨t,rfl⟩:=ry
 obtain⟨hl,its,n,r,e⟩:=I.ls hH
 have el:=r.length
 have hz:xs.length*k.toNat<=1000*16000:=Nat.mul_le_mul hx (by omega)
 have big:1000*16000<=sizeLine:=by decide
 have hsz:its.toArray.size*k.toNat<=sizeLine:=by rw[List.size_toArray,<- el];omega
 have c1:¬ its.toArray.size*k.toNat > (2 ^ 63 - 1) / 8:=by
  have:(sizeLine:Nat)<=(2 ^ 63 - 1) / 8:=by decide
  omega
 have c2:¬ (!Builtin.List.listFitsIndex k)=true:=by
  rw[fitsIndex_both (by omega) (by omega)]
  exact Bool.false_ne_true
 have c3:¬ Builtin.List.listTooLong (its.toArray.size*k.toNat)=true:=by
  rw[mn hsz]
  exact Bool.false_ne_true
 have f0:∀ m:Nat,List.foldl (fun a b=>a++b) #[] (List.replicate m its.toArray)=(List.replicate m its).flatten.toArray:=fun m=>by
  have z:=foldl_rep its m []
  rw[List.nil_append] at z
  exact z
 have f1:List.foldl (fun a b=>a++b) #[] (List.replicate (if its.toArray.isEmpty=true then 0 else k.toNat) its.toArray)=(List.replicate k.toNat its).flatten.toArray:=by
  rw[f0]
  cases its with
  | nil=>simp
  | cons _ _=>rw[if_neg (by simp)]
 refine wpAny_binaryOp_repeat_ref (T:="list") (U:="int") (by decide) ⟨_,e,rfl⟩ (fun s'=>typeIs_int s' k t) noFill_list_mul F.fills_int_mul F.slot_int_rmul repeat_list F.slot_int_index.lookup (call_meets F.slot_int_rmul (typeIs_int s k t) F.entry_int_rmul (F.args_int_rmul_2 _ _) (int___rmul___int_list k t l its.toArray n) ⟨e,rfl,⟨_,e,rfl⟩,call_meets F.slot_list_mul ⟨_,e,rfl⟩ F.entry_list_mul (F.args_list_mul_2 _ _) (AutoListH.list___mul___list_int_3 l its.toArray n k t c2 c1 c3) ⟨e,?_⟩⟩)
 rw[f1]
 exact⟨.ref _,_,I.Hz (t':=s.toks) (mP r k.toNat) (by rw[len_rep,Nat.mul_comm];omega),rfl,q _ I.fresh⟩
theorem Bo.rep {K:PySem.W.Frag}{S:Addr->Prop}{H:Hp}{vs:List V}{ds:List D}(m:Bo K S H vs ds):∀ k:Nat,Bo K S H (List.replicate k vs).flatten (List.replicate k ds).flatten
 | 0=>.nil
 | k+1=>by
  rw[List.replicate_succ,List.replicate_succ,List.flatten_cons,List.flatten_cons]
  exact m.append (Bo.rep m k)
theorem vK (op:FW):Dw X (binaryOp (GG op)) (Ba X.K ex op):=by
 intro pins s σ H x y v u Q I rx ry h
 obtain⟨S,d,e,hx,hy,h⟩:=h
 have stuck:∀ {P:Prop},C4 op d e=Bu->P:=fun z=>by rw[z] at h;exact h.no.elim
 cases op with
 | add=>
  cases d with
  | int a=>
   cases e with
   | int b=>cases hx.BH;cases hy.BH;exact u9 pins s σ H _ _ v u Q I rx ry ⟨a,b,rfl,rfl,h.ok _ _ (.refl _) (.int _)⟩
   | _=>exact stuck rfl
  | str a=>
   cases e with
   | str b=>
    cases hx.BR;cases hy.BR
    obtain⟨g,h⟩:=Bp.Bv h
    exact iZ pins s σ H _ _ v u Q I rx ry ⟨a,b,rfl,rfl,aP g,h.ok _ _ (.refl _) (.str _)⟩
   | _=>exact stuck rfl
  | lst o a=>
   cases e with
   | lst o' b=>
    obtain⟨p,xs,rfl,q1,m1⟩:=hx.Fj
    obtain⟨p',ys,rfl,q2,m2⟩:=hy.Fj
    obtain⟨g,h⟩:=Bp.Bv h
    have g':=aP g
    have l1:=m1.length
    have l2:=m2.length
    exact jJ pins s σ H _ _ v u Q I rx ry ⟨p,p',xs,ys,rfl,rfl,q1,q2,by omega,fun z hz=>h.ok _ _ (.upd hz) (mO hz (m1.append m2))⟩
   | _=>exact stuck rfl
  | _=>exact stuck rfl
 | sub=>
  cases d with
  | int a=>
   cases e with
   | int b=>cases hx.BH;cases hy.BH;exact vd pins s σ H _ _ v u Q I rx ry ⟨a,b,rfl,rfl,h.ok _ _ (.refl _) (.int _)⟩
   | _=>exact stuck rfl
  | _=>exact stuck rfl
 | mul=>
  cases d with
  | int a=>
   cases e with
   | int b=>
    cases hx.BH;cases hy.BH
    obtain⟨g,h⟩:=Bp.Bv h
    rw[Bool.or_eq_true] at g
    exact ve pins s σ H _ _ v u Q I rx ry ⟨a,b,rfl,rfl,g.elim (fun z=>.inl (of_decide_eq_true z)) (fun z=>.inr (of_decide_eq_true z)),h.ok _ _ (.refl _) (.int _)⟩
   | _=>exact stuck rfl
  | str a=>
   cases e with
   | int b=>
    cases hx.BR;cases hy.BH
    obtain⟨g,h⟩:=Bp.Bv h
    have g':=of_decide_eq_true g
    exact i7 pins s σ H _ _ v u Q I rx ry ⟨a,b,rfl,rfl,g'.1,g'.2.1,g'.2.2,h.ok _ _ (.refl _) (.str _)⟩
   | _=>exact stuck rfl
  | lst o a=>
   cases e with
   | int b=>
    obtain⟨p,xs,rfl,q1,m1⟩:=hx.Fj
    cases hy.BH
    obtain⟨g,h⟩:=Bp.Bv h
    have g':=of_decide_eq_true g
    have l1:=m1.length
    exact jK pins s σ H _ _ v u Q I rx ry ⟨p,b,xs,rfl,rfl,q1,g'.1,g'.2.1,by rw[l1];exact g'.2.2,fun z hz=>h.ok _ _ (.upd hz) (mO hz (m1.rep _))⟩
   | _=>exact stuck rfl
  | _=>exact stuck rfl
 | fdiv=>
  cases d with
  | int a=>
   cases e with
   | int b=>
    cases hx.BH;cases hy.BH
    obtain⟨g,h⟩:=Bp.Bv h
    exact ql pins s σ H _ _ v u Q I rx ry ⟨a,b,rfl,rfl,show 0 < b/\b < 1073741824 from of_decide_eq_true g,h.ok _ _ (.refl _) (.int _)⟩
   | _=>exact stuck rfl
  | _=>exact stuck rfl
 | mod=>
  cases d with
  | int a=>
   cases e with
   | int b=>
    cases hx.BH;cases hy.BH
    obtain⟨g,h⟩:=Bp.Bv h
    exact vf pins s σ H _ _ v u Q I rx ry ⟨a,b,rfl,rfl,of_decide_eq_true g,h.ok _ _ (.refl _) (.int _)⟩
   | _=>exact stuck rfl
  | _=>exact stuck rfl
 | pow=>
  cases d with
  | int a=>
   cases e with
   | int b=>
    cases hx.BH;cases hy.BH
    obtain⟨g,h⟩:=Bp.Bv h
    exact vg pins s σ H _ _ v u Q I rx ry ⟨a,b,rfl,rfl,show 0<=b/\b<=1000000/\a.natAbs < 2 ^ 64 from of_decide_eq_true g,h.ok _ _ (.refl _) (.int _)⟩
   | _=>exact stuck rfl
  | _=>exact stuck rfl
theorem Bp.Cm {ex:Str->Prop}:∀ {n:Nat}{d e:D}{k:Bool->Prop},Bp ex (L2.Cm n d e) k->∃ r,L2.Cm n d e=.ok r/\k r:=by
 have no:∀ (n:Nat) (d e:D) (c:Str),L2.Cm n d e≠.error (.exc c):=by
  intro n
  have Md:∀ (f:D->D->Res Bool),(∀ d e c,f d e≠.error (.exc c))->∀ (ds es:List D) (c:Str),bQ f ds es≠.error (.exc c):=by
   intro f hf ds
   induction ds with
   | nil=>intro es c h;cases es<;>cases h
   | cons a ds ih=>
    intro es c h
    cases es with
    | nil=>cases h
    | cons b es=>
     have h':L2.Bn (f a b) (fun x=>L2.Bn (bQ f ds es) fun y=>.ok (x&&y))=.error (.exc c):=h
     cases q:f a b with
     | error z=>rw[q] at h';exact hf a b c (by rw[q];exact h')
     | ok x=>
      rw[q] at h'
      have h2:L2.Bn (bQ f ds es) (fun y=>.ok (x&&y))=.error (.exc c):=h'
      cases q2:bQ f ds es with
      | error z=>rw[q2] at h2;exact ih es c (by rw[q2];exact h2)
      | ok y=>rw[q2] at h2;cases h2
  induction n with
  | zero=>intro d e c h;cases h
  | succ n ih=>
   intro d e c h
   cases d<;>cases e<;>first|cases h|exact Md _ ih _ _ _ h
 intro n d e k h
 cases q:L2.Cm n d e with
 | ok r=>rw[q] at h;exact⟨r,rfl,h⟩
 | error z=>
  rw[q] at h
  cases z with
  | stuck=>exact h.no.elim
  | exc c=>exact absurd q (no n d e c)
theorem Bp.CK {ex:Str->Prop}{d:D}:∀ {ds:List D}{k:Bool->Prop},Bp ex (L2.CK d ds) k->∃ f:Nat->Bool,(∀ i e,ds[i]? = some e->L2.Cm 40 e d=.ok (f i))/\k ((List.range ds.length).any f)
 | [],k,h=>⟨fun _=>false,fun i e z=>by simp at z,h⟩
 | e::r,k,h=>by
  obtain⟨x,Jz,h1⟩:=Bp.Cm (Bp.Bn h)
  obtain⟨f,h2,h3⟩:=Bp.CK (Bp.Bn h1)
  refine⟨fun i=>match i with|0=>x|j+1=>f j,fun i e' z=>?_,?_⟩
  ·cases i with
   | zero=>simp at z;subst z;exact Jz
   | succ j=>exact h2 j e' (by simpa using z)
  ·rw[List.length_cons,List.range_succ_eq_map,List.any_cons,List.any_map]
   exact h3
theorem je {A:Around}{s:Shared}{v:Value}(its:List Value)(f:Nat->Bool)(h:∀ i u,its[i]? = some u->EqAt A s u v (f i)) :
  ∃ e:Value->Bool,(∀ y,y∈its.toArray->EqAt A s y v (e y))/\its.toArray.any e=(List.range its.length).any f:=by
 classical
 refine⟨fun y=>decide (∃ i,its[i]? = some y/\f i=true),fun y hy=>?_,?_⟩
 ·have J6:y∈its:=by simpa using hy
  obtain⟨j,hj⟩:=List.getElem?_of_mem J6
  show EqAt A s y v (decide (∃ i,its[i]? = some y/\f i=true))
  by_cases q:∃ i,its[i]? = some y/\f i=true
  ·rw[decide_eq_true q]
   obtain⟨i,hi,fi⟩:=q
   have:=h i y hi
   rw[fi] at this
   exact this
  ·rw[decide_eq_false q]
   have:=h j y hj
   have fj:f j=false:=by
    cases z:f j with
    | false=>rfl
    | true=>exact absurd ⟨j,hj,z⟩ q
   rw[fj] at this
   exact this
 ·rw[Bool.eq_iff_iff]
  simp only[List.any_toArray,List.any_eq_true,List.mem_range,decide_eq_true_eq]
  constructor
  ·rintro ⟨y,hy,i,hi,fi⟩
   exact⟨i,(List.getElem?_eq_some_iff.mp hi).1,fi⟩
  ·rintro ⟨i,hi,fi⟩
   exact⟨its[i],List.getElem_mem hi,i,by simp[hi],fi⟩
theorem cD (hu:X.A.units+42 < cLine){pins:List (Addr×Obj)}{s:Shared}{σ:St}{H:Hp}{S:Addr->Prop}{x:V}{v:Value}{d:D}{k:Bool->Prop}(I:Inv X pins σ H s)(rx:RelV x v)(hx:Bq X.K S H x d)
  {xs:List V}{its:List Value}{ds:List D} (rv:Vals xs its) (m:Bo X.K S H xs ds) (h:Bp ex (CK d ds) k) :
  ∃ e:Value->Bool,(∀ y,y∈its.toArray->EqAt X.A.in1 s y v (e y))/\k (its.toArray.any e):=by
 obtain⟨f,h1,h2⟩:=Bp.CK h
 have l1:=rv.length
 have l2:=m.length
 obtain⟨e,h3,h4⟩:=je (A:=X.A.in1) (s:=s) (v:=v) its f fun i u hi=>by
  have Cu:i < its.length:=(List.getElem?_eq_some_iff.mp hi).1
  obtain⟨y,hy,my⟩:=m.get (i:=i) (d:=ds[i]'(by omega)) (by simp)
  obtain⟨u',La,ru⟩:=rv.get hy
  rw[hi] at La;cases La
  exact(gm I 40 X.A.in1 y x u v _ d _ my hx ru rx (h1 i _ (by simp)) (by show X.A.units+1+40 < cLine;omega)).eq
 refine⟨e,h3,?_⟩
 rw[h4,show its.length=ds.length by omega]
 exact h2
theorem dw (hu:X.A.units+42 < cLine)(op:Dx):Dw X (compareOp (DP op)) (Bb X.K ex op):=by
 intro pins s σ H x y v u Q I rx ry h
 obtain⟨S,d,e,hx,hy,h⟩:=h
 have stuck:∀ {P:Prop},C9 op d e=Bu->P:=fun z=>by rw[z] at h;exact h.no.elim
 have fin:∀ {b:Bool},Q (.bl b) H->EP X pins σ Q (.bool b) s:=fun q=>⟨.bl _,H,I,rfl,q⟩
 cases op with
 | eq=>
  obtain⟨r,h1,h2⟩:=Bp.Cm h
  exact(gm I 40 X.A x y v u d e r hx hy rx ry h1 (by omega)).rc _ _ _ _ (fin h2)
 | ne=>
  obtain⟨r,h1,h2⟩:=Bp.Cm (Bp.Bn h)
  exact(gm I 40 X.A x y v u d e r hx hy rx ry h1 (by omega)).ne _ _ _ _ (fin h2.ok)
 | lt=>
  cases d with
  | int a=>
   cases e with
   | int b=>cases hx.BH;cases hy.BH;obtain⟨t,rfl⟩:=rx;obtain⟨t',rfl⟩:=ry;exact lt_int (fin h.ok)
   | _=>exact stuck rfl
  | _=>exact stuck rfl
 | le=>
  cases d with
  | int a=>
   cases e with
   | int b=>cases hx.BH;cases hy.BH;obtain⟨t,rfl⟩:=rx;obtain⟨t',rfl⟩:=ry;exact le_int (fin h.ok)
   | _=>exact stuck rfl
  | _=>exact stuck rfl
 | gt=>
  cases d with
  | int a=>
   cases e with
   | int b=>cases hx.BH;cases hy.BH;obtain⟨t,rfl⟩:=rx;obtain⟨t',rfl⟩:=ry;exact gt_int (fin h.ok)
   | _=>exact stuck rfl
  | _=>exact stuck rfl
 | ge=>
  cases d with
  | int a=>
   cases e with
   | int b=>cases hx.BH;cases hy.BH;obtain⟨t,rfl⟩:=rx;obtain⟨t',rfl⟩:=ry;exact ge_int (fin h.ok)
   | _=>exact stuck rfl
  | _=>exact stuck rfl
 | EY=>
  cases e with
  | str b=>
   cases d with
   | str a=>cases hx.BR;cases hy.BR;obtain⟨t,rfl⟩:=rx;obtain⟨t',rfl⟩:=ry;exact in_str (fin h.ok)
   | _=>exact stuck rfl
  | lst o ds=>
   obtain⟨a,xs,rfl,q1,m1⟩:=hy.Cd
   cases ry
   obtain⟨its,rv,pl,_⟩:=I.list q1
   obtain⟨e,h1,h2⟩:=cD (ex:=ex) hu I rx hx rv m1 (by cases d<;>exact h)
   exact in_listAt e pl.isList h1 (fin h2)
  | tup ds=>
   obtain⟨a,xs,rfl,q1,m1⟩:=hy.Cw
   cases ry
   obtain⟨its,rv,pl,_⟩:=I.tuple q1
   obtain⟨e,h1,h2⟩:=cD (ex:=ex) hu I rx hx rv m1 (by cases d<;>exact h)
   exact in_tupleAt e pl h1 (fin h2)
  | By=>cases d<;>exact stuck rfl
  | bl _=>cases d<;>exact stuck rfl
  | int _=>cases d<;>exact stuck rfl
  | exc _=>cases d<;>exact stuck rfl
  | Bw _ _ _=>cases d<;>exact stuck rfl
 | I0=>
  cases e with
  | str b=>
   cases d with
   | str a=>cases hx.BR;cases hy.BR;obtain⟨t,rfl⟩:=rx;obtain⟨t',rfl⟩:=ry;exact notIn_str (fin h.ok)
   | _=>exact stuck rfl
  | lst o ds=>
   obtain⟨a,xs,rfl,q1,m1⟩:=hy.Cd
   cases ry
   obtain⟨its,rv,pl,_⟩:=I.list q1
   obtain⟨e,h1,h2⟩:=cD (ex:=ex) (k:=fun r=>Q (.bl !r) H) hu I rx hx rv m1 ((Bp.Bn (show Bp ex (Bn (CK d ds) fun r=>.ok !r) (fun r=>Q (.bl r) H) by cases d<;>exact h)).mono fun _ z=>z)
   exact notIn_listAt e pl.isList h1 (fin h2)
  | tup ds=>
   obtain⟨a,xs,rfl,q1,m1⟩:=hy.Cw
   cases ry
   obtain⟨its,rv,pl,_⟩:=I.tuple q1
   obtain⟨e,h1,h2⟩:=cD (ex:=ex) (k:=fun r=>Q (.bl !r) H) hu I rx hx rv m1 ((Bp.Bn (show Bp ex (Bn (CK d ds) fun r=>.ok !r) (fun r=>Q (.bl r) H) by cases d<;>exact h)).mono fun _ z=>z)
   exact notIn_tupleAt e pl h1 (fin h2)
  | By=>cases d<;>exact stuck rfl
  | bl _=>cases d<;>exact stuck rfl
  | int _=>cases d<;>exact stuck rfl
  | exc _=>cases d<;>exact stuck rfl
  | Bw _ _ _=>cases d<;>exact stuck rfl
 | EZ=>
  cases e with
  | By=>
   cases hy.C1;cases ry
   have ev:bK d=(v == Value.none):=by
    cases hx with
    | By=>cases rx;rfl
    | bl b=>cases rx;rfl
    | int i=>obtain⟨t,rfl⟩:=rx;rfl
    | str z=>obtain⟨t,rfl⟩:=rx;rfl
    | tup _ _=>cases rx;rfl
    | lst _ _ _=>cases rx;rfl
    | lstK _ _=>cases rx;rfl
    | exc _=>cases rx;rfl
    | Bw _ _ _ _=>cases rx;rfl
   have h':Q (.bl (bK d)) H:=by cases d<;>exact h
   rw[ev] at h'
   exact is_none_gen (fin h')
  | _=>cases d<;>exact stuck rfl
 | Fz=>
  cases e with
  | By=>
   cases hy.C1;cases ry
   have ev:bK d=(v == Value.none):=by
    cases hx with
    | By=>cases rx;rfl
    | bl b=>cases rx;rfl
    | int i=>obtain⟨t,rfl⟩:=rx;rfl
    | str z=>obtain⟨t,rfl⟩:=rx;rfl
    | tup _ _=>cases rx;rfl
    | lst _ _ _=>cases rx;rfl
    | lstK _ _=>cases rx;rfl
    | exc _=>cases rx;rfl
    | Bw _ _ _ _=>cases rx;rfl
   have h':Q (.bl (!bK d)) H:=by cases d<;>exact h
   rw[ev] at h'
   exact isnot_none_gen (fin h')
  | bl b'=>
   cases hy.Fy;cases ry
   cases d with
   | bl b=>
    cases hx.Fy;cases rx
    have ee:(!(Value.bool b == Value.bool b'))=(b != b'):=by cases b<;>cases b'<;>rfl
    exact wpAny_isNot_plain rfl (by rw[ee];exact fin h)
   | By=>cases hx.C1;cases rx;exact wpAny_isNot_plain rfl (fin h)
   | _=>exact stuck rfl
  | _=>cases d<;>exact stuck rfl
theorem dN {pins:List (Addr×Obj)}{s:Shared}{σ:St}{H:Hp}{S:Addr->Prop}{x:V}{v:Value}{d:D}{Q:Bool->Hp->Prop}(I:Inv X pins σ H s)(rx:RelV x v)(hx:Bq X.K S H x d)(h:Bp ex (aB d) fun b=>Q b H) :
  wpAny (model X.prog X.w) X.A (truthy v) (TP X pins σ Q) X.xe s:=by
 refine vj pins s σ H x v Q I rx ?_
 cases d with
 | exc c=>exact h.no.elim
 | Bw _ _ _=>exact h.no.elim
 | By=>cases hx.C1;exact⟨false,rfl,h⟩
 | bl b=>cases hx.Fy;exact⟨b,rfl,h⟩
 | int i=>cases hx.BH;exact⟨_,rfl,h⟩
 | str z=>
  cases hx.BR
  obtain⟨g,h⟩:=Bp.Bv h
  exact⟨_,⟨aP g,rfl⟩,h⟩
 | tup ds=>
  obtain⟨a,xs,rfl,q,m⟩:=hx.Cw
  refine⟨!ds.isEmpty,.inr (.inl ⟨xs,q,?_⟩),h⟩
  have:=m.length
  cases xs<;>cases ds<;>simp_all
 | lst o ds=>
  obtain⟨a,xs,rfl,q,m⟩:=hx.Cd
  refine⟨!ds.isEmpty,.inl ⟨xs,q,?_⟩,h⟩
  have:=m.length
  cases xs<;>cases ds<;>simp_all
theorem jL {K:PySem.W.Frag}{S:Addr->Prop}{H:Hp}{vs:List V}{ds:List D}{i:Int}{d:D}(m:Bo K S H vs ds)(h:Dm ds i=some d):∃ v,Dm vs i=some v/\Bq K S H v d:=by
 unfold Dm at h ⊢
 rw[m.length]
 cases q:GZ ds.length i with
 | none=>rw[q] at h;cases h
 | some j=>rw[q] at h;exact m.get h
noncomputable def Bc (K:PySem.W.Frag)(ex:Str->Prop):R2:=fun x y H Q=>∃ S d e,Bq K S H x d/\Bq K S H y e/\Bp ex (aK d e) (Kk K S H Q)
theorem qU:Gd X (Bc X.K ex):=by
 intro value slice pins s σ H x y v u Q I rx ry h hs
 obtain⟨S,d,e,hx,hy,h⟩:=h
 refine vn value slice pins s σ H x y v u Q I rx ry ?_ hs
 have stuck:∀ {P:Prop},aK d e=Bu->P:=fun z=>by rw[z] at h;exact h.no.elim
 cases e with
 | int i=>
  cases hy.BH
  cases d with
  | lst o ds=>
   obtain⟨a,xs,rfl,q,m⟩:=hx.Cd
   have h':Bp ex (match Dm ds i with|some d=>.ok d|none=>Bu) (Kk X.K S H Q):=h
   cases z:Dm ds i with
   | none=>rw[z] at h';exact h'.no.elim
   | some d=>
    rw[z] at h'
    obtain⟨w,ew,mw⟩:=jL m z
    exact .inl ⟨a,xs,i,w,rfl,rfl,q,ew,h'.ok _ _ (.refl _) mw.nw⟩
  | tup ds=>
   obtain⟨a,xs,rfl,q,m⟩:=hx.Cw
   have h':Bp ex (match Dm ds i with|some d=>.ok d|none=>Bu) (Kk X.K S H Q):=h
   cases z:Dm ds i with
   | none=>rw[z] at h';exact h'.no.elim
   | some d=>
    rw[z] at h'
    obtain⟨w,ew,mw⟩:=jL m z
    exact .inr (.inl ⟨a,xs,i,w,rfl,rfl,q,ew,h'.ok _ _ (.refl _) mw.nw⟩)
  | str z=>
   cases hx.BR
   obtain⟨g,h⟩:=Bp.Bv h
   cases q:Dm z.cps.toList i with
   | none=>rw[q] at h;exact h.no.elim
   | some c=>
    rw[q] at h
    exact .inr (.inr ⟨z,i,c,rfl,rfl,aP g,q,h.ok _ _ (.refl _) (.str _)⟩)
  | _=>exact stuck rfl
 | _=>cases d<;>exact stuck rfl
def Bd (K:PySem.W.Frag)(ex:Str->Prop):V->Option Int->Option Int->Hp->VK->Prop:=fun x lo hi H Q=>∃ S d,Bq K S H x d/\Bp ex (gc d lo hi) (Kk K S H Q)
theorem vL:K2 X (fun x lo hi H Q=>∃ z,x=.str z/\z.length<=sizeLine/\Q (.str (Txt.slice z lo hi)) H):=by
 intro pins s σ H x v vl vu lo hi sl Q I rx hs pl pu h
 obtain⟨z,rfl,hz,q⟩:=h
 obtain⟨t,rfl⟩:=rx
 refine⟨"str",_,F.slot_str_getitem.lookup,typeIs_str s z t,?_⟩
 have fin:∀ (l u:Option (Int×Tok)),vl=partValue l->vu=partValue u->l.map (·.1)=lo->u.map (·.1)=hi->wpAny (model X.prog X.w) X.A (getItem (.str z t) (.ref sl)) (EP X pins σ Q) X.xe s:=by
  intro l u e1 e2 e3 e4
  subst e1 e2 e3 e4
  refine wpAny_getItem_str_slice (l:=l) (u:=u) (st:=none) hs rfl ?_
  exact post_val_or_str ⟨Nat.le_trans (Txt.slice_le z _ _) hz,fun t' k=>⟨.str _,H,I.tok _,⟨_,rfl⟩,q⟩⟩
 cases pl with
 | none=>
  cases pu with
  | none=>exact fin none none rfl rfl rfl rfl
  | int j t'=>exact fin none (some (j,t')) rfl rfl rfl rfl
 | int i t'=>
  cases pu with
  | none=>exact fin (some (i,t')) none rfl rfl rfl rfl
  | int j Qi=>exact fin (some (i,t')) (some (j,Qi)) rfl rfl rfl rfl
end
open PySem.W
section
variable {prog:Program}{w:World}{A:Around}{E:Value->Shared->Prop}{K:Frag}{x C:Addr}{hh:Heap}{g:Array GenState}{d:Drawn}{t:Nat}{os:OsState}
structure ExcAt (K:Frag)(C:Addr):Prop where
 ga:findIn K (.ref C) "__getattribute__" = some (some (.builtin "BaseException.__getattribute__"))
 no:findIn K (.ref C) "__getattr__" = some none
 cl:findIn K (.ref C) "__class__" = some (some (.builtin "object.__class__"))
 be:mroIn K C (.type "BaseException")=some true
 ob:mroIn K C (.type "object")=some true
 is:(clsIn K C).isSome=true
def IX (h:Heap)(x C:Addr):Prop:=∃ o,h.get? x=some o/\o.cls=.ref C
theorem IX.type {M:Model}{h:Heap}(I:IX h x C):Looks M h (typeOf (.ref x)) (.ref C):=by
 obtain⟨o,h1,h2⟩:=I
 exact h2 ▸ (Looks.ld h1).andThen .now
open Builtin Builtin.ObjectAttr Builtin.Getset_descriptor in
theorem mQ {R:Result->Shared->Prop}{tp:Value}(X:K.In hh)(I:IX hh x C)(hm:mroIn K C (.type "object")=some true) (hq:R (.ok (.ret (.ref C))) ⟨hh,g,d,t,os⟩) :
  codeAny (model prog w) A (.call (.builtin "getset_descriptor.__get__") ⟨[.builtin "object.__class__",.ref x,tp],[]⟩) R ⟨hh,g,d,t,os⟩:=by
 have y0:=I.type (M:=model prog w)
 have y1:=looks_mroIn (M:=model prog w) X hm
 refine codeAny_call_builtin KF.slot_gs.plain KF.entry_gs (KF.slot_gs.check _ _ _ _ _ _ _ _ KF.type_class (KF.args_gs _ _ _) ?_);unfold Builtin.«getset_descriptor.__get__» descrGet;rw[dga_obj]
 refine wpAny_bind (wpAny_pure ?_);unfold descrGetter descrCheckInstance descrNameAndClass isInstance
 simp only[KF.owner_class];repeat lk
 refine⟨Code.quiet_builtin _ (by decide +kernel),codeAny_builtin KF.entry_class ?_⟩;unfold Builtin.«object.__class__» shownTypeOf
 repeat lk
 exact hq
theorem lC (a:ExcAt K C){tk:Tok}{Q:Fin->Shared->Prop}(X:K.In hh)(I:IX hh x C)(hq:Q (.done (.ret (.ref C))) ⟨hh,g,d,t,os⟩) :
  wpAny (model prog w) A (Builtin.«object.__getattribute__» ⟨[.ref x,.str "__class__" tk],[]⟩) Q E ⟨hh,g,d,t,os⟩:=by
 have y0:=I.type (M:=model prog w)
 have y1:=looks_findIn (M:=model prog w) X a.cl
 have y5:=F.typeOf_object_class;have y6:=F.slot_gs_get.lookup;have y7:=F.slot_gs_set.lookup
 repeat (any_goals (first|assumption|with_reducible refine Looks.at (by assumption) ?_|wp_step))
 refine mQ X I a.ob ?_
 repeat (any_goals (first|assumption|wp_step))
theorem lD (a:ExcAt K C){M:Model}{G9:Value}{Q:Unit->Shared->Prop}(X:K.In hh)(I:IX hh x C)(hq:Q () ⟨hh,g,d,t,os⟩) :
  wpAny M A (checkBuiltinCall "BaseException.__getattribute__" ⟨[.ref x,G9],[]⟩) Q E ⟨hh,g,d,t,os⟩:=by
 have e1:builtinKind "BaseException.__getattribute__" = some .slot:=by decide +kernel
 have e2:splitId "BaseException.__getattribute__" = some ("BaseException","__getattribute__"):=by decide +kernel
 have y0:=I.type (M:=M)
 have y1:=looks_mroIn (M:=M) X a.be
 have ha:=F.args_bexc_ga (.ref x) G9
 simp only[checkBuiltinCall,e1,e2]
 refine wpAny_bind ?_
 unfold isInstance
 repeat (any_goals (first|assumption|with_reducible refine Looks.at (by assumption) ?_|wp_step))
theorem vM (a:ExcAt K C){tk:Tok}{fill:Bool}{Q:Value->Shared->Prop}(X:K.In hh)(I:IX hh x C)(hq:Q (.ref C) ⟨hh,g,d,t,os⟩) :
  wpAny (model prog w) A (getAttrBy (.ref x) (.str "__class__" tk) fill) Q E ⟨hh,g,d,t,os⟩:=by
 have y0:=I.type (M:=model prog w)
 have y1:=looks_findIn (M:=model prog w) X a.ga
 have y2:=looks_findIn (M:=model prog w) X a.no
 have f3:=F.attr_ValueError.ga.bind (.ref x)
 have y4:(onTheHeap (Value.ref C)&&Value.builtin "BaseException.__getattribute__" == Value.builtin "object.__getattribute__")=false:=by rw[show (Value.builtin "BaseException.__getattribute__" == Value.builtin "object.__getattribute__")=false by decide +kernel];rfl
 repeat (any_goals (first|assumption|with_reducible refine Looks.at (by assumption) ?_|wp_step))
 refine codeAny_call_builtin F.attr_ValueError.ga.plain F.entry_bexc_ga (lD a X I (lC a X I ?_))
 repeat (any_goals (first|assumption|wp_step))
theorem mR (a:ExcAt K C){Q:Option Value->Shared->Prop}(X:K.In hh)(I:IX hh x C)(hq:Q (some (.ref C)) ⟨hh,g,d,t+1,os⟩) :
  wpAny (model prog w) A (getAttr? (.ref x) "__class__") Q E ⟨hh,g,d,t,os⟩:=by
 unfold getAttr? getAttrBy?
 repeat (any_goals (first|assumption|with_reducible apply vM a X I|wp_step))
theorem ij (a:ExcAt K C):KitX K (.ref x) (.ref C) (fun h=>IX h x C) where
 ty:=fun _ _ _ I=>I.type
 it:=fun _ _ X _=>by
  have z:=a.is
  unfold clsIn at z
  split at z
  ·rename_i ho
   intro A' Q' E' s' k q
   unfold isType loadHead
   exact wpAny_bind (wpAny_loadPart (k _ _ (X _ _ ho)) (wpAny_pure q))
  ·cases z
 ne:=fun h tp dd its n sl X Qj=>by
  have z:=a.is
  refine Bool.eq_false_iff.mpr fun q=>?_
  have e:C=tp:=Value.ref.inj (beq_iff_eq.mp q)
  subst e
  unfold clsIn at z
  split at z
  ·rename_i ho
   cases (X _ _ ho).symm.trans Qj
  ·cases z
 ca:=fun {_ _ _ _ _ s} X I k=>by
  obtain⟨hh,g,d,t,os⟩:=s
  exact mR a X I k
end
section
variable {X:Cx}{ex:Str->Prop}
theorem jM {K:PySem.W.Frag}{S:Addr->Prop}{H:Hp}{vs:List V}{ds:List D}(lo hi:Option Int)(m:Bo K S H vs ds):Bo K S H (k6 vs lo hi) (lq ds lo hi):=by
 unfold k6 lq
 rw[m.length]
 exact(m.drop _).take _
theorem qV:K2 X (Bd X.K ex):=by
 intro pins s σ H x v vl vu lo hi sl Q I rx hs pl pu h
 obtain⟨S,d,hx,h⟩:=h
 cases d with
 | lst o ds=>
  obtain⟨a,xs,rfl,q,m⟩:=hx.Cd
  exact jF pins s σ H _ v vl vu lo hi sl Q I rx hs pl pu ⟨a,xs,rfl,q,fun p hp=>h.ok _ _ (.upd hp) (mO hp (jM lo hi m))⟩
 | str z=>
  cases hx.BR
  obtain⟨g,h⟩:=Bp.Bv h
  exact vL pins s σ H _ v vl vu lo hi sl Q I rx hs pl pu ⟨z,rfl,aP g,h.ok _ _ (.refl _) (.str _)⟩
 | _=>exact h.no.elim
theorem dy:∀ {ds:List D}{ns:List Bool},bz ds=some ns->ds=ns.map .bl
 | [],ns,h=>by cases h;rfl
 | .bl i::r,ns,h=>by
  have h':(bz r).map (i::·)=some ns:=h
  cases q:bz r with
  | none=>rw[q] at h';cases h'
  | some ms=>
   rw[q] at h'
   cases h'
   rw[dy q]
   rfl
 | .By::_,_,h=>by cases h
 | .str _::_,_,h=>by cases h
 | .int _::_,_,h=>by cases h
 | .tup _::_,_,h=>by cases h
 | .lst _ _::_,_,h=>by cases h
theorem lE (hc:X.calm=true):bD X (.builtin "all") (fun xs H Q=>∃ (p:Addr) (bs:List Bool),xs=[.ref p]/\Ck X.K H p (bs.map V.bl)/\Q (.bl (bs.all id)) H):=by
 intro pins s σ H xs us Q I r h
 obtain⟨p,bs,rfl,hq,q⟩:=h
 obtain⟨u,rfl,rx⟩:=vals1 r
 cases rx
 obtain⟨its,rv,pl,hz⟩:=I.list hq
 have hl:=rv.length
 rw[List.length_map] at hl
 have Cu:p < s.heap.objs.size:=by
  obtain⟨o,e,_⟩:=pl.isList
  exact Heap.lt_size e
 refine call_all_walk (wpAny_pyIter_list pl.isList ?_)
 refine⟨s.heap.objs.size,_,_,_,_,_,fun i=>bs.getD i true,rfl,Walks.list (A:=X.A.in1) (show X.A.in1.handled=none from I.ok.hd hc) s.heap.objs.size p (Nat.ne_of_lt Cu) its.toArray,⟨⟨_,Heap.get?_push_size _ rfl,rfl,rfl⟩,?_⟩,?_,?_⟩
 ·obtain⟨o,e,c,n,d⟩:=pl.isList
  exact⟨o,Heap.get?_push_of_some _ e,c,n,d⟩
 ·intro i v s' Q' E' hv Me
  have J7:its[i]? = some v:=by simpa using hv
  have FZ:i < bs.length:=by
   have:=(List.getElem?_eq_some_iff.mp J7).1
   omega
  obtain⟨u,hu,ru⟩:=rv.get (i:=i) (x:=.bl bs[i]) (by rw[List.getElem?_map,List.getElem?_eq_getElem FZ];rfl)
  rw[J7] at hu
  cases hu
  cases ru
  refine wpAny_truthy_bool ?_
  have e:bs.getD i true=bs[i]:=by simp[List.getD,FZ]
  rw[<- e]
  exact Me
 ·intro h' tk kp
  have EC:(List.range its.toArray.size).all (fun i=>bs.getD i true)=bs.all id:=by
   rw[show its.toArray.size=bs.length by simp[hl]]
   rw[Bool.eq_iff_iff,List.all_eq_true,List.all_eq_true]
   constructor
   ·intro z b hb
    obtain⟨i,hi,rfl⟩:=List.getElem_of_mem hb
    have:=z i (List.mem_range.mpr hi)
    simpa[List.getD,hi] using this
   ·intro z i hi
    have GH:=List.mem_range.mp hi
    have:=z bs[i] (List.getElem_mem GH)
    simpa[List.getD,GH] using this
  rw[EC]
  refine⟨.bl (bs.all id),H,I.kept (t':=tk) fun b o e=>kp b o ?_ (Heap.get?_push_of_some _ e),rfl,q⟩
  intro hm
  have hb:b=s.heap.objs.size:=by simpa using hm
  subst hb
  exact absurd (Heap.lt_size e) (Nat.lt_irrefl _)
theorem lF (hc:X.calm=true):bD X (.builtin "any") (fun xs H Q=>∃ (p:Addr) (bs:List Bool),xs=[.ref p]/\Ck X.K H p (bs.map V.bl)/\Q (.bl (bs.any id)) H):=by
 intro pins s σ H xs us Q I r h
 obtain⟨p,bs,rfl,hq,q⟩:=h
 obtain⟨u,rfl,rx⟩:=vals1 r
 cases rx
 obtain⟨its,rv,pl,hz⟩:=I.list hq
 have hl:=rv.length
 rw[List.length_map] at hl
 have Cu:p < s.heap.objs.size:=by
  obtain⟨o,e,_⟩:=pl.isList
  exact Heap.lt_size e
 refine call_any_walk (wpAny_pyIter_list pl.isList ?_)
 refine⟨s.heap.objs.size,_,_,_,_,_,fun i=>bs.getD i false,rfl,Walks.list (A:=X.A.in1) (show X.A.in1.handled=none from I.ok.hd hc) s.heap.objs.size p (Nat.ne_of_lt Cu) its.toArray,⟨⟨_,Heap.get?_push_size _ rfl,rfl,rfl⟩,?_⟩,?_,?_⟩
 ·obtain⟨o,e,c,n,d⟩:=pl.isList
  exact⟨o,Heap.get?_push_of_some _ e,c,n,d⟩
 ·intro i v s' Q' E' hv Me
  have J7:its[i]? = some v:=by simpa using hv
  have FZ:i < bs.length:=by
   have:=(List.getElem?_eq_some_iff.mp J7).1
   omega
  obtain⟨u,hu,ru⟩:=rv.get (i:=i) (x:=.bl bs[i]) (by rw[List.getElem?_map,List.getElem?_eq_getElem FZ];rfl)
  rw[J7] at hu
  cases hu
  cases ru
  refine wpAny_truthy_bool ?_
  have e:bs.getD i false=bs[i]:=by simp[List.getD,FZ]
  rw[<- e]
  exact Me
 ·intro h' tk kp
  have EC:(List.range its.toArray.size).any (fun i=>bs.getD i false)=bs.any id:=by
   rw[show its.toArray.size=bs.length by simp[hl]]
   rw[Bool.eq_iff_iff,List.any_eq_true,List.any_eq_true]
   constructor
   ·rintro ⟨i,hi,z⟩
    have GH:=List.mem_range.mp hi
    exact⟨bs[i],List.getElem_mem GH,by simpa[List.getD,GH] using z⟩
   ·rintro ⟨b,hb,z⟩
    obtain⟨i,hi,rfl⟩:=List.getElem_of_mem hb
    exact⟨i,List.mem_range.mpr hi,by simpa[List.getD,hi] using z⟩
  rw[EC]
  refine⟨.bl (bs.any id),H,I.kept (t':=tk) fun b o e=>kp b o ?_ (Heap.get?_push_of_some _ e),rfl,q⟩
  intro hm
  have hb:b=s.heap.objs.size:=by simpa using hm
  subst hb
  exact absurd (Heap.lt_size e) (Nat.lt_irrefl _)
noncomputable def dz:Bi->Str
 | .len=>"len" | .sum=>"sum" | .min2=>"min" | .max2=>"max" | .GB=>"max" | .sorted=>"sorted" | .list=>"list" | .tuple=>"tuple" | .ord=>"ord" | .int=>"int" | .all=>"all" | .any=>"any" | .str=>"str" | .set=>"set" | .abs=>"abs"
noncomputable def yg:Bi->Bool
 | .list=>true|.tuple=>true|.int=>true|.str=>true|.set=>true
 | _=>false
noncomputable def yh:Bi->String
 | .len=>"len" | .sum=>"sum" | .min2=>"min" | .max2=>"max" | .GB=>"max" | .sorted=>"sorted" | .list=>"list" | .tuple=>"tuple" | .ord=>"ord" | .int=>"int" | .all=>"all" | .any=>"any" | .str=>"str" | .set=>"set" | .abs=>"abs"
noncomputable def mS (f:Bi):Value:=if yg f=true then .type (yh f) else .builtin (yh f)
theorem qW (f:Bi):bootBuiltins (dz f)=some (mS f):=by cases f<;>decide +kernel
def N4 (K:PySem.W.Frag)(ex:Str->Prop)(f:Bi):List V->Hp->VK->Prop:=fun xs H Q=>∃ S ds,Bo K S H xs ds/\Bp ex (cH f ds) (Kk K S H Q)
theorem Bo.J8 {K:PySem.W.Frag}{S:Addr->Prop}{H:Hp}{xs:List V}{d:D}(h:Bo K S H xs [d]):∃ x,xs=[x]/\Bq K S H x d:=by
 cases h with
 | cons h1 h2=>cases h2;exact⟨_,rfl,h1⟩
theorem Bo.Mf {K:PySem.W.Frag}{S:Addr->Prop}{H:Hp}{xs:List V}{d e:D}(h:Bo K S H xs [d,e]):∃ x y,xs=[x,y]/\Bq K S H x d/\Bq K S H y e:=by
 cases h with
 | cons h1 h2=>
  cases h2 with
  | cons h3 h4=>cases h4;exact⟨_,_,rfl,h1,h3⟩
theorem lG {K:PySem.W.Frag}{S:Addr->Prop}{H:Hp}(z:Str):Bo K S H (dn z) (bh z):=by
 unfold dn bh
 induction z.cps.toList with
 | nil=>exact .nil
 | cons c cs ih=>exact .cons (.str _) ih
theorem qX (hc:X.calm=true)(f:Bi):bD X (mS f) (N4 X.K ex f):=by
 intro pins s σ H xs us Q I r h
 obtain⟨S,ds,hx,h⟩:=h
 have stuck:∀ {P:Prop},cH f ds=Bu->P:=fun z=>by rw[z] at h;exact h.no.elim
 have one:∀ {d e:D}{r':List D},ds=d::e::r'->¬ (f=.min2∨f=.max2)->cH f ds=Bu:=by
  intro d e r' z nf
  subst z
  cases f<;>first|rfl|(exfalso;exact nf (.inl rfl))|(exfalso;exact nf (.inr rfl))|(cases d<;>rfl)
 have two:∀ {d e g:D}{r':List D},ds=d::e::g::r'->cH f ds=Bu:=by
  intro d e g r' z
  subst z
  cases f<;>first|rfl|(cases d<;>rfl)|(cases d<;>cases e<;>rfl)
 have nil:ds=[]->cH f ds=Bu:=by
  intro z
  subst z
  cases f<;>rfl
 match ds,hx with
 | [],hx=>exact stuck (nil rfl)
 | d::e::g::r',hx=>exact stuck (two rfl)
 | [d,e],hx=>
  by_cases nf:f=.min2∨f=.max2
  ·obtain⟨x,y,rfl,hd,he⟩:=hx.Mf
   rcases nf with rfl|rfl
   ·cases d with
    | int a=>
     cases e with
     | int b=>cases hd.BH;cases he.BH;exact kX hc pins s σ H _ us Q I r ⟨a,b,rfl,h.ok _ _ (.refl _) (.int _)⟩
     | _=>exact stuck rfl
    | _=>exact stuck rfl
   ·cases d with
    | int a=>
     cases e with
     | int b=>cases hd.BH;cases he.BH;exact kW hc pins s σ H _ us Q I r ⟨a,b,rfl,h.ok _ _ (.refl _) (.int _)⟩
     | _=>exact stuck rfl
    | _=>exact stuck rfl
  ·exact stuck (one rfl nf)
 | [d],hx=>
  obtain⟨x,rfl,hd⟩:=hx.J8
  cases f with
  | len=>
   cases d with
   | str z=>cases hd.BR;obtain⟨g,h⟩:=Bp.Bv h;exact dW pins s σ H _ us Q I r ⟨_,_,rfl,⟨aP g,rfl⟩,h.ok _ _ (.refl _) (.int _)⟩
   | tup ds=>
    obtain⟨a,ys,rfl,q,m⟩:=hd.Cw
    exact dW pins s σ H _ us Q I r ⟨_,ds.length,rfl,.inr ⟨ys,q,m.length.symm⟩,h.ok _ _ (.refl _) (.int _)⟩
   | lst o ds=>
    obtain⟨a,ys,rfl,q,m⟩:=hd.Cd
    exact dW pins s σ H _ us Q I r ⟨_,ds.length,rfl,.inl ⟨ys,q,m.length.symm⟩,h.ok _ _ (.refl _) (.int _)⟩
   | Bw o ks es=>
    cases hd with
    | Bw h0 h1 h2 h3=>exact ll pins s σ H _ us Q I r ⟨_,_,rfl,h1,by rw[<- List.length_map (f:=(·.1)),h2];exact h.ok _ _ (.refl _) (.int _)⟩
   | _=>exact stuck rfl
  | sum=>cases d<;>exact stuck rfl
  | all=>
   cases d with
   | lst o ds=>
    obtain⟨a,ys,rfl,q,m⟩:=hd.Cd
    have h':Bp ex (match bz ds with|some bs=>.ok (.bl (bs.all id))|none=>Bu) (Kk X.K S H Q):=h
    cases z:bz ds with
    | none=>rw[z] at h';exact h'.no.elim
    | some ns=>
     rw[z] at h'
     rw[dy z] at m
     rw[m.NZ] at q
     exact lE hc pins s σ H _ us Q I r ⟨a,ns,rfl,q,h'.ok _ _ (.refl _) (.bl _)⟩
   | _=>exact stuck rfl
  | any=>
   cases d with
   | lst o ds=>
    obtain⟨a,ys,rfl,q,m⟩:=hd.Cd
    have h':Bp ex (match bz ds with|some bs=>.ok (.bl (bs.any id))|none=>Bu) (Kk X.K S H Q):=h
    cases z:bz ds with
    | none=>rw[z] at h';exact h'.no.elim
    | some ns=>
     rw[z] at h'
     rw[dy z] at m
     rw[m.NZ] at q
     exact lF hc pins s σ H _ us Q I r ⟨a,ns,rfl,q,h'.ok _ _ (.refl _) (.bl _)⟩
   | _=>exact stuck rfl
  | ord=>
   cases d with
   | str z=>cases hd.BR;obtain⟨g,h⟩:=Bp.Bv h;exact mj pins s σ H _ us Q I r ⟨z,rfl,of_decide_eq_true g,h.ok _ _ (.refl _) (.int _)⟩
   | _=>exact stuck rfl
  | int=>cases d<;>exact stuck rfl
  | list=>cases d<;>exact stuck rfl
  | abs=>cases d<;>exact stuck rfl
  | min2=>cases d<;>exact stuck rfl
  | max2=>cases d<;>exact stuck rfl
  | GB=>cases d<;>exact stuck rfl
  | sorted=>cases d<;>exact stuck rfl
  | tuple=>
   cases d with
   | str z=>
    cases hd.BR
    obtain⟨g,h⟩:=Bp.Bv h
    exact d8 hc pins s σ H _ us Q I r ⟨z,rfl,aP g,fun p hp=>h.ok _ _ (.upd hp) (vJ hp (lG z))⟩
   | lst o ds=>
    obtain⟨a,ys,rfl,q,m⟩:=hd.Cd
    exact eU pins s σ H _ us Q I r ⟨a,ys,rfl,.inl ⟨q,fun p hp=>h.ok _ _ (.upd hp) (vJ hp m)⟩⟩
   | _=>exact stuck rfl
  | str=>exact stuck rfl
  | set=>exact stuck rfl
noncomputable def cM:Kd->Str
 | .str=>"str" | .int=>"int" | .bool=>"bool" | .list=>"list" | .tuple=>"tuple"
noncomputable def mT:Kd->Value
 | .str=>.type "str" | .int=>.type "int" | .bool=>.type "bool" | .list=>.type "list" | .tuple=>.type "tuple"
theorem qY (k:Kd):bootBuiltins (cM k)=some (mT k):=by cases k<;>decide +kernel
noncomputable def Qk:D->Value
 | .By=>.type "NoneType" | .bl _=>.type "bool" | .int _=>.type "int" | .str _=>.type "str" | .tup _=>.type "tuple" | .lst _ _=>.type "list" | .exc _=>.none|.Bw _ _ _=>.none
theorem qZ (K:PySem.W.Frag)(k:Kd)(d:D)(hn:dt d=true):PySem.W.kitOne K (Qk d) (mT k)=some (aU k d):=by
 cases k<;>cases d<;>first|rfl|cases hn
theorem ra {pins:List (Addr×Obj)}{s:Shared}{σ:St}{H:Hp}{S:Addr->Prop}{x:V}{v:Value}{d:D}{Q:VK}(I:Inv X pins σ H s)(rx:RelV x v)(hx:Bq X.K S H x d)(k:Kd)(hn:dt d=true)(h:Q (.bl (aU k d)) H) :
  wpAny (model X.prog X.w) X.A (call (.builtin "isinstance") [v,mT k]) (EP X pins σ Q) X.xe s:=by
 have e:=qZ X.K k d hn
 have fin:∀ tk,EP X pins σ Q (.bool (aU k d)) {s with toks:=tk}:=fun tk=>⟨.bl _,H,I.tok _,rfl,h⟩
 cases d with
 | By=>cases hx.C1;cases rx;exact PySem.W.kia_one PySem.W.kitx_none I.Dv True.intro e (fun z=>nomatch z) fin
 | bl b=>cases hx.Fy;cases rx;exact PySem.W.kia_one PySem.W.kitx_bool I.Dv True.intro e (fun z=>nomatch z) fin
 | int b=>cases hx.BH;obtain⟨t,rfl⟩:=rx;exact PySem.W.kia_one PySem.W.kitx_int I.Dv True.intro e (fun z=>nomatch z) fin
 | str b=>cases hx.BR;obtain⟨t,rfl⟩:=rx;exact PySem.W.kia_one PySem.W.kitx_str I.Dv True.intro e (fun z=>nomatch z) fin
 | tup ds=>
  obtain⟨a,ys,rfl,q,m⟩:=hx.Cw
  cases rx
  obtain⟨its,_,⟨o,h1,h2,_⟩,_⟩:=I.tuple q
  exact PySem.W.kia_one PySem.W.kitx_tuple I.Dv ⟨o,h1,h2⟩ e (fun z=>nomatch z) fin
 | lst o ds=>
  obtain⟨a,ys,rfl,q,m⟩:=hx.Cd
  cases rx
  obtain⟨its,_,pl,_⟩:=I.list q
  obtain⟨o,h1,h2,_⟩:=pl.isList
  exact PySem.W.kia_one PySem.W.kitx_list I.Dv ⟨o,h1,h2⟩ e (fun z=>nomatch z) fin
 | exc c=>cases hn
 | Bw o ks ds=>cases hn
def CV (X:Cx)(x:Str)(v:V):Prop:=(∃ C,v=.ref C/\X.mg x=some (.ref C))∨(∃ T,v=.ty T/\X.mg x=none/\bootBuiltins x=some (.type T))
noncomputable def vv:V->Value
 | .ref C=>.ref C
 | .ty T=>.type T
 | _=>.none
theorem CV.rel {x:Str}{v:V}{u:Value}(h:CV X x v)(r:RelV v u):u=vv v:=by
 rcases h with ⟨C,rfl,_⟩|⟨T,rfl,_⟩<;>exact r
theorem rb {pins:List (Addr×Obj)}{s:Shared}{σ:St}{H:Hp}{a C:Addr}{c:Str}{cv:Value}{b:Bool}{Q:VK}(I:Inv X pins σ H s)(h:B5 X.K H a (.inr c))(hC:PySem.W.nsIn X.K mainGlobals c=some (some (.ref C)))(hA:ExcAt X.K C)(hk:PySem.W.kitOne X.K (.ref C) cv=some b)(q:Q (.bl b) H) :
  wpAny (model X.prog X.w) X.A (call (.builtin "isinstance") [.ref a,cv]) (EP X pins σ Q) X.xe s:=by
 obtain⟨C',o,vs,h1,_,h3,h4,_⟩:=I.CC h
 rw[hC] at h1
 cases h1
 exact PySem.W.kia_one (ij hA) I.Dv ⟨o,h3,h4⟩ hk (fun z=>nomatch z) fun tk=>⟨.bl _,H,I.tok _,rfl,q⟩
theorem rf {pins:List (Addr×Obj)}{s:Shared}{σ:St}{H:Hp}{a p C:Addr}{c:Str}{v1 v2:V}{b:Bool}{Q:VK}{x1 x2:Str}(I:Inv X pins σ H s)(h:B5 X.K H a (.inr c))(hC:PySem.W.nsIn X.K mainGlobals c=some (some (.ref C)))(hA:ExcAt X.K C)(c1:CV X x1 v1)(c2:CV X x2 v2)(hp:CF X.K H p [v1,v2])(hk:PySem.W.kitAny X.K (.ref C) [vv v1,vv v2]=some b)(q:Q (.bl b) H) :
  wpAny (model X.prog X.w) X.A (call (.builtin "isinstance") [.ref a,.ref p]) (EP X pins σ Q) X.xe s:=by
 obtain⟨C',o,vs,h1,_,h3,h4,_⟩:=I.CC h
 rw[hC] at h1
 cases h1
 obtain⟨its,rv,⟨ot,e1,e2,e3⟩,_⟩:=I.tuple hp
 obtain⟨u1,u2,rfl,r1,r2⟩:=vals2 rv
 rw[<- c1.rel r1,<- c2.rel r2] at hk
 obtain⟨k1,k2,k3,k4⟩:=ot
 dsimp only at e2 e3
 subst e2
 obtain⟨n,e3⟩:=e3
 subst e3
 exact PySem.W.kia_tup (ij hA) I.Dv ⟨o,h3,h4⟩ e1 hk (fun z=>nomatch z) fun tk=>⟨.bl _,H,I.tok _,rfl,q⟩
noncomputable def eo:Mt->Str
 | .join=>"join" | .index=>"index" | .starts=>"startswith"
noncomputable def Be:Mt->String
 | .join=>"str.join" | .index=>"str.index" | .starts=>"str.startswith"
def N5 (K:PySem.W.Frag)(ex:Str->Prop)(m:Mt):V->List V->Hp->VK->Prop:=fun x xs H Q=>∃ S d ds,Bq K S H x d/\Bo K S H xs ds/\Bp ex (lx m d ds) (Kk K S H Q)
theorem mU {m:Mt}{d:D}{ds:List D}{k:D->Prop}(h:Bp ex (lx m d ds) k):∃ x,d=.str x:=by
 cases m<;>cases d<;>first|exact⟨_,rfl⟩|exact h.no.elim
theorem gp (m:Mt)(hc:m=.index->X.calm=true):NA X (Be m) (N5 X.K ex m):=by
 intro pins s σ H x xs v us Q I rx rs h
 obtain⟨S,d,ds,hx,hs,h⟩:=h
 obtain⟨z,rfl⟩:=mU h
 cases hx.BR
 obtain⟨t,rfl⟩:=rx
 have stuck:∀ {P:Prop},lx m (.str z) ds=Bu->P:=fun z=>by rw[z] at h;exact h.no.elim
 match ds,hs with
 | [],_=>cases m<;>exact stuck rfl
 | d::e::r,_=>cases m<;>cases d<;>exact stuck rfl
 | [d],hs=>
  obtain⟨y,rfl,hd⟩:=hs.J8
  obtain⟨u,rfl,ru⟩:=vals1 rs
  cases m with
  | join=>cases d<;>exact stuck rfl
  | index=>cases d<;>exact stuck rfl
  | starts=>
   cases d with
   | str y=>
    cases hd.BR
    obtain⟨t',rfl⟩:=ru
    exact SC.startswith ⟨.bl _,H,I,rfl,Bp.ok h _ _ (.refl _) (.bl _)⟩
   | _=>exact stuck rfl
noncomputable def Mg (x:Str):It:=⟨fun i _=>i < x.cps.size,fun i H v H'=>H'=H/\∃ c,x.cps[i]? = some c/\v=.str ⟨#[c]⟩,fun i _=>x.cps.size<=i⟩
theorem mV {P:Program}{w:World}{K:PySem.W.Frag}{tg:Expr}{it:Addr}{x:Str}{t:Tok}{ty:String}(IT:ty = "str_ascii_iterator"∨ty = "str_iterator")
  (W:∀ A':Around,A'.handled=none->Walks P w A' it [it] [it] x.cps.size (SignAt x) (fun i h=>h.IsStrIter it ty x t i)):Turn P w K tg (Mg x) [it] it (fun i h=>i<=x.cps.size/\h.IsStrIter it ty x t i) where
 mem:=by simp
 obj:=fun i h st b hb=>by
  have e:b=it:=by simpa using hb
  subst e
  obtain⟨_,o,e,c,d⟩:=st
  exact⟨o,e,fun v z=>by rw[d] at z;cases z⟩
 keep:=fun i h h' st k=>by
  obtain⟨l,o,e,c,d⟩:=st
  exact⟨l,o,k it (by simp) o e,c,d⟩
 item:=by
  intro X hP hw hK hc i pins s σ H E I hf st hg
  subst hP hw hK
  obtain⟨f0,f1,f2,f3,f4,f5⟩:=hf it (by simp)
  refine(W X.A (I.ok.hd hc)).item i s _ _ hg st.2 fun v h' tk hv Ey kk=>?_
  obtain⟨c,u,Ql,rfl⟩:=hv
  have I1:Inv X pins σ H {s with heap:=h',toks:=tk}:=I.turned (fun b o hb e=>kk b o (by simpa using hb) e) f0 f1 f3 f4 f5
  obtain⟨o,e,cc,d⟩:=id Ey
  refine⟨_,rfl,gQ (s:={s with heap:=h',toks:=tk}) (n:=ty) e cc d (by rcases IT with rfl|rfl<;>decide) ⟨.str ⟨#[c]⟩,H,I1,⟨u,rfl⟩,⟨rfl,c,Ql,rfl⟩,⟨hg,Ey⟩,fun b hb=>(hf b hb).1⟩⟩
 done:=by
  intro X hP hw hK hc i pins s σ H E I hf st hg
  subst hP hw hK
  obtain⟨f0,f1,f2,f3,f4,f5⟩:=hf it (by simp)
  have e:i=x.cps.size:=Nat.le_antisymm st.1 hg
  refine(W X.A (I.ok.hd hc)).done s _ _ (by rw[<- e];exact st.2) fun h' tk kk=>⟨rfl,I.turned (fun b o hb e=>kk b o (by simpa using hb) e) f0 f1 f3 f4 f5⟩
 self:=fun A i s Q E st h=>by
  obtain⟨_,st⟩:=st
  rcases IT with rfl|rfl
  ·exact wpAny_pyIter_striter_ascii st h
  ·exact wpAny_pyIter_striter_wide st h
theorem vN {tg:Expr}{pins:List (Addr×Obj)}{s:Shared}{σ:St}{H:Hp}{x:Str}{t:Tok}{R:It->Hp->Prop}(I:Inv X pins σ H s)(q:R (Mg x) H):wpAny (model X.prog X.w) X.A (pyIter (.str x t)) (IQ X pins σ tg R) X.xe s:=by
 have fin:∀ ty,(ty = "str_ascii_iterator"∨ty = "str_iterator")->(∀ A':Around,A'.handled=none->Walks X.prog X.w A' s.heap.objs.size [s.heap.objs.size] [s.heap.objs.size] x.cps.size (SignAt x) (fun i h=>h.IsStrIter s.heap.objs.size ty x t i))->
   IQ X pins σ tg R (.ref s.heap.objs.size) {s with heap:=s.heap.push {cls:=.type ty,data:=.fields #[.str x t,.int 0 0]}}:=fun ty IT W=>by
  refine⟨s.heap.objs.size,[s.heap.objs.size],_,_,H,rfl,I.kept (t':=s.toks) fun b o e=>Heap.get?_push_of_some _ e,mV IT W,⟨Nat.zero_le _,_,Heap.get?_push_size _ rfl,rfl,rfl⟩,fun b hb=>?_,q⟩
  have e:b=s.heap.objs.size:=by simpa using hb
  subst e
  exact I.D2 (Nat.le_refl _) (I.BD.fresh (Nat.le_refl _))
 cases ha:x.cps.all (· < 128)
 ·exact wpAny_pyIter_wide ha (fin _ (.inr rfl) fun A' hA=>Walks.strWide hA _ x t)
 ·exact wpAny_pyIter_ascii ha (fin _ (.inl rfl) fun A' hA=>Walks.strAscii hA _ x t)
end
theorem aF.at {P:Program}{w:World}{H:Hp}{h:Heap}{a:Addr}{o:HO}(x:aF P w H h a o):∃ ob,h.get? a=some ob:=by
 cases o with
 | lst xs=>obtain⟨_,_,_,_,e⟩:=x;exact⟨_,e⟩
 | tup xs=>obtain⟨_,_,_,ob,e,_⟩:=x;exact⟨_,e⟩
 | dK kvs=>obtain⟨_,_,_,_,o,_,_,e,_⟩:=x;exact⟨_,e⟩
 | dT kvs=>obtain⟨_,_,_,_,o,_,_,e,_⟩:=x;exact⟨_,e⟩
 | set S n=>obtain⟨o,_,_,_,e,_⟩:=x;exact⟨_,e⟩
 | ins C dx fs=>obtain⟨_,_,_,e,_⟩:=x;exact⟨_,e⟩
 | own y=>exact x
 | xd fs=>obtain⟨_,⟨_,_,_,e,_⟩,_⟩:=x;exact⟨_,e⟩
 | Ft lo hi=>obtain⟨_,_,_,e⟩:=x;exact⟨_,e⟩
 | BI ob u=>exact⟨_,x.1⟩
 | GR ps=>exact⟨_,x⟩
 | met f y=>exact⟨_,x⟩
 | ext φ=>exact x.2.1
noncomputable def indep:HO->Bool
 | .lst _=>true
 | .tup _=>true
 | .ext _=>true
 | .dK _=>true
 | _=>false
theorem cW {P:Program}{w:World}{H H':Hp}{h:Heap}{a:Addr}{u:HO}(i:indep u=true)(x:aF P w H h a u):aF P w H' h a u:=by
 cases u with
 | lst _=>exact x
 | tup _=>exact x
 | ext _=>exact x
 | dK _=>exact x
 | _=>cases i
noncomputable def ax (h:Heap)(H:Hp):Hp:=fun b=>match H b with
 | some (.lst xs)=>(h.get? b).map fun o=>.BI o (.lst xs)
 | some (.dK kvs)=>(h.get? b).map fun o=>.BI o (.dK kvs)
 | some (.tup xs)=>some (.tup xs)
 | some (.BI o u)=>if indep u=true then some (.BI o u) else none
 | _=>none
noncomputable def cq (H H':Hp):Hp:=fun b=>match H b with
 | some o=>some o
 | none=>H' b
def GI (H:Hp):Prop:=∀ b o,H b=some o->(∃ ob u,o=.BI ob u)∨∃ xs,o=.tup xs
theorem mW (h:Heap)(H:Hp):GI (ax h H):=fun b o e=>by
 unfold ax at e
 split at e
 ·obtain⟨ob,_,rfl⟩:=Option.map_eq_some_iff.mp e
  exact .inl ⟨_,_,rfl⟩
 ·obtain⟨ob,_,rfl⟩:=Option.map_eq_some_iff.mp e
  exact .inl ⟨_,_,rfl⟩
 ·cases e;exact .inr ⟨_,rfl⟩
 ·split at e
  ·cases e;exact .inl ⟨_,_,rfl⟩
  ·cases e
 ·cases e
structure Ea (h:Heap)(Hc H':Hp):Prop where
 B8:∀ b o u,Hc b=some (.BI o u)->H' b=some (.BI o u)
 Cn:∀ b xs,Hc b=some (.tup xs)->H' b=some (.tup xs)
 free:∀ b o,h.get? b=some o->Hc b=none->H' b=none
inductive Bk (h:Heap)(H H':Hp)(b:Addr):HO->Prop where
 | lst {xs:List V}{ob:Obj}:h.get? b=some ob->H' b=some (.BI ob (.lst xs))->Bk h H H' b (.lst xs)
 | dK {xs:List (Key×V)}{ob:Obj}:h.get? b=some ob->H' b=some (.BI ob (.dK xs))->Bk h H H' b (.dK xs)
 | tup {xs:List V}:H' b=some (.tup xs)->Bk h H H' b (.tup xs)
 | BI {o:Obj}{u:HO}:indep u=true->H' b=some (.BI o u)->Bk h H H' b (.BI o u)
 | Fv {o:HO}{ob:Obj}:h.get? b=some ob->ax h H b=none->H' b=none->(∀ xs,o≠.lst xs)->(∀ xs,o≠.tup xs)->(∀ xs,o≠.dK xs)->Bk h H H' b o
section
variable {P:Program}{w:World}{H H':Hp}{h g:Heap}
theorem fC (x:BX P w H h)(p:Ea h (ax h H) H'){b:Addr}{o:HO}(e:H b=some o):Bk h H H' b o:=by
 obtain⟨ob,he⟩:=(x b o e).at
 have hc:ax h H b=(match (some o:Option HO) with
  | some (.lst xs)=>(h.get? b).map fun o=>.BI o (.lst xs)
  | some (.dK kvs)=>(h.get? b).map fun o=>.BI o (.dK kvs)
  | some (.tup xs)=>some (.tup xs)
  | some (.BI o u)=>if indep u=true then some (.BI o u) else none
  | _=>none):=by unfold ax;rw[e]
 cases o with
 | lst xs=>
  have hc:ax h H b=(h.get? b).map fun o=>.BI o (.lst xs):=hc
  rw[he] at hc
  exact .lst he (p.B8 _ _ _ hc)
 | dK xs=>
  have hc:ax h H b=(h.get? b).map fun o=>.BI o (.dK xs):=hc
  rw[he] at hc
  exact .dK he (p.B8 _ _ _ hc)
 | tup xs=>exact .tup (p.Cn _ _ hc)
 | BI o' u=>
  have hc:ax h H b=if indep u=true then some (.BI o' u) else none:=hc
  by_cases i:indep u=true
  ·rw[if_pos i] at hc
   exact .BI i (p.B8 _ _ _ hc)
  ·rw[if_neg i] at hc
   exact .Fv he hc (p.free _ _ he hc) (fun _ z=>by cases z) (fun _ z=>by cases z) (fun _ z=>by cases z)
 | _=>exact .Fv he hc (p.free _ _ he hc) (fun _ z=>by cases z) (fun _ z=>by cases z) (fun _ z=>by cases z)
theorem jf (x:BX P w H h):BX P w (ax h H) h:=fun b o e=>by
 cases q:H b with
 | none=>unfold ax at e;rw[q] at e;cases e
 | some u=>
  have y:=x b u q
  unfold ax at e
  rw[q] at e
  cases u with
  | lst xs=>
   obtain⟨ob,he⟩:=y.at
   have e:(h.get? b).map (fun o=>HO.BI o (.lst xs))=some o:=e
   rw[he] at e
   cases e
   exact⟨he,y⟩
  | dK xs=>
   obtain⟨ob,he⟩:=y.at
   have e:(h.get? b).map (fun o=>HO.BI o (.dK xs))=some o:=e
   rw[he] at e
   cases e
   exact⟨he,y⟩
  | tup xs=>cases e;exact y
  | BI o' u=>
   have e:(if indep u=true then some (HO.BI o' u) else none)=some o:=e
   by_cases i:indep u=true
   ·rw[if_pos i] at e;cases e;exact⟨y.1,cW i y.2⟩
   ·rw[if_neg i] at e;cases e
  | _=>cases e
theorem aV (e:H a=none):ax h H a=none:=by unfold ax;rw[e]
theorem res_some {b:Addr}{o:HO}(e:H b=some o):cq H H' b=some o:=by unfold cq;rw[e]
theorem res_none {b:Addr}(e:H b=none):cq H H' b=H' b:=by unfold cq;rw[e]
theorem ik:aj H (cq H H'):=fun b o e=>res_some e
theorem gq (x:BX P w H h)(y:BX P w H' g)(p:Ea h (ax h H) H'){fs:List Addr}(keep:∀ b o,H b≠none->h.get? b=some o->ax h H b=none->b∉fs->g.get? b=some o)(fr:∀ b∈fs,H b=none):BX P w (cq H H') g:=by
 have tp:∀ c xs,H' c=some (.tup xs)->cq H H' c=some (.tup xs):=fun c xs e=>by
  cases q:H c with
  | none=>rw[res_none q];exact e
  | some o=>
   rw[res_some q]
   cases fC x p q with
   | lst _ z=>rw[z] at e;cases e
   | dK _ z=>rw[z] at e;cases e
   | tup z=>rw[z] at e;exact e
   | BI _ z=>rw[z] at e;cases e
   | Fv _ _ z _ _ _=>rw[z] at e;cases e
 intro b o e
 cases q:H b with
 | some o'=>
  rw[res_some q] at e
  cases e
  cases fC x p q with
  | lst h1 z=>
   have h2:=(y b _ z).1
   obtain⟨a1,its,n,a2,a3⟩:=x b _ q
   rw[h1] at a3
   exact⟨a1,its,n,a2,by rw[h2,<- a3]⟩
  | dK h1 z=>exact cW rfl (y b _ z).2
  | tup z=>exact y b _ z
  | BI i z=>exact⟨(y b _ z).1,cW i (y b _ z).2⟩
  | Fv h1 h2 z n1 n2 n3=>
   refine(x b _ q).CH (fun c u hc hu=>?_) (fun c hc=>res_some hc) fun c xs hc=>res_some hc
   rcases hc with rfl|hc
   ·exact keep _ _ (by rw[q];simp) hu h2 fun z=>by rw[fr _ z] at q;cases q
   ·refine keep _ _ (by rw[hc];simp) hu ?_ fun z=>by rw[fr _ z] at hc;cases hc
    unfold ax
    rw[hc]
 | none=>
  rw[res_none q] at e
  refine(y b o e).CH (fun _ _ _ z=>z) (fun c hc=>?_) tp
  cases q':H c with
  | none=>rw[res_none q'];exact hc
  | some o'=>
   exfalso
   cases fC x p q' with
   | lst _ z=>rw[z] at hc;cases hc
   | dK _ z=>rw[z] at hc;cases hc
   | tup z=>rw[z] at hc;cases hc
   | BI _ z=>rw[z] at hc;cases hc
   | Fv _ _ z _ _ _=>rw[z] at hc;cases hc
theorem cX {fs:List Addr}(u:Un fs [] (ax h H) H' h g):Ea h (ax h H) H':=⟨u.B8,u.Cn,fun b o e n=>u.free b o e n (by simp)⟩
theorem jg {fs:List Addr}(x:BX P w H h)(u:Un fs [] (ax h H) H' h g):Un fs [] H (cq H H') h g where
 keep:=fun b o e n f i=>u.keep b o e (aV n) f i
 slot:=fun b o e n f i=>u.slot b o e (aV n) f i
 free:=fun b o e n i=>by rw[res_none n];exact u.free b o e (aV n) i
 there:=u.there
 Cn:=fun b xs e=>res_some e
 B8:=fun b o v e=>res_some e
 Di:=fun b ps e=>⟨#[],by rw[res_some e];simp⟩
end
noncomputable def H0:Hp:=fun _=>none
noncomputable def Co (P:Program)(w:World):Cy:=fun outer H s E e s'=>∃ (a:Addr) (cls a0:Value) (H':Hp) (B:Heap),e=.ref a/\s'.os=s.os/\AllBare s'.gens/\Un (Cg outer) [] H H' s.heap s'.heap/\BX P w H' B/\aj H H'/\
 (∀ b o,s.heap.get? b=some o->H b=none->b∉Cg outer->B.get? b=some o)/\Heap.FlyingW B outer a cls a0 s'.heap/\E cls none H0
def Eb (K:PySem.W.Frag):XK->Hp->Str->Prop:=fun E _ c=>∀ C,PySem.W.nsIn K mainGlobals c=some (some (.ref C))->E (.ref C) none H0
noncomputable def aN:List Str:=["len","sum","min","max","sorted","list","tuple","ord","int","all","any","str","set","abs","isinstance","range","bool","zip","reversed","dict","enumerate"]
noncomputable def jN:Bi->Nat
 | .len=>0|.sum=>1|.min2=>2|.max2=>3|.GB=>3|.sorted=>4|.list=>5|.tuple=>6|.ord=>7|.int=>8|.all=>9|.any=>10|.str=>11|.set=>12|.abs=>13
noncomputable def jO:Kd->Nat
 | .str=>11|.int=>8|.bool=>16|.list=>5|.tuple=>6
theorem vO (f:Bi):aN[jN f]? = some (dz f):=by cases f<;>rfl
theorem vP (f:Kd):aN[jO f]? = some (cM f):=by cases f<;>rfl
mutual
noncomputable def lI:D->D->Bool
 | .By,.By=>true
 | .bl a,.bl b=>a == b
 | .int a,.int b=>a == b
 | .str a,.str b=>a == b
 | .tup a,.tup b=>ez a b
 | .lst o a,.lst o' b=>o == o'&&ez a b
 | _,_=>false
noncomputable def ez:List D->List D->Bool
 | [],[]=>true
 | a::r,b::s=>lI a b&&ez r s
 | _,_=>false
end
mutual
theorem jP:∀ {a b:D},lI a b=true->a=b
 | .By,b,h=>by cases b<;>first|rfl|cases h
 | .bl a,b,h=>by cases b<;>first|(rw[eq_of_beq (show (a == _)=true from h)])|cases h
 | .int a,b,h=>by cases b<;>first|(rw[eq_of_beq (show (a == _)=true from h)])|cases h
 | .str a,b,h=>by cases b<;>first|(rw[eq_of_beq (show (a == _)=true from h)])|cases h
 | .tup a,b,h=>by
  cases b with
  | tup b=>rw[eA (show ez a b=true from h)]
  | _=>cases h
 | .lst o a,b,h=>by
  cases b with
  | lst o' b=>
   have h':(o == o'&&ez a b)=true:=h
   rw[Bool.and_eq_true] at h'
   rw[eq_of_beq h'.1,eA h'.2]
  | _=>cases h
theorem eA:∀ {a b:List D},ez a b=true->a=b
 | [],b,h=>by cases b<;>first|rfl|cases h
 | a::r,b,h=>by
  cases b with
  | nil=>cases h
  | cons b s=>
   have h':(lI a b&&ez r s)=true:=h
   rw[Bool.and_eq_true] at h'
   rw[jP h'.1,eA h'.2]
end
structure Sg where
 nm:List Str
 Je:List (Nat×D)
 fns:List Nat
 cls:List Nat:=[]
 xt:List (Str×Nat×Bool):=[]
 pl:List Nat:=[]
 rc:List (Nat×Str):=[]
 xm:List (Str×Nat):=[]
 Dq:List Nat:=[]
noncomputable def Sg.name (Z:Sg)(n:Nat):Option Str:=(aN++Z.nm)[n]?
noncomputable def Gm.F0 (G:Gm)(n:Nat):Bool:=G.cm&&G.gl.contains n
theorem mX {G:Gm}{n:Nat}(h:G.F0 n=true):G.gl.contains n=true:=by
 unfold Gm.F0 at h;rw[Bool.and_eq_true] at h;exact h.2
theorem mY {G:Gm}{n:Nat}(h:G.F0 n=true):G.cm=true:=by
 unfold Gm.F0 at h;rw[Bool.and_eq_true] at h;exact h.1
noncomputable def Sg.Ha (Z:Sg)(G:Gm)(f:Nat):Bool:=Z.fns.contains f&&(G.cm||Z.pl.contains f)
theorem gr {Z:Sg}{G:Gm}{f:Nat}(h:Z.Ha G f=true):f∈Z.fns/\(G.cm=true∨f∈Z.pl):=by
 unfold Sg.Ha at h
 rw[Bool.and_eq_true,Bool.or_eq_true] at h
 exact⟨by simpa using h.1,h.2.elim .inl fun z=>.inr (by simpa using z)⟩
noncomputable def jh:Mt->Bool
 | .join=>true
 | _=>false
noncomputable def notStar:Expr->Bool
 | .Starred ..=>false
 | _=>true
noncomputable def ba:Expr->Bool
 | .Slice ..=>false
 | _=>true
noncomputable def eB:Expr->Bool
 | .Call _ [] [] _=>false
 | _=>true
noncomputable def cY (G:Gm)(i:Nat)(x:Str):Bool:=G.N[i]? == some x&&(G.kd[i]? == some .local||G.kd[i]? == some .cell||G.kd[i]? == some .free)
noncomputable def aT (Z:Sg)(G:Gm)(n:Nat)(x:Str):Bool:=Z.name n == some x&&G.gl.contains n
noncomputable def yi:D->Const->Bool
 | .int i,.int j=>i == j
 | .str x,.str y=>x == y
 | .bl a,.bool b=>a == b
 | .By,.none=>true
 | _,_=>false
mutual
noncomputable def bI (G:Gm):Tg->Expr->Bool
 | .nm i,.Name x _=>(G.N[i]? == some x&&(G.kd[i]? == some .local||(G.df&&G.kd[i]? == some .cell)))&&G.io != some i
 | .tp ts,.Tuple es _ _=>G.cm&&cJ G ts es
 | _,_=>false
noncomputable def cJ (G:Gm):List Tg->List Expr->Bool
 | [],[]=>true
 | t::ts,e::es=>notStar e&&bI G t e&&cJ G ts es
 | _,_=>false
end
mutual
noncomputable def Dr:Tg->List Nat
 | .nm i=>[i]
 | .tp ts=>ip ts
noncomputable def ip:List Tg->List Nat
 | []=>[]
 | t::ts=>Dr t++ip ts
end
noncomputable def bb (Z : Sg)(G : Gm)(scope : Scope)(G' : Gm)(fr : List Nat) : Bool :=
  (G.cm&&scope.kind == .function)&&!G'.tr&&!G'.df&&G'.kd.length == G'.N.length
 &&scope.names.all (fun y => y.2 != .cell)&&scope.names.all (fun y => y.2 != .local||scope.names.lookup y.1 == some .local)
 &&scope.names.all (fun y => y.2 != .free||(List.range G.N.length).any fun i => G.N[i]? == some y.1&&(G.kd[i]? == some .cell||G.kd[i]? == some .free))
 &&(List.range fr.length).all (fun j => G'.N[j]? == (fr[j]?).bind (G.N[·]?)&&((G'.N[j]?).bind (scope.names.lookup ·) == some .free)&&((fr[j]?).bind (G.kd[·]?) == some .cell||(fr[j]?).bind (G.kd[·]?) == some .free)
     &&(G'.kd[j]? == some (if ((fr[j]?).bind (G.kd[·]?) == some .cell) then .cell else .free)))
 &&decide (fr.length <= G'.N.length)
 &&((List.range G'.N.length).drop fr.length).all (fun j => (G'.N[j]?).bind (scope.names.lookup ·) == some .local&&G'.kd[j]? == some .local)
 &&G'.N.all (fun x => !(x == "__debug__")&&!(x == "__classdict__"))
 &&decide (G'.N.Nodup)
 &&G'.gl.all (fun n => match Z.name n with|some x => scope.names.lookup x == some .globalImplicit|none => false)
theorem aa {P:Prop}(h:false=true):P:=by cases h
noncomputable def lJ:List Comprehension->(Expr->Expr->List Expr->Bool)->Bool
 | [⟨t,it,fs,0⟩],k=>k t it fs
 | _,_=>false
theorem gu {gens:List Comprehension}{k:Expr->Expr->List Expr->Bool}(h:lJ gens k=true):∃ t it fs,gens=[⟨t,it,fs,0⟩]/\k t it fs=true:=by
 unfold lJ at h
 split at h
 ·exact⟨_,_,_,rfl,h⟩
 ·cases h
noncomputable def GJ (k:Str->Bool):Expr->Bool
 | .Name z _=>k z
 | _=>false
theorem ji {k:Str->Bool}{e:Expr}(h:GJ k e=true):∃ z p,e=.Name z p/\k z=true:=by
 cases e with
 | Name z p=>exact⟨z,p,rfl,h⟩
 | _=>exact aa h
noncomputable def Mh (k:List Expr->Bool):Expr->Bool
 | .Tuple es _ _=>k es
 | _=>false
theorem vQ {k:List Expr->Bool}{e:Expr}(h:Mh k e=true):∃ es c p,e=.Tuple es c p/\k es=true:=by
 cases e with
 | Tuple es c p=>exact⟨es,c,p,rfl,h⟩
 | _=>exact aa h
noncomputable def yj (k:Expr->Expr->Bool):List Expr->Bool
 | [a,b]=>k a b
 | _=>false
noncomputable def mZ (Z:Sg)(G:Gm):List Nat->Expr->Bool
 | [n],e=>GJ (fun z=>aT Z G n z&&Z.cls.contains n) e
 | [n,m],e=>Mh (yj fun a b=>GJ (fun z=>aT Z G n z&&Z.cls.contains n) a&&GJ (fun y=>aT Z G m y&&Z.cls.contains m) b) e
 | _,_=>false
noncomputable def vR (Z:Sg):List Nat->Str×Bool->Bool
 | [n],p=>Z.xt.contains (p.1,n,p.2)
 | [n,m],p=>Z.xt.contains (p.1,n,false)&&Z.xt.contains (p.1,m,p.2)
 | _,_=>false
noncomputable def m4:Expr->Bool
 | .Tuple _ _ _=>true
 | _=>false
noncomputable def dJ:Sr->Expr->Bool
 | .zip _ _,t=>m4 t
 | .D9 _,t=>m4 t
 | _,_=>true
noncomputable def Lc:Expr->(Str->Expr->Option Str->Bool)->Bool
 | .JoinedStr [.Constant (.str x) _ _,.FormattedValue e n none _] _,k=>n == 114&&k x e none
 | .JoinedStr [.Constant (.str x) _ _,.FormattedValue e n none _,.Constant (.str y) _ _] _,k=>n == 114&&k x e (some y)
 | _,_=>false
theorem vS {e:Expr}{k:Str->Expr->Option Str->Bool}(h:Lc e k=true):∃ x e' y,k x e' y=true/\((∃ j p q pos,y=none/\e=.JoinedStr [.Constant (.str x) j p,.FormattedValue e' 114 none q] pos)∨
  ∃ w j p q j' r pos,y=some w/\e=.JoinedStr [.Constant (.str x) j p,.FormattedValue e' 114 none q,.Constant (.str w) j' r] pos):=by
 unfold Lc at h
 split at h
 ·rw[Bool.and_eq_true] at h
  rw[eq_of_beq h.1]
  exact⟨_,_,_,h.2,.inl ⟨_,_,_,_,rfl,rfl⟩⟩
 ·rw[Bool.and_eq_true] at h
  rw[eq_of_beq h.1]
  exact⟨_,_,_,h.2,.inr ⟨_,_,_,_,_,_,_,rfl,rfl⟩⟩
 ·cases h
noncomputable def lK:Bool->CmpOp
 | true=>.NotIn
 | false=>.In
noncomputable def Hb:Expr->Bool
 | .Dict ks vs _=>ks.isEmpty&&vs.isEmpty
 | _=>false
theorem jj {e:Expr}(h:Hb e=true):∃ p,e=.Dict [] [] p:=by
 cases e with
 | Dict ks vs p=>
  have h':=Bool.and_eq_true_iff.mp (show (ks.isEmpty&&vs.isEmpty)=true from h)
  cases ks with
  | cons _ _=>exact aa h'.1
  | nil=>
   cases vs with
   | cons _ _=>exact aa h'.2
   | nil=>exact⟨p,rfl⟩
 | _=>exact aa h
noncomputable def Ld:Expr->(Expr->Expr->Bool)->Bool
 | .Subscript o s _,k=>k o s
 | _,_=>false
theorem vT {e:Expr}{k:Expr->Expr->Bool}(h:Ld e k=true):∃ o s p,e=.Subscript o s p/\k o s=true:=by
 unfold Ld at h
 split at h
 ·exact⟨_,_,_,rfl,h⟩
 ·cases h
noncomputable def Le:Expr->(Expr->CmpOp->Expr->Bool)->Bool
 | .Compare l [o] [r] _,k=>k l o r
 | _,_=>false
theorem vU {e:Expr}{k:Expr->CmpOp->Expr->Bool}(h:Le e k=true):∃ l o r p,e=.Compare l [o] [r] p/\k l o r=true:=by
 unfold Le at h
 split at h
 ·exact⟨_,_,_,_,rfl,h⟩
 ·cases h
noncomputable def Lf:Expr->(Str->Str->Expr->Bool)->Bool
 | .Call (.Name x _) [.Call (.Name y _) [e] [] _] [] _,k=>k x y e
 | _,_=>false
theorem vV {e:Expr}{k:Str->Str->Expr->Bool}(h:Lf e k=true):∃ x p y p' e' q' q,e=.Call (.Name x p) [.Call (.Name y p') [e'] [] q'] [] q/\k x y e'=true:=by
 unfold Lf at h
 split at h
 ·exact⟨_,_,_,_,_,_,_,rfl,h⟩
 ·cases h
mutual
noncomputable def Bx (Z:Sg)(G:Gm):IR->Expr->Bool
 | .c d,.Constant k _ _=>yi d k
 | .g n d,.Name x _=>aT Z G n x&&Z.Je.any fun p=>p.1 == n&&lI p.2 d
 | .v i,.Name x _=>cY G i x
 | .bin op a b,.BinOp l o r _=>o == GG op&&Bx Z G a l&&Bx Z G b r
 | .neg a,.UnaryOp .USub e _=>Bx Z G a e
 | .cmp op a b,.Compare l [o] [r] _=>o == DP op&&Bx Z G a l&&Bx Z G b r&&!behindInMarks o r
 | .chain op Cb a b c,.Compare l [o,o'] [m,r] _=>o == DP op&&o' == DP Cb&&Bx Z G a l&&Bx Z G b m&&Bx Z G c r&&!lastMarks [o,o'] [m,r]
 | .BV a b,.BoolOp .And [e,e'] _=>Bx Z G a e&&Bx Z G b e'
 | .BV a b,.BoolOp .And (e::e'::Mi::rest) p=>Bx Z G a e&&Bx Z G b (.BoolOp .And (e'::Mi::rest) p)
 | .E0 a b,.BoolOp .Or [e,e'] _=>Bx Z G a e&&Bx Z G b e'
 | .E0 a b,.BoolOp .Or (e::e'::Mi::rest) p=>Bx Z G a e&&Bx Z G b (.BoolOp .Or (e'::Mi::rest) p)
 | .Ce a,.UnaryOp .Not e _=>Bx Z G a e
 | .ite t a b,.IfExp c x y _=>Bx Z G t c&&Bx Z G a x&&Bx Z G b y
 | .tup es,.Tuple l _ _=>aO Z G es l
 | .lst es,.List l _=>aO Z G es l
 | .sl a lo hi,.Subscript e (.Slice l h none _) _=>Bx Z G a e&&jk Z G lo l&&jk Z G hi h
 | .idx a i,.Subscript e s _=>ba s&&Bx Z G a e&&Bx Z G i s
 | .call f es,.Call (.Name x _) args [] _=>aT Z G f x&&Z.Ha G f&&aO Z G es args
 | .bi f es,.Call (.Name x _) (a::args) [] _=>x == dz f&&G.F0 (jN f)&&aO Z G es (a::args)
 | .Cp a k,.Call (.Name x _) [e,.Name y _] [] _=>x == "isinstance"&&G.gl.contains 14&&y == cM k&&G.gl.contains (jO k)&&notStar e&&Bx Z G a e
 | .D8 a ns tb,.Call (.Name x _) [e,y] [] _=>x == "isinstance"&&G.gl.contains 14&&notStar e&&mZ Z G ns y&&tb.all (vR Z ns)&&Bx Z G a e
 | .Dy,e=>Hb e
 | .C2 a k,e=>Ld e fun o s=>ba s&&Bx Z G a o&&Bx Z G k s
 | .G4 n k a,e=>Le e fun l o r=>o == lK n&&Bx Z G k l&&Bx Z G a r&&!behindInMarks o r
 | .C3 a,e=>Lf e fun x y e=>x == "list"&&G.F0 5&&y == "reversed"&&G.gl.contains 18&&notStar e&&Bx Z G a e
 | .HJ x a y,e=>Lc e fun x' e' y'=>x == x'&&y == y'&&decide (x.length<=1000)&&Bx Z G a e'
 | .Ja m o es,.Call (.Attribute oe name apos) (a::args) [] BF=>name == eo m&&eB oe&&apos.endLine == BF.line&&(decide ((a::args).length < 29)&&(G.cm||jh m))&&Bx Z G o oe&&aO Z G es (a::args)
 | .comp G' fr tg src ifs elt,.ListComp e gens scope _=>lJ gens fun t it fs=>bb Z G scope G' fr&&bI G' tg t&&(Dr tg).all (fun i=>decide (fr.length<=i))&&(bM Z G src it&&dJ src t)&&aO Z G' ifs fs&&Bx Z G' elt e
 | _,_=>false
noncomputable def aO (Z:Sg)(G:Gm):List IR->List Expr->Bool
 | [],[]=>true
 | a::es,e::l=>notStar e&&Bx Z G a e&&aO Z G es l
 | _,_=>false
noncomputable def jk (Z:Sg)(G:Gm):Option IR->Option Expr->Bool
 | none,none=>true
 | some a,some e=>Bx Z G a e
 | _,_=>false
noncomputable def bM (Z:Sg)(G:Gm):Sr->Expr->Bool
 | .Cf n,.Call (.Name x _) [e] [] _=>x == "range"&&G.gl.contains 15&&notStar e&&Bx Z G n e
 | .zip a b,.Call (.Name x _) [e,e'] [] _=>x == "zip"&&G.gl.contains 17&&notStar e&&notStar e'&&Bx Z G a e&&Bx Z G b e'
 | .D9 a,.Call (.Name x _) [e] [] _=>x == "enumerate"&&G.gl.contains 20&&notStar e&&Bx Z G a e
 | .rev a,.Call (.Name x _) [e] [] _=>x == "reversed"&&G.gl.contains 18&&notStar e&&Bx Z G a e
 | .val a,e=>Bx Z G a e
 | _,_=>false
end
noncomputable def Lg:List Value:=[.type "ValueError",.type "Exception",.type "BaseException",.type "object"]
def Du (F:Addr->Prop)(H:Hp):Prop:=∀ a,F a->H a≠none
structure Out (K:PySem.W.Frag)(F:Addr->Prop)(H:Hp)(F':Addr->Prop)(H':Hp)(v:V)(d:D)(fv:List Addr):Prop where
 BJ:Du F' H'
 same:aj H H'
 rep:BC K F' H' v d fv
 B2:fv.Nodup
 new:∀ a∈fv,H a=none
 C5:∀ a,F a->F' a
 out:∀ a,F' a->F a∨H a=none
noncomputable def HL (K:PySem.W.Frag)(cl:Nat->List D->Res D)(xp:XK->Hp->Str->Prop)(f:Nat)(ps:List Str):Sp:=fun vs H Q E=>vs.length=ps.length/\GI H/\∃ F ds,Du F H/\Bo K F H vs ds/\
 Bp (xp E H) (cl f (BA ds)) fun d=>∀ v H' F' fv,Out K F H F' H' v d fv->Q v H'
structure Gf (P:Program)(w:World)(K:PySem.W.Frag)(mg:Str->Option Value)(base:Heap)(CX:Cy)(A:Around)(cl:Nat->List D->Res D)(xp:XK->Hp->Str->Prop)(f:Nat)(x:Str):Prop where
 ex:∃ (k:Nat) (fa:Addr) (fd:FuncData) (ps:List Str),mg x=some (.ref fa)/\PySem.W.keepIn K (.ref fa)=true/\Binds K fd ps []/\CJ P w K mg base CX k fa fd ps (HL K cl xp f ps)/\Cs k A/\
  ∀ (ex:Str->Prop) ds (k:D->Prop),Bp ex (cl f ds) k->ds.length=ps.length
noncomputable def rm (a:Addr)(H:Hp):Hp:=fun b=>if b=a then none else H b
structure HM (K:PySem.W.Frag)(a:Addr)(F:Addr->Prop)(H:Hp)(F':Addr->Prop)(H':Hp)(v:V)(d:D)(fv:List Addr)(B3:List (Key×V))(Ep:List Key)(Dt:List D):Prop where
 out:Out K F (rm a H) F' H' v d fv
 nF:¬ F' a
 nf:a∉fv
 at_:H' a=some (.dK B3)
 ks:B3.map (·.1)=Ep
 vs:bL Dt=true->Bo K F' H' (B3.map (·.2)) Dt
structure J9 (K:PySem.W.Frag)(a:Addr)(F:Addr->Prop)(H:Hp)(ws:List V)(ds:List D)(kvs:List (Key×V))(es:List D):Prop where
 BJ:Du F H
 nF:¬ F a
 at_:H a=some (.dK kvs)
 ws:Bo K F H ws ds
 vs:Bo K F H (kvs.map (·.2)) es
 lf:bL es=true
noncomputable def J' (K:PySem.W.Frag)(cl:Nat->List D->Res D)(f:Nat)(ps:List Str):Sp:=fun vs H Q _=>vs.length=ps.length/\∃ a F ws ds kvs es,vs=ws++[.ref a]/\J9 K a F H ws ds kvs es/\
 ∃ d Ep Dt,cl f (BA ds++[.Bw false (kvs.map (·.1)) es])=.ok (.tup [d,.Bw false Ep Dt])/\ai Dt=true/\∀ v H' F' fv B3,HM K a F H F' H' v d fv B3 Ep Dt->Q v H'
structure Lh (P:Program)(w:World)(K:PySem.W.Frag)(mg:Str->Option Value)(base:Heap)(CX:Cy)(A:Around)(cl:Nat->List D->Res D)(f:Nat)(x:Str):Prop where
 ex:∃ (k:Nat) (fa:Addr) (fd:FuncData) (ps:List Str),mg x=some (.ref fa)/\PySem.W.keepIn K (.ref fa)=true/\Binds K fd ps []/\CJ P w K mg base CX k fa fd ps (J' K cl f ps)/\Cs k A/\
  ∀ ds r,cl f ds=.ok r->ds.length=ps.length
structure Mj (Z:Sg)(CX:Cy)(cl:Nat->List D->Res D)(xp:XK->Hp->Str->Prop)(X:Cx):Prop where
 st:X.stack=X.env::X.outer
 fr:X.env.frame=some X.env.locals
 lt:GI X.Cr
 pl:∀ a:Addr,∀ f∈Z.fns,f∈Z.pl->∀ x,Z.name f=some x->Gf X.prog X.w X.K X.mg X.base CX (X.A.mark (some (.ref a))) cl xp f x
 cx:∀ (outer:List Env) (H:Hp) (s:Shared) (E:XK) (e:Value) (s':Shared),CX outer H s E e s'->Co X.prog X.w outer H s E e s'
 xp:∀ (c:Str) (C:Addr) (H:Hp),PySem.W.nsIn X.K mainGlobals c=some (some (.ref C))->xp (fun cls _ _=>cls=.ref C) H c
structure BN (Z:Sg)(CX:Cy)(cl:Nat->List D->Res D)(xp:XK->Hp->Str->Prop)(X:Cx)(ex:Str->Prop)(G:Gm):Prop where
 N:X.N=G.N
 B2:G.N.Nodup
 calm:G.cm=true->X.calm=true
 fk:X.env.scope.kind=.function
 un:X.A.units+42 < cLine
 own:G.rs=true->PassesOwn (model X.prog X.w) X.A X.env X.xe
 kd:∀ (i:Nat) (x:Str),G.N[i]? = some x->X.env.kindOf x=G.kd[i]?
 Er:∀ (i:Nat) (x:Str),G.N[i]? = some x->(x == ("__debug__" : Str))=false/\(x == ("__classdict__" : Str))=false
 gl:∀ n∈G.gl,∀ x,Z.name n=some x->Gl X x
 E5:∀ n x,Z.name n=some x->x≠"__name__"/\(x == ("__debug__" : Str))=false
 df:G.df=true->∀ x,X.fn x=true
 blt:∀ (n:Nat) (x:Str),aN[n]? = some x->X.mg x=none
 cst:∀ n d x,(n,d)∈Z.Je->Z.name n=some x->∃ u v,X.mg x=some u/\RelV v u/\∀ S H,Bq X.K S H v d
 fns:∀ f∈Z.fns,(G.cm=true∨f∈Z.pl)->∀ x,Z.name f=some x->Gf X.prog X.w X.K X.mg X.base CX X.A cl xp f x
 Dq:∀ f∈Z.Dq,G.cm=true->∀ x,Z.name f=some x->Lh X.prog X.w X.K X.mg X.base CX X.A cl f x
 Fm:∀ n∈Z.cls,∀ x,Z.name n=some x->∃ v,CV X x v
 EJ:∀ c n b x,(c,n,b)∈Z.xt->Z.name n=some x->∃ C,PySem.W.nsIn X.K mainGlobals c=some (some (.ref C))/\ExcAt X.K C/\∀ v,CV X x v->PySem.W.kitOne X.K (.ref C) (vv v)=some b
 Fo:∀ c n x,(c,n)∈Z.xm->Z.name n=some x->∃ C C',PySem.W.nsIn X.K mainGlobals c=some (some (.ref C))/\PySem.W.nsIn X.K mainGlobals x=some (some (.ref C'))/\nameIn X.K C=some c/\X.mg x=some (.ref C')/\PySem.W.exmOne X.K (.ref C) (.ref C')=some true
 E6:∀ n c,(n,c)∈Z.rc->Z.name n=some c/\∃ C,X.mg c=some (.ref C)/\PySem.W.nsIn X.K mainGlobals c=some (some (.ref C))/\PySem.W.excIn X.K C Lg "ValueError.__new__" = true
 Jf:G.rs=true->∀ (pins:List (Addr×Obj)) (σ:St) (H:Hp) (s:Shared) (c:Str) (C:Addr) (h':Heap) (e:Addr) (vs:List Value),Inv X pins σ H s->ex c->PySem.W.nsIn X.K mainGlobals c=some (some (.ref C))->Heap.MadeExcOf s.heap h' e (.ref C) vs->X.xe (.ref e) {s with heap:=h'}
 tr:G.tr=true->Mj Z CX cl xp X
 Jg:∃ E:XK,Passes CX X E/\∀ c H,ex c->xp E H c
 Fe:∀ (outer:List Env) (H:Hp) (s:Shared) (E:XK) (e:Value) (s':Shared),BX X.prog X.w H s.heap->(∀ b∈Cg outer,H b=none)->CX outer (ax s.heap H) s E e s'->CX outer H s E e s'
 FA:∀ (H:Hp) (outer:List Env) (s:Shared) (e:Value) (s':Shared),¬ CX outer H s (fun _ _ _=>False) e s'
section
variable {P:Program}{w:World}{H H':Hp}{h:Heap}{K:PySem.W.Frag}{Fc F':Addr->Prop}
theorem gv {vs:List V}{ds:List D}(x:BX P w H h)(m:Bo K Fc H vs ds):Bo K (fun a=>Fc a/\ax h H a≠none) (ax h H) vs ds:=by
 refine(m.step (S':=Fc) (H':=ax h H) (fun a xs f r=>⟨f,?_⟩) fun a xs r=>?_).D7
 ·rcases r with r|⟨o,r⟩
  ·obtain⟨ob,he⟩:=(x a _ r).at
   refine .inr ⟨ob,?_⟩
   unfold ax
   rw[r]
   cases xs with
   | l ys=>show (h.get? a).map _=_;rw[he];rfl
   | d ys=>show (h.get? a).map _=_;rw[he];rfl
  ·refine .inr ⟨o,?_⟩
   unfold ax
   rw[r]
   cases xs<;>rfl
 ·cases xs with
  | inl xs=>
   rcases r with (r|⟨o,r⟩)|r
   ·refine .inl (.inl ?_)
    unfold ax
    rw[r]
   ·refine .inl (.inr ⟨o,?_⟩)
    unfold ax
    rw[r]
    rfl
   ·exact .inr r
  | inr c=>
   obtain⟨C,o,vs,h0,h1,h2,h3⟩:=r
   refine⟨C,o,vs,h0,h1,?_,h3⟩
   unfold ax
   rw[h2]
   rfl
theorem iq (x:BX P w H h)(p:Ea h (ax h H) H'){a:Addr}(n:ax h H a=none)(e:H' a≠none):H a=none:=by
 cases q:H a with
 | none=>rfl
 | some o=>
  obtain⟨ob,he⟩:=(x a o q).at
  exact absurd (p.free a ob he n) e
theorem gw {v:V}{d:D}{fv:List Addr}(x:BX P w H h)(BJ:Du Fc H)(p:Ea h (ax h H) H')(o:Out K (fun a=>Fc a/\ax h H a≠none) (ax h H) F' H' v d fv):Out K Fc H (fun a=>Fc a∨F' a) (cq H H') v d fv:=by
 have new:∀ a∈fv,H a=none:=fun a ha=>iq x p (o.new a ha) (by obtain⟨_,xs,e⟩:=o.rep.own a ha;rw[e];simp)
 refine⟨fun a ha=>?_,ik,o.rep.step (fun a xs f r=>⟨.inr f,?_⟩) (fun a xs r=>?_) fun a ha nf hn=>⟨fun z=>?_,res_none (new a ha)⟩,o.B2,new,fun a ha=>.inl ha,fun a ha=>?_⟩
 ·cases q:H a with
  | some u=>rw[res_some q];simp
  | none=>
   rw[res_none q]
   rcases ha with ha|ha
   ·exact absurd q (BJ a ha)
   ·exact o.BJ a ha
 ·cases q:H a with
  | none=>unfold Rd;rw[res_none q];exact r
  | some u=>
   unfold Rd
   rw[res_some q]
   cases fC x p q with
   | lst _ z=>
    cases xs with
    | l ys=>
     rcases r with r|⟨o',r⟩
     ·rw[z] at r;cases r
     ·rw[z] at r;cases r;exact .inl rfl
    | d ys=>rcases r with r|⟨o',r⟩<;>(rw[z] at r;cases r)
   | dK _ z=>
    cases xs with
    | d ys=>
     rcases r with r|⟨o',r⟩
     ·rw[z] at r;cases r
     ·rw[z] at r;cases r;exact .inl rfl
    | l ys=>rcases r with r|⟨o',r⟩<;>(rw[z] at r;cases r)
   | tup z=>cases xs<;>rcases r with r|⟨o',r⟩<;>(rw[z] at r;cases r)
   | BI _ z=>
    cases xs with
    | l ys=>
     rcases r with r|⟨o',r⟩
     ·rw[z] at r;cases r
     ·rw[z] at r;cases r;exact .inr ⟨_,rfl⟩
    | d ys=>
     rcases r with r|⟨o',r⟩
     ·rw[z] at r;cases r
     ·rw[z] at r;cases r;exact .inr ⟨_,rfl⟩
   | Fv _ _ z _ _ _=>exact absurd z r.some
 ·cases xs with
  | inl xs=>
   rcases r with r|r
   ·refine .inl ?_
    cases q:H a with
    | none=>unfold Rd;rw[res_none q];exact r
    | some u=>
     unfold Rd
     rw[res_some q]
     cases fC x p q with
     | lst _ z=>rcases r with r|⟨o',r⟩<;>(rw[z] at r;cases r)
     | dK _ z=>rcases r with r|⟨o',r⟩<;>(rw[z] at r;cases r)
     | tup z=>
      rcases r with r|⟨o',r⟩
      ·rw[z] at r;cases r;exact .inl rfl
      ·rw[z] at r;cases r
     | BI _ z=>
      rcases r with r|⟨o',r⟩
      ·rw[z] at r;cases r
      ·rw[z] at r;cases r;exact .inr ⟨_,rfl⟩
     | Fv _ _ z _ _ _=>exact absurd z r.some
   ·exact .inr r
  | inr c=>
   obtain⟨C,ob,vs,h0,h1,h2,h3⟩:=r
   refine⟨C,ob,vs,h0,h1,?_,h3⟩
   cases q:H a with
   | none=>rw[res_none q];exact h2
   | some u=>
    rw[res_some q]
    cases fC x p q with
    | lst _ z=>rw[z] at h2;cases h2
    | dK _ z=>rw[z] at h2;cases h2
    | tup z=>rw[z] at h2;cases h2
    | BI _ z=>rw[z] at h2;cases h2;rfl
    | Fv _ _ z _ _ _=>rw[z] at h2;cases h2
 ·rcases z with z|z
  ·exact BJ a z (new a ha)
  ·exact nf z
 ·rcases ha with ha|ha
  ·exact .inl ha
  ·rcases o.out a ha with z|z
   ·exact .inl z.1
   ·exact .inr (iq x p z (o.BJ a ha))
end
section
variable {X:Cx}{CX:Cy}{cl:Nat->List D->Res D}{xp:XK->Hp->Str->Prop}
theorem Inv.Ka {pins:List (Addr×Obj)}{σ:St}{H:Hp}{s:Shared}(I:Inv X pins σ H s):EA X.prog X.w X.K X.mg X.base X.A X.stack s (ax s.heap H):=
 ⟨I.Dk.frames,I.Dk.mod,fun b o e=>⟨(I.Dk.bs b o e).1,aV (I.Dk.bs b o e).2⟩,I.Dk.Et,I.Dk.B9,fun b hb=>aV (I.Dk.DH b hb),jf I.BD,I.Dk.bare⟩
theorem jQ {k:Nat}{f:Nat}{fa:Addr}{fd:FuncData}{ps:List Str}{E:XK}{pins:List (Addr×Obj)}{σ:St}{H:Hp}{s:Shared}{Q:VK}{us:List Value}{vs:List V}{ds:List D}{Fc:Addr->Prop}
  (F:CJ X.prog X.w X.K X.mg X.base CX k fa fd ps (HL X.K cl xp f ps)) (hr:Cs k X.A) (hb:Binds X.K fd ps []) (hx:Passes CX X E)
  (hh:∀ (outer:List Env) (H:Hp) (s:Shared) (E:XK) (e:Value) (s':Shared),BX X.prog X.w H s.heap->(∀ b∈Cg outer,H b=none)->CX outer (ax s.heap H) s E e s'->CX outer H s E e s')
  (I:Inv X pins σ H s) (r:Vals vs us) (hl:vs.length=ps.length) (BJ:Du Fc H) (m:Bo X.K Fc H vs ds)
  (q:Bp (xp E (ax s.heap H)) (cl f (BA ds)) fun d=>∀ v H' F' fv,Out X.K Fc H F' H' v d fv->Q v H'):wpAny (model X.prog X.w) X.A (call (.ref fa) us) (EP X pins σ Q) X.xe s:=by
 have DZ:HL X.K cl xp f ps vs (ax s.heap H) (fun v H'=>Ea s.heap (ax s.heap H) H'->Q v (cq H H')) E:=
  ⟨hl,mW _ _,_,ds,fun a h=>h.2,gv I.BD m,q.mono fun d hd v H' F' fv o p=>hd v _ _ fv (gw I.BD BJ p o)⟩
 have Lb:(us++([]:List Value)).length=ps.length:=by rw[List.append_nil,<- r.length];exact hl
 have bd:=hb s us I.Dv Lb
 rw[List.append_nil] at bd
 refine wpAny_call (codeAny_mono (F.run X.A X.stack s (ax s.heap H) ⟨us,[]⟩ us vs _ E hr I.Ka bd r DZ) fun r' s' hq=>?_)
 cases r' with
 | error e=>exact hx pins σ H s e s' I (hh X.stack H s E e s' I.BD I.Dk.DH hq)
 | ok fl=>
  cases fl with
  | ret u=>
   obtain⟨v,H',a1,a2,a3,a4,a5,a6⟩:=hq
   exact I.after (Q:=Q) ⟨v,cq H H',a1,a2,jg I.BD a3,gq I.BD a4 (cX a3) (fs:=Cg X.stack) (fun b o _ e n f=>a3.keep b o e n f (by simp)) I.Dk.DH,a5,a6 (cX a3)⟩
  | next=>exact False.elim hq
  | brk=>exact False.elim hq
  | cont=>exact False.elim hq
end
def Slots (K:PySem.W.Frag)(S:Addr->Prop)(H:Hp)(σ:St)(τ:Ev)(is:List Nat):Prop:=∀ i∈is,∀ d,ah τ i=some d->∃ v,σ[i]? = some (some v)/\Bq K S H v d
theorem Slots.sub {K:PySem.W.Frag}{S:Addr->Prop}{H:Hp}{σ:St}{τ:Ev}{is js:List Nat}(h:Slots K S H σ τ is)(s:∀ i∈js,i∈is):Slots K S H σ τ js:=fun i hi d e=>h i (s i hi) d e
theorem Slots.left {K:PySem.W.Frag}{S:Addr->Prop}{H:Hp}{σ:St}{τ:Ev}{is js:List Nat}(h:Slots K S H σ τ (is++js)):Slots K S H σ τ is:=h.sub fun _ hi=>List.mem_append_left _ hi
theorem Slots.right {K:PySem.W.Frag}{S:Addr->Prop}{H:Hp}{σ:St}{τ:Ev}{is js:List Nat}(h:Slots K S H σ τ (is++js)):Slots K S H σ τ js:=h.sub fun _ hi=>List.mem_append_right _ hi
theorem Slots.go {K:PySem.W.Frag}{S:Addr->Prop}{H H':Hp}{σ:St}{τ:Ev}{is:List Nat}(h:Slots K S H σ τ is)(e:aj H H'):Slots K (nw S H) H' σ τ is:=fun i hi d z=>by
 obtain⟨v,h1,h2⟩:=h i hi d z
 exact⟨v,h1,h2.mono (fun _=>.inl) e⟩
def RD (K:PySem.W.Frag)(ex:Str->Prop)(is:List Nat)(f:Ev->Res D):TE:=fun σ H Q=>∃ S τ,Slots K S H σ τ is/\Bp ex (f τ) (Kk K S H Q)
def RT (K:PySem.W.Frag)(ex:Str->Prop)(is:List Nat)(f:Ev->Res Bool):TT:=fun σ H Q=>∃ S τ,Slots K S H σ τ is/\Bp ex (f τ) fun b=>∀ H',aj H H'->Q b H'
def RA (K:PySem.W.Frag)(ex:Str->Prop)(is:List Nat)(f:Ev->Res (List D)):TA:=fun σ H Q=>∃ S τ,Slots K S H σ τ is/\Bp ex (f τ) fun ds=>∀ vs H',aj H H'->Bo K (nw S H) H' vs ds->Q vs H'
noncomputable def Jh (K:PySem.W.Frag)(ex:Str->Prop)(is:List Nat)(f:Ev->Res (Option Int)):TO:=fun σ H Q=>∃ S τ,Slots K S H σ τ is/\Bp ex (f τ) fun o=>∀ H',aj H H'->Q o H'
def WS (K:PySem.W.Frag)(S:Addr->Prop)(H:Hp)(k:Zp.Kq)(a:Addr)(xs:List V):Prop:=match k with
 | .l=>(S a/\Rd H a (.lst xs))∨KL K a xs
 | .t=>CF K H a xs
theorem WS.sq {K:PySem.W.Frag}{S:Addr->Prop}{H:Hp}{k:Zp.Kq}{a:Addr}{xs:List V}(h:WS K S H k a xs):Fw K H k a xs:=by
 cases k with
 | l=>exact h.elim (fun z=>.inl z.2) fun z=>z.sq
 | t=>exact h
inductive C6 (K:PySem.W.Frag)(S:Addr->Prop)(H:Hp):It->List D->Prop where
 | lst {a:Addr}{xs:List V}{ds:List D}:S a->Rd H a (.lst xs)->Bo K S H xs ds->C6 K S H (KZ K a) ds
 | lstK {a:Addr}{xs:List V}{ds:List D}:KL K a xs->Bo K S H xs ds->C6 K S H (KZ K a) ds
 | tup {a:Addr}{xs:List V}{ds:List D}:CF K H a xs->Bo K S H xs ds->C6 K S H (LF K a) ds
 | Ft (lo hi:Int):C6 K S H (JE lo (hi - lo).toNat) (bu lo hi)
 | str (x:Str):C6 K S H (Mg x) (bh x)
 | zip {p q:Zp.Kq}{l m:Addr}{xs ys:List V}{ds es:List D}:WS K S H p l xs->WS K S H q m ys->Bo K S H xs ds->Bo K S H ys es->C6 K S H (L6 K p q l m) (dv ds es)
 | D9 {l:Addr}{xs:List V}{ds:List D}:WS K S H .l l xs->Bo K S H xs ds->C6 K S H (L9 K l) (ej ds)
 | rev {l:Addr}{xs:List V}{ds:List D}:WS K S H .l l xs->Bo K S H xs ds->C6 K S H (L' K l xs.length) ds.reverse
def RI (K:PySem.W.Frag)(ex:Str->Prop)(is:List Nat)(f:Ev->Res (List D)):TI:=fun σ H R=>∃ S τ,Slots K S H σ τ is/\Bp ex (f τ) fun ds=>∀ J H',aj H H'->C6 K (nw S H) H' J ds->R J H'
theorem fD {S:Addr->Prop}{H H1:Hp}(e:aj H H1):∀ a,nw (nw S H) H1 a->nw S H a:=fun a h=>by
 rcases h with h|h
 ·exact h
 ·exact .inr (e.free h)
section
variable {Z:Sg}{CX:Cy}{cl:Nat->List D->Res D}{xp:XK->Hp->Str->Prop}{X:Cx}{ex:Str->Prop}{G:Gm}
theorem Kk.fit {K:PySem.W.Frag}{S:Addr->Prop}{H H1:Hp}{Q:VK}{d:D}(e:aj H H1)(h:Kk K S H Q d):Kk K (nw S H) H1 Q d:=fun w H' e' m=>h w H' (e.trans e') (m.mono (fD e) (.refl _))
theorem cf (g:BN Z CX cl xp X ex G){n:Nat}{x:Str}(h:aT Z G n x=true):Gl X x/\Z.name n=some x/\x≠"__name__"/\(x == ("__debug__" : Str))=false:=by
 unfold aT at h
 rw[Bool.and_eq_true] at h
 have e:Z.name n=some x:=eq_of_beq h.1
 exact⟨g.gl n (by simpa using h.2) x e,e,g.E5 n x e⟩
theorem sk (Z:Sg){n:Nat}{x:Str}(h:aN[n]? = some x):Z.name n=some x:=by
 unfold Sg.name
 rw[List.getElem?_append_left (List.getElem?_eq_some_iff.mp h).1]
 exact h
theorem cw (g:BN Z CX cl xp X ex G){n:Nat}{x:Str}(h:aN[n]? = some x)(hc:G.gl.contains n=true):Gl X x/\X.mg x=none/\x≠"__name__"/\(x == ("__debug__" : Str))=false:=
 ⟨g.gl n (by simpa using hc) x (sk Z h),g.blt n x h,g.E5 n x (sk Z h)⟩
theorem af {e:Expr}(h:notStar e=true)(es:List Expr)(env:Env):starEach (e::es) env=(false,eval e env)::starEach es env:=by
 cases e<;>first|rfl|cases h
theorem bj (Z:Sg)(G:Gm):∀ {es:List IR}{l:List Expr} (p:Pos) (env:Env),aO Z G es l=true->(backTo p (starEach l env)).any (·.1)=false
 | [],[],_,_,_=>rfl
 | a::es,e::l,p,env,h=>by
  have h':(notStar e&&Bx Z G a e&&aO Z G es l)=true:=h
  simp only[Bool.and_eq_true] at h'
  rw[af h'.1.1]
  have ih:=bj Z G (es:=es) (l:=l) p env h'.2
  show (false||(backTo p (starEach l env)).any (·.1))=false
  rw[ih]
  rfl
 | [],_::_,_,_,h=>by cases h
 | _::_,[],_,_,h=>by cases h
theorem m7 {d:D}{v:V}(h:∀ S H,Bq X.K S H v d){σ:St}{H:Hp}{Q:VK}{is:List Nat}(q:RD X.K ex is (fun _=>.ok d) σ H Q):Q v H:=by
 obtain⟨S,τ,_,q⟩:=q
 exact q.ok _ _ (.refl _) (h _ _)
theorem yk {e:Expr}{is:List Nat}{f:Ev->Res D}(h:PE X e (RD X.K ex is f))(he:∀ whole,isTrue e X.env whole=(do let v <- whole;standAt e.pos;holding [v] (truthy v))):PT X e (RT X.K ex is fun τ=>Bn (f τ) aB):=by
 intro pins s σ H Q I hw
 obtain⟨S,τ,hs,hw⟩:=hw
 refine isTrue_plain (BG (h pins s σ H (fun v H'=>∃ d,aj H H'/\Bq X.K (nw S H) H' v d/\Bp ex (aB d) fun b=>∀ H',aj H H'->Q b H') I ⟨S,τ,hs,(Bp.Bn hw).mono fun d hd v H' e m=>⟨d,e,m,hd⟩⟩) fun v s1 ⟨x,H1,I1,r1,d,e,m,hd⟩=>?_) (he _)
 exact dN I1 r1 m (hd.mono fun b z=>z H1 e)
end
section
variable {Z:Sg}{CX:Cy}{cl:Nat->List D->Res D}{xp:XK->Hp->Str->Prop}{X:Cx}{ex:Str->Prop}{G:Gm}{K:PySem.W.Frag}{S:Addr->Prop}{H H1:Hp}{σ:St}{τ:Ev}
theorem az {is:List Nat}{f:Ev->Res D}{Kt:D->Prop}{Q:VK}(e:aj H H1)(hs:Slots K S H σ τ is)(h:Bp ex (f τ) Kt)(k:∀ x v H2,aj H H2->aj H1 H2->Bq K (nw S H) H2 v x->Kt x->Q v H2):RD K ex is f σ H1 Q:=
 ⟨nw S H,τ,hs.go e,h.mono fun x hx v H2 e2 m=>k x v H2 (e.trans e2) e2 (m.mono (fD e) (.refl _)) hx⟩
theorem cZ {is:List Nat}{f:Ev->Res Bool}{Kt:Bool->Prop}{Q:Bool->Hp->Prop}(e:aj H H1)(hs:Slots K S H σ τ is)(h:Bp ex (f τ) Kt)(k:∀ x H2,aj H H2->aj H1 H2->Kt x->Q x H2):RT K ex is f σ H1 Q:=
 ⟨nw S H,τ,hs.go e,h.mono fun x hx H2 e2=>k x H2 (e.trans e2) e2 hx⟩
theorem jl {is:List Nat}{f:Ev->Res (List D)}{Kt:List D->Prop}{Q:List V->Hp->Prop}(e:aj H H1)(hs:Slots K S H σ τ is)(h:Bp ex (f τ) Kt)(k:∀ x v H2,aj H H2->aj H1 H2->Bo K (nw S H) H2 v x->Kt x->Q v H2):RA K ex is f σ H1 Q:=
 ⟨nw S H,τ,hs.go e,h.mono fun x hx v H2 e2 m=>k x v H2 (e.trans e2) e2 (m.mono (fD e) (.refl _)) hx⟩
theorem rg {is:List Nat}{f:Ev->Res (Option Int)}{Kt:Option Int->Prop}{Q:Option Int->Hp->Prop}(e:aj H H1)(hs:Slots K S H σ τ is)(h:Bp ex (f τ) Kt)(k:∀ x H2,aj H H2->aj H1 H2->Kt x->Q x H2):Jh K ex is f σ H1 Q:=
 ⟨nw S H,τ,hs.go e,h.mono fun x hx H2 e2=>k x H2 (e.trans e2) e2 hx⟩
theorem Bq.later {v:V}{d:D}{H2:Hp}(h:Bq K (L2.nw S H) H1 v d)(e:aj H1 H2):Bq K (L2.nw S H) H2 v d:=h.mono (fun _ z=>z) e
theorem Bo.later {v:List V}{d:List D}{H2:Hp}(h:Bo K (L2.nw S H) H1 v d)(e:aj H1 H2):Bo K (L2.nw S H) H2 v d:=h.mono (fun _ z=>z) e
theorem Qm (g:BN Z CX cl xp X ex G){i:Nat}{x:Str}{pos:Pos}(h:cY G i x=true):PE X (.Name x pos) (RD X.K ex [i] (Bt cl (.v i))):=by
 unfold cY at h
 rw[Bool.and_eq_true] at h
 have hx:G.N[i]? = some x:=eq_of_beq h.1
 have hk:=g.kd i x hx
 have hv:JA X.env.scope x:=by
  have h2:=h.2
  rw[Bool.or_eq_true,Bool.or_eq_true] at h2
  rcases h2 with (h2|h2)|h2
  ·exact .inl (hk.trans (eq_of_beq h2))
  ·exact .inr (.inl (hk.trans (eq_of_beq h2)))
  ·exact .inr (.inr (hk.trans (eq_of_beq h2)))
 refine ar (lW (i:=i) (by rw[g.N];exact hx) hv (g.Er i x hx).1 (g.Er i x hx).2) fun σ H Q q=>?_
 obtain⟨S,τ,hs,q⟩:=q
 rw[yd] at q
 cases z:ah τ i with
 | none=>rw[z] at q;exact q.no.elim
 | some d=>
  rw[z] at q
  obtain⟨v,h1,h2⟩:=hs i (by simp) d z
  exact⟨v,h1,q.ok _ _ (.refl _) h2.nw⟩
theorem Qn {d:D}{k:Const}{j:Nat}{pos:Pos}(h:yi d k=true):PE X (.Constant k j pos) (RD X.K ex [] (Bt cl (.c d))):=by
 cases d with
 | By=>
  cases k with
  | none=>exact ar uU fun σ H Q q=>m7 (fun _ _=>.By) q
  | _=>cases h
 | bl b=>
  cases k with
  | bool b'=>
   have e:b=b':=eq_of_beq h
   subst e
   exact ar xr fun σ H Q q=>m7 (fun _ _=>.bl _) q
  | _=>cases h
 | int b=>
  cases k with
  | int b'=>
   have e:b=b':=eq_of_beq h
   subst e
   exact ar uT fun σ H Q q=>m7 (fun _ _=>.int _) q
  | _=>cases h
 | str b=>
  cases k with
  | str b'=>
   have e:b=b':=eq_of_beq h
   subst e
   exact ar dR fun σ H Q q=>m7 (fun _ _=>.str _) q
  | _=>cases h
 | tup _=>cases k<;>cases h
 | lst _ _=>cases k<;>cases h
 | exc _=>cases k<;>cases h
 | Bw o ks ds=>cases k<;>cases h
theorem Qo (g:BN Z CX cl xp X ex G){n:Nat}{d:D}{x:Str}{pos:Pos}(h:aT Z G n x=true)(hk:Z.Je.any (fun p=>p.1 == n&&lI p.2 d)=true):PE X (.Name x pos) (RD X.K ex [] (Bt cl (.g n d))):=by
 obtain⟨h1,h2,h3,h4⟩:=cf g h
 rw[List.any_eq_true] at hk
 obtain⟨⟨m,d'⟩,hm,hk⟩:=hk
 rw[Bool.and_eq_true] at hk
 have e1:m=n:=eq_of_beq hk.1
 have e2:d'=d:=jP hk.2
 subst e1 e2
 obtain⟨u,v,hu,r,hr⟩:=g.cst m d' x hm h2
 exact ar (jD h1 hu r h4) fun σ H Q q=>m7 hr q
theorem yl {op:FW}{a b:Expr}{pos:Pos}{va vb:List Nat}{fa fb:Ev->Res D}(ha:PE X a (RD X.K ex va fa))(hb:PE X b (RD X.K ex vb fb)) :
  PE X (.BinOp a (GG op) b pos) (RD X.K ex (va++vb) fun τ=>Bn (fa τ) fun x=>Bn (fb τ) fun y=>C4 op x y):=by
 refine ar (me (vK (ex:=ex) op) ha hb) fun σ H Q ⟨S,τ,hs,q⟩=>?_
 refine az (.refl _) hs.left (Bp.Bn q) fun x v H1 e1 _ m1 q1=>?_
 refine az e1 hs.right (Bp.Bn q1) fun y w H2 e2 Ci m2 q2=>?_
 exact⟨nw S H,x,y,m1.later Ci,m2,q2.mono fun d hd=>hd.fit e2⟩
theorem ym {a:Expr}{pos:Pos}{va:List Nat}{fa:Ev->Res D}(ha:PE X a (RD X.K ex va fa)) :
  PE X (.UnaryOp .USub a pos) (RD X.K ex va fun τ=>Bn (fa τ) fun|.int i=>.ok (.int (-i))|_=>Bu):=by
 refine ar (xE vi ha) fun σ H Q ⟨S,τ,hs,q⟩=>?_
 refine az (.refl _) hs (Bp.Bn q) fun x v H1 e1 _ m1 q1=>?_
 cases x with
 | int i=>cases m1.BH;exact⟨i,rfl,q1.ok _ _ e1 (.int _)⟩
 | _=>exact q1.no.elim
theorem yn (g:BN Z CX cl xp X ex G){op:Dx}{a b:Expr}{pos:Pos}{va vb:List Nat}{fa fb:Ev->Res D}(ha:PE X a (RD X.K ex va fa))(hb:PE X b (RD X.K ex vb fb))(hm:behindInMarks (DP op) b=false) :
  PE X (.Compare a [DP op] [b] pos) (RD X.K ex (va++vb) fun τ=>Bn (fa τ) fun x=>Bn (fb τ) fun y=>Bn (C9 op x y) fun r=>.ok (.bl r))/\
  PT X (.Compare a [DP op] [b] pos) (RT X.K ex (va++vb) fun τ=>Bn (Bn (fa τ) fun x=>Bn (fb τ) fun y=>Bn (C9 op x y) fun r=>.ok (.bl r)) aB):=by
 refine⟨ar (qm (dw (ex:=ex) g.un op) ha hb hm) fun σ H Q ⟨S,τ,hs,q⟩=>?_,cK (qo (dw (ex:=ex) g.un op) ha hb hm) fun σ H Q ⟨S,τ,hs,q⟩=>?_⟩
 ·refine az (.refl _) hs.left (Bp.Bn q) fun x v H1 e1 _ m1 q1=>?_
  refine az e1 hs.right (Bp.Bn q1) fun y w H2 e2 Ci m2 q2=>?_
  exact⟨nw S H,x,y,m1.later Ci,m2,(Bp.Bn q2).mono fun d hd=>hd.ok _ _ e2 (.bl _)⟩
 ·refine az (.refl _) hs.left (Bp.Bn (Bp.Bn q)) fun x v H1 e1 _ m1 q1=>?_
  refine az e1 hs.right (Bp.Bn q1) fun y w H2 e2 Ci m2 q2=>?_
  exact⟨nw S H,x,y,m1.later Ci,m2,(Bp.Bn q2).mono fun d hd=>⟨d,rfl,hd.ok.ok H2 e2⟩⟩
theorem rh (g:BN Z CX cl xp X ex G){op Cb:Dx}{a b c:Expr}{pos:Pos}{va vb vc:List Nat}{fa fb fc:Ev->Res D}(ha:PE X a (RD X.K ex va fa))(hb:PE X b (RD X.K ex vb fb))(hc:PE X c (RD X.K ex vc fc))
  (hm:lastMarks [DP op,DP Cb] [b,c]=false) :
  PE X (.Compare a [DP op,DP Cb] [b,c] pos) (RD X.K ex (va++vb++vc) fun τ=>Bn (fa τ) fun x=>Bn (fb τ) fun y=>Bn (C9 op x y) fun r=>if r=true then Bn (fc τ) fun z=>Bn (C9 Cb y z) fun r'=>.ok (.bl r') else .ok (.bl false))/\
  PT X (.Compare a [DP op,DP Cb] [b,c] pos) (RT X.K ex (va++vb++vc) fun τ=>Bn (Bn (fa τ) fun x=>Bn (fb τ) fun y=>Bn (C9 op x y) fun r=>if r=true then Bn (fc τ) fun z=>Bn (C9 Cb y z) fun r'=>.ok (.bl r') else .ok (.bl false)) aB):=by
 refine⟨ar (mh (dw (ex:=ex) g.un op) (dw (ex:=ex) g.un Cb) ha hb hc hm) fun σ H Q ⟨S,τ,hs,q⟩=>?_,cK (mi (dw (ex:=ex) g.un op) (dw (ex:=ex) g.un Cb) ha hb hc hm) fun σ H Q ⟨S,τ,hs,q⟩=>?_⟩
 ·refine az (.refl _) hs.left.left (Bp.Bn q) fun x v H1 e1 _ m1 q1=>?_
  refine az e1 hs.left.right (Bp.Bn q1) fun y w H2 e2 Ci m2 q2=>?_
  refine⟨nw S H,x,y,m1.later Ci,m2,(Bp.Bn q2).mono fun d hd=>⟨d,rfl,?_⟩⟩
  cases d with
  | false=>rw[if_neg Bool.false_ne_true] at hd ⊢;exact hd.ok _ _ e2 (.bl _)
  | true=>
   rw[if_pos rfl] at hd ⊢
   refine az e2 hs.right (Bp.Bn hd) fun z w' H3 e3 F3 m3 q3=>?_
   exact⟨nw S H,y,z,m2.later F3,m3,(Bp.Bn q3).mono fun d hd=>hd.ok _ _ e3 (.bl _)⟩
 ·refine az (.refl _) hs.left.left (Bp.Bn (Bp.Bn q)) fun x v H1 e1 _ m1 q1=>?_
  refine az e1 hs.left.right (Bp.Bn q1) fun y w H2 e2 Ci m2 q2=>?_
  refine⟨nw S H,x,y,m1.later Ci,m2,(Bp.Bn q2).mono fun d hd=>⟨d,rfl,?_⟩⟩
  cases d with
  | false=>rw[if_neg Bool.false_ne_true] at hd ⊢;exact⟨false,rfl,hd.ok.ok _ e2⟩
  | true=>
   rw[if_pos rfl] at hd ⊢
   refine az e2 hs.right (Bp.Bn hd) fun z w' H3 e3 F3 m3 q3=>?_
   exact⟨nw S H,y,z,m2.later F3,m3,(Bp.Bn q3).mono fun d hd=>⟨d,rfl,hd.ok.ok _ e3⟩⟩
theorem so {a b:Expr}{rest:List Expr}{pos:Pos}{va vb:List Nat}{fa fb:Ev->Res D}(ha:PE X a (RD X.K ex va fa))(hb:PE X (.BoolOp .And (b::rest) pos) (RD X.K ex vb fb)) :
  PE X (.BoolOp .And (a::b::rest) pos) (RD X.K ex (va++vb) fun τ=>Bn (fa τ) fun x=>Bn (aB x) fun r=>if r=true then fb τ else .ok x):=by
 intro pins s σ H Q I h
 obtain⟨S,τ,hs,q⟩:=h
 refine BoolOp_and (BG (ha pins s σ H (fun v H'=>∃ d,aj H H'/\Bq X.K (nw S H) H' v d/\_) I (az (.refl _) hs.left (Bp.Bn q) fun x v H1 e1 _ m1 q1=>⟨x,e1,m1,q1⟩)) fun v s1 ⟨x,H1,I1,r1,d,e1,m1,q1⟩=>?_)
 refine BG (dN (Q:=fun b H'=>H'=H1/\Bp ex (if b=true then fb τ else .ok d) (Kk X.K S H Q)) I1 r1 m1 ((Bp.Bn q1).mono fun b z=>⟨rfl,z⟩)) fun c s2 ⟨H2,I2,e2,q2⟩=>?_
 subst e2
 cases c with
 | true=>
  rw[if_pos rfl] at q2 ⊢
  exact hb pins s2 σ _ Q I2 (az e1 hs.right q2 fun y w H3 e3 _ m3 q3=>q3 _ _ e3 m3)
 | false=>
  rw[if_neg Bool.false_ne_true] at q2 ⊢
  exact⟨x,_,I2,r1,q2.ok _ _ e1 m1⟩
theorem yo {a b:Expr}{rest:List Expr}{pos:Pos}{va vb:List Nat}{fa fb:Ev->Res D}(ha:PE X a (RD X.K ex va fa))(hb:PE X (.BoolOp .Or (b::rest) pos) (RD X.K ex vb fb)) :
  PE X (.BoolOp .Or (a::b::rest) pos) (RD X.K ex (va++vb) fun τ=>Bn (fa τ) fun x=>Bn (aB x) fun r=>if r=true then .ok x else fb τ):=by
 intro pins s σ H Q I h
 obtain⟨S,τ,hs,q⟩:=h
 refine BoolOp_or (BG (ha pins s σ H (fun v H'=>∃ d,aj H H'/\Bq X.K (nw S H) H' v d/\_) I (az (.refl _) hs.left (Bp.Bn q) fun x v H1 e1 _ m1 q1=>⟨x,e1,m1,q1⟩)) fun v s1 ⟨x,H1,I1,r1,d,e1,m1,q1⟩=>?_)
 refine BG (dN (Q:=fun b H'=>H'=H1/\Bp ex (if b=true then .ok d else fb τ) (Kk X.K S H Q)) I1 r1 m1 ((Bp.Bn q1).mono fun b z=>⟨rfl,z⟩)) fun c s2 ⟨H2,I2,e2,q2⟩=>?_
 subst e2
 cases c with
 | false=>
  rw[if_neg Bool.false_ne_true] at q2 ⊢
  exact hb pins s2 σ _ Q I2 (az e1 hs.right q2 fun y w H3 e3 _ m3 q3=>q3 _ _ e3 m3)
 | true=>
  rw[if_pos rfl] at q2 ⊢
  exact⟨x,_,I2,r1,q2.ok _ _ e1 m1⟩
theorem yp {a:Expr}{pos:Pos}{va:List Nat}{fa:Ev->Res D}(ha:PE X a (RD X.K ex va fa))(ht:PT X a (RT X.K ex va fun τ=>Bn (fa τ) aB)) :
  PE X (.UnaryOp .Not a pos) (RD X.K ex va fun τ=>Bn (fa τ) fun x=>Bn (aB x) fun r=>.ok (.bl !r))/\PT X (.UnaryOp .Not a pos) (RT X.K ex va fun τ=>Bn (Bn (fa τ) fun x=>Bn (aB x) fun r=>.ok (.bl !r)) aB):=by
 constructor
 ·intro pins s σ H Q I h
  obtain⟨S,τ,hs,q⟩:=h
  refine UnaryOp_ (BG (ha pins s σ H (fun v H'=>∃ d,aj H H'/\Bq X.K (nw S H) H' v d/\_) I (az (.refl _) hs (Bp.Bn q) fun x v H1 e1 _ m1 q1=>⟨x,e1,m1,q1⟩)) fun v s1 ⟨x,H1,I1,r1,d,e1,m1,q1⟩=>?_)
  refine not_of (BG (dN (Q:=fun b H'=>Q (.bl !b) H') I1 r1 m1 ((Bp.Bn q1).mono fun b z=>z.ok _ _ e1 (.bl _))) fun c s2 ⟨H2,I2,q2⟩=>⟨.bl !c,H2,I2,rfl,q2⟩)
 ·refine cK (uX ht) fun σ H Q ⟨S,τ,hs,q⟩=>?_
  exact cZ (.refl _) hs (Bp.mk ((Bp.Bn (Bp.Bn q)).mono fun x hx=>(Bp.Bn hx).mono fun r hr=>hr.ok.ok)) fun x H2 e2 _ k=>k H2 e2
theorem ng {e:Expr}{pos:Pos}{op:BoolOp}{es:List Expr}{t:TT}(h:PT X (.BoolOp op es pos) t):PW X (.BoolOp op es pos) t:=fun _ pins s σ H Q I q=>h pins s σ H Q I q
theorem sr {a b:Expr}{rest:List Expr}{pos:Pos}{va vb:List Nat}{fa fb:Ev->Res D}(ha:PT X a (RT X.K ex va fun τ=>Bn (fa τ) aB))(hb:PW X (.BoolOp .And (b::rest) pos) (RT X.K ex vb fun τ=>Bn (fb τ) aB)) :
  PT X (.BoolOp .And (a::b::rest) pos) (RT X.K ex (va++vb) fun τ=>Bn (Bn (fa τ) fun x=>Bn (aB x) fun r=>if r=true then fb τ else .ok x) aB):=by
 refine cK (uW ha hb).pt fun σ H Q ⟨S,τ,hs,q⟩=>?_
 refine cZ (.refl _) hs.left (Kt:=fun r=>Bp ex (if r=true then Bn (fb τ) aB else .ok false) fun b=>∀ H',aj H H'->Q b H') (Bp.mk ((Bp.Bn (Bp.Bn q)).mono fun x hx=>(Bp.Bn hx).eq.mono fun r hr=>?_)) fun r H2 e2 _ k=>?_
 ·obtain⟨er,hr⟩:=hr
  cases r with
  | true=>rw[if_pos rfl] at hr ⊢;exact Bp.mk hr
  | false=>
   rw[if_neg Bool.false_ne_true] at hr ⊢
   have G8:Bp ex (aB x) _:=hr
   rw[er] at G8
   exact G8
 ·cases r with
  | true=>rw[if_pos rfl] at k ⊢;exact cZ e2 hs.right k fun b H3 e3 _ z=>z H3 e3
  | false=>rw[if_neg Bool.false_ne_true] at k ⊢;exact k.ok H2 e2
theorem yq {a b:Expr}{rest:List Expr}{pos:Pos}{va vb:List Nat}{fa fb:Ev->Res D}(ha:PT X a (RT X.K ex va fun τ=>Bn (fa τ) aB))(hb:PW X (.BoolOp .Or (b::rest) pos) (RT X.K ex vb fun τ=>Bn (fb τ) aB)) :
  PT X (.BoolOp .Or (a::b::rest) pos) (RT X.K ex (va++vb) fun τ=>Bn (Bn (fa τ) fun x=>Bn (aB x) fun r=>if r=true then .ok x else fb τ) aB):=by
 refine cK (xw ha hb).pt fun σ H Q ⟨S,τ,hs,q⟩=>?_
 refine cZ (.refl _) hs.left (Kt:=fun r=>Bp ex (if r=true then .ok true else Bn (fb τ) aB) fun b=>∀ H',aj H H'->Q b H') (Bp.mk ((Bp.Bn (Bp.Bn q)).mono fun x hx=>(Bp.Bn hx).eq.mono fun r hr=>?_)) fun r H2 e2 _ k=>?_
 ·obtain⟨er,hr⟩:=hr
  cases r with
  | false=>rw[if_neg Bool.false_ne_true] at hr ⊢;exact Bp.mk hr
  | true=>
   rw[if_pos rfl] at hr ⊢
   have G8:Bp ex (aB x) _:=hr
   rw[er] at G8
   exact G8
 ·cases r with
  | false=>rw[if_neg Bool.false_ne_true] at k ⊢;exact cZ e2 hs.right k fun b H3 e3 _ z=>z H3 e3
  | true=>rw[if_pos rfl] at k ⊢;exact k.ok H2 e2
theorem yr {c a b:Expr}{pos:Pos}{vc va vb:List Nat}{fc fa fb:Ev->Res D}(hc:PT X c (RT X.K ex vc fun τ=>Bn (fc τ) aB))(ha:PE X a (RD X.K ex va fa))(hb:PE X b (RD X.K ex vb fb))
  (ta:PT X a (RT X.K ex va fun τ=>Bn (fa τ) aB)) (tb:PT X b (RT X.K ex vb fun τ=>Bn (fb τ) aB)) :
  PE X (.IfExp c a b pos) (RD X.K ex (vc++va++vb) fun τ=>Bn (fc τ) fun x=>Bn (aB x) fun r=>if r=true then fa τ else fb τ)/\
  PT X (.IfExp c a b pos) (RT X.K ex (vc++va++vb) fun τ=>Bn (Bn (fc τ) fun x=>Bn (aB x) fun r=>if r=true then fa τ else fb τ) aB):=by
 constructor
 ·refine ar (gO hc ha hb) fun σ H Q ⟨S,τ,hs,q⟩=>?_
  refine cZ (.refl _) hs.left.left (Bp.mk ((Bp.Bn q).mono fun x hx=>Bp.Bn hx)) fun r H2 e2 _ k=>?_
  cases r with
  | true=>rw[if_pos rfl] at k ⊢;exact az e2 hs.left.right k fun y w H3 e3 _ m3 q3=>q3 _ _ e3 m3
  | false=>rw[if_neg Bool.false_ne_true] at k ⊢;exact az e2 hs.right k fun y w H3 e3 _ m3 q3=>q3 _ _ e3 m3
 ·intro pins s σ H Q I h
  obtain⟨S,τ,hs,q⟩:=h
  refine isTrue_IfExp (BG (hc pins s σ H (fun r H2=>aj H H2/\Bp ex (if r=true then fa τ else fb τ) fun d=>Bp ex (aB d) fun b=>∀ H',aj H H'->Q b H') I
   (cZ (.refl _) hs.left.left (Bp.mk ((Bp.Bn (Bp.Bn q)).mono fun x hx=>Bp.Bn hx)) fun r H2 e2 _ k=>⟨e2,k⟩)) fun d s1 ⟨H1,I1,e1,q1⟩=>?_)
  cases d with
  | true=>rw[if_pos rfl] at q1;exact ta pins s1 σ H1 Q I1 (cZ e1 hs.left.right (Bp.mk q1) fun b H3 e3 _ z=>z H3 e3)
  | false=>rw[if_neg Bool.false_ne_true] at q1;exact tb pins s1 σ H1 Q I1 (cZ e1 hs.right (Bp.mk q1) fun b H3 e3 _ z=>z H3 e3)
theorem yt {es:List Expr}{n:Nat}{pos:Pos}{va:List Nat}{fa:Ev->Res (List D)}(h:PA X es (RA X.K ex va fa)):PE X (.Tuple es n pos) (RD X.K ex va fun τ=>Bn (fa τ) fun ds=>Bv (aQ ds.length) (.ok (.tup ds))):=by
 refine ar (i4 h) fun σ H Q ⟨S,τ,hs,q⟩=>?_
 refine jl (.refl _) hs (Bp.Bn q) fun ds vs H1 e1 _ m1 q1=>?_
 obtain⟨g,q1⟩:=Bp.Bv q1
 exact⟨by rw[m1.length];exact aP g,fun p hp=>q1.ok _ _ (e1.trans (.upd hp)) ((vJ hp m1).mono (fD e1) (.refl _))⟩
theorem yu {es:List Expr}{pos:Pos}{va:List Nat}{fa:Ev->Res (List D)}(h:PA X es (RA X.K ex va fa)):PE X (.List es pos) (RD X.K ex va fun τ=>Bn (fa τ) fun ds=>Bv (aQ ds.length) (.ok (.lst true ds))):=by
 refine ar (ml h) fun σ H Q ⟨S,τ,hs,q⟩=>?_
 refine jl (.refl _) hs (Bp.Bn q) fun ds vs H1 e1 _ m1 q1=>?_
 obtain⟨g,q1⟩:=Bp.Bv q1
 exact⟨by rw[m1.length];exact aP g,fun p hp=>q1.ok _ _ (e1.trans (.upd hp)) ((mO hp m1).mono (fD e1) (.refl _))⟩
theorem yv {a b:Expr}{pos:Pos}{va vb:List Nat}{fa fb:Ev->Res D}(ha:PE X a (RD X.K ex va fa))(hb:PE X b (RD X.K ex vb fb))(hp:ba b=true) :
  PE X (.Subscript a b pos) (RD X.K ex (va++vb) fun τ=>Bn (fa τ) fun x=>Bn (fb τ) fun y=>aK x y):=by
 refine ar (xH (qU (ex:=ex)) ha hb fun o i=>by cases b<;>first|rfl|cases hp) fun σ H Q ⟨S,τ,hs,q⟩=>?_
 refine az (.refl _) hs.left (Bp.Bn q) fun x v H1 e1 _ m1 q1=>?_
 refine az e1 hs.right (Bp.Bn q1) fun y w H2 e2 Ci m2 q2=>?_
 exact⟨nw S H,x,y,m1.later Ci,m2,q2.mono fun d hd=>hd.fit e2⟩
theorem Bf {a:Expr}{lo hi:Option Expr}{pos p2:Pos}{va vl vh:List Nat}{fa:Ev->Res D}{fl fh:Ev->Res (Option Int)}(ha:PE X a (RD X.K ex va fa))(hl:PO X lo (Jh X.K ex vl fl))(hh:PO X hi (Jh X.K ex vh fh)) :
  PE X (.Subscript a (.Slice lo hi none p2) pos) (RD X.K ex (va++vl++vh) fun τ=>Bn (fa τ) fun x=>Bn (fl τ) fun l=>Bn (fh τ) fun h=>gc x l h):=by
 refine ar (gS (qV (ex:=ex)) ha hl hh) fun σ H Q ⟨S,τ,hs,q⟩=>?_
 refine az (.refl _) hs.left.left (Bp.Bn q) fun x v H1 e1 _ m1 q1=>?_
 refine rg e1 hs.left.right (Bp.Bn q1) fun l H2 e2 Ci q2=>?_
 refine rg e2 hs.right (Bp.Bn q2) fun h H3 e3 F3 q3=>?_
 exact⟨nw S H,x,m1.later (Ci.trans F3),q3.mono fun d hd=>hd.fit e3⟩
theorem s_call (g:BN Z CX cl xp X ex G){f:Nat}{x:Str}{p pos:Pos}{es:List IR}{args:List Expr}(h1:aT Z G f x=true)(h2:Z.Ha G f=true)(BU:aO Z G es args=true)(h:PA X args (RA X.K ex (av es) (aI cl es))) :
  PE X (.Call (.Name x p) args [] pos) (RD X.K ex (av es) fun τ=>Bn (aI cl es τ) fun ds=>cl f (BA ds)):=by
 obtain⟨k1,k2,k3,k4⟩:=cf g h1
 obtain⟨k,Kb,fd,ps,hm,F4,hb,F,hr,hlen⟩:=(g.fns f (gr h2).1 (gr h2).2 x k2).ex
 obtain⟨E,hP,hE⟩:=g.Jg
 intro pins s σ H Q I q
 obtain⟨S,τ,hs,q⟩:=q
 have fin:∀ (us:List Value) (s1:Shared) (vs:List V) (H1:Hp) (ds:List D),Inv X pins σ H1 s1->Vals vs us->aj H H1->Bo X.K (nw S H) H1 vs ds->Bp ex (cl f (BA ds)) (Kk X.K S H Q)->wpAny (model X.prog X.w) X.A (call (.ref Kb) us) (EP X pins σ Q) X.xe s1:=by
  intro us s1 vs H1 ds I1 r e m q1
  have hl:=hlen ex _ _ q1
  rw[bg] at hl
  refine jQ F hr hb hP g.Fe I1 r (by rw[m.length];exact hl) (Fc:=fun a=>nw S H a/\H1 a≠none) (fun a z=>z.2) m.D7 ?_
  cases z:cl f (BA ds) with
  | error er=>
   rw[z] at q1
   cases er with
   | stuck=>exact q1.no.elim
   | exc c=>exact hE c _ q1
  | ok d=>
   rw[z] at q1
   intro v H' F' fv o
   refine q1.ok _ _ (e.trans o.same) (o.rep.read (fun a ha=>?_) fun a ha=>?_)
   ·rcases o.out a ha with z|z
    ·exact z.1
    ·exact .inr (e.free z)
   ·exact .inr (e.free (o.new a ha))
 refine wpAny_Call_Name_kw (bU I k1 hm ?_ k4)
 cases args with
 | nil=>
  cases es with
  | cons _ _=>cases BU
  | nil=>
   exact PySem.W.callWith_K0 I.Dv F4 (fin [] s [] H [] I .nil (.refl _) .nil q)
 | cons e l=>
  cases es with
  | nil=>cases BU
  | cons a es=>
   have BW:(notStar e&&Bx Z G a e&&aO Z G es l)=true:=BU
   simp only[Bool.and_eq_true] at BW
   refine PySem.W.callWith_K (h₀:=X.base) I.ok.mod.Ht F4 (BG (h pos pins s σ H (fun vs H1=>∃ ds,aj H H1/\Bo X.K (nw S H) H1 vs ds/\Bp ex (cl f (BA ds)) (Kk X.K S H Q)) I ⟨S,τ,hs,(Bp.Bn q).mono fun ds hd vs H1 e m=>⟨ds,e,m,hd⟩⟩) fun us s1 ⟨vs,H1,I1,r,ds,e,m,q1⟩=>⟨I1.Dv,?_⟩) (af BW.1.1 l X.env) (bj Z G (es:=es) pos X.env BW.2)
   exact fin us s1 vs H1 ds I1 r e m q1
theorem Bg (g:BN Z CX cl xp X ex G){f:Bi}{p pos:Pos}{es:List IR}{a:Expr}{args:List Expr}(hg:G.F0 (jN f)=true)(BU:aO Z G es (a::args)=true)(h:PA X (a::args) (RA X.K ex (av es) (aI cl es))) :
  PE X (.Call (.Name (dz f) p) (a::args) [] pos) (RD X.K ex (av es) fun τ=>Bn (aI cl es τ) fun ds=>cH f ds):=by
 obtain⟨k1,k2,k3,k4⟩:=cw g (vO f) (mX hg)
 cases es with
 | nil=>cases BU
 | cons b es=>
  have BW:(notStar a&&Bx Z G b a&&aO Z G es args)=true:=BU
  simp only[Bool.and_eq_true] at BW
  have mono:∀ σ H Q,RD X.K ex (av (b::es)) (fun τ=>Bn (aI cl (b::es) τ) fun ds=>cH f ds) σ H Q->LK (N4 X.K ex f) (RA X.K ex (av (b::es)) (aI cl (b::es))) σ H Q:=by
   rintro σ H Q ⟨S,τ,hs,q⟩
   refine jl (.refl _) hs (Bp.Bn q) fun ds vs H1 e1 _ m1 q1=>?_
   exact⟨nw S H,ds,m1,q1.mono fun d hd=>hd.fit e1⟩
  refine ar ?_ mono
  have hv:=qW f
  have hc:=qX (X:=X) (ex:=ex) (g.calm (mY hg)) f
  unfold mS at hv hc
  cases z:yg f with
  | true=>
   rw[z,if_pos rfl] at hv hc
   exact kZ hc k1 k2 hv h k3 k4 (af BW.1.1 args X.env) (bj Z G (es:=es) pos X.env BW.2)
  | false=>
   rw[z,if_neg Bool.false_ne_true] at hv hc
   exact cR hc k1 k2 hv h k3 k4 (af BW.1.1 args X.env) (bj Z G (es:=es) pos X.env BW.2)
noncomputable def Mk:Kd->V
 | .str=>.ty "str" | .int=>.ty "int" | .bool=>.ty "bool" | .list=>.ty "list" | .tuple=>.ty "tuple"
theorem jR (k:Kd):RelV (Mk k) (mT k):=by cases k<;>rfl
theorem nh (k:Kd):bD X (.builtin "isinstance") (fun xs H Q=>∃ S x d,xs=[x,Mk k]/\Bq X.K S H x d/\dt d=true/\Q (.bl (aU k d)) H):=by
 intro pins s σ H xs us Q I r h
 obtain⟨S,x,d,rfl,m,hn,q⟩:=h
 obtain⟨u,w',rfl,r1,r2⟩:=vals2 r
 have e:w'=mT k:=by
  have:=r2.abs
  have h2:=(jR k).abs
  cases k<;>(revert r2;intro r2;exact r2)
 subst e
 exact ra I r1 m k hn q
theorem yy (g:BN Z CX cl xp X ex G){k:Kd}{e:Expr}{p p' pos:Pos}{va:List Nat}{fa:Ev->Res D}(hg:G.gl.contains 14=true)(hk:G.gl.contains (jO k)=true)(hn:notStar e=true)(ha:PE X e (RD X.K ex va fa)) :
  PE X (.Call (.Name "isinstance" p) [e,.Name (cM k) p'] [] pos) (RD X.K ex va fun τ=>Bn (fa τ) fun x=>Bv (dt x) (.ok (.bl (aU k x)))):=by
 obtain⟨k1,k2,k3,k4⟩:=cw g (show aN[14]? = some ("isinstance" : Str) from rfl) hg
 obtain⟨j1,j2,j3,j4⟩:=cw g (vP k) hk
 have pa:PA X [e,.Name (cM k) p'] (cu (RD X.K ex va fa) (cu (tC (Mk k)) i3)):=ay ha (ay (jE j1 j2 (qY k) (jR k) j3 j4) aX rfl) (af hn _ _)
 refine ar (cR (nh k) k1 k2 PyProof.Rows.boot_isinstance pa k3 k4 (af hn _ _) rfl) fun σ H Q ⟨S,τ,hs,q⟩=>?_
 refine az (.refl _) hs (Bp.Bn q) fun x v H1 e1 _ m1 q1=>?_
 obtain⟨gd,q1⟩:=Bp.Bv q1
 exact⟨nw S H,v,x,rfl,m1,gd,q1.ok _ _ e1 (.bl _)⟩
theorem ni (g:BN Z CX cl xp X ex G){n:Nat}{z:Str}{p:Pos}(h:aT Z G n z=true)(hc:Z.cls.contains n=true):∃ v,CV X z v/\PE X (.Name z p) (tC v):=by
 obtain⟨k1,k2,k3,k4⟩:=cf g h
 obtain⟨v,hv⟩:=g.Fm n (by simpa using hc) z k2
 refine⟨v,hv,?_⟩
 rcases hv with ⟨C,rfl,h1⟩|⟨T,rfl,h1,h2⟩
 ·exact jD k1 h1 rfl k4
 ·exact jE k1 h1 h2 rfl k3 k4
theorem ir {tb:List (Str×Bool)}{d:D}{k:D->Prop}(h:Bp ex (vG tb d) k):∃ c b,d=.exc c/\tb.lookup c=some b/\k (.bl b):=by
 cases d with
 | exc c=>
  have h':Bp ex (match tb.lookup c with|some b=>.ok (.bl b)|none=>Bu) k:=h
  cases z:tb.lookup c with
  | none=>rw[z] at h';exact h'.no.elim
  | some b=>rw[z] at h';exact⟨c,b,rfl,z,h'.ok⟩
 | _=>exact h.no.elim
theorem Bq.Kc {K:PySem.W.Frag}{S:Addr->Prop}{H:Hp}{v:V}{c:Str}(h:Bq K S H v (.exc c)):∃ a,v=.ref a/\B5 K H a (.inr c):=by
 cases h with
 | exc h=>exact⟨_,rfl,h⟩
theorem lL {v2:V}{z:Str}(hv:CV X z v2):bD X (.builtin "isinstance") (fun xs H Q=>∃ a c C b,xs=[.ref a,v2]/\B5 X.K H a (.inr c)/\PySem.W.nsIn X.K mainGlobals c=some (some (.ref C))/\ExcAt X.K C/\PySem.W.kitOne X.K (.ref C) (vv v2)=some b/\Q (.bl b) H):=by
 intro pins s σ H xs us Q I r h
 obtain⟨a,c,C,b,rfl,h1,h2,h3,h4,q⟩:=h
 obtain⟨u,w',rfl,r1,r2⟩:=vals2 r
 cases r1
 rw[hv.rel r2]
 exact rb I h1 h2 h3 h4 q
theorem lM {v1 v2:V}{z y:Str}(hv:CV X z v1)(hw:CV X y v2):bD X (.builtin "isinstance") (fun xs H Q=>∃ a p c C b,xs=[.ref a,.ref p]/\B5 X.K H a (.inr c)/\CF X.K H p [v1,v2]/\PySem.W.nsIn X.K mainGlobals c=some (some (.ref C))/\ExcAt X.K C/\PySem.W.kitAny X.K (.ref C) [vv v1,vv v2]=some b/\Q (.bl b) H):=by
 intro pins s σ H xs us Q I r h
 obtain⟨a,p,c,C,b,rfl,h1,hp,h2,h3,h4,q⟩:=h
 obtain⟨u,w',rfl,r1,r2⟩:=vals2 r
 cases r1
 cases r2
 exact rf I h1 h2 h3 hv hw hp h4 q
theorem lookup_mem {tb:List (Str×Bool)}{c:Str}{b:Bool}(h:tb.lookup c=some b):(c,b)∈tb:=by
 induction tb with
 | nil=>cases h
 | cons p r ih=>
  rw[List.lookup_cons] at h
  split at h
  ·rename_i hb
   cases h
   have:c=p.1:=eq_of_beq hb
   subst this
   exact List.mem_cons_self ..
  ·exact List.mem_cons_of_mem _ (ih h)
theorem yz (g:BN Z CX cl xp X ex G){ns:List Nat}{tb:List (Str×Bool)}{e y:Expr}{p pos:Pos}{va:List Nat}{fa:Ev->Res D}(hg:G.gl.contains 14=true)(hn:notStar e=true)(hc:mZ Z G ns y=true)(ht:tb.all (vR Z ns)=true)(ha:PE X e (RD X.K ex va fa)) :
  PE X (.Call (.Name "isinstance" p) [e,y] [] pos) (RD X.K ex va fun τ=>Bn (fa τ) (vG tb)):=by
 obtain⟨k1,k2,k3,k4⟩:=cw g (show aN[14]? = some ("isinstance" : Str) from rfl) hg
 rw[List.all_eq_true] at ht
 cases ns with
 | nil=>exact aa hc
 | cons n r=>
 cases r with
 | nil=>
  obtain⟨z,p',rfl,FK⟩:=ji (show GJ (fun z=>aT Z G n z&&Z.cls.contains n) y=true from hc)
  rw[Bool.and_eq_true] at FK
  obtain⟨v,hv,pv⟩:=ni (p:=p') g FK.1 FK.2
  obtain⟨_,j2,_,_⟩:=cf g FK.1
  have pa:PA X [e,.Name z p'] (cu (RD X.K ex va fa) (cu (tC v) i3)):=ay ha (ay pv aX rfl) (af hn _ _)
  refine ar (cR (lL hv) k1 k2 PyProof.Rows.boot_isinstance pa k3 k4 (af hn _ _) rfl) fun σ H Q ⟨S,τ,hs,q⟩=>?_
  refine az (.refl _) hs (Bp.Bn q) fun x w H1 e1 _ m1 q1=>?_
  obtain⟨c,b,rfl,hl,q2⟩:=ir q1
  obtain⟨a,rfl,hx⟩:=m1.Kc
  have hm:(c,n,b)∈Z.xt:=by simpa using show Z.xt.contains (c,n,b)=true from ht (c,b) (lookup_mem hl)
  obtain⟨C,h1,h2,h3⟩:=g.EJ c n b z hm j2
  exact⟨a,c,C,b,rfl,hx,h1,h2,h3 v hv,q2 _ _ e1 (.bl _)⟩
 | cons m r=>
 cases r with
 | cons _ _=>exact aa hc
 | nil=>
  obtain⟨es,tn,JX,rfl,hc⟩:=vQ (show Mh (yj fun a b=>GJ (fun z=>aT Z G n z&&Z.cls.contains n) a&&GJ (fun y=>aT Z G m y&&Z.cls.contains m) b) y=true from hc)
  cases es with
  | nil=>exact aa hc
  | cons z1 es=>
  cases es with
  | nil=>exact aa hc
  | cons z2 es=>
  cases es with
  | cons _ _=>exact aa hc
  | nil=>
  obtain⟨Qp,Qq⟩:=Bool.and_eq_true_iff.mp (show (GJ (fun z=>aT Z G n z&&Z.cls.contains n) z1&&GJ (fun y=>aT Z G m y&&Z.cls.contains m) z2)=true from hc)
  obtain⟨z,p',rfl,Li⟩:=ji Qp
  obtain⟨y,p2,rfl,hd2⟩:=ji Qq
  rw[Bool.and_eq_true] at Li hd2
  obtain⟨v,hv,pv⟩:=ni (p:=p') g Li.1 Li.2
  obtain⟨w,hw,pw⟩:=ni (p:=p2) g hd2.1 hd2.2
  obtain⟨_,j2,_,_⟩:=cf g Li.1
  obtain⟨_,i2,_,_⟩:=cf g hd2.1
  have pt:PE X (.Tuple [.Name z p',.Name y p2] tn JX) _:=i4 (ay pv (ay pw aX rfl) rfl)
  have pa:=ay ha (ay pt aX rfl) (af hn _ _)
  refine ar (cR (lM hv hw) k1 k2 PyProof.Rows.boot_isinstance pa k3 k4 (af hn _ _) rfl) fun σ H Q ⟨S,τ,hs,q⟩=>?_
  refine az (.refl _) hs (Bp.Bn q) fun x w' H1 e1 _ m1 q1=>?_
  obtain⟨c,b,rfl,hl,q2⟩:=ir q1
  obtain⟨a,rfl,hx⟩:=m1.Kc
  have DB:(Z.xt.contains (c,n,false)&&Z.xt.contains (c,m,b))=true:=ht (c,b) (lookup_mem hl)
  rw[Bool.and_eq_true] at DB
  obtain⟨C,h1,h2,h3⟩:=g.EJ c n false z (by simpa using DB.1) j2
  obtain⟨C',Hd,N6,Ke⟩:=g.EJ c m b y (by simpa using DB.2) i2
  rw[h1] at Hd
  cases Hd
  refine⟨(by decide:2<=sizeLine),fun pp hp=>⟨a,pp,c,C,b,rfl,(aj.upd hp).C0 hx,.inl (.inl aq),h1,h2,?_,q2 _ _ (e1.trans (.upd hp)) (.bl _)⟩⟩
  have a1:=h3 v hv
  have a2:=Ke w hw
  unfold PySem.W.kitAny
  rw[a1]
  unfold PySem.W.kitAny
  rw[a2]
  cases b<;>rfl
theorem Bo.rev {K:PySem.W.Frag}{S:Addr->Prop}{H:Hp}:∀ {vs:List V}{ds:List D},Bo K S H vs ds->Bo K S H vs.reverse ds.reverse
 | [],[],_=>.nil
 | v::vs,d::ds,.cons h t=>by
  rw[List.reverse_cons,List.reverse_cons]
  exact(Bo.rev t).append (.cons h .nil)
theorem yB {x:Str}{y:Option Str}{e e':Expr}{va:List Nat}{fa:Ev->Res D}(hx:x.length<=1000)(he:(∃ j p q pos,y=none/\e=.JoinedStr [.Constant (.str x) j p,.FormattedValue e' 114 none q] pos)∨∃ w j p q j' r pos,y=some w/\e=.JoinedStr [.Constant (.str x) j p,.FormattedValue e' 114 none q,.Constant (.str w) j' r] pos)(ha:PE X e' (RD X.K ex va fa)) :
  PE X e (RD X.K ex va fun τ=>Bn (fa τ) (qS x y)):=by
 rcases he with ⟨j,p,q,pos,rfl,rfl⟩|⟨w,j,p,q,j',r,pos,rfl,rfl⟩
 ·refine ar (qI hx ha) fun σ H Q ⟨S,τ,hs,q⟩=>?_
  refine az (.refl _) hs (Bp.Bn q) fun d v H1 e1 _ m1 q1=>?_
  cases d with
  | str z=>
   cases m1.BR
   obtain⟨g,q1⟩:=Bp.Bv q1
   have g:=aP g
   have e0:Str.empty.length=0:=rfl
   have g:x.length+(reprText z).length+Str.empty.length<=sizeLine:=g
   have q1:Kk X.K S H Q (.str (x++reprText z++Str.empty)):=q1.ok
   rw[Str.append_empty] at q1
   exact⟨z,rfl,by omega,q1 _ _ e1 (.str _)⟩
  | _=>exact q1.no.elim
 ·refine ar (qJ hx ha) fun σ H Q ⟨S,τ,hs,q⟩=>?_
  refine az (.refl _) hs (Bp.Bn q) fun d v H1 e1 _ m1 q1=>?_
  cases d with
  | str z=>
   cases m1.BR
   obtain⟨g,q1⟩:=Bp.Bv q1
   exact⟨z,rfl,aP g,q1.ok _ _ e1 (.str _)⟩
  | _=>exact q1.no.elim
theorem vW (g:BN Z CX cl xp X ex G){e:Expr}{p p' pos pos':Pos}{va:List Nat}{fa:Ev->Res D}(h1:G.F0 5=true)(h2:G.gl.contains 18=true)(hn:notStar e=true)(ha:PE X e (RD X.K ex va fa)) :
  PE X (.Call (.Name "list" p) [.Call (.Name "reversed" p') [e] [] pos'] [] pos) (RD X.K ex va fun τ=>Bn (fa τ) qR):=by
 obtain⟨k1,k2,k3,k4⟩:=cw g (show aN[5]? = some ("list" : Str) from rfl) (mX h1)
 obtain⟨j1,j2,j3,j4⟩:=cw g (show aN[18]? = some ("reversed" : Str) from rfl) h2
 refine ar (qC (g.calm (mY h1)) k1 k2 j1 j2 ha fun es=>af hn es X.env) fun σ H Q ⟨S,τ,hs,q⟩=>?_
 refine az (.refl _) hs (Bp.Bn q) fun x v H1 e1 _ m1 q1=>?_
 cases x with
 | lst o ds=>
  obtain⟨a,ys,rfl,qq,m⟩:=m1.Cd
  exact⟨a,ys,rfl,qq,fun l hl=>Kk.fit e1 q1 _ _ (.upd hl) (mO hl m.rev)⟩
 | _=>exact q1.no.elim
theorem jm {d:D}(h:gf d=true):∃ x,d=.str x:=by
 cases d<;>first|exact⟨_,rfl⟩|cases h
theorem yC (g:BN Z CX cl xp X ex G){m:Mt}{o:Expr}{apos BF:Pos}{vo:List Nat}{fo:Ev->Res D}{es:List IR}{a:Expr}{args:List Expr}(hn:eB o=true)(hl:(apos.endLine == BF.line)=true)(hlen:(a::args).length < 29)(DC:(G.cm||jh m)=true)
  (BU:aO Z G es (a::args)=true) (ho:PE X o (RD X.K ex vo fo)) (h:PA X (a::args) (RA X.K ex (av es) (aI cl es))) :
  PE X (.Call (.Attribute o (eo m) apos) (a::args) [] BF) (RD X.K ex (vo++av es) fun τ=>Bn (fo τ) fun x=>Bv (gf x) (Bn (aI cl es τ) fun ds=>lx m x ds)):=by
 cases es with
 | nil=>cases BU
 | cons b es=>
  have BW:(notStar a&&Bx Z G b a&&aO Z G es args)=true:=BU
  simp only[Bool.and_eq_true] at BW
  have star:=bj Z G (es:=es) BF X.env BW.2
  have mono:∀ σ H Q,RD X.K ex (vo++av (b::es)) (fun τ=>Bn (fo τ) fun x=>Bv (gf x) (Bn (aI cl (b::es) τ) fun ds=>lx m x ds)) σ H Q->NC X.K "str" (N5 X.K ex m) (RD X.K ex vo fo) (RA X.K ex (av (b::es)) (aI cl (b::es))) σ H Q:=by
   rintro σ H Q ⟨S,τ,hs,q⟩
   refine az (.refl _) hs.left (Bp.Bn q) fun x v H1 e1 _ m1 q1=>?_
   obtain⟨gd,q1⟩:=Bp.Bv q1
   obtain⟨z,rfl⟩:=jm gd
   cases m1.BR
   refine⟨rfl,jl e1 hs.right (Bp.Bn q1) fun ds vs H2 e2 Ci m2 q2=>?_⟩
   exact⟨nw S H,.str z,ds,.str z,m2,q2.mono fun d hd=>hd.fit e2⟩
  have D4:attributeBase o (eo m) X.env (eval o X.env)=eval o X.env:=by
   cases o with
   | Call f args CU pos=>
    cases args with
    | nil=>
     cases CU with
     | nil=>cases hn
     | cons _ _=>cases f<;>rfl
    | cons _ _=>cases f<;>rfl
   | _=>rfl
  have Ml:(backTo BF (starEach (a::args) X.env)).all (fun x=>!x.1)=true:=by
   rw[af BW.1.1]
   show (true&&(backTo BF (starEach args X.env)).all (fun x=>!x.1))=true
   rw[Bool.true_and,List.all_eq_true]
   intro y hy
   have:=List.any_eq_false.mp star y hy
   simpa using this
  have DL:((backTo BF (starEach (a::args) X.env)).all (fun x=>!x.1)&&(backToKw BF (keywordEach [] X.env)).all (fun x=>x.1.isSome)&&decide ((a::args).length+([]:List Keyword).length+(if ([]:List Keyword).isEmpty then 0 else 1) < 30))=true:=by
   rw[Ml]
   have:decide ((a::args).length+([]:List Keyword).length+(if ([]:List Keyword).isEmpty then 0 else 1) < 30)=true:=decide_eq_true (by simp at hlen ⊢;omega)
   rw[this]
   rfl
  refine ar ?_ mono
  cases m with
  | join=>exact gV PySem.F.plainAttrs_str PySem.F.slot_str_join PySem.F.type_str_join (gp (ex:=ex) .join fun z=>by cases z) ho h D4 DL hl (af BW.1.1 args X.env) star
  | index=>exact gV PySem.F.plainAttrs_str PySem.F.slot_str_index PySem.F.type_str_index (gp (ex:=ex) .index fun _=>g.calm (by rw[Bool.or_eq_true] at DC;exact DC.elim id fun z=>by cases z)) ho h D4 DL hl (af BW.1.1 args X.env) star
  | starts=>exact gV PySem.F.plainAttrs_str PySem.F.slot_str_startswith PySem.F.type_str_startswith (gp (ex:=ex) .starts fun z=>by cases z) ho h D4 DL hl (af BW.1.1 args X.env) star
end
section
variable {Z:Sg}{CX:Cy}{cl:Nat->List D->Res D}{xp:XK->Hp->Str->Prop}{X:Cx}{ex:Str->Prop}{G:Gm}
theorem dO {K:PySem.W.Frag}{S:Addr->Prop}{H:Hp}{w:V}{y:D}{q:Key}(m:Bq K S H w y)(h:ck y=some q):w=kV q:=by
 cases y with
 | int i=>cases h;cases m.BH;rfl
 | str x=>cases h;cases m.BR;rfl
 | _=>cases h
theorem eC {K:PySem.W.Frag}{S:Addr->Prop}{H:Hp}(q:Key):∀ (kvs:List (Key×V)) (ds:List D),Bo K S H (kvs.map (·.2)) ds->
  (∀ d,look (kvs.map (·.1)) ds q=some d->∃ v,dq kvs q=some v/\Bq K S H v d)/\(look (kvs.map (·.1)) ds q).isSome=(dq kvs q).isSome:=by
 intro kvs
 induction kvs with
 | nil=>intro ds _;exact⟨fun d h=>(by cases h),rfl⟩
 | cons p kvs ih=>
  intro ds m
  rw[List.map_cons] at m
  cases ds with
  | nil=>exact absurd m.length (by simp)
  | cons d ds=>
   cases m with
   | cons m1 m2=>
    obtain⟨i1,i2⟩:=ih ds m2
    have e1:look ((p::kvs).map (·.1)) (d::ds) q=if p.1=q then some d else look (kvs.map (·.1)) ds q:=rfl
    rw[e1]
    unfold dq at i1 i2 ⊢
    rw[List.find?_cons]
    by_cases h:p.1=q
    ·rw[if_pos h,decide_eq_true h]
     exact⟨fun d' z=>⟨p.2,rfl,by cases z;exact m1⟩,rfl⟩
    ·rw[if_neg h,decide_eq_false h]
     exact⟨i1,i2⟩
theorem Bq.HN {K:PySem.W.Frag}{S:Addr->Prop}{H:Hp}{v:V}{o:Bool}{ks:List Key}{ds:List D}(h:Bq K S H v (.Bw o ks ds)):∃ a kvs,v=.ref a/\Rd H a (.dK kvs)/\kvs.map (·.1)=ks/\Bo K S H (kvs.map (·.2)) ds:=by
 cases h with
 | Bw h0 h1 h2 h3=>exact⟨_,_,rfl,h1,h2,h3⟩
theorem vX {pos:Pos}:PE X (.Dict [] [] pos) (RD X.K ex [] (Bt cl .Dy)):=by
 refine ar ei fun σ H Q ⟨S,τ,hs,q⟩=>fun p hp=>?_
 exact q.ok _ _ (.upd hp) (.Bw (kvs:=[]) (.inr hp) (.inl aq) rfl .nil)
theorem vY (g:BN Z CX cl xp X ex G){a b:Expr}{pos:Pos}{va vb:List Nat}{fa fb:Ev->Res D}(ha:PE X a (RD X.K ex va fa))(hb:PE X b (RD X.K ex vb fb))(hp:ba b=true) :
  PE X (.Subscript a b pos) (RD X.K ex (va++vb) fun τ=>Bn (fa τ) fun x=>Bn (fb τ) fun y=>hU x y):=by
 have hu:=g.un
 refine ar (qG (by omega) ha hb fun o i=>by cases b<;>first|rfl|cases hp) fun σ H Q ⟨S,τ,hs,q⟩=>?_
 refine az (.refl _) hs.left (Bp.Bn q) fun x v H1 e1 _ m1 q1=>?_
 refine az e1 hs.right (Bp.Bn q1) fun y w H2 e2 Ci m2 q2=>?_
 cases x with
 | Bw o ks ds=>
  have q3:Bp ex (match ck y with|some q=>(match look ks ds q with|some d=>.ok d|none=>Bu)|none=>Bu) (Kk X.K S H Q):=q2
  cases hk:ck y with
  | none=>rw[hk] at q3;exact q3.no.elim
  | some k=>
   simp only[hk] at q3
   obtain⟨p,kvs,rfl,h1,rfl,h3⟩:=(m1.later Ci).HN
   cases hl:look (kvs.map (·.1)) ds k with
   | none=>rw[hl] at q3;exact q3.no.elim
   | some d=>
    rw[hl] at q3
    obtain⟨v,hv,mv⟩:=(eC k kvs ds h3).1 d hl
    exact⟨p,v,rfl,.inl ⟨kvs,k,h1,dO m2 hk,hv.symm⟩,q3.ok _ _ e2 mv⟩
 | _=>exact q2.no.elim
theorem bN {is:List Nat}{f:Ev->Res D}{σ:St}{H:Hp}{Q Q':VK}(h:RD X.K ex is f σ H Q)(m:∀ v H',Q v H'->Q' v H'):RD X.K ex is f σ H Q':=by
 obtain⟨S,τ,hs,q⟩:=h
 exact⟨S,τ,hs,q.mono fun d hd w H' e r=>m w H' (hd w H' e r)⟩
theorem iu {n:Bool}{va vb:List Nat}{fa fb:Ev->Res D}{σ:St}{H:Hp}{Q:VK}(h:RD X.K ex (vb++va) (fun τ=>Bn (fb τ) fun y=>Bn (fa τ) fun x=>hW n x y) σ H Q) :
  RD X.K ex vb fb σ H fun y H1=>RD X.K ex va fa σ H1 fun x H2=>∃ a o,x=.ref a/\f9 H2 a y o/\Q (.bl (n != o.isSome)) H2:=by
 obtain⟨S,τ,hs,q⟩:=h
 refine az (.refl _) hs.left (Bp.Bn q) fun y w H1 e1 _ m1 q1=>?_
 refine az e1 hs.right (Bp.Bn q1) fun x v H2 e2 Ci m2 q2=>?_
 cases x with
 | Bw o ks ds=>
  have q3:Bp ex (match ck y with|some q=>.ok (.bl (n != (look ks ds q).isSome))|none=>Bu) (Kk X.K S H Q):=q2
  cases hk:ck y with
  | none=>rw[hk] at q3;exact q3.no.elim
  | some k=>
   simp only[hk] at q3
   obtain⟨p,kvs,rfl,h1,rfl,h3⟩:=m2.HN
   rw[(eC k kvs ds h3).2] at q3
   exact⟨p,_,rfl,.inl ⟨kvs,k,h1,dO (m1.later Ci) hk,rfl⟩,q3.ok _ _ e2 (.bl _)⟩
 | _=>exact q2.no.elim
theorem fE {n:Bool}{va vb:List Nat}{fa fb:Ev->Res D}{σ:St}{H:Hp}{Q:Bool->Hp->Prop}(h:RT X.K ex (vb++va) (fun τ=>Bn (Bn (fb τ) fun y=>Bn (fa τ) fun x=>hW n x y) aB) σ H Q) :
  RD X.K ex vb fb σ H fun y H1=>RD X.K ex va fa σ H1 fun x H2=>∃ a o,x=.ref a/\f9 H2 a y o/\∃ c,V.bl (n != o.isSome)=.bl c/\Q c H2:=by
 obtain⟨S,τ,hs,q⟩:=h
 refine az (.refl _) hs.left (Bp.Bn (Bp.Bn q)) fun y w H1 e1 _ m1 q1=>?_
 refine az e1 hs.right (Bp.Bn q1) fun x v H2 e2 Ci m2 q2=>?_
 cases x with
 | Bw o ks ds=>
  cases hk:ck y with
  | none=>
   have q3:hW n (.Bw o ks ds) y=Bu:=by show ((match ck y with|some q=>.ok (.bl (n != (look ks ds q).isSome))|none=>Bu:Res D))=_;rw[hk]
   rw[q3] at q2;exact q2.no.elim
  | some k=>
   have q3:hW n (.Bw o ks ds) y=.ok (.bl (n != (look ks ds k).isSome)):=by show ((match ck y with|some q=>.ok (.bl (n != (look ks ds q).isSome))|none=>Bu:Res D))=_;rw[hk]
   rw[q3] at q2
   obtain⟨p,kvs,rfl,h1,rfl,h3⟩:=m2.HN
   rw[(eC k kvs ds h3).2] at q2
   exact⟨p,_,rfl,.inl ⟨kvs,k,h1,dO (m1.later Ci) hk,rfl⟩,_,rfl,(q2.ok).ok _ e2⟩
 | _=>exact q2.no.elim
theorem yD (g:BN Z CX cl xp X ex G){n:Bool}{a b:Expr}{pos:Pos}{va vb:List Nat}{fa fb:Ev->Res D}(hb:PE X b (RD X.K ex vb fb))(ha:PE X a (RD X.K ex va fa))(hm:behindInMarks (lK n) a=false) :
  PE X (.Compare b [lK n] [a] pos) (RD X.K ex (vb++va) fun τ=>Bn (fb τ) fun y=>Bn (fa τ) fun x=>hW n x y)/\
  PT X (.Compare b [lK n] [a] pos) (RT X.K ex (vb++va) fun τ=>Bn (Bn (fb τ) fun y=>Bn (fa τ) fun x=>hW n x y) aB):=by
 have hu:=g.un
 cases n with
 | false=>
  refine⟨ar (lX (mC (by omega) hb ha) hm) fun σ H Q h=>?_,cK (lY (mC (by omega) hb ha) hm) fun σ H Q h=>?_⟩
  ·refine bN (iu h) fun y H1 z=>bN z fun x H2 ⟨p,o,e,d,q⟩=>⟨p,o,e,d,?_⟩
   rw[show (false != o.isSome)=o.isSome by cases o.isSome<;>rfl] at q
   exact q
  ·refine bN (fE h) fun y H1 z=>bN z fun x H2 ⟨p,o,e,d,q⟩=>⟨p,o,e,d,?_⟩
   rw[show (false != o.isSome)=o.isSome by cases o.isSome<;>rfl] at q
   exact q
 | true=>
  refine⟨ar (lX (fA (by omega) hb ha) hm) fun σ H Q h=>?_,cK (lY (fA (by omega) hb ha) hm) fun σ H Q h=>?_⟩
  ·refine bN (iu h) fun y H1 z=>bN z fun x H2 ⟨p,o,e,d,q⟩=>⟨p,o,e,d,?_⟩
   rw[show (true != o.isSome) = !o.isSome by cases o.isSome<;>rfl] at q
   exact q
  ·refine bN (fE h) fun y H1 z=>bN z fun x H2 ⟨p,o,e,d,q⟩=>⟨p,o,e,d,?_⟩
   rw[show (true != o.isSome) = !o.isSome by cases o.isSome<;>rfl] at q
   exact q
end
section
variable {prog:Program}{w:World}{A:Around}{E:Value->Shared->Prop}{s:Shared}
theorem eD {it t:Addr}{items:Array Value}(ED:t≠it):∀ (n i:Nat) (s:Shared) (Q:List Value->Shared->Prop),s.heap.IsListIter it t i->s.heap.IsList t items->i+n<=items.size->
  (∀ h',h'.IsListIter it t (i+n)->Heap.SameBut it s.heap h'->Q ((items.toList.drop i).take n) {s with heap:=h'})->wpAny (model prog w) A (draw (.ref it) n) Q E s
 | 0,i,s,Q,hit,_,_,hQ=>by
  show wpAny _ _ (pure []) Q E s
  exact wpAny_pure (by simpa using hQ s.heap hit (Heap.SameBut.refl ..))
 | n+1,i,s,Q,hit,ht,hle,hQ=>by
  have Cu:i < items.size:=by omega
  show wpAny _ _ (pyNext (.ref it) >>= _) Q E s
  refine wpAny_bind (wpAny_pyNext_list_item hit ht (x:=items[i]) (by simp[Cu]) fun Fh EK Ec=>?_)
  refine wpAny_bind (wpAny_holding (eD ED n (i+1) _ _ EK (ht.extBut Ec.extBut ED) (by omega) fun EE HP Kf=>wpAny_pure ?_))
  have hd:items.toList.drop i=items[i]::items.toList.drop (i+1):=by simp[List.drop_eq_getElem_cons,Cu]
  have:=hQ EE (by rw[show i+(n+1)=i+1+n by omega];exact HP) (Ec.trans Kf)
  rw[hd,List.take_succ_cons] at this
  exact this
theorem dC {t:Addr}{items:Array Value}{Q:List Value->Shared->Prop}(hh:A.handled=none)(ht:s.heap.IsList t items)
  (hQ:∀ h',Heap.ExtBut s.heap.objs.size s.heap h'->Q items.toList {s with heap:=h'}):wpAny (model prog w) A (unpackItems (.ref t) items.size none) Q E s:=by
 have Cu:t≠s.heap.objs.size:=by obtain⟨o,ho,_⟩:=ht;exact Nat.ne_of_lt (Heap.lt_size ho)
 have push:∀ o,(s.heap.push o).IsList t items:=fun o=>by
  obtain⟨ob,e,c,n,d⟩:=ht
  exact⟨ob,Heap.get?_push_of_some _ e,c,n,d⟩
 unfold unpackItems
 refine wpAny_bind ?_
 ·unfold notIterableAtAll
  refine wpAny_bind (wpAny_specialOf ht.typeIs slot_list_iter.lookup ?_)
  refine wpAny_pure ?_
  simp only[Bool.false_eq_true,if_false]
  refine wpAny_bind (wpAny_holding (wpAny_pyIter_list ht ?_))
  refine wpAny_bind (wpAny_holding (eD Cu items.size 0 _ _ ⟨_,Heap.get?_push_size _ rfl,rfl,rfl⟩ (push _) (by omega) fun Fh EK Ec=>?_))
  have EC:List.take items.size (List.drop 0 items.toList)=items.toList:=by
   rw[List.drop_zero];exact List.take_of_length_le (by simp)
  rw[EC]
  rw[if_neg (by simp)]
  have Kg:Fh.IsList t items:=(push _).extBut Ec.extBut Cu
  refine wpAny_bind (wpAny_holding (wpAny_pyNext_list_end hh EK Kg (by simp) fun EE Kh=>?_))
  simp only[Option.isSome_none,Bool.false_eq_true,if_false]
  refine wpAny_pure (hQ EE fun b o hb e=>Kh b o hb (Ec.extBut b o hb (Heap.get?_push_of_some _ e)))
end
def yE (K:PySem.W.Frag)(n:Nat)(t:GX):TG:=fun v σ H Q=>∃ a xs,v=.ref a/\(CF K H a xs∨Ck K H a xs)/\xs.length=n/\t xs σ H Q
theorem vZ {X:Cx}{pos:Pos}{es:List Expr}{k:Nat}{t:GX}{n:Nat}(hc:X.calm=true)(h:JD X es t)(hn:(assignEach es X.env).length=n)(BU:(assignEach es X.env).findIdx? (·.1)=none):PG X (.Tuple es k pos) (yE X.K n t):=by
 intro pins s σ H v u Q I r hw
 obtain⟨a,xs,e1,hq,hl,hw⟩:=hw
 subst e1
 cases r
 rcases hq with hq|hq
 ·obtain⟨its,rv,ht,hz⟩:=I.tuple hq
  refine assign_Tuple_tuple (I.ok.hd hc) ht (by simp[hn,<- hl,rv.length]) BU fun h' hx=>?_
  have I1:Inv X pins σ H {s with heap:=h'}:=I.kept (t':=s.toks) fun b o e=>hx b o (Nat.ne_of_lt (Heap.lt_size e)) e
  exact h pins _ σ H xs _ Q I1 (by simpa using rv) hw
 ·obtain⟨its,rv,pl,hz⟩:=I.list hq
  rw[assign_Tuple]
  refine wpAny_bind (wpAny_standAt ?_)
  unfold unpack
  have hlen:(assignEach es X.env).length=its.toArray.size:=by simp[hn,<- hl,rv.length]
  rw[hlen,BU]
  refine wpAny_bind (wpAny_holding (dC (I.ok.hd hc) pl.isList fun h' hx=>?_))
  have I1:Inv X pins σ H {s with heap:=h'}:=I.kept (t':=s.toks) fun b o e=>hx b o (Nat.ne_of_lt (Heap.lt_size e)) e
  exact h pins _ σ H xs _ Q I1 (by simpa using rv) hw
mutual
noncomputable def gT (K:PySem.W.Frag):Tg->TG
 | .nm i=>l8 i
 | .tp ts=>yE K ts.length (Ki K ts)
noncomputable def Ki (K:PySem.W.Frag):List Tg->GX
 | []=>xC
 | t::ts=>sd (gT K t) (Ki K ts)
end
theorem c5 {e:Expr}(h:notStar e=true)(es:List Expr)(env:Env):assignEach (e::es) env=(false,assign e env)::assignEach es env:=by
 cases e<;>first|rfl|cases h
section
variable {Z:Sg}{CX:Cy}{cl:Nat->List D->Res D}{xp:XK->Hp->Str->Prop}{X:Cx}{ex:Str->Prop}{G:Gm}
theorem eE (G:Gm):∀ {ts:List Tg}{es:List Expr} (env:Env),cJ G ts es=true->(assignEach es env).length=ts.length/\(assignEach es env).findIdx? (·.1)=none
 | [],[],_,_=>⟨rfl,rfl⟩
 | t::ts,e::es,env,h=>by
  have h':(notStar e&&bI G t e&&cJ G ts es)=true:=h
  simp only[Bool.and_eq_true] at h'
  obtain⟨h1,h2⟩:=eE G (ts:=ts) (es:=es) env h'.2
  rw[c5 h'.1.1]
  refine⟨by rw[List.length_cons,h1,List.length_cons],?_⟩
  rw[List.findIdx?_cons,if_neg (by simp),h2]
  rfl
 | [],_::_,_,h=>by cases h
 | _::_,[],_,h=>by cases h
mutual
theorem HQ (g:BN Z CX cl xp X ex G):∀ (t:Tg) (e:Expr),bI G t e=true->PG X e (gT X.K t)
 | .nm i,e,h=>by
  cases e with
  | Name x pos=>
   have h':(G.N[i]? == some x&&(G.kd[i]? == some .local||(G.df&&G.kd[i]? == some .cell)))=true:=(Bool.and_eq_true_iff.mp h).1
   rw[Bool.and_eq_true,Bool.or_eq_true,Bool.and_eq_true] at h'
   obtain⟨h1,h2⟩:=h'
   have hx:G.N[i]? = some x:=eq_of_beq h1
   have hk:=g.kd i x hx
   refine qi (by rw[g.N];exact g.B2) (by rw[g.N];exact hx) ?_ ?_
   ·rcases h2 with h2|h2
    ·exact .inl (hk.trans (eq_of_beq h2))
    ·exact .inr (hk.trans (eq_of_beq h2.2))
   ·rcases h2 with h2|h2
    ·exact .inr (hk.trans (eq_of_beq h2))
    ·exact .inl (g.df h2.1 x)
  | _=>cases h
 | .tp ts,e,h=>by
  cases e with
  | Tuple es k pos=>
   have h0:(G.cm&&cJ G ts es)=true:=h
   rw[Bool.and_eq_true] at h0
   have h':=h0.2
   obtain⟨h1,h2⟩:=eE G X.env h'
   exact vZ (g.calm h0.1) (yF g ts es h') h1 h2
  | _=>cases h
theorem yF (g:BN Z CX cl xp X ex G):∀ (ts:List Tg) (es:List Expr),cJ G ts es=true->JD X es (Ki X.K ts)
 | [],[],_=>qj
 | t::ts,e::es,h=>by
  have h':(notStar e&&bI G t e&&cJ G ts es)=true:=h
  simp only[Bool.and_eq_true] at h'
  exact l9 (HQ g t e h'.1.2) (yF g ts es h'.2) (by rw[c5 h'.1.1];rfl)
 | [],_::_,h=>by cases h
 | _::_,[],h=>by cases h
end
end
mutual
theorem c6 {G:Gm}:∀ (t:Tg) (e:Expr),bI G t e=true->∀ j∈Dr t,G.io≠some j
 | .nm i,e,h,j,hj=>by
  cases e with
  | Name x pos=>
   have h':=(Bool.and_eq_true_iff.mp (show ((G.N[i]? == some x&&(G.kd[i]? == some .local||(G.df&&G.kd[i]? == some .cell)))&&G.io != some i)=true from h)).2
   have e:j=i:=by simpa[Dr] using hj
   subst e
   simpa using h'
  | _=>cases h
 | .tp ts,e,h,j,hj=>by
  cases e with
  | Tuple es k pos=>
   have h0:(G.cm&&cJ G ts es)=true:=h
   exact iw ts es (Bool.and_eq_true_iff.mp h0).2 j hj
  | _=>cases h
theorem iw {G:Gm}:∀ (ts:List Tg) (es:List Expr),cJ G ts es=true->∀ j∈ip ts,G.io≠some j
 | [],_,_,j,hj=>by cases hj
 | t::ts,[],h,_,_=>by cases h
 | t::ts,e::es,h,j,hj=>by
  have h':(notStar e&&bI G t e&&cJ G ts es)=true:=h
  simp only[Bool.and_eq_true] at h'
  rcases List.mem_append.mp (show j∈Dr t++ip ts from hj) with hj|hj
  ·exact c6 t e h'.1.2 j hj
  ·exact iw ts es h'.2 j hj
end
def Ji (K:PySem.W.Frag)(S:Addr->Prop)(H:Hp)(σ:St)(τ:Ev):Prop:=τ.length=σ.length/\∀ i d,ah τ i=some d->∃ v,σ[i]? = some (some v)/\Bq K S H v d
theorem lN {τ:Ev}{i j:Nat}{o:Option D}:ah (τ.set i o) j=if i=j/\i < τ.length then o else ah τ j:=by
 unfold ah
 rw[List.getElem?_set]
 by_cases h:i=j
 ·subst h
  by_cases h2:i < τ.length
  ·simp[h2]
  ·rw[if_pos rfl,if_neg h2,if_neg (by omega)]
   rw[List.getElem?_eq_none (by omega)]
 ·rw[if_neg h,if_neg (by omega)]
section
variable {K:PySem.W.Frag}{S:Addr->Prop}{H:Hp}{ex:Str->Prop}
mutual
theorem jS:∀ (t:Tg) {σ:St}{τ:Ev}{v:V}{d:D}{Kt:Ev->Prop}{Q:St->Hp->Prop},Ji K S H σ τ->Bq K S H v d->Bp ex (br t d τ) Kt->
  (∀ τ' Bz,Ji K S H Bz τ'->Bz.length=σ.length->(∀ j,j∉Dr t->Bz[j]? = σ[j]?)->Kt τ'->Q Bz H)->gT K t v σ H Q
 | .nm i,σ,τ,v,d,Kt,Q,hs,m,h,k=>by
  refine k (τ.set i (some d)) (σ.set i (some v)) ⟨by rw[List.length_set,List.length_set,hs.1],fun j e z=>?_⟩ (by rw[List.length_set]) (fun j hj=>?_) h.ok
  ·rw[lN] at z
   by_cases q:i=j/\i < τ.length
   ·rw[if_pos q] at z
    obtain⟨rfl,q⟩:=q
    cases z
    exact⟨v,by rw[List.getElem?_set_self (by rw[<- hs.1];exact q)],m⟩
   ·rw[if_neg q] at z
    obtain⟨w,h1,h2⟩:=hs.2 j e z
    refine⟨w,?_,h2⟩
    by_cases q2:i=j
    ·subst q2
     exfalso
     have:i < σ.length:=by
      have:=(List.getElem?_eq_some_iff.mp h1).1
      exact this
     exact q ⟨rfl,by rw[hs.1];exact this⟩
    ·rw[List.getElem?_set_ne q2];exact h1
  ·have:i≠j:=fun z=>hj (by subst z;simp[Dr])
   rw[List.getElem?_set_ne this]
 | .tp ts,σ,τ,v,d,Kt,Q,hs,m,h,k=>by
  cases d with
  | tup ds=>
   obtain⟨a,xs,rfl,q,ms⟩:=m.Cw
   obtain⟨g,h⟩:=Bp.Bv h
   have g':ds.length=ts.length:=of_decide_eq_true g
   exact⟨a,xs,rfl,.inl q,by rw[ms.length,g'],eF ts hs ms h k⟩
  | lst o ds=>
   obtain⟨a,xs,rfl,q,ms⟩:=m.Cd
   obtain⟨g,h⟩:=Bp.Bv h
   have g':ds.length=ts.length:=of_decide_eq_true g
   exact⟨a,xs,rfl,.inr q,by rw[ms.length,g'],eF ts hs ms h k⟩
  | _=>exact h.no.elim
theorem eF:∀ (ts:List Tg) {σ:St}{τ:Ev}{vs:List V}{ds:List D}{Kt:Ev->Prop}{Q:St->Hp->Prop},Ji K S H σ τ->Bo K S H vs ds->Bp ex (cT ts ds τ) Kt->
  (∀ τ' Bz,Ji K S H Bz τ'->Bz.length=σ.length->(∀ j,j∉ip ts->Bz[j]? = σ[j]?)->Kt τ'->Q Bz H)->Ki K ts vs σ H Q
 | [],σ,τ,vs,ds,Kt,Q,hs,m,h,k=>by
  cases m with
  | nil=>exact⟨rfl,k τ σ hs rfl (fun _ _=>rfl) h.ok⟩
  | cons _ _=>exact h.no.elim
 | t::ts,σ,τ,vs,ds,Kt,Q,hs,m,h,k=>by
  cases m with
  | nil=>exact h.no.elim
  | cons m1 m2=>
   refine⟨_,_,rfl,jS t hs m1 (Bp.Bn h) fun τ' Bz Gg hn hk h'=>?_⟩
   refine eF ts Gg m2 h' fun HR HU Mm DA Qr Mn=>k HR HU Mm (DA.trans hn) (fun j hj=>?_) Mn
   have Lj:j∉Dr t/\j∉ip ts:=by
    constructor<;>(intro z;apply hj;simp[ip,z])
   rw[Qr j Lj.2,hk j Lj.1]
end
end
section
variable {K:PySem.W.Frag}{S S':Addr->Prop}{H H':Hp}{J:It}{ds:List D}
theorem WS.step (hl:∀ a (u:LD),S a->Rd H a u.o->S' a/\Rd H' a u.o)(ht:∀ a xs,B5 K H a xs->B5 K H' a xs){k:Zp.Kq}{a:Addr}{xs:List V}(h:WS K S H k a xs):WS K S' H' k a xs:=by
 cases k with
 | l=>exact h.elim (fun z=>.inl (hl _ (.l _) z.1 z.2)) fun z=>.inr z
 | t=>exact ht _ (.inl _) h
theorem ix (ds:List D):(ej ds).length=ds.length:=by unfold ej;rw[List.length_zipWith,List.length_range,Nat.min_self]
theorem iy (ds es:List D):(dv ds es).length=min ds.length es.length:=by unfold dv;rw[List.length_zipWith]
theorem C6.step (hl:∀ a (u:LD),S a->Rd H a u.o->S' a/\Rd H' a u.o)(ht:∀ a xs,B5 K H a xs->B5 K H' a xs)(h:C6 K S H J ds):C6 K S' H' J ds:=by
 cases h with
 | lst h0 h1 h2=>exact .lst (hl _ (.l _) h0 h1).1 (hl _ (.l _) h0 h1).2 (h2.step hl ht)
 | lstK h1 h2=>exact .lstK h1 (h2.step hl ht)
 | tup h1 h2=>exact .tup (ht _ (.inl _) h1) (h2.step hl ht)
 | Ft lo hi=>exact .Ft lo hi
 | str x=>exact .str x
 | zip h1 h2 h3 h4=>exact .zip (h1.step hl ht) (h2.step hl ht) (h3.step hl ht) (h4.step hl ht)
 | D9 h1 h2=>exact .D9 (h1.step hl ht) (h2.step hl ht)
 | rev h1 h2=>exact .rev (h1.step hl ht) (h2.step hl ht)
theorem C6.mono (h:C6 K S H J ds)(hS:∀ a,S a->S' a)(e:aj H H'):C6 K S' H' J ds:=h.step (fun a xs s r=>⟨hS a s,e.rd r⟩) fun a xs s=>e.C0 s
theorem eG (x:Str):(bh x).length=x.cps.size:=by unfold bh;simp
theorem bt (a b:Int):(bu a b).length=(b - a).toNat:=by unfold bu;simp
theorem C6.stop (h:C6 K S H J ds){i:Nat}(hi:ds.length=i):J.stop i H:=by
 cases h with
 | lst h0 h1 h2=>exact⟨_,.inl h1,by rw[h2.length];omega⟩
 | lstK h1 h2=>exact⟨_,h1.sq,by rw[h2.length];omega⟩
 | tup h1 h2=>exact⟨_,h1,by rw[h2.length];omega⟩
 | Ft lo GH=>rw[bt] at hi;exact Nat.le_of_eq hi
 | str x=>rw[eG] at hi;exact Nat.le_of_eq hi
 | zip h1 h2 h3 h4=>exact⟨_,_,h1.sq,h2.sq,by rw[iy] at hi;rw[h3.length,h4.length];omega⟩
 | D9 h1 h2=>exact⟨_,h1.sq,by rw[ix] at hi;rw[h2.length];omega⟩
 | rev h1 h2=>show i=_;rw[h2.length,<- hi,List.length_reverse]
theorem C6.go (h:C6 K S H J ds){i:Nat}(hi:i < ds.length):J.go i H:=by
 cases h with
 | lst h0 h1 h2=>obtain⟨v,hv,_⟩:=h2.get (i:=i) (d:=ds[i]) (by simp[hi]);exact⟨_,v,.inl h1,hv⟩
 | lstK h1 h2=>obtain⟨v,hv,_⟩:=h2.get (i:=i) (d:=ds[i]) (by simp[hi]);exact⟨_,v,h1.sq,hv⟩
 | tup h1 h2=>obtain⟨v,hv,_⟩:=h2.get (i:=i) (d:=ds[i]) (by simp[hi]);exact⟨_,v,h1,hv⟩
 | Ft lo GH=>rw[bt] at hi;exact hi
 | str x=>rw[eG] at hi;exact hi
 | zip h1 h2 h3 h4=>
  rename_i ds' Dt
  rw[iy] at hi
  obtain⟨v,hv,_⟩:=h3.get (i:=i) (d:=ds'[i]) (by rw[List.getElem?_eq_getElem])
  obtain⟨u,hu,_⟩:=h4.get (i:=i) (d:=Dt[i]) (by rw[List.getElem?_eq_getElem])
  exact⟨_,_,v,u,h1.sq,h2.sq,hv,hu⟩
 | D9 h1 h2=>
  rename_i ds'
  rw[ix] at hi
  obtain⟨v,hv,_⟩:=h2.get (i:=i) (d:=ds'[i]) (by rw[List.getElem?_eq_getElem])
  exact⟨_,v,h1.sq,hv⟩
 | rev h1 h2=>exact⟨_,h1.sq,rfl,by rw[List.length_reverse] at hi;rw[h2.length];exact hi⟩
theorem C6.Gn (h:C6 K S H J ds){i:Nat}{x:V}{H2:Hp}(y:J.Gn i H x H2){d:D}(hd:ds[i]? = some d):aj H H2/\Bq K S H2 x d:=by
 have fin:∀ {xs:List V},Bo K S H xs ds->xs[i]? = some x->Bq K S H x d:=fun m e=>by
  obtain⟨d',e',m'⟩:=m.FV e
  rw[hd] at e';cases e';exact m'
 cases h with
 | lst h0 h1 h2=>obtain⟨e,y⟩:=y;subst e;exact⟨.refl _,fin h2 (y _ (.inl h1))⟩
 | lstK h1 h2=>obtain⟨e,y⟩:=y;subst e;exact⟨.refl _,fin h2 (y _ h1.sq)⟩
 | tup h1 h2=>obtain⟨e,y⟩:=y;subst e;exact⟨.refl _,fin h2 (y _ h1)⟩
 | zip h1 h2 h3 h4=>
  obtain⟨T,a,b,e1,hT,e2,hy⟩:=y
  subst e1 e2
  obtain⟨y1,y2⟩:=hy _ _ h1.sq h2.sq
  obtain⟨d1,g1,m1⟩:=h3.FV y1
  obtain⟨d2,g2,m2⟩:=h4.FV y2
  unfold dv at hd
  rw[List.getElem?_zipWith,g1,g2] at hd
  cases hd
  have e:aj H (upd H T (.tup [a,b])):=.upd hT
  exact⟨e,.tup (CF.of aq) (.cons (m1.mono (fun _ z=>z) e) (.cons (m2.mono (fun _ z=>z) e) .nil))⟩
 | rev h1 h2=>
  rename_i l xs ds'
  obtain⟨e,y⟩:=y
  subst e
  have y1:=y _ h1.sq rfl
  obtain⟨d1,g1,m1⟩:=h2.FV y1
  have Cu:=(List.getElem?_eq_some_iff.mp hd).1
  rw[List.length_reverse] at Cu
  rw[List.getElem?_reverse Cu,<- h2.length,g1] at hd
  cases hd
  exact⟨.refl _,m1⟩
 | D9 h1 h2=>
  obtain⟨T,a,e1,hT,e2,hy⟩:=y
  subst e1 e2
  have y1:=hy _ h1.sq
  obtain⟨d1,g1,m1⟩:=h2.FV y1
  unfold ej at hd
  have Cu:=(List.getElem?_eq_some_iff.mp g1).1
  rw[List.getElem?_zipWith,g1,List.getElem?_range Cu] at hd
  cases hd
  have e:aj H (upd H T (.tup [.int i,a])):=.upd hT
  exact⟨e,.tup (CF.of aq) (.cons (.int _) (.cons (m1.mono (fun _ z=>z) e) .nil))⟩
 | Ft lo GH=>
  obtain⟨e1,e2⟩:=y
  subst e1
  refine⟨.refl _,?_⟩
  subst e2
  unfold bu at hd
  rw[List.getElem?_map] at hd
  have hi:i < (GH - lo).toNat:=by
   have:=(Option.map_eq_some_iff.mp hd)
   obtain⟨z,h1,_⟩:=this
   have:=(List.getElem?_eq_some_iff.mp h1).1
   simpa using this
  rw[List.getElem?_range hi] at hd
  cases hd
  exact .int _
 | str x=>
  obtain⟨e1,c,h1,e2⟩:=y
  subst e1
  refine⟨.refl _,?_⟩
  subst e2
  unfold bh at hd
  rw[List.getElem?_map] at hd
  have h2:x.cps.toList[i]? = some c:=by simpa using h1
  rw[h2] at hd
  cases hd
  exact .str _
end
section
variable {Z:Sg}{CX:Cy}{cl:Nat->List D->Res D}{xp:XK->Hp->Str->Prop}{X:Cx}{ex:Str->Prop}{G:Gm}{K:PySem.W.Frag}{S:Addr->Prop}{H H1:Hp}{σ:St}{τ:Ev}
theorem yG {is:List Nat}{f:Ev->Res (List D)}{Kt:List D->Prop}{R:It->Hp->Prop}(e:aj H H1)(hs:Slots K S H σ τ is)(h:Bp ex (f τ) Kt)(k:∀ ds J H2,aj H H2->aj H1 H2->C6 K (nw S H) H2 J ds->Kt ds->R J H2):RI K ex is f σ H1 R:=
 ⟨nw S H,τ,hs.go e,h.mono fun x hx J H2 e2 m=>k x J H2 (e.trans e2) e2 (m.mono (fD e) (.refl _)) hx⟩
theorem jT {tg:Expr}{pins:List (Addr×Obj)}{s:Shared}{a:Addr}{xs:List V}{R:It->Hp->Prop}(I:Inv X pins σ H s)(hq:Ck X.K H a xs)(q:R (KZ X.K a) H):wpAny (model X.prog X.w) X.A (pyIter (.ref a)) (IQ X pins σ tg R) X.xe s:=by
 obtain⟨its,rv,p,hz⟩:=I.list hq
 refine wpAny_pyIter_list p.isList ?_
 refine⟨s.heap.objs.size,[s.heap.objs.size],_,_,H,rfl,I.kept (t':=s.toks) fun b o e=>Heap.get?_push_of_some _ e,kT a _,⟨_,Heap.get?_push_size _ rfl,rfl,rfl⟩,fun b hb=>?_,q⟩
 have e:b=s.heap.objs.size:=by simpa using hb
 subst e
 exact I.D2 (Nat.le_refl _) (I.BD.fresh (Nat.le_refl _))
theorem nj {tg:Expr}{pins:List (Addr×Obj)}{s:Shared}{a:Addr}{xs:List V}{R:It->Hp->Prop}(I:Inv X pins σ H s)(hq:CF X.K H a xs)(q:R (LF X.K a) H):wpAny (model X.prog X.w) X.A (pyIter (.ref a)) (IQ X pins σ tg R) X.xe s:=by
 obtain⟨its,rv,p,hz⟩:=I.tuple hq
 refine wpAny_pyIter_tuple (show s.heap.IsTuple a its.toArray from p) ?_
 refine⟨s.heap.objs.size,[s.heap.objs.size],_,_,H,rfl,I.kept (t':=s.toks) fun b o e=>Heap.get?_push_of_some _ e,iW a _,⟨_,Heap.get?_push_size _ rfl,rfl,rfl⟩,fun b hb=>?_,q⟩
 have e:b=s.heap.objs.size:=by simpa using hb
 subst e
 exact I.D2 (Nat.le_refl _) (I.BD.fresh (Nat.le_refl _))
theorem yI {tg e:Expr}{va:List Nat}{fa:Ev->Res D}(ha:PE X e (RD X.K ex va fa)):PI X tg e (RI X.K ex va fun τ=>Bn (fa τ) du):=by
 intro pins s σ H R I h
 obtain⟨S,τ,hs,q⟩:=h
 refine BG (ha pins s σ H (fun v H'=>∃ d,aj H H'/\Bq X.K (nw S H) H' v d/\_) I (az (.refl _) hs (Bp.Bn q) fun x v H1 e1 _ m1 q1=>⟨x,e1,m1,q1⟩)) fun v s1 ⟨x,H1,I1,r1,d,e1,m1,q1⟩=>?_
 cases d with
 | lst o ds=>
  cases m1 with
  | lst h0 h1 h2=>cases r1;exact jT I1 (.inl h1) (q1.ok _ _ e1 (.lst h0 h1 h2))
  | lstK h1 h2=>cases r1;exact jT I1 h1.sq (q1.ok _ _ e1 (.lstK h1 h2))
 | tup ds=>
  obtain⟨a,xs,rfl,h1,h2⟩:=m1.Cw
  cases r1
  exact nj I1 h1 (q1.ok _ _ e1 (.tup h1 h2))
 | str z=>
  cases m1.BR
  obtain⟨t,rfl⟩:=r1
  obtain⟨_,q1⟩:=Bp.Bv q1
  exact vN I1 (q1.ok _ _ e1 (.str z))
 | _=>exact q1.no.elim
theorem v3 (g:BN Z CX cl xp X ex G){tg e:Expr}{p pos:Pos}{va:List Nat}{fa:Ev->Res D}(hg:G.gl.contains 15=true)(hn:notStar e=true)(ha:PE X e (RD X.K ex va fa)) :
  PI X tg (.Call (.Name "range" p) [e] [] pos) (RI X.K ex va fun τ=>Bn (fa τ) fun|.int i=>Bv (bA i) (.ok (bu 0 i))|_=>Bu):=by
 obtain⟨k1,k2,_,_⟩:=cw g (show aN[15]? = some ("range" : Str) from rfl) hg
 refine dY (e9 k1 k2 (ay ha aX (af hn _ _)) (af hn _ _)) fun σ H Q ⟨S,τ,hs,q⟩=>?_
 refine az (.refl _) hs (Bp.Bn q) fun x v H1 e1 _ m1 q1=>?_
 cases x with
 | int i=>
  cases m1.BH
  obtain⟨gd,q1⟩:=Bp.Bv q1
  have Gh : -(2 ^ 62)<=i/\i < 2 ^ 62:=of_decide_eq_true gd
  refine⟨i,rfl,Gh.1,Gh.2,?_⟩
  have:=q1.ok _ _ e1 (.Ft 0 i)
  rw[Int.sub_zero] at this
  exact this
 | _=>exact q1.no.elim
theorem yJ {a:Addr}{v:V}{d:D}{ds:List D}(m:Bq K S H v d)(h:jb d=.ok ds):∃ k a xs,v=.ref a/\WS K S H k a xs/\Bo K S H xs ds:=by
 cases d with
 | lst o es=>
  cases h
  cases m with
  | lst h0 h1 h2=>exact⟨.l,_,_,rfl,.inl ⟨h0,h1⟩,h2⟩
  | lstK h1 h2=>exact⟨.l,_,_,rfl,.inr h1,h2⟩
 | tup es=>
  cases h
  obtain⟨a,xs,rfl,h1,h2⟩:=m.Cw
  exact⟨.t,a,xs,rfl,h1,h2⟩
 | _=>cases h
theorem yL (g:BN Z CX cl xp X ex G){es:List Expr}{c:Nat}{tp:Pos}{e e':Expr}{p pos:Pos}{va vb:List Nat}{fa fb:Ev->Res D}(hg:G.gl.contains 17=true)(hn:notStar e=true)(DA:notStar e'=true)(ha:PE X e (RD X.K ex va fa))(hb:PE X e' (RD X.K ex vb fb)) :
  PI X (.Tuple es c tp) (.Call (.Name "zip" p) [e,e'] [] pos) (RI X.K ex (va++vb) fun τ=>Bn (fa τ) fun x=>Bn (fb τ) fun y=>qQ x y):=by
 obtain⟨k1,k2,_,_⟩:=cw g (show aN[17]? = some ("zip" : Str) from rfl) hg
 refine dY (vD k1 k2 (ay ha (ay hb aX (af DA _ _)) (af hn _ _)) (by rw[af hn,af DA];rfl) (af DA _ _)) fun σ H Q ⟨S,τ,hs,q⟩=>?_
 refine az (.refl _) hs.left (Bp.Bn q) fun x v H1 e1 _ m1 q1=>?_
 refine az e1 hs.right (Bp.Bn q1) fun y w H2 e2 Ci m2 q2=>?_
 have q3:=Bp.Bn (show Bp ex (Bn (jb x) fun ds=>Bn (jb y) fun es=>.ok (dv ds es)) _ from q2)
 have Qs:=m1.mono (fun _ z=>z) Ci
 cases hx:jb x with
 | error z=>
  rw[hx] at q3
  cases x<;>first|(cases hx;exact q3.no.elim)|cases hx
 | ok ds=>
  rw[hx] at q3
  have q4:=Bp.Bn q3.ok
  cases hy:jb y with
  | error z=>
   rw[hy] at q4
   cases y<;>first|(cases hy;exact q4.no.elim)|cases hy
  | ok Dt=>
   rw[hy] at q4
   obtain⟨k1,a1,xs,rfl,w1,r1⟩:=yJ (a:=0) Qs hx
   obtain⟨k2,a2,ys,rfl,w2,r2⟩:=yJ (a:=0) m2 hy
   exact⟨k1,k2,a1,a2,xs,ys,rfl,w1.sq,w2.sq,q4.ok.ok _ _ e2 (.zip w1 w2 r1 r2)⟩
theorem yM (g:BN Z CX cl xp X ex G){es:List Expr}{c:Nat}{tp:Pos}{e:Expr}{p pos:Pos}{va:List Nat}{fa:Ev->Res D}(hg:G.gl.contains 20=true)(hn:notStar e=true)(ha:PE X e (RD X.K ex va fa)) :
  PI X (.Tuple es c tp) (.Call (.Name "enumerate" p) [e] [] pos) (RI X.K ex va fun τ=>Bn (fa τ) qO):=by
 obtain⟨k1,k2,_,_⟩:=cw g (show aN[20]? = some ("enumerate" : Str) from rfl) hg
 refine dY (qL k1 k2 (ay ha aX (af hn _ _)) (af hn _ _)) fun σ H Q ⟨S,τ,hs,q⟩=>?_
 refine az (.refl _) hs (Bp.Bn q) fun x v H1 e1 _ m1 q1=>?_
 cases x with
 | lst o ds=>
  cases m1 with
  | lst h0 h1 h2=>exact⟨_,_,rfl,.inl h1,(show Bp ex (.ok (ej ds)) _ from q1).ok _ _ e1 (.D9 (.inl ⟨h0,h1⟩) h2)⟩
  | lstK h1 h2=>exact⟨_,_,rfl,h1.sq,(show Bp ex (.ok (ej ds)) _ from q1).ok _ _ e1 (.D9 (.inr h1) h2)⟩
 | _=>exact q1.no.elim
theorem yN (g:BN Z CX cl xp X ex G){tg e:Expr}{p pos:Pos}{va:List Nat}{fa:Ev->Res D}(hg:G.gl.contains 18=true)(hn:notStar e=true)(ha:PE X e (RD X.K ex va fa)) :
  PI X tg (.Call (.Name "reversed" p) [e] [] pos) (RI X.K ex va fun τ=>Bn (fa τ) qP):=by
 obtain⟨k1,k2,_,_⟩:=cw g (show aN[18]? = some ("reversed" : Str) from rfl) hg
 refine dY (vF k1 k2 (ay ha aX (af hn _ _)) (af hn _ _)) fun σ H Q ⟨S,τ,hs,q⟩=>?_
 refine az (.refl _) hs (Bp.Bn q) fun x v H1 e1 _ m1 q1=>?_
 cases x with
 | lst o ds=>
  cases m1 with
  | lst h0 h1 h2=>exact⟨_,_,rfl,.inl h1,(show Bp ex (.ok ds.reverse) _ from q1).ok _ _ e1 (.rev (.inl ⟨h0,h1⟩) h2)⟩
  | lstK h1 h2=>exact⟨_,_,rfl,h1.sq,(show Bp ex (.ok ds.reverse) _ from q1).ok _ _ e1 (.rev (.inr h1) h2)⟩
 | _=>exact q1.no.elim
theorem bS {env:Env}{x:Str}:∀ (names:List (Str×NameKind)),
  (names.map fun (n,k)=>if (k == NameKind.free&&env.scope.kind == .function&&env.kindOf n == some .cell) then (n,NameKind.cell) else (n,k)).lookup x =
   (names.lookup x).map fun k=>if (k == NameKind.free&&env.scope.kind == .function&&env.kindOf x == some .cell) then NameKind.cell else k
 | []=>rfl
 | (n,k)::r=>by
  have ih:=bS (env:=env) (x:=x) r
  rw[List.map_cons]
  show List.lookup x ((if (k == NameKind.free&&env.scope.kind == .function&&env.kindOf n == some .cell)=true then (n,NameKind.cell) else (n,k))::_)=_
  by_cases hc:(k == NameKind.free&&env.scope.kind == .function&&env.kindOf n == some .cell)=true
  ·rw[if_pos hc,List.lookup_cons,List.lookup_cons]
   cases hx:x == n with
   | true=>
    have e:x=n:=eq_of_beq hx
    subst e
    show some NameKind.cell=some (if _ then _ else _)
    rw[if_pos hc]
   | false=>exact ih
  ·rw[if_neg hc,List.lookup_cons,List.lookup_cons]
   cases hx:x == n with
   | true=>
    have e:x=n:=eq_of_beq hx
    subst e
    show some k=some (if _ then _ else _)
    rw[if_neg hc]
   | false=>exact ih
theorem jn {scope:Scope}{env:Env}(h:∀ y∈scope.names,y.2=.free->∃ c,env.cells.lookup y.1=some c) :
  ∃ CB,closureFor scope env=pure CB/\(∀ x c,CB.lookup x=some c->env.cells.lookup x=some c)/\∀ y∈scope.names,y.2=.free->∃ c,CB.lookup y.1=some c:=by
 have key:∀ (names:List (Str×NameKind)) (acc:List (Str×Addr)),(∀ y∈names,y.2=.free->∃ c,env.cells.lookup y.1=some c)->(∀ x c,acc.lookup x=some c->env.cells.lookup x=some c)->
   ∃ CB,(forIn names acc fun (p:Str×NameKind) (r:List (Str×Addr))=>(if (p.2 == NameKind.free)=true then do let a <- cellOf env p.1;pure (ForInStep.yield ((p.1,a)::r)) else pure (ForInStep.yield r):Sem (ForInStep (List (Str×Addr)))))=pure CB/\(∀ x c,CB.lookup x=some c->env.cells.lookup x=some c)/\
    (∀ y∈names,y.2=.free->∃ c,CB.lookup y.1=some c)/\∀ x c,acc.lookup x=some c->∃ c',CB.lookup x=some c':=by
  intro names
  induction names with
  | nil=>intro acc _ h2;exact⟨acc,rfl,h2,fun y hy=>absurd hy (by simp),fun x c e=>⟨c,e⟩⟩
  | cons p names ih=>
   intro acc h1 h2
   rw[List.forIn_cons]
   by_cases hp:p.2=.free
   ·obtain⟨c,hc⟩:=h1 p (by simp) hp
    have hb:(p.2 == NameKind.free)=true:=by rw[hp];rfl
    have N6:∀ x c',((p.1,c)::acc).lookup x=some c'->env.cells.lookup x=some c':=by
     intro x c' e
     rw[List.lookup_cons] at e
     cases hx:x == p.1 with
     | true=>
      rw[hx] at e
      cases e
      rw[eq_of_beq hx]
      exact hc
     | false=>rw[hx] at e;exact h2 x c' e
    obtain⟨CB,e1,e2,e3,e4⟩:=ih ((p.1,c)::acc) (fun y hy=>h1 y (List.mem_cons_of_mem _ hy)) N6
    refine⟨CB,?_,e2,fun y hy hf=>?_,fun x c' e=>?_⟩
    ·rw[if_pos hb]
     have:cellOf env p.1=pure c:=by unfold cellOf;rw[hc]
     rw[this]
     exact e1
    ·rcases List.mem_cons.mp hy with rfl|hy
     ·exact e4 y.1 c (by rw[List.lookup_cons];simp)
     ·exact e3 y hy hf
    ·rcases hx:x == p.1 with _|_
     ·exact e4 x c' (by rw[List.lookup_cons,hx];exact e)
     ·exact e4 x c (by rw[List.lookup_cons,hx])
   ·have hb:¬ (p.2 == NameKind.free)=true:=fun z=>hp (eq_of_beq z)
    obtain⟨CB,e1,e2,e3,e4⟩:=ih acc (fun y hy=>h1 y (List.mem_cons_of_mem _ hy)) h2
    refine⟨CB,?_,e2,fun y hy hf=>?_,e4⟩
    ·rw[if_neg hb]
     exact e1
    ·rcases List.mem_cons.mp hy with rfl|hy
     ·exact absurd hf hp
     ·exact e3 y hy hf
 obtain⟨CB,e1,e2,e3,_⟩:=key scope.names [] h (fun x c e=>by cases e)
 refine⟨CB,?_,e2,e3⟩
 unfold closureFor
 exact congrArg (fun (m:Sem (List (Str×Addr)))=>m >>= fun r=>pure r) e1
structure Fp (Z:Sg)(G:Gm)(scope:Scope)(G':Gm)(fr:List Nat):Prop where
 cm:G.cm=true
 kind:scope.kind=.function
 tr:G'.tr=false
 df:G'.df=false
 S5:G'.kd.length=G'.N.length
 DM:∀ y∈scope.names,y.2≠.cell
 loc:∀ y∈scope.names,y.2=.local->scope.names.lookup y.1=some .local
 Qt:∀ y∈scope.names,y.2=.free->∃ i:Nat,G.N[i]? = some y.1/\(G.kd[i]? = some .cell∨G.kd[i]? = some .free)
 Cg:∀ (j:Nat) (i:Nat),fr[j]? = some i->∃ x,G.N[i]? = some x/\G'.N[j]? = some x/\scope.names.lookup x=some .free/\(G.kd[i]? = some .cell∨G.kd[i]? = some .free)/\G'.kd[j]? = some (if (G.kd[i]? == some .cell)=true then .cell else .free)
 Kj:fr.length<=G'.N.length
 Dr:∀ (j:Nat) (x:Str),fr.length<=j->G'.N[j]? = some x->scope.names.lookup x=some .local/\G'.kd[j]? = some .local
 Er:∀ x∈G'.N,(x == ("__debug__" : Str))=false/\(x == ("__classdict__" : Str))=false
 B2:G'.N.Nodup
 gl:∀ n∈G'.gl,∃ x,Z.name n=some x/\scope.names.lookup x=some .globalImplicit
theorem gx {Z:Sg}{G:Gm}{scope:Scope}{G':Gm}{fr:List Nat}(h:bb Z G scope G' fr=true):Fp Z G scope G' fr:=by
 unfold bb at h
 simp only[Bool.and_eq_true] at h
 obtain⟨⟨⟨⟨⟨⟨⟨⟨⟨⟨⟨⟨⟨h0,h1⟩,Hd⟩,h2⟩,h3⟩,h4⟩,h5⟩,h6⟩,h7⟩,h8⟩,h9⟩,G3⟩,IW⟩,JT⟩:=h
 rw[List.all_eq_true] at h4 h5 h6 h7 h9 G3 JT
 refine⟨h0,eq_of_beq h1,by simpa using Hd,by simpa using h2,eq_of_beq h3,fun y hy=>by simpa using h4 y hy,fun y hy e=>?_,fun y hy e=>?_,fun j i e=>?_,of_decide_eq_true h8,fun j x hj e=>?_,fun x hx=>by simpa using G3 x hx,of_decide_eq_true IW,fun n hn=>?_⟩
 ·have:=h5 y hy
  rw[e] at this
  simpa using this
 ·have:=h6 y hy
  rw[e] at this
  simp only[bne_self_eq_false,Bool.false_or,List.any_eq_true,Bool.and_eq_true,Bool.or_eq_true] at this
  obtain⟨i,_,hi,hk⟩:=this
  exact⟨i,eq_of_beq hi,hk.elim (fun z=>.inl (eq_of_beq z)) fun z=>.inr (eq_of_beq z)⟩
 ·have hj:j < fr.length:=(List.getElem?_eq_some_iff.mp e).1
  have:=h7 j (List.mem_range.mpr hj)
  simp only[e,Option.bind_some,Bool.and_eq_true,Bool.or_eq_true] at this
  obtain⟨⟨⟨a1,a2⟩,a3⟩,a4⟩:=this
  have N7:=eq_of_beq a1
  have Lk:=eq_of_beq a2
  cases q:G'.N[j]? with
  | none=>rw[q] at Lk;cases Lk
  | some x=>
   rw[q] at Lk N7
   exact⟨x,N7.symm,rfl,Lk,a3.elim (fun z=>.inl (eq_of_beq z)) fun z=>.inr (eq_of_beq z),eq_of_beq a4⟩
 ·have Cu:j < G'.N.length:=(List.getElem?_eq_some_iff.mp e).1
  have hm:j∈(List.range G'.N.length).drop fr.length:=by
   rw[List.mem_drop_iff_getElem]
   exact⟨j - fr.length,by simp;omega,by simp;omega⟩
  have:=h9 j hm
  rw[e] at this
  simp only[Option.bind_some,Bool.and_eq_true] at this
  exact⟨eq_of_beq this.1,eq_of_beq this.2⟩
 ·have:=JT n hn
  cases q:Z.name n with
  | none=>rw[q] at this;cases this
  | some x=>
   rw[q] at this
   exact⟨x,rfl,eq_of_beq this⟩
noncomputable def Fq (G:Gm)(fr:List Nat):List (Str×Nat):=fr.map fun i=>(G.N.getD i "",i)
theorem yO {scope:Scope}{G':Gm}{fr:List Nat}(s:Fp Z G scope G' fr):(Fq G fr).map (·.1)++G'.N.drop fr.length=G'.N:=by
 have e:(Fq G fr).map (·.1)=G'.N.take fr.length:=by
  apply List.ext_getElem?
  intro j
  unfold Fq
  rw[List.map_map,List.getElem?_map,List.getElem?_take]
  cases q:fr[j]? with
  | none=>
   have:¬ j < fr.length:=by
    intro z
    rw[List.getElem?_eq_getElem z] at q
    cases q
   rw[if_neg this]
   rfl
  | some i=>
   have:j < fr.length:=(List.getElem?_eq_some_iff.mp q).1
   rw[if_pos this]
   obtain⟨x,h1,h2,_⟩:=s.Cg j i q
   rw[h2]
   show some (G.N.getD i "")=some x
   rw[List.getD_eq_getElem?_getD,h1]
   rfl
 rw[e,List.take_append_drop]
theorem dD (g:BN Z CX cl xp X ex G)(ok:X.Ok){scope:Scope}{G':Gm}{fr:List Nat}(s:Fp Z G scope G' fr):∃ CB,CP X scope CB (Fq G fr) (G'.N.drop fr.length):=by
 have EU:∀ y∈scope.names,y.2=.free->∃ c,X.env.cells.lookup y.1=some c:=fun y hy hf=>by
  obtain⟨i,h1,h2⟩:=s.Qt y hy hf
  have hk:=g.kd i y.1 h1
  exact ok.has y.1 (h2.elim (fun z=>.inl (hk.trans z)) fun z=>.inr (hk.trans z))
 obtain⟨CB,e1,e2,e3⟩:=jn EU
 refine⟨CB,e1,s.kind,s.DM,s.loc,e2,fun x hx=>?_,fun p hp=>?_⟩
 ·have hl:=bS (env:=X.env) (x:=x) scope.names
  have CA:((scope.names.lookup x).map fun k=>if (k == NameKind.free&&X.env.scope.kind == .function&&X.env.kindOf x == some .cell)=true then NameKind.cell else k)=some .cell∨
    ((scope.names.lookup x).map fun k=>if (k == NameKind.free&&X.env.scope.kind == .function&&X.env.kindOf x == some .cell)=true then NameKind.cell else k)=some .free:=by
   rcases hx with hx|hx
   ·exact .inl (hl.symm.trans hx)
   ·exact .inr (hl.symm.trans hx)
  cases q:scope.names.lookup x with
  | none=>rw[q] at CA;rcases CA with z|z<;>cases z
  | some k=>
   have hm:(x,k)∈scope.names:=PySem.mem_of_lookup q
   have hk:k=.free:=by
    rw[q] at CA
    rcases CA with z|z
    ·have z':(if (k == NameKind.free&&X.env.scope.kind == .function&&X.env.kindOf x == some .cell)=true then NameKind.cell else k)=.cell:=Option.some.inj z
     split at z'
     ·rename_i hc
      simp only[Bool.and_eq_true] at hc
      exact eq_of_beq hc.1.1
     ·exact absurd z' (s.DM _ hm)
    ·have z':(if (k == NameKind.free&&X.env.scope.kind == .function&&X.env.kindOf x == some .cell)=true then NameKind.cell else k)=.free:=Option.some.inj z
     split at z'
     ·cases z'
     ·exact z'
   exact e3 (x,k) hm hk
 ·unfold Fq at hp
  rw[List.mem_map] at hp
  obtain⟨i,hi,rfl⟩:=hp
  obtain⟨j,hj⟩:=List.getElem?_of_mem hi
  obtain⟨x,h1,h2,h3,h4,h5⟩:=s.Cg j i hj
  have hn:G.N.getD i "" = x:=by rw[List.getD_eq_getElem?_getD,h1];rfl
  show X.N[i]? = some (G.N.getD i "")/\_
  rw[hn]
  have hk:=g.kd i x h1
  refine⟨by rw[g.N];exact h1,h4.elim (fun z=>.inl (hk.trans z)) fun z=>.inr (hk.trans z),?_⟩
  have hl:=bS (env:=X.env) (x:=x) scope.names
  rw[h3] at hl
  have JW:(relabel scope X.env).names.lookup x=some (if (NameKind.free == NameKind.free&&X.env.scope.kind == .function&&X.env.kindOf x == some .cell)=true then NameKind.cell else NameKind.free):=hl
  rw[JW]
  split
  ·exact .inl rfl
  ·exact .inr rfl
theorem bc (g:BN Z CX cl xp X ex G){scope:Scope}{G':Gm}{fr:List Nat}(s:Fp Z G scope G' fr)(CB:List (Str×Addr))(C:Addr)(s3:Shared)(H3:Hp)(fp:List Addr) :
  BN Z CX cl xp (EW X scope CB ((Fq G fr).map (·.1)++G'.N.drop fr.length) C s3 H3 fp) (fun _=>False) G' where
 N:=yO s
 B2:=s.B2
 calm:=fun _=>g.calm s.cm
 fk:=s.kind
 un:=g.un
 own:=fun _=>PassesOwn.never
 kd:=fun j x hx=>by
  show (relabel scope X.env).names.lookup x=_
  have hl:=bS (env:=X.env) (x:=x) scope.names
  by_cases hj:j < fr.length
  ·obtain⟨y,h1,h2,h3,h4,h5⟩:=s.Cg j fr[j] (by simp[hj])
   rw[hx] at h2
   cases h2
   rw[h3] at hl
   rw[h5]
   refine hl.trans ?_
   have hk:=g.kd fr[j] x h1
   show some (if (NameKind.free == NameKind.free&&X.env.scope.kind == .function&&X.env.kindOf x == some .cell)=true then NameKind.cell else NameKind.free)=_
   rw[hk,g.fk]
   rfl
  ·obtain⟨h1,h2⟩:=s.Dr j x (by omega) hx
   rw[h1] at hl
   rw[h2]
   exact hl
 Er:=fun j x hx=>s.Er x (List.mem_of_getElem? hx)
 gl:=fun n hn x e=>by
  obtain⟨y,h1,h2⟩:=s.gl n hn
  rw[e] at h1
  cases h1
  show (relabel scope X.env).names.lookup x=_
  have hl:=bS (env:=X.env) (x:=x) scope.names
  rw[h2] at hl
  exact hl
 E5:=g.E5
 df:=fun z=>by rw[s.df] at z;cases z
 blt:=g.blt
 cst:=g.cst
 fns:=fun f hf _ x hx=>g.fns f hf (.inl s.cm) x hx
 Dq:=fun f hf _ x hx=>g.Dq f hf s.cm x hx
 Fm:=g.Fm
 EJ:=g.EJ
 Fo:=g.Fo
 E6:=g.E6
 Jf:=fun _ pins σ H s c C h' e vs _ z=>z.elim
 tr:=fun z=>by rw[s.tr] at z;cases z
 Jg:=⟨fun _ _ _=>False,fun pins σ H s e s' _ h=>(g.FA _ _ _ _ _ h).elim,fun c _ z=>z.elim⟩
 Fe:=g.Fe
 FA:=g.FA
end
abbrev Ca:Str->Prop:=fun _=>False
theorem Bp.Dc {α:Type}{ex:Str->Prop}{x:Res α}{k:α->Prop}(h:Bp ex (L2.Dc x) k):Bp Ca x k:=by
 cases x with
 | ok a=>exact h
 | error e=>exact False.elim h
section
variable {K:PySem.W.Frag}{S:Addr->Prop}{H:Hp}{σ:St}{τ:Ev}{ex:Str->Prop}{cl:Nat->List D->Res D}{G G':Gm}{fr:List Nat}
noncomputable def EL (G':Gm)(fr:List Nat)(τ:Ev):Ev:=fr.map (ah τ)++List.replicate (G'.N.length - fr.length) none
theorem ri (hl:fr.length<=G'.N.length):(EL G' fr τ).length=G'.N.length:=by
 unfold EL
 rw[List.length_append,List.length_map,List.length_replicate]
 omega
theorem rj (Tg:List Str)(σ:St):(stC (Fq G fr) Tg σ).length=fr.length+Tg.length:=by
 unfold stC Fq
 rw[List.length_append,List.length_map,List.length_map,List.length_replicate]
theorem nk {j:Nat}{d:D}(h:ah (EL G' fr τ) j=some d):∃ i,fr[j]? = some i/\ah τ i=some d:=by
 unfold ah EL at h
 by_cases hj:j < fr.length
 ·rw[List.getElem?_append_left (by simpa using hj),List.getElem?_map,List.getElem?_eq_getElem hj] at h
  exact⟨fr[j],by simp[hj],h⟩
 ·rw[List.getElem?_append_right (by simpa using hj),List.getElem?_replicate] at h
  split at h<;>cases h
theorem rk {vs:List Nat}{Bz:St}(hl:fr.length<=G'.N.length)(hs:Slots K S H σ τ (fr++vs))(hn:Bz.length=G'.N.length)(CW:∀ j,j < fr.length->Bz[j]? = (stC (Fq G fr) (G'.N.drop fr.length) σ)[j]?):Ji K S H Bz (EL G' fr τ):=by
 refine⟨by rw[ri hl,hn],fun j d h=>?_⟩
 obtain⟨i,hi,hd⟩:=nk h
 have hj:j < fr.length:=(List.getElem?_eq_some_iff.mp hi).1
 obtain⟨v,h1,h2⟩:=hs i (List.mem_append_left _ (List.mem_of_getElem? hi)) d hd
 refine⟨v,?_,h2⟩
 rw[CW j hj]
 unfold stC Fq
 rw[List.getElem?_append_left (by simpa using hj),List.getElem?_map,List.getElem?_map,hi]
 show some ((σ[i]?).join)=some (some v)
 rw[h1]
 rfl
noncomputable def bB (cl:Nat->List D->Res D)(T:Tg)(I:List IR)(E:IR)(Qu:Ev)(x:D):Res (Option D):=Bn (br T x Qu) fun Ge=>Bn (cL cl I Ge) fun r=>if r=true then Bn (Bt cl E Ge) fun d=>.ok (some d) else .ok none
theorem bT {vs:List Nat}{fs:Ev->Res (List D)}{T:Tg}{I:List IR}{E:IR}{Kt:D->Prop}{Q:VK}(hl:fr.length<=G'.N.length)(ha:∀ i∈Dr T,fr.length<=i)(hs:Slots K S H σ τ (fr++vs))
  (q:Bp ex (Bn (fs τ) fun its=>Bv (bF its.length) (Bn (Dc (aR (bB cl T I E (EL G' fr τ)) its)) fun ds=>.ok (.lst true ds))) Kt)
  (fin:∀ A ys ds H',aj H H'->H A=none->H' A=some (.lst ys)->Bo K (fun a=>nw S H a/\a≠A) H' ys ds->Kt (.lst true ds)->Q (.ref A) H') :
  mz (RI K ex vs fs) (stC (Fq G fr) (G'.N.drop fr.length)) (gT K T) (RT K Ca (av I) (cL cl I)) (RD K Ca (vars E) (Bt cl E)) σ H Q:=by
 refine yG (.refl _) hs.right (Bp.Bn q) fun its J H1 e1 _ w1 q1 A hA=>?_
 obtain⟨gd,q1⟩:=Bp.Bv q1
 have q2:=Bp.Dc (Bp.Bn q1)
 have hsz:=dM gd
 have Qv:H A=none:=e1.free hA
 -- LG is read Mo apart from Hu new list
 have D7:∀ a,nw S H a->H1 a≠none->nw S H a/\a≠A:=fun a h1 h2=>⟨h1,fun z=>h2 (by rw[z];exact hA)⟩
 have w2:C6 K (fun a=>nw S H a/\a≠A) H1 J its:=w1.step (fun a xs h r=>⟨D7 a h r.some,r⟩) fun a xs h=>h
 have EF:Slots K (fun a=>nw S H a/\a≠A) H1 σ τ (fr++vs):=fun i hi d z=>by
  obtain⟨v,h1,h2⟩:=(hs.go e1) i hi d z
  exact⟨v,h1,h2.step (fun a xs h r=>⟨D7 a h r.some,r⟩) fun a xs h=>h⟩
 refine⟨fun i m Bz H'=>m=its.length - i/\i<=its.length/\∃ ys acc,H' A=some (.lst ys)/\Bo K (fun a=>nw S H a/\a≠A) H' ys acc/\ys.length<=i/\aj H1 H'/\Bz.length=G'.N.length/\
   (∀ j,j < fr.length->Bz[j]? = (stC (Fq G fr) (G'.N.drop fr.length) σ)[j]?)/\Bp Ca (aR (bB cl T I E (EL G' fr τ)) (its.drop i)) fun ds=>Kt (.lst true (acc++ds)),⟨its.length,by simp,Nat.zero_le _,[],[],aq,.nil,Nat.le_refl _,.upd hA,?_,fun _ _=>rfl,?_⟩,?_⟩
 ·rw[rj,List.length_drop];omega
 ·rw[List.drop_zero]
  exact q2.mono fun ds z=>z.ok
 ·rintro i m Bz H' ⟨rfl,hi,ys,acc,hy,my,ly,e2,hn,CW,q3⟩
  by_cases Cu:i < its.length
  ·refine .inr ⟨(w2.mono (fun _ z=>z) e2).go Cu,fun x H2 Qw=>?_⟩
   obtain⟨eH,mx⟩:=(w2.mono (fun _ z=>z) e2).Gn Qw (d:=its[i]) (by simp[Cu])
   have hy:=eH _ _ hy
   have my:=my.mono (fun _ z=>z) eH
   have e2:=e2.trans eH
   have hd:its.drop i=its[i]::its.drop (i+1):=List.drop_eq_getElem_cons Cu
   rw[hd] at q3
   have q4:=Bp.Bn q3
   have q5:Bp Ca (br T its[i] (EL G' fr τ)) _:=Bp.Bn q4
   have sl:Ji K (fun a=>nw S H a/\a≠A) H2 Bz (EL G' fr τ):=rk (G:=G) (vs:=vs) (σ:=σ) hl (fun i hi d z=>by
    obtain⟨v,h1,h2⟩:=EF i hi d z
    exact⟨v,h1,h2.mono (fun _ z=>z) e2⟩) hn CW
   refine jS T sl mx q5 fun τ' D3 Qx DA hk q6=>?_
   have K4:D3.length=G'.N.length:=DA.trans hn
   have Kl:∀ j,j < fr.length->D3[j]? = (stC (Fq G fr) (G'.N.drop fr.length) σ)[j]?:=fun j hj=>by
    rw[hk j (fun z=>by have:=ha j z;omega)]
    exact CW j hj
   have N8:∀ is,Slots K (fun a=>nw S H a/\a≠A) H2 D3 τ' is:=fun is i _ d z=>Qx.2 i d z
   refine cZ (.refl _) (N8 _) (Bp.Bn q6) fun r H4 e4 _ q7=>?_
   cases r with
   | false=>
    rw[if_neg Bool.false_ne_true] at q7 ⊢
    have q8:Bp Ca (aR (bB cl T I E (EL G' fr τ)) (its.drop (i+1))) fun ds=>Kt (.lst true (acc++ds)):=q7
    refine⟨its.length - (i+1),by omega,rfl,Cu,ys,acc,e4 _ _ hy,my.mono (fun _ z=>z) e4,by omega,e2.trans e4,K4,Kl,q8⟩
   | true=>
    rw[if_pos rfl] at q7 ⊢
    refine az e4 (N8 _) (Bp.Bn q7) fun d v H5 e5 S6 m5 q8=>?_
    have q9:Bp Ca (Bn (aR (bB cl T I E (EL G' fr τ)) (its.drop (i+1))) fun r=>.ok (d::r)) fun ds=>Kt (.lst true (acc++ds)):=q8
    have IV:=Bp.Bn q9
    have N9:H5 A=some (.lst ys):=e5 _ _ hy
    refine⟨ys,N9,by omega,its.length - (i+1),by omega,rfl,Cu,ys++[v],acc++[d],aq,?_,by rw[List.length_append,List.length_singleton];omega,?_,K4,Kl,?_⟩
    ·have N':∀ a (xs:LD),(nw S H a/\a≠A)->Rd H5 a xs.o->(nw S H a/\a≠A)/\Rd (upd H5 A (.lst (ys++[v]))) a xs.o:=fun a xs h r=>by
      refine⟨h,?_⟩
      unfold Rd
      rw[ag h.2]
      exact r
     have Oa:∀ a xs,B5 K H5 a xs->B5 K (upd H5 A (.lst (ys++[v]))) a xs:=fun a xs h=>h.upd N9
     have m6:Bq K (fun a=>nw S H a/\a≠A) H5 v d:=m5.step (fun a xs h r=>⟨by
      rcases h with h|h
      ·exact h
      ·have:H a=none:=e1.free (e2.free h)
       exact⟨.inr this,fun z=>by rw[z,hy] at h;cases h⟩,r⟩) fun a xs h=>h
     exact(((my.mono (fun _ z=>z) e5).step N' Oa)).append (.cons (m6.step N' Oa) .nil)
    ·exact fun b o hb=>by
      have:b≠A:=by rintro rfl;rw[hA] at hb;cases hb
      rw[ag this]
      exact e5 _ _ (e2 _ _ hb)
    ·refine IV.mono fun ds z=>?_
     have z':=z.ok
     rw[List.append_assoc]
     exact z'
  ·have e:i=its.length:=by omega
   subst e
   refine .inl ⟨(w2.mono (fun _ z=>z) e2).stop rfl,?_⟩
   rw[List.drop_length] at q3
   have q4:=q3.ok
   rw[List.append_nil] at q4
   exact fin A ys acc H' (e1.trans e2) Qv hy my q4
end
section
variable {Z:Sg}{CX:Cy}{cl:Nat->List D->Res D}{xp:XK->Hp->Str->Prop}{X:Cx}{ex:Str->Prop}{G G':Gm}{fr:List Nat}
theorem eI {T:Tg}{s:Sr}{I:List IR}{E:IR}:Bt cl (.comp G' fr T s I E)=fun τ=>Bn (bZ cl s τ) fun its=>Bv (bF its.length) (Bn (Dc (aR (bB cl T I E (EL G' fr τ)) its)) fun ds=>.ok (.lst true ds)):=rfl
theorem v5 (g:BN Z CX cl xp X ex G){scope:Scope}{tg iter elt:Expr}{ifs:List Expr}{pos:Pos}{T:Tg}{s:Sr}{I:List IR}{E:IR}(hs:Fp Z G scope G' fr)(hT:bI G' T tg=true)(ha:∀ i∈Dr T,fr.length<=i)
  (hi:PI X tg iter (RI X.K ex (cU s) (bZ cl s))) (ht:∀ X',BN Z CX cl xp X' Ca G'->Gv X' ifs (RT X'.K Ca (av I) (cL cl I))) (he:∀ X',BN Z CX cl xp X' Ca G'->PE X' elt (RD X'.K Ca (vars E) (Bt cl E)))
  (hf:∀ x,foldedSetIterable iter X.env x=pure x):PE X (.ListComp elt [⟨tg,iter,ifs,0⟩] scope pos) (RD X.K ex (fr++cU s) (Bt cl (.comp G' fr T s I E))):=by
 intro pins s' σ H Q Iv h
 obtain⟨CB,S⟩:=dD g Iv.ok hs
 have p:=jG (pos:=pos) (elt:=elt) (ifs:=ifs) (tg:=tg) (g:=gT X.K T) (tt:=RT X.K Ca (av I) (cL cl I)) (te:=RD X.K Ca (vars E) (Bt cl E)) (g.calm hs.cm) S hi (fun C s H fp=>HQ (bc g hs CB C s H fp) T tg hT) (fun C s H fp=>ht _ (bc g hs CB C s H fp)) (fun C s H fp=>he _ (bc g hs CB C s H fp)) hf
 refine p pins s' σ H Q Iv ?_
 obtain⟨S0,τ,Mp,q⟩:=h
 rw[eI] at q
 exact bT hs.Kj ha Mp q fun A ys ds H' e hA He m k=>k _ _ e (.lst (.inr hA) (.inl He) (m.mono (fun _ z=>z.1) (.refl _)))
end
section
variable {Z:Sg}{CX:Cy}{cl:Nat->List D->Res D}{xp:XK->Hp->Str->Prop}
theorem lO {e:Expr}{a:IR}{G:Gm}(h:Bx Z G a e=true)(env:Env)(x:Value):foldedSetIterable e env x=pure x:=by
 cases e<;>first|rfl|(cases a<;>cases h)
theorem bG {e:Expr}{a:Sr}{G:Gm}(h:bM Z G a e=true)(env:Env)(x:Value):foldedSetIterable e env x=pure x:=by
 cases a with
 | val a=>exact lO (show Bx Z G a e=true from h) env x
 | _=>cases e<;>first|rfl|cases h
theorem both {X:Cx}{ex:Str->Prop}{e:Expr}{is:List Nat}{f:Ev->Res D}(h:PE X e (RD X.K ex is f))(he:∀ whole,isTrue e X.env whole=(do let v <- whole;standAt e.pos;holding [v] (truthy v)):=by intro _;rfl) :
  PE X e (RD X.K ex is f)/\PT X e (RT X.K ex is fun τ=>Bn (f τ) aB):=⟨h,yk h he⟩
mutual
theorem snd:∀ (a:IR) (X:Cx) (ex:Str->Prop) (G:Gm) (e:Expr),BN Z CX cl xp X ex G->Bx Z G a e=true->PE X e (RD X.K ex (vars a) (Bt cl a))/\PT X e (RT X.K ex (vars a) fun τ=>Bn (Bt cl a τ) aB)
 | .c d,X,ex,G,e,g,h=>by
  cases e with
  | Constant k j pos=>exact both (Qn h)
  | _=>first|exact aa h|cases h
 | .g n d,X,ex,G,e,g,h=>by
  cases e with
  | Name x pos=>
   have h':(aT Z G n x&&Z.Je.any fun p=>p.1 == n&&lI p.2 d)=true:=h
   rw[Bool.and_eq_true] at h'
   exact both (Qo g h'.1 h'.2)
  | _=>first|exact aa h|cases h
 | .v i,X,ex,G,e,g,h=>by
  cases e with
  | Name x pos=>exact both (Qm g h)
  | _=>first|exact aa h|cases h
 | .bin op a b,X,ex,G,e,g,h=>by
  cases e with
  | BinOp l o r pos=>
   have h':(o == GG op&&Bx Z G a l&&Bx Z G b r)=true:=h
   simp only[Bool.and_eq_true] at h'
   have e1:o=GG op:=eq_of_beq h'.1.1
   subst e1
   exact both (yl (snd a X ex G l g h'.1.2).1 (snd b X ex G r g h'.2).1)
  | _=>first|exact aa h|cases h
 | .neg a,X,ex,G,e,g,h=>by
  cases e with
  | UnaryOp o l pos=>
   cases o with
   | USub=>exact both (ym (snd a X ex G l g h).1)
   | _=>first|exact aa h|cases h
  | _=>first|exact aa h|cases h
 | .cmp op a b,X,ex,G,e,g,h=>by
  cases e with
  | Compare l os rs pos=>
   match os,rs,h with
   | [o],[r],h=>
    have h':(o == DP op&&Bx Z G a l&&Bx Z G b r&&!behindInMarks o r)=true:=h
    simp only[Bool.and_eq_true] at h'
    have e1:o=DP op:=eq_of_beq h'.1.1.1
    subst e1
    exact yn g (snd a X ex G l g h'.1.1.2).1 (snd b X ex G r g h'.1.2).1 (by simpa using h'.2)
   | [],_,h=>first|exact aa h|cases h
   | [_],[],h=>first|exact aa h|cases h
   | [_],_::_::_,h=>first|exact aa h|cases h
   | _::_::_,_,h=>first|exact aa h|cases h
  | _=>first|exact aa h|cases h
 | .chain op Cb a b c,X,ex,G,e,g,h=>by
  cases e with
  | Compare l os rs pos=>
   match os,rs,h with
   | [o,o'],[m,r],h=>
    have h':(o == DP op&&o' == DP Cb&&Bx Z G a l&&Bx Z G b m&&Bx Z G c r&&!lastMarks [o,o'] [m,r])=true:=h
    simp only[Bool.and_eq_true] at h'
    have e1:o=DP op:=eq_of_beq h'.1.1.1.1.1
    have e2:o'=DP Cb:=eq_of_beq h'.1.1.1.1.2
    subst e1 e2
    exact rh g (snd a X ex G l g h'.1.1.1.2).1 (snd b X ex G m g h'.1.1.2).1 (snd c X ex G r g h'.1.2).1 (by simpa using h'.2)
   | [],_,h=>first|exact aa h|cases h
   | [_],_,h=>first|exact aa h|cases h
   | [_,_],[],h=>first|exact aa h|cases h
   | [_,_],[_],h=>first|exact aa h|cases h
   | [_,_],_::_::_::_,h=>first|exact aa h|cases h
   | _::_::_::_,_,h=>first|exact aa h|cases h
  | _=>first|exact aa h|cases h
 | .BV a b,X,ex,G,e,g,h=>by
  cases e with
  | BoolOp o es pos=>
   match o,es,h with
   | .And,[l,r],h=>
    have h':(Bx Z G a l&&Bx Z G b r)=true:=h
    rw[Bool.and_eq_true] at h'
    obtain⟨pa,ta⟩:=snd a X ex G l g h'.1
    obtain⟨pb,tb⟩:=snd b X ex G r g h'.2
    exact⟨so pa (lZ pb),sr ta (qf tb)⟩
   | .And,l::r::r'::rest,h=>
    have h':(Bx Z G a l&&Bx Z G b (.BoolOp .And (r::r'::rest) pos))=true:=h
    rw[Bool.and_eq_true] at h'
    obtain⟨pa,ta⟩:=snd a X ex G l g h'.1
    obtain⟨pb,tb⟩:=snd b X ex G _ g h'.2
    exact⟨so pa pb,sr ta (ng (e:=l) tb)⟩
   | .And,[],h=>first|exact aa h|cases h
   | .And,[_],h=>first|exact aa h|cases h
   | .Or,_,h=>first|exact aa h|cases h
  | _=>first|exact aa h|cases h
 | .E0 a b,X,ex,G,e,g,h=>by
  cases e with
  | BoolOp o es pos=>
   match o,es,h with
   | .Or,[l,r],h=>
    have h':(Bx Z G a l&&Bx Z G b r)=true:=h
    rw[Bool.and_eq_true] at h'
    obtain⟨pa,ta⟩:=snd a X ex G l g h'.1
    obtain⟨pb,tb⟩:=snd b X ex G r g h'.2
    exact⟨yo pa (lZ pb),yq ta (uV tb)⟩
   | .Or,l::r::r'::rest,h=>
    have h':(Bx Z G a l&&Bx Z G b (.BoolOp .Or (r::r'::rest) pos))=true:=h
    rw[Bool.and_eq_true] at h'
    obtain⟨pa,ta⟩:=snd a X ex G l g h'.1
    obtain⟨pb,tb⟩:=snd b X ex G _ g h'.2
    exact⟨yo pa pb,yq ta (ng (e:=l) tb)⟩
   | .Or,[],h=>first|exact aa h|cases h
   | .Or,[_],h=>first|exact aa h|cases h
   | .And,_,h=>first|exact aa h|cases h
  | _=>first|exact aa h|cases h
 | .Ce a,X,ex,G,e,g,h=>by
  cases e with
  | UnaryOp o l pos=>
   cases o with
   | Not=>
    obtain⟨pa,ta⟩:=snd a X ex G l g h
    exact yp pa ta
   | _=>first|exact aa h|cases h
  | _=>first|exact aa h|cases h
 | .ite t a b,X,ex,G,e,g,h=>by
  cases e with
  | IfExp c x y pos=>
   have h':(Bx Z G t c&&Bx Z G a x&&Bx Z G b y)=true:=h
   simp only[Bool.and_eq_true] at h'
   obtain⟨pa,ta⟩:=snd a X ex G x g h'.1.2
   obtain⟨pb,tb⟩:=snd b X ex G y g h'.2
   exact yr (snd t X ex G c g h'.1.1).2 pa pb ta tb
  | _=>first|exact aa h|cases h
 | .tup es,X,ex,G,e,g,h=>by
  cases e with
  | Tuple l n pos=>exact both (yt (iz es X ex G l g h))
  | _=>first|exact aa h|cases h
 | .lst es,X,ex,G,e,g,h=>by
  cases e with
  | List l pos=>exact both (yu (iz es X ex G l g h))
  | _=>first|exact aa h|cases h
 | .idx a i,X,ex,G,e,g,h=>by
  cases e with
  | Subscript o s pos=>
   have h':(ba s&&Bx Z G a o&&Bx Z G i s)=true:=by
    cases s<;>first|exact h|(rename_i l u st p;cases st<;>exact h)
   simp only[Bool.and_eq_true] at h'
   exact both (yv (snd a X ex G o g h'.1.2).1 (snd i X ex G s g h'.2).1 h'.1.1)
  | _=>first|exact aa h|cases h
 | .sl a lo hi,X,ex,G,e,g,h=>by
  cases e with
  | Subscript o s pos=>
   match s,h with
   | .Slice l u none p,h=>
    have h':(Bx Z G a o&&jk Z G lo l&&jk Z G hi u)=true:=h
    simp only[Bool.and_eq_true] at h'
    exact both (Bf (snd a X ex G o g h'.1.1).1 (rl lo X ex G l g h'.1.2) (rl hi X ex G u g h'.2))
   | .Slice _ _ (some _) _,h=>first|exact aa h|cases h
   | .BoolOp ..,h=>first|exact aa h|cases h
   | .NamedExpr ..,h=>first|exact aa h|cases h
   | .BinOp ..,h=>first|exact aa h|cases h
   | .UnaryOp ..,h=>first|exact aa h|cases h
   | .Lambda ..,h=>first|exact aa h|cases h
   | .IfExp ..,h=>first|exact aa h|cases h
   | .Dict ..,h=>first|exact aa h|cases h
   | .Set ..,h=>first|exact aa h|cases h
   | .ListComp ..,h=>first|exact aa h|cases h
   | .SetComp ..,h=>first|exact aa h|cases h
   | .DictComp ..,h=>first|exact aa h|cases h
   | .GeneratorExp ..,h=>first|exact aa h|cases h
   | .Await ..,h=>first|exact aa h|cases h
   | .Yield ..,h=>first|exact aa h|cases h
   | .YieldFrom ..,h=>first|exact aa h|cases h
   | .Compare ..,h=>first|exact aa h|cases h
   | .Call ..,h=>first|exact aa h|cases h
   | .FormattedValue ..,h=>first|exact aa h|cases h
   | .JoinedStr ..,h=>first|exact aa h|cases h
   | .Constant ..,h=>first|exact aa h|cases h
   | .Attribute ..,h=>first|exact aa h|cases h
   | .Subscript ..,h=>first|exact aa h|cases h
   | .Starred ..,h=>first|exact aa h|cases h
   | .Name ..,h=>first|exact aa h|cases h
   | .List ..,h=>first|exact aa h|cases h
   | .Tuple ..,h=>first|exact aa h|cases h
  | _=>first|exact aa h|cases h
 | .call f es,X,ex,G,e,g,h=>by
  cases e with
  | Call fn args CU pos=>
   cases fn with
   | Name x p=>
    cases CU with
    | nil=>
     have h':(aT Z G f x&&Z.Ha G f&&aO Z G es args)=true:=h
     simp only[Bool.and_eq_true] at h'
     exact both (s_call g h'.1.1 h'.1.2 h'.2 (iz es X ex G args g h'.2))
    | cons _ _=>first|exact aa h|cases h
   | _=>first|exact aa h|cases h
  | _=>first|exact aa h|cases h
 | .bi f es,X,ex,G,e,g,h=>by
  cases e with
  | Call fn args CU pos=>
   cases fn with
   | Name x p=>
    cases CU with
    | nil=>
     cases args with
     | nil=>first|exact aa h|cases h
     | cons a args=>
      have h':(x == dz f&&G.F0 (jN f)&&aO Z G es (a::args))=true:=h
      simp only[Bool.and_eq_true] at h'
      have e1:x=dz f:=eq_of_beq h'.1.1
      subst e1
      exact both (Bg g h'.1.2 h'.2 (iz es X ex G _ g h'.2))
    | cons _ _=>cases args<;>first|exact aa h|cases h
   | _=>first|exact aa h|cases h
  | _=>first|exact aa h|cases h
 | .C3 a,X,ex,G,e,g,h=>by
  have h:Lf e (fun x y e=>x == "list"&&G.F0 5&&y == "reversed"&&G.gl.contains 18&&notStar e&&Bx Z G a e)=true:=by cases e<;>exact h
  obtain⟨x,p,y,p',e',pos',pos,rfl,h⟩:=vV h
  have h:(x == "list"&&G.F0 5&&y == "reversed"&&G.gl.contains 18&&notStar e'&&Bx Z G a e')=true:=h
  simp only[Bool.and_eq_true] at h
  have e1:x = "list":=eq_of_beq h.1.1.1.1.1
  have e2:y = "reversed":=eq_of_beq h.1.1.1.2
  subst e1 e2
  exact both (vW g h.1.1.1.1.2 h.1.1.2 h.1.2 (snd a X ex G e' g h.2).1)
 | .Dy,X,ex,G,e,g,h=>by
  have h:Hb e=true:=by cases e<;>exact h
  obtain⟨pos,rfl⟩:=jj h
  exact both vX
 | .C2 a k,X,ex,G,e,g,h=>by
  have h:Ld e (fun o s=>ba s&&Bx Z G a o&&Bx Z G k s)=true:=by cases e<;>exact h
  obtain⟨o,s,pos,rfl,q1⟩:=vT h
  simp only[Bool.and_eq_true] at q1
  exact both (vY g (snd a X ex G o g q1.1.2).1 (snd k X ex G s g q1.2).1 q1.1.1)
 | .G4 n k a,X,ex,G,e,g,h=>by
  have h:Le e (fun l o r=>o == lK n&&Bx Z G k l&&Bx Z G a r&&!behindInMarks o r)=true:=by cases e<;>exact h
  obtain⟨l,o,r,pos,rfl,q3⟩:=vU h
  simp only[Bool.and_eq_true] at q3
  have e1:o=lK n:=eq_of_beq q3.1.1.1
  subst e1
  exact yD g (snd k X ex G l g q3.1.1.2).1 (snd a X ex G r g q3.1.2).1 (by simpa using q3.2)
 | .sset a,X,ex,G,e,g,h=>by cases e<;>exact aa h
 | .EB a,X,ex,G,e,g,h=>by cases e<;>exact aa h
 | .GC a,X,ex,G,e,g,h=>by cases e<;>exact aa h
 | .E1 a k d,X,ex,G,e,g,h=>by cases e<;>exact aa h
 | .HJ x a y,X,ex,G,e,g,h=>by
  have h:Lc e (fun x' e' y'=>x == x'&&y == y'&&decide (x.length<=1000)&&Bx Z G a e')=true:=by cases e<;>exact h
  obtain⟨x',e',y',h,he⟩:=vS h
  simp only[Bool.and_eq_true] at h
  have e1:=eq_of_beq h.1.1.1
  have e2:=eq_of_beq h.1.1.2
  subst e1 e2
  have pe:=yB (of_decide_eq_true h.1.2) he (snd a X ex G e' g h.2).1
  rcases he with ⟨j,p,q,pos,_,rfl⟩|⟨w,j,p,q,j',r,pos,_,rfl⟩
  ·exact both pe
  ·exact both pe
 | .D8 a ns tb,X,ex,G,e,g,h=>by
  cases e with
  | Call fn args CU pos=>
   cases fn with
   | Name x p=>
    match args,CU,h with
    | [o,y],[],h=>
     have h':(x == "isinstance"&&G.gl.contains 14&&notStar o&&mZ Z G ns y&&tb.all (vR Z ns)&&Bx Z G a o)=true:=h
     simp only[Bool.and_eq_true] at h'
     have e1:x = "isinstance":=eq_of_beq h'.1.1.1.1.1
     subst e1
     exact both (yz g h'.1.1.1.1.2 h'.1.1.1.2 h'.1.1.2 h'.1.2 (snd a X ex G o g h'.2).1)
    | [],_,h=>first|exact aa h|cases h
    | [_],_,h=>first|exact aa h|cases h
    | _::_::_::_,k,h=>cases k<;>first|exact aa h|cases h
    | [_,_],_::_,h=>first|exact aa h|cases h
   | _=>first|exact aa h|cases h
  | _=>first|exact aa h|cases h
 | .Cp a k,X,ex,G,e,g,h=>by
  cases e with
  | Call fn args CU pos=>
   cases fn with
   | Name x p=>
    match args,CU,h with
    | [o,.Name y p'],[],h=>
     have h':(x == "isinstance"&&G.gl.contains 14&&y == cM k&&G.gl.contains (jO k)&&notStar o&&Bx Z G a o)=true:=h
     simp only[Bool.and_eq_true] at h'
     have e1:x = "isinstance":=eq_of_beq h'.1.1.1.1.1
     have e2:y=cM k:=eq_of_beq h'.1.1.1.2
     subst e1 e2
     exact both (yy g h'.1.1.1.1.2 h'.1.1.2 h'.1.2 (snd a X ex G o g h'.2).1)
    | [],_,h=>first|exact aa h|cases h
    | [_],_,h=>first|exact aa h|cases h
    | _::b::_::_,k,h=>cases b<;>cases k<;>first|exact aa h|cases h
    | [_,.Name _ _],_::_,h=>first|exact aa h|cases h
    | [_,.BoolOp ..],_,h=>first|exact aa h|cases h
    | [_,.NamedExpr ..],_,h=>first|exact aa h|cases h
    | [_,.BinOp ..],_,h=>first|exact aa h|cases h
    | [_,.UnaryOp ..],_,h=>first|exact aa h|cases h
    | [_,.Lambda ..],_,h=>first|exact aa h|cases h
    | [_,.IfExp ..],_,h=>first|exact aa h|cases h
    | [_,.Dict ..],_,h=>first|exact aa h|cases h
    | [_,.Set ..],_,h=>first|exact aa h|cases h
    | [_,.ListComp ..],_,h=>first|exact aa h|cases h
    | [_,.SetComp ..],_,h=>first|exact aa h|cases h
    | [_,.DictComp ..],_,h=>first|exact aa h|cases h
    | [_,.GeneratorExp ..],_,h=>first|exact aa h|cases h
    | [_,.Await ..],_,h=>first|exact aa h|cases h
    | [_,.Yield ..],_,h=>first|exact aa h|cases h
    | [_,.YieldFrom ..],_,h=>first|exact aa h|cases h
    | [_,.Compare ..],_,h=>first|exact aa h|cases h
    | [_,.Call ..],_,h=>first|exact aa h|cases h
    | [_,.FormattedValue ..],_,h=>first|exact aa h|cases h
    | [_,.JoinedStr ..],_,h=>first|exact aa h|cases h
    | [_,.Constant ..],_,h=>first|exact aa h|cases h
    | [_,.Attribute ..],_,h=>first|exact aa h|cases h
    | [_,.Subscript ..],_,h=>first|exact aa h|cases h
    | [_,.Starred ..],_,h=>first|exact aa h|cases h
    | [_,.Slice ..],_,h=>first|exact aa h|cases h
    | [_,.List ..],_,h=>first|exact aa h|cases h
    | [_,.Tuple ..],_,h=>first|exact aa h|cases h
   | _=>first|exact aa h|cases h
  | _=>first|exact aa h|cases h
 | .Ja m o es,X,ex,G,e,g,h=>by
  cases e with
  | Call fn args CU pos=>
   cases fn with
   | Attribute oe name apos=>
    match args,CU,h with
    | a::args,[],h=>
     have h':(name == eo m&&eB oe&&apos.endLine == pos.line&&(decide ((a::args).length < 29)&&(G.cm||jh m))&&Bx Z G o oe&&aO Z G es (a::args))=true:=h
     simp only[Bool.and_eq_true] at h'
     have e1:name=eo m:=eq_of_beq h'.1.1.1.1.1
     subst e1
     exact both (yC g h'.1.1.1.1.2 h'.1.1.1.2 (of_decide_eq_true h'.1.1.2.1) h'.1.1.2.2 h'.2 (snd o X ex G oe g h'.1.2).1 (iz es X ex G _ g h'.2))
    | [],_,h=>first|exact aa h|cases h
    | _::_,_::_,h=>first|exact aa h|cases h
   | _=>first|exact aa h|cases h
  | _=>first|exact aa h|cases h
 | .comp G' fr tg src ifs elt,X,ex,G,e,g,h=>by
  cases e with
  | ListComp el gens scope pos=>
   have h:lJ gens (fun t it fs=>bb Z G scope G' fr&&bI G' tg t&&(Dr tg).all (fun i=>decide (fr.length<=i))&&(bM Z G src it&&dJ src t)&&aO Z G' ifs fs&&Bx Z G' elt el)=true:=h
   obtain⟨t,it,fs,rfl,h⟩:=gu h
   have h':(bb Z G scope G' fr&&bI G' tg t&&(Dr tg).all (fun i=>decide (fr.length<=i))&&(bM Z G src it&&dJ src t)&&aO Z G' ifs fs&&Bx Z G' elt el)=true:=h
   simp only[Bool.and_eq_true] at h'
   exact both (v5 g (gx h'.1.1.1.1.1) h'.1.1.1.1.2 (fun i hi=>of_decide_eq_true (List.all_eq_true.mp h'.1.1.1.2 i hi)) (rz src X ex G it t g h'.1.1.2.1 h'.1.1.2.2)
    (fun X' g'=>rq ifs X' Ca G' fs g' h'.1.2) (fun X' g'=>(snd elt X' Ca G' el g' h'.2).1) (fun x=>bG h'.1.1.2.1 X.env x))
  | _=>first|exact aa h|cases h
theorem iz:∀ (as:List IR) (X:Cx) (ex:Str->Prop) (G:Gm) (l:List Expr),BN Z CX cl xp X ex G->aO Z G as l=true->PA X l (RA X.K ex (av as) (aI cl as))
 | [],X,ex,G,l,g,h=>by
  cases l with
  | nil=>exact f6 aX fun σ H Q ⟨S,τ,hs,q⟩=>q.ok _ _ (.refl _) .nil
  | cons _ _=>first|exact aa h|cases h
 | a::as,X,ex,G,l,g,h=>by
  cases l with
  | nil=>first|exact aa h|cases h
  | cons e l=>
   have h':(notStar e&&Bx Z G a e&&aO Z G as l)=true:=h
   simp only[Bool.and_eq_true] at h'
   refine f6 (ay (snd a X ex G e g h'.1.2).1 (iz as X ex G l g h'.2) (af h'.1.1 _ _)) fun σ H Q ⟨S,τ,hs,q⟩=>?_
   refine az (.refl _) hs.left (Bp.Bn q) fun x v H1 e1 _ m1 q1=>?_
   refine jl e1 hs.right (Bp.Bn q1) fun ds vs H2 e2 Ci m2 q2=>?_
   exact q2.ok _ _ e2 (.cons (m1.later Ci) m2)
theorem rl:∀ (o:Option IR) (X:Cx) (ex:Str->Prop) (G:Gm) (e:Option Expr),BN Z CX cl xp X ex G->jk Z G o e=true->PO X e (Jh X.K ex (mL o) (gj cl o))
 | none,X,ex,G,e,g,h=>by
  cases e with
  | none=>
   intro pins s σ H Q I ⟨S,τ,hs,q⟩
   exact qt pins s σ H Q I (q.ok H (.refl _))
  | some _=>first|exact aa h|cases h
 | some a,X,ex,G,e,g,h=>by
  cases e with
  | none=>first|exact aa h|cases h
  | some e=>
   intro pins s σ H Q I ⟨S,τ,hs,q⟩
   refine qu (snd a X ex G e g h).1 pins s σ H Q I ?_
   refine az (.refl _) hs (Bp.Bn q) fun x v H1 e1 _ m1 q1=>?_
   cases x with
   | int i=>cases m1.BH;exact⟨i,rfl,q1.ok _ e1⟩
   | _=>exact q1.no.elim
theorem rq:∀ (as:List IR) (X:Cx) (ex:Str->Prop) (G:Gm) (l:List Expr),BN Z CX cl xp X ex G->aO Z G as l=true->Gv X l (RT X.K ex (av as) (cL cl as))
 | [],X,ex,G,l,g,h=>by
  cases l with
  | nil=>intro pins s σ H Q I ⟨S,τ,hs,q⟩;exact qA pins s σ H Q I (q.ok H (.refl _))
  | cons _ _=>first|exact aa h|cases h
 | a::as,X,ex,G,l,g,h=>by
  cases l with
  | nil=>first|exact aa h|cases h
  | cons e l=>
   have h':(notStar e&&Bx Z G a e&&aO Z G as l)=true:=h
   simp only[Bool.and_eq_true] at h'
   intro pins s σ H Q I ⟨S,τ,hs,q⟩
   refine mr (snd a X ex G e g h'.1.2).2 (rq as X ex G l g h'.2) pins s σ H Q I ?_
   refine cZ (.refl _) hs.left (Bp.Bn q) fun r H2 e2 _ k=>?_
   cases r with
   | true=>rw[if_pos rfl] at k ⊢;exact cZ e2 hs.right k fun b H3 e3 _ z=>z H3 e3
   | false=>rw[if_neg Bool.false_ne_true] at k ⊢;exact k.ok H2 e2
theorem rz:∀ (s:Sr) (X:Cx) (ex:Str->Prop) (G:Gm) (e tg:Expr),BN Z CX cl xp X ex G->bM Z G s e=true->dJ s tg=true->PI X tg e (RI X.K ex (cU s) (bZ cl s))
 | .Cf n,X,ex,G,e,tg,g,h,ht=>by
  cases e with
  | Call fn args CU pos=>
   cases fn with
   | Name x p=>
    match args,CU,h with
    | [a],[],h=>
     have h':(x == "range"&&G.gl.contains 15&&notStar a&&Bx Z G n a)=true:=h
     simp only[Bool.and_eq_true] at h'
     have e1:x = "range":=eq_of_beq h'.1.1.1
     subst e1
     exact v3 g h'.1.1.2 h'.1.2 (snd n X ex G a g h'.2).1
    | [],_,h=>first|exact aa h|cases h
    | [_],_::_,h=>first|exact aa h|cases h
    | _::_::_,_,h=>first|exact aa h|cases h
   | _=>first|exact aa h|cases h
  | _=>first|exact aa h|cases h
 | .Dz a b,X,ex,G,e,tg,g,h,ht=>by cases e<;>exact aa h
 | .val a,X,ex,G,e,tg,g,h,ht=>yI (snd a X ex G e g h).1
 | .rev a,X,ex,G,e,tg,g,h,ht=>by
  cases e with
  | Call fn args CU pos=>
   cases fn with
   | Name x p=>
    match args,CU,h with
    | [l],[],h=>
     have h':(x == "reversed"&&G.gl.contains 18&&notStar l&&Bx Z G a l)=true:=h
     simp only[Bool.and_eq_true] at h'
     have e1:x = "reversed":=eq_of_beq h'.1.1.1
     subst e1
     exact yN g h'.1.1.2 h'.1.2 (snd a X ex G l g h'.2).1
    | [],_,h=>first|exact aa h|cases h
    | [_],_::_,h=>first|exact aa h|cases h
    | _::_::_,_,h=>first|exact aa h|cases h
   | _=>first|exact aa h|cases h
  | _=>first|exact aa h|cases h
 | .D9 a,X,ex,G,e,tg,g,h,ht=>by
  cases tg with
  | Tuple Qy tc tp=>
   cases e with
   | Call fn args CU pos=>
    cases fn with
    | Name x p=>
     match args,CU,h with
     | [l],[],h=>
      have h':(x == "enumerate"&&G.gl.contains 20&&notStar l&&Bx Z G a l)=true:=h
      simp only[Bool.and_eq_true] at h'
      have e1:x = "enumerate":=eq_of_beq h'.1.1.1
      subst e1
      exact yM g h'.1.1.2 h'.1.2 (snd a X ex G l g h'.2).1
     | [],_,h=>first|exact aa h|cases h
     | [_],_::_,h=>first|exact aa h|cases h
     | _::_::_,_,h=>first|exact aa h|cases h
    | _=>first|exact aa h|cases h
   | _=>first|exact aa h|cases h
  | _=>exact aa ht
 | .zip a b,X,ex,G,e,tg,g,h,ht=>by
  cases tg with
  | Tuple Qy tc tp=>
   cases e with
   | Call fn args CU pos=>
    cases fn with
    | Name x p=>
     match args,CU,h with
     | [l,r],[],h=>
      have h':(x == "zip"&&G.gl.contains 17&&notStar l&&notStar r&&Bx Z G a l&&Bx Z G b r)=true:=h
      simp only[Bool.and_eq_true] at h'
      have e1:x = "zip":=eq_of_beq h'.1.1.1.1.1
      subst e1
      exact yL g h'.1.1.1.1.2 h'.1.1.1.2 h'.1.1.2 (snd a X ex G l g h'.1.2).1 (snd b X ex G r g h'.2).1
     | [],_,h=>first|exact aa h|cases h
     | [_],_,h=>first|exact aa h|cases h
     | [_,_],_::_,h=>first|exact aa h|cases h
     | _::_::_::_,_,h=>first|exact aa h|cases h
    | _=>first|exact aa h|cases h
   | _=>first|exact aa h|cases h
  | _=>exact aa ht
end
end
inductive BK (K:PySem.W.Frag)(F:Addr->Prop)(H:Hp):St->Ev->List Addr->Prop where
 | nil:BK K F H [] [] []
 | none {o:Option V}{σ:St}{τ:Ev}{f:List Addr}:BK K F H σ τ f->BK K F H (o::σ) (.none::τ) f
 | some {v:V}{d:D}{f:List Addr}{σ:St}{τ:Ev}{g:List Addr}:BC K F H v d f->BK K F H σ τ g->BK K F H (.some v::σ) (.some d::τ) (f++g)
section
variable {K:PySem.W.Frag}{F F':Addr->Prop}{H H':Hp}{σ:St}{τ:Ev}{f:List Addr}
theorem BK.len:∀ {σ:St}{τ:Ev}{f:List Addr},BK K F H σ τ f->σ.length=τ.length
 | _,_,_,.nil=>rfl
 | _,_,_,.none h=>by rw[List.length_cons,List.length_cons,BK.len h]
 | _,_,_,.some _ h=>by rw[List.length_cons,List.length_cons,BK.len h]
theorem BK.step (hl:∀ a (u:LD),F a->Rd H a u.o->F' a/\Rd H' a u.o)(ht:∀ a xs,B5 K H a xs->B5 K H' a xs):∀ {σ:St}{τ:Ev}{f:List Addr},(∀ a∈f,¬ F a->H a≠Option.none->¬ F' a/\H' a=H a)->BK K F H σ τ f->BK K F' H' σ τ f
 | _,_,_,_,.nil=>.nil
 | _,_,_,k,.none h=>.none (BK.step hl ht k h)
 | _,_,_,k,.some m h=>.some (m.step hl ht fun a ha=>k a (List.mem_append_left _ ha)) (BK.step hl ht (fun a ha=>k a (List.mem_append_right _ ha)) h)
theorem BK.own:∀ {σ:St}{τ:Ev}{f:List Addr},BK K F H σ τ f->∀ a∈f,¬ F a/\∃ u,H a=.some u
 | _,_,_,.nil=>fun _ h=>absurd h (by simp)
 | _,_,_,.none h=>BK.own h
 | _,_,_,.some m h=>fun a ha=>by
  rcases List.mem_append.mp ha with ha|ha
  ·exact m.own a ha
  ·exact BK.own h a ha
theorem bo {o:Option D}{τ:Ev}{i:Nat}:ah (o::τ) (i+1)=ah τ i:=by unfold ah;simp
theorem b8 {o:Option D}{τ:Ev}:ah (o::τ) 0=o:=by unfold ah;simp
theorem BK.at:∀ {σ:St}{τ:Ev}{f:List Addr}{i:Nat}{d:D},BK K F H σ τ f->ah τ i=.some d->∃ v fv g,σ[i]? = .some (.some v)/\BC K F H v d fv/\BK K F H σ (τ.set i .none) g/\f.Perm (fv++g)
 | _,_,_,i,d,.nil,h=>by simp[ah] at h
 | _,_,_,0,d,.none _,h=>by rw[b8] at h;cases h
 | _,_,_,0,d,.some m h',h=>by
  rw[b8] at h
  cases h
  exact⟨_,_,_,rfl,m,.none h',.refl _⟩
 | _,_,_,i+1,d,.none h',h=>by
  rw[bo] at h
  obtain⟨v,fv,g,h1,h2,h3,h4⟩:=BK.at h' h
  exact⟨v,fv,g,by simpa using h1,h2,.none h3,h4⟩
 | _,_,_,i+1,d,.some (f:=f0) m h',h=>by
  rw[bo] at h
  obtain⟨v,fv,g,h1,h2,h3,h4⟩:=BK.at h' h
  refine⟨v,fv,f0++g,by simpa using h1,h2,.some m h3,?_⟩
  refine(List.Perm.append_left f0 h4).trans ?_
  rw[<- List.append_assoc,<- List.append_assoc]
  exact List.Perm.append_right g List.perm_append_comm
theorem BK.put:∀ {σ:St}{τ:Ev}{f:List Addr} (i:Nat) {v:V}{d:D}{fv:List Addr},BK K F H σ τ f->BC K F H v d fv->∃ g h,BK K F H (σ.set i (.some v)) (τ.set i (.some d)) g/\(g++h).Perm (fv++f)
 | _,_,_,i,v,d,fv,.nil,m=>⟨[],_,.nil,.refl _⟩
 | _,_,_,0,v,d,fv,.none h,m=>⟨_,[],.some m h,by rw[List.append_nil]⟩
 | _,_,_,0,v,d,fv,.some (f:=f0) (g:=g0) m' h,m=>⟨_,f0,.some m h,by rw[List.append_assoc];exact List.Perm.append_left _ List.perm_append_comm⟩
 | _,_,_,i+1,v,d,fv,.none h,m=>by
  obtain⟨g,h',h1,h2⟩:=BK.put i h m
  exact⟨g,h',.none h1,h2⟩
 | _,_,_,i+1,v,d,fv,.some (f:=f0) (g:=g0) m' h,m=>by
  obtain⟨g,h',h1,h2⟩:=BK.put i h m
  refine⟨f0++g,h',.some m' h1,?_⟩
  rw[List.append_assoc]
  refine(List.Perm.append_left f0 h2).trans ?_
  rw[<- List.append_assoc,<- List.append_assoc]
  exact List.Perm.append_right g0 List.perm_append_comm
theorem BK.slots {S:Addr->Prop}{is:List Nat}(h:BK K F H σ τ f)(hF:∀ a,F a->S a)(hf:∀ a∈f,S a):Slots K S H σ τ is:=fun i hi d z=>by
 obtain⟨v,fv,g,h1,h2,h3,h4⟩:=h.at z
 exact⟨v,h1,h2.read hF fun a ha=>hf a (h4.mem_iff.mpr (List.mem_append_left _ ha))⟩
theorem BK.freeze (is:List Nat):∀ {σ:St}{τ:Ev}{f:List Addr} (k:Nat),BK K F H σ τ f->∃ fi g,f.Perm (fi++g)/\(∀ F':Addr->Prop,(∀ a,F a->F' a)->(∀ a∈fi,F' a)->(∀ a∈g,¬ F a->¬ F' a)->BK K F' H σ (eW is k τ) g)/\
  ∀ F':Addr->Prop,(∀ a,F a->F' a)->(∀ a∈fi,F' a)->∀ i,is.contains (k+i)=true->∀ d,ah τ i=.some d->∃ v,σ[i]? = .some (.some v)/\Bq K F' H v d
 | _,_,_,k,.nil=>⟨[],[],.refl _,fun _ _ _ _=>.nil,fun _ _ _ i _ d z=>by simp[ah] at z⟩
 | _,_,_,k,.none h=>by
  obtain⟨fi,g,h1,h2,h3⟩:=BK.freeze is (k+1) h
  refine⟨fi,g,h1,fun F' a b c=>?_,fun F' a b i hi d z=>?_⟩
  ·unfold eW
   have e:(if is.contains k=true then Option.map er (Option.none:Option D) else Option.none)=Option.none:=by split<;>rfl
   rw[e]
   exact .none (h2 F' a b c)
  ·cases i with
   | zero=>rw[b8] at z;cases z
   | succ i=>
    rw[bo] at z
    obtain⟨v,q1,q2⟩:=h3 F' a b i (by rw[show k+1+i=k+(i+1) by omega];exact hi) d z
    exact⟨v,by simpa using q1,q2⟩
 | _,_,_,k,.some (v:=v) (d:=d0) (f:=f0) (g:=g0) m h=>by
  obtain⟨fi,g,h1,h2,h3⟩:=BK.freeze is (k+1) h
  by_cases hc:is.contains k=true
  ·refine⟨f0++fi,g,by rw[List.append_assoc];exact List.Perm.append_left _ h1,fun F' a b c=>?_,fun F' a b i hi d z=>?_⟩
   ·unfold eW
    rw[if_pos hc]
    exact .some (f:=[]) ((m.read a fun x hx=>b x (List.mem_append_left _ hx)).frozen) (h2 F' a (fun x hx=>b x (List.mem_append_right _ hx)) c)
   ·cases i with
    | zero=>
     rw[b8] at z
     cases z
     exact⟨v,rfl,m.read a fun x hx=>b x (List.mem_append_left _ hx)⟩
    | succ i=>
     rw[bo] at z
     obtain⟨v,q1,q2⟩:=h3 F' a (fun x hx=>b x (List.mem_append_right _ hx)) i (by rw[show k+1+i=k+(i+1) by omega];exact hi) d z
     exact⟨v,by simpa using q1,q2⟩
  ·refine⟨fi,f0++g,?_,fun F' a b c=>?_,fun F' a b i hi d z=>?_⟩
   ·refine(List.Perm.append_left f0 h1).trans ?_
    rw[<- List.append_assoc,<- List.append_assoc]
    exact List.Perm.append_right g List.perm_append_comm
   ·unfold eW
    rw[if_neg hc]
    exact .some (m.step (fun x xs q r=>⟨a x q,r⟩) (fun x xs q=>q) fun x hx n _=>⟨c x (List.mem_append_left _ hx) n,rfl⟩) (h2 F' a b fun x hx=>c x (List.mem_append_right _ hx))
   ·cases i with
    | zero=>exact absurd hi hc
    | succ i=>
     rw[bo] at z
     obtain⟨v,q1,q2⟩:=h3 F' a b i (by rw[show k+1+i=k+(i+1) by omega];exact hi) d z
     exact⟨v,by simpa using q1,q2⟩
end
structure EM (F:Addr->Prop)(H:Hp)(f:List Addr)(F':Addr->Prop)(H':Hp):Prop where
 same:aj H H'
 C5:∀ a,F a->F' a
 out:∀ a,F' a->F a∨a∈f∨H a=none
structure Ow (K:PySem.W.Frag)(F:Addr->Prop)(H:Hp)(f:List Addr)(F':Addr->Prop)(H':Hp)(σ:St)(v:V)(d:D)(fv:List Addr)(τ':Ev)(f':List Addr):Prop where
 DD:EM F H f F' H'
 BJ:Du F' H'
 rep:BC K F' H' v d fv
 Cq:BK K F' H' σ τ' f'
 B2:(fv++f').Nodup
 mem:∀ a∈fv++f',a∈f∨H a=none
structure Qz (K:PySem.W.Frag)(F:Addr->Prop)(H:Hp)(f:List Addr)(F':Addr->Prop)(H':Hp)(σ:St)(v:List V)(d:List D)(fv:List Addr)(τ':Ev)(f':List Addr):Prop where
 DD:EM F H f F' H'
 BJ:Du F' H'
 rep:Br K F' H' v d fv
 Cq:BK K F' H' σ τ' f'
 B2:(fv++f').Nodup
 mem:∀ a∈fv++f',a∈f∨H a=none
section
variable {K:PySem.W.Frag}{F F' Jj:Addr->Prop}{H H' HV:Hp}{f f':List Addr}
theorem EM.refl:EM F H f F H:=⟨.refl _,fun _ h=>h,fun _ h=>.inl h⟩
theorem EM.trans (a:EM F H f F' H')(b:EM F' H' f' Jj HV)(hf:∀ x∈f',x∈f∨H x=none):EM F H f Jj HV:=⟨a.same.trans b.same,fun x h=>b.C5 x (a.C5 x h),fun x h=>by
 rcases b.out x h with h|h|h
 ·exact a.out x h
 ·rcases hf x h with h|h
  ·exact .inr (.inl h)
  ·exact .inr (.inr h)
 ·exact .inr (.inr (a.same.free h))⟩
theorem BC.DD {v:V}{d:D}{fv:List Addr}(m:BC K F H v d fv)(s:EM F H f F' H')(h:∀ a∈fv,a∉f):BC K F' H' v d fv:=
 m.step (fun a xs q r=>⟨s.C5 a q,s.same.rd r⟩) (fun a xs q=>s.same.C0 q) fun a ha n hn=>by
  obtain⟨_,xs,e⟩:=m.own a ha
  refine⟨fun z=>?_,(s.same _ _ e).trans e.symm⟩
  rcases s.out a z with z|z|z
  ·exact n z
  ·exact h a ha z
  ·exact hn z
theorem Br.DD {v:List V}{d:List D}{fv:List Addr}(m:Br K F H v d fv)(s:EM F H f F' H')(h:∀ a∈fv,a∉f):Br K F' H' v d fv:=
 m.step (fun a xs q r=>⟨s.C5 a q,s.same.rd r⟩) (fun a xs q=>s.same.C0 q) fun a ha n hn=>by
  obtain⟨_,xs,e⟩:=m.own a ha
  refine⟨fun z=>?_,(s.same _ _ e).trans e.symm⟩
  rcases s.out a z with z|z|z
  ·exact n z
  ·exact h a ha z
  ·exact hn z
end
def RO (K:PySem.W.Frag)(ex:Str->Prop)(g:Ev->Res (D×Ev)):TE:=fun σ H Q=>∃ F τ f,Du F H/\BK K F H σ τ f/\f.Nodup/\Bp ex (g τ) fun p=>∀ v H' F' fv f',Ow K F H f F' H' σ v p.1 fv p.2 f'->Q v H'
def Jk (K:PySem.W.Frag)(ex:Str->Prop)(g:Ev->Res (List D×Ev)):TA:=fun σ H Q=>∃ F τ f,Du F H/\BK K F H σ τ f/\f.Nodup/\Bp ex (g τ) fun p=>∀ v H' F' fv f',Qz K F H f F' H' σ v p.1 fv p.2 f'->Q v H'
abbrev Kn (K:PySem.W.Frag)(S:Addr->Prop)(H:Hp)(Q:VK):List D->Prop:=fun ds=>∀ p ys H',aj H H'->H p=none->H' p=some (.lst ys)->Bo K (fun a=>nw S H a/\a≠p) H' ys ds->Q (.ref p) H'
def RN (K:PySem.W.Frag)(ex:Str->Prop)(is:List Nat)(f:Ev->Res (List D)):TE:=fun σ H Q=>∃ S τ,Slots K S H σ τ is/\Bp ex (f τ) (Kn K S H Q)
noncomputable def c8:D->Res (List D)
 | .lst _ ds=>.ok ds
 | _=>Bu
section
variable {K:PySem.W.Frag}{F F':Addr->Prop}{H H':Hp}{σ:St}{τ:Ev}{f:List Addr}{ex:Str->Prop}{S:Addr->Prop}
theorem v7 {vs ws:List V}{ds:List D}{p:Addr}{H2:Hp}(m:Bo K (nw S H) H2 vs ds)(hp:H2 p=none):Bo K (fun a=>nw S H a/\a≠p) (upd H2 p (.lst ws)) vs ds:=
 m.step (fun a xs h r=>by
  have ED:a≠p:=fun z=>r.some (by rw[z];exact hp)
  refine⟨⟨h,ED⟩,?_⟩
  unfold Rd
  rw[ag ED]
  exact r) fun a xs h=>(aj.upd hp).C0 h
theorem grow (P:Addr->Prop)(BJ:Du F H)(r:BK K F H σ τ f)(e:aj H H') :
  Du (fun a=>F a∨(P a/\H a=none/\H' a≠none)) H'/\BK K (fun a=>F a∨(P a/\H a=none/\H' a≠none)) H' σ τ f/\EM F H f (fun a=>F a∨(P a/\H a=none/\H' a≠none)) H':=by
 refine⟨fun a h=>?_,r.step (fun a xs q rd=>⟨.inl q,e.rd rd⟩) (fun a xs q=>e.C0 q) fun a ha n hn=>⟨fun z=>?_,?_⟩,⟨e,fun a h=>.inl h,fun a h=>?_⟩⟩
 ·rcases h with h|h
  ·intro z
   exact BJ a h (e.free z)
  ·exact h.2.2
 ·rcases z with z|z
  ·exact n z
  ·exact hn z.2.1
 ·obtain⟨_,xs,q⟩:=r.own a ha
  exact(e _ _ q).trans q.symm
 ·rcases h with h|h
  ·exact .inl h
  ·exact .inr (.inr h.2.1)
theorem c9 (BJ:Du F H)(r:BK K F H σ τ f)(e:aj H H'):Du F H'/\BK K F H' σ τ f/\EM F H f F H':=by
 refine⟨fun a h z=>BJ a h (e.free z),r.step (fun a xs q rd=>⟨q,e.rd rd⟩) (fun a xs q=>e.C0 q) fun a ha n hn=>⟨n,?_⟩,⟨e,fun a h=>h,fun a h=>.inl h⟩⟩
 obtain⟨_,xs,q⟩:=r.own a ha
 exact(e _ _ q).trans q.symm
theorem cE (is:List Nat)(BJ:Du F H)(r:BK K F H σ τ f)(nd:f.Nodup):∃ F1 g,Du F1 H/\BK K F1 H σ (BI is τ) g/\g.Nodup/\EM F H f F1 H/\(∀ a∈g,a∈f)/\Slots K F1 H σ τ is:=by
 obtain⟨fi,g,h1,h2,h3⟩:=r.freeze is 0
 have Gi:(fi++g).Nodup:=h1.nodup_iff.mp nd
 have Jl:∀ a∈g,a∉fi:=fun a ha hb=>(List.nodup_append.mp Gi).2.2 a hb a ha rfl
 have Ob:∀ a∈fi,a∈f:=fun a ha=>h1.mem_iff.mpr (List.mem_append_left _ ha)
 have QA:∀ a∈g,a∈f:=fun a ha=>h1.mem_iff.mpr (List.mem_append_right _ ha)
 refine⟨fun a=>F a∨a∈fi,g,fun a h=>?_,h2 _ (fun a h=>.inl h) (fun a h=>.inr h) (fun a ha n z=>?_),(List.nodup_append.mp Gi).2.1,⟨.refl _,fun a h=>.inl h,fun a h=>?_⟩,QA,fun i hi d z=>?_⟩
 ·rcases h with h|h
  ·exact BJ a h
  ·obtain⟨_,xs,q⟩:=r.own a (Ob a h)
   rw[q];simp
 ·rcases z with z|z
  ·exact n z
  ·exact Jl a ha z
 ·rcases h with h|h
  ·exact .inl h
  ·exact .inr (.inl (Ob a h))
 ·exact h3 _ (fun a h=>.inl h) (fun a h=>.inr h) i (by simpa using hi) d z
theorem aJ {is:List Nat}(r:BK K F H σ τ f):Slots K (fun _=>True) H σ τ is:=r.slots (fun _ _=>trivial) fun _ _=>trivial
theorem Bq.fix {v:V}{d:D}(m:Bq K (L2.nw F H) H' v d):Bq K (fun a=>F a∨(True/\H a=none/\H' a≠none)) H' v d:=m.step (fun a xs h r=>⟨h.elim (fun z=>.inl z) fun z=>.inr ⟨trivial,z,r.some⟩,r⟩) fun a xs h=>h
end
section
variable {X:Cx}{ex:Str->Prop}{cl:Nat->List D->Res D}
theorem Ll {i:Nat}{e:Expr}(he:PE X e (uS i))(mv:Bool):PE X e (RO X.K ex (B6 cl mv (.v i))):=by
 refine ar he fun σ H Q ⟨F,τ,f,BJ,r,nd,q⟩=>?_
 rw[yf] at q
 cases z:ah τ i with
 | none=>rw[z] at q;exact q.no.elim
 | some d=>
  rw[z] at q
  obtain⟨v,fv,g,h1,h2,h3,h4⟩:=r.at z
  have Gi:(fv++g).Nodup:=h4.nodup_iff.mp nd
  cases mv with
  | true=>
   have q':=(show Bp ex (.ok (d,τ.set i none):Res (D×Ev)) _ from q).ok
   exact⟨v,h1,q' v H F fv g ⟨.refl,BJ,h2,h3,Gi,fun a ha=>.inl (h4.mem_iff.mpr ha)⟩⟩
  | false=>
   have q':=(show Bp ex (.ok (er d,τ.set i (some (er d))):Res (D×Ev)) _ from q).ok
   have Jl:∀ a∈g,a∉fv:=fun a ha hb=>(List.nodup_append.mp Gi).2.2 a hb a ha rfl
   have m1:BC X.K (fun a=>F a∨a∈fv) H v (er d) []:=(h2.read (fun a h=>.inl h) (fun a h=>.inr h)).frozen
   have r1:BK X.K (fun a=>F a∨a∈fv) H σ (τ.set i none) g:=h3.step (fun a xs h r=>⟨.inl h,r⟩) (fun a xs h=>h) fun a ha n _=>⟨fun z=>z.elim n (Jl a ha),rfl⟩
   obtain⟨g',h',r2,p2⟩:=r1.put i m1
   have CW:σ.set i (some v)=σ:=by
    apply List.ext_getElem?
    intro j
    rw[List.getElem?_set]
    by_cases hj:i=j
    ·subst hj
     have Cu:i < σ.length:=(List.getElem?_eq_some_iff.mp h1).1
     rw[if_pos rfl,if_pos Cu,h1]
    ·rw[if_neg hj]
   rw[CW,List.set_set] at r2
   rw[List.nil_append] at p2
   have GK:(g'++h').Nodup:=p2.nodup_iff.mpr (List.nodup_append.mp Gi).2.1
   refine⟨v,h1,q' v H _ [] g' ⟨⟨.refl _,fun a h=>.inl h,fun a h=>?_⟩,fun a h=>?_,m1,r2,(List.nodup_append.mp GK).1,fun a ha=>?_⟩⟩
   ·exact h.elim (fun z=>.inl z) fun z=>.inr (.inl (h4.mem_iff.mpr (List.mem_append_left _ z)))
   ·rcases h with h|h
    ·exact BJ a h
    ·obtain⟨_,xs,e⟩:=h2.own a h
     rw[e];simp
   ·have:a∈g:=p2.mem_iff.mp (List.mem_append_left _ (by simpa using ha))
    exact .inl (h4.mem_iff.mpr (List.mem_append_right _ this))
theorem E7 {l:List Expr}{n:Nat}{pos:Pos}{g:Ev->Res (List D×Ev)}(h:PA X l (Jk X.K ex g)):PE X (.Tuple l n pos) (RO X.K ex fun τ=>Bn (g τ) fun p=>Bv (aQ p.1.length) (.ok (.tup p.1,p.2))):=by
 refine ar (i4 h) fun σ H Q ⟨F,τ,f,BJ,r,nd,q⟩=>⟨F,τ,f,BJ,r,nd,(Bp.Bn q).mono fun p hp vs H1 F1 fv f1 o=>?_⟩
 obtain⟨gd,hp⟩:=Bp.Bv hp
 refine⟨by rw[o.rep.length];exact aP gd,fun p' GL=>hp.ok _ _ F1 fv f1 ?_⟩
 have e:aj H1 (upd H1 p' (.tup vs)):=.upd GL
 obtain⟨k1,k2,k3⟩:=c9 o.BJ o.Cq e
 refine⟨o.DD.trans k3 (fun x hx=>o.mem x (List.mem_append_right _ hx)),k1,.tup (.inl (.inl aq)) (o.rep.DD k3 fun a ha hb=>(List.nodup_append.mp o.B2).2.2 a ha a hb rfl),k2,o.B2,o.mem⟩
theorem E8 {l:List Expr}{pos:Pos}{g:Ev->Res (List D×Ev)}(h:PA X l (Jk X.K ex g)):PE X (.List l pos) (RO X.K ex fun τ=>Bn (g τ) fun p=>Bv (aQ p.1.length) (.ok (.lst true p.1,p.2))):=by
 refine ar (ml h) fun σ H Q ⟨F,τ,f,BJ,r,nd,q⟩=>⟨F,τ,f,BJ,r,nd,(Bp.Bn q).mono fun p hp vs H1 F1 fv f1 o=>?_⟩
 obtain⟨gd,hp⟩:=Bp.Bv hp
 refine⟨by rw[o.rep.length];exact aP gd,fun p' GL=>hp.ok _ _ F1 (p'::fv) f1 ?_⟩
 have e:aj H1 (upd H1 p' (.lst vs)):=.upd GL
 obtain⟨k1,k2,k3⟩:=c9 o.BJ o.Cq e
 refine⟨o.DD.trans k3 (fun x hx=>o.mem x (List.mem_append_right _ hx)),k1,.CQ (fun z=>o.BJ _ z GL) aq (o.rep.DD k3 fun a ha hb=>(List.nodup_append.mp o.B2).2.2 a ha a hb rfl),k2,?_,fun a ha=>?_⟩
 ·rw[List.cons_append,List.nodup_cons]
  refine⟨fun z=>?_,o.B2⟩
  rcases List.mem_append.mp z with z|z
  ·obtain⟨_,xs,e⟩:=o.rep.own _ z
   rw[GL] at e;cases e
  ·obtain⟨_,xs,e⟩:=o.Cq.own _ z
   rw[GL] at e;cases e
 ·rw[List.cons_append] at ha
  rcases List.mem_cons.mp ha with rfl|ha
  ·exact .inr (o.DD.same.free GL)
  ·exact o.mem a ha
theorem yQ {c a b:Expr}{pos:Pos}{vc:List Nat}{fc:Ev->Res Bool}{fa fb:Ev->Res (D×Ev)}(hc:PT X c (RT X.K ex vc fc))(ha:PE X a (RO X.K ex fa))(hb:PE X b (RO X.K ex fb)) :
  PE X (.IfExp c a b pos) (RO X.K ex fun τ=>Bn (fc τ) fun r=>if r=true then fa τ else fb τ):=by
 refine ar (gO hc ha hb) fun σ H Q ⟨F,τ,f,BJ,r,nd,q⟩=>?_
 refine cZ (.refl _) (aJ r) (Bp.Bn q) fun x H2 e2 _ k=>?_
 obtain⟨k1,k2,k3⟩:=c9 BJ r e2
 have go:∀ {g:Ev->Res (D×Ev)},Bp ex (g τ) (fun p=>∀ v H' F' fv f',Ow X.K F H f F' H' σ v p.1 fv p.2 f'->Q v H')->RO X.K ex g σ H2 Q:=fun hg=>
  ⟨F,τ,f,k1,k2,nd,hg.mono fun p hp v H' F' fv f' o=>hp v H' F' fv f' ⟨k3.trans o.DD (fun x hx=>.inl hx),o.BJ,o.rep,o.Cq,o.B2,fun a ha=>(o.mem a ha).elim (fun z=>.inl z) fun z=>.inr (e2.free z)⟩⟩
 cases x with
 | true=>rw[if_pos rfl] at k ⊢;exact go k
 | false=>rw[if_neg Bool.false_ne_true] at k ⊢;exact go k
theorem v8:PA X [] (Jk X.K ex fun τ=>.ok ([],τ)):=f6 aX fun σ H Q ⟨F,τ,f,BJ,r,nd,q⟩=>q.ok [] H F [] f ⟨.refl,BJ,.nil,r,nd,fun a ha=>.inl ha⟩
theorem rA {e:Expr}{l:List Expr}{ga:Ev->Res (D×Ev)}{gs:Ev->Res (List D×Ev)}(hn:notStar e=true)(ha:PE X e (RO X.K ex ga))(hr:PA X l (Jk X.K ex gs)) :
  PA X (e::l) (Jk X.K ex fun τ=>Bn (ga τ) fun p=>Bn (gs p.2) fun q=>.ok (p.1::q.1,q.2)):=by
 refine f6 (ay ha hr (af hn _ _)) fun σ H Q ⟨F,τ,f,BJ,r,nd,q⟩=>⟨F,τ,f,BJ,r,nd,(Bp.Bn q).mono fun p hp v H1 F1 fv f1 o=>?_⟩
 refine⟨F1,p.2,f1,o.BJ,o.Cq,(List.nodup_append.mp o.B2).2.1,(Bp.Bn hp).mono fun p' GL vs H2 F2 QB f2 o2=>?_⟩
 have Jl:∀ a∈fv,a∉f1:=fun a h1 h2=>(List.nodup_append.mp o.B2).2.2 a h1 a h2 rfl
 have m2:=o.rep.DD o2.DD Jl
 refine GL.ok (v::vs) H2 F2 (fv++QB) f2 ⟨o.DD.trans o2.DD (fun x hx=>o.mem x (List.mem_append_right _ hx)),o2.BJ,.cons m2 o2.rep,o2.Cq,?_,fun a ha=>?_⟩
 ·rw[List.append_assoc]
  refine List.nodup_append.mpr ⟨(List.nodup_append.mp o.B2).1,o2.B2,fun a h1 b h2 e=>?_⟩
  subst e
  rcases o2.mem a h2 with z|z
  ·exact Jl a h1 z
  ·obtain⟨_,xs,e⟩:=o.rep.own a h1
   rw[z] at e;cases e
 ·rw[List.append_assoc] at ha
  rcases List.mem_append.mp ha with ha|ha
  ·exact o.mem a (List.mem_append_left _ ha)
  ·rcases o2.mem a ha with z|z
   ·exact o.mem a (List.mem_append_right _ z)
   ·exact .inr (o.DD.same.free z)
end
section
variable {Z:Sg}{CX:Cy}{cl:Nat->List D->Res D}{xp:XK->Hp->Str->Prop}{X:Cx}{ex:Str->Prop}{G:Gm}
def Mq (K:PySem.W.Frag)(ex:Str->Prop)(cl:Nat->List D->Res D)(f:Nat)(vs:List V)(H:Hp)(Q:VK):Prop:=∃ F ds,Du F H/\Bo K F H vs ds/\Bp ex (cl f (BA ds)) fun d=>∀ v H' F' fv,Out K F H F' H' v d fv->Q v H'
theorem nq (g:BN Z CX cl xp X ex G){f:Nat}{x:Str}{p pos:Pos}{es:List IR}{args:List Expr}{t:TA}(h1:aT Z G f x=true)(h2:Z.Ha G f=true)(BU:aO Z G es args=true)(h:PA X args t)
  (h0:args=[]->∀ σ H (Q:List V->Hp->Prop),t σ H Q->Q [] H):PE X (.Call (.Name x p) args [] pos) (fun σ H Q=>t σ H fun vs H1=>Mq X.K ex cl f vs H1 Q):=by
 obtain⟨k1,k2,k3,k4⟩:=cf g h1
 obtain⟨k,Kb,fd,ps,hm,F4,hb,F,hr,hlen⟩:=(g.fns f (gr h2).1 (gr h2).2 x k2).ex
 obtain⟨E,hP,hE⟩:=g.Jg
 intro pins s σ H Q I q
 have fin:∀ (us:List Value) (s1:Shared) (vs:List V) (H1:Hp),Inv X pins σ H1 s1->Vals vs us->Mq X.K ex cl f vs H1 Q->wpAny (model X.prog X.w) X.A (call (.ref Kb) us) (EP X pins σ Q) X.xe s1:=by
  intro us s1 vs H1 I1 r ⟨Fc,ds,BJ,m,q1⟩
  have hl:=hlen ex _ _ q1
  rw[bg] at hl
  refine jQ F hr hb hP g.Fe I1 r (by rw[m.length];exact hl) BJ m ?_
  cases z:cl f (BA ds) with
  | error er=>
   rw[z] at q1
   cases er with
   | stuck=>exact q1.no.elim
   | exc c=>exact hE c _ q1
  | ok d=>
   rw[z] at q1
   exact q1.ok
 refine wpAny_Call_Name_kw (bU I k1 hm ?_ k4)
 cases args with
 | nil=>
  cases es with
  | cons _ _=>cases BU
  | nil=>exact PySem.W.callWith_K0 I.Dv F4 (fin [] s [] H I .nil (h0 rfl σ H _ q))
 | cons e l=>
  cases es with
  | nil=>cases BU
  | cons a es=>
   have BW:(notStar e&&Bx Z G a e&&aO Z G es l)=true:=BU
   simp only[Bool.and_eq_true] at BW
   refine PySem.W.callWith_K (h₀:=X.base) I.ok.mod.Ht F4 (BG (h pos pins s σ H _ I q) fun us s1 ⟨vs,H1,I1,r,q1⟩=>⟨I1.Dv,?_⟩) (af BW.1.1 l X.env) (bj Z G (es:=es) pos X.env BW.2)
   exact fin us s1 vs H1 I1 r q1
theorem BC.Fs {K:PySem.W.Frag}{F F':Addr->Prop}{H:Hp}{v:V}{d:D}{fv:List Addr}(m:BC K F H v d fv)(n:ao d=true):BC K F' H v d []:=(m.read (S:=fun _=>True) (fun _ _=>trivial) fun _ _=>trivial).free n
theorem DQ (g:BN Z CX cl xp X ex G){f:Nat}{x:Str}{p pos:Pos}{es:List IR}{args:List Expr}(h1:aT Z G f x=true)(h2:Z.Ha G f=true)(BU:aO Z G es args=true)(mv:Bool) :
  PE X (.Call (.Name x p) args [] pos) (RO X.K ex (B6 cl mv (.call f es))):=by
 have pa:=iz es X ex G args g BU
 have pe:=nq (p:=p) (pos:=pos) g h1 h2 BU pa (fun e σ H Q ⟨S,τ,hs,q⟩=>by
  subst e
  cases es with
  | nil=>exact q.ok [] H (.refl _) .nil
  | cons _ _=>cases BU)
 refine ar pe fun σ H Q ⟨F,τ,fo,BJ,r,nd,q⟩=>?_
 have q':Bp ex (Bn (aI cl es τ) fun ds=>Bn (cl f (BA ds)) fun d=>if ao d=true then .ok (d,τ) else .ok (d,BI (av es) τ)) (fun p=>∀ v H' F' fv f',Ow X.K F H fo F' H' σ v p.1 fv p.2 f'->Q v H'):=q
 -- read without Mr up
 have borrow:(∀ ds,aI cl es τ=.ok ds->Bp ex (cl f (BA ds)) fun d=>ao d=true/\∀ v H' F' fv f',Ow X.K F H fo F' H' σ v d fv τ f'->Q v H')->Bp ex (aI cl es τ) (fun _=>True)->RA X.K ex (av es) (aI cl es) σ H (fun vs H1=>Mq X.K ex cl f vs H1 Q):=by
  intro hk BD
  refine jl (.refl _) (aJ r) BD.eq fun ds vs H1 e1 _ m1 q1=>?_
  refine⟨fun a=>H1 a≠none,ds,fun a h=>h,m1.step (fun a xs h rd=>⟨rd.some,rd⟩) fun a xs h=>h,(hk ds q1.1).mono fun d hd v H' F' fv o=>?_⟩
  obtain⟨k1,k2,k3⟩:=c9 BJ r (e1.trans o.same)
  exact hd.2 v H' F [] fo ⟨k3,k1,o.rep.Fs hd.1,k2,by simpa using nd,fun a ha=>.inl (by simpa using ha)⟩
 cases z:aI cl es τ with
 | error er=>
  rw[z] at q'
  cases er with
  | stuck=>exact q'.no.elim
  | exc c=>exact borrow (fun ds h=>by rw[z] at h;cases h) (by rw[z];exact q')
 | ok ds=>
  rw[z] at q'
  have q1:Bp ex (Bn (cl f (BA ds)) fun d=>if ao d=true then .ok (d,τ) else .ok (d,BI (av es) τ)) (fun p=>∀ v H' F' fv f',Ow X.K F H fo F' H' σ v p.1 fv p.2 f'->Q v H'):=q'
  cases zc:cl f (BA ds) with
  | error er=>
   rw[zc] at q1
   cases er with
   | stuck=>exact q1.no.elim
   | exc c=>exact borrow (fun ds' h=>by rw[z] at h;cases h;rw[zc];exact q1) (by rw[z];trivial)
  | ok d=>
   rw[zc] at q1
   have q2:Bp ex (if ao d=true then .ok (d,τ) else .ok (d,BI (av es) τ)) (fun p=>∀ v H' F' fv f',Ow X.K F H fo F' H' σ v p.1 fv p.2 f'->Q v H'):=q1
   by_cases hl:ao d=true
   ·rw[if_pos hl] at q2
    exact borrow (fun ds' h=>by rw[z] at h;cases h;rw[zc];exact⟨hl,q2.ok⟩) (by rw[z];trivial)
   ·rw[if_neg hl] at q2
    obtain⟨F1,gg,b1,b2,b3,b4,b5,b6⟩:=cE (av es) BJ r nd
    refine jl (Kt:=fun ds'=>ds'=ds) (.refl _) b6 (by rw[z];rfl) fun ds' vs H1 e1 _ m1 e=>?_
    subst e
    have hm:Bo X.K (fun a=>F1 a∨(True/\H a=none/\H1 a≠none)) H1 vs ds':=m1.step (fun a xs h r=>⟨h.elim (fun z=>.inl z) fun z=>.inr ⟨trivial,z,r.some⟩,r⟩) fun a xs h=>h
    obtain⟨c1,c2,c3⟩:=grow (fun _=>True) b1 b2 e1
    refine⟨_,ds',c1,hm,?_⟩
    rw[zc]
    intro v H' F' fv o
    have s1:EM (fun a=>F1 a∨(True/\H a=none/\H1 a≠none)) H1 gg F' H':=⟨o.same,o.C5,fun a h=>(o.out a h).elim (fun z=>.inl z) fun z=>.inr (.inr z)⟩
    have r2:BK X.K F' H' σ (BI (av es) τ) gg:=c2.step (fun a xs q rd=>⟨o.C5 a q,o.same.rd rd⟩) (fun a xs q=>o.same.C0 q) fun a ha n hn=>by
     obtain⟨_,xs,e⟩:=c2.own a ha
     refine⟨fun z=>?_,(o.same _ _ e).trans e.symm⟩
     rcases o.out a z with z|z
     ·exact n z
     ·exact hn z
    refine q2.ok v H' F' fv gg ⟨(b4.trans c3 (fun x hx=>.inl (b5 x hx))).trans s1 (fun x hx=>.inl (b5 x hx)),o.BJ,o.rep,r2,?_,fun a ha=>?_⟩
    ·refine List.nodup_append.mpr ⟨o.B2,b3,fun a h1 b h2 e=>?_⟩
     subst e
     obtain⟨_,xs,e⟩:=c2.own a h2
     rw[o.new a h1] at e
     cases e
    ·rcases List.mem_append.mp ha with ha|ha
     ·exact .inr (e1.free (o.new a ha))
     ·exact .inl (b5 a ha)
theorem aC {a:IR}{e:Expr}(he:PE X e (RD X.K ex (vars a) (Bt cl a)))(hN:aS a=true->PE X e (RN X.K ex (vars a) fun τ=>Bn (Bt cl a τ) c8)):PE X e (RO X.K ex fun τ=>Bn (Bt cl a τ) fun d=>.ok (aA a d τ)):=by
 intro pins s σ H Q I h
 obtain⟨F,τ,fo,BJ,r,nd,q⟩:=h
 replace q:Bp ex (Bn (Bt cl a τ) fun d=>.ok (aA a d τ)) (fun p=>∀ v H' F' fv f',Ow X.K F H fo F' H' σ v p.1 fv p.2 f'->Q v H'):=q
 have rd:RD X.K ex (vars a) (Bt cl a) σ H Q->wpAny (model X.prog X.w) X.A (eval e X.env) (EP X pins σ Q) X.xe s:=fun h=>he pins s σ H Q I h
 cases z:Bt cl a τ with
 | error er=>
  rw[z] at q
  cases er with
  | stuck=>exact q.no.elim
  | exc c=>exact rd ⟨fun _=>True,τ,aJ r,by rw[z];exact q⟩
 | ok d=>
  rw[z] at q
  have q1:∀ v H' F' fv f',Ow X.K F H fo F' H' σ v (aA a d τ).1 fv (aA a d τ).2 f'->Q v H':=q
  by_cases hl:ao d=true
  ·unfold aA at q1
   rw[if_pos hl] at q1
   refine rd ⟨fun _=>True,τ,aJ r,?_⟩
   rw[z]
   intro v H' e m
   obtain⟨k1,k2,k3⟩:=c9 BJ r e
   exact q1 v H' F [] fo ⟨k3,k1,m.free hl,k2,by simpa using nd,fun a ha=>.inl (by simpa using ha)⟩
  ·have other:aA a d τ=(er d,BI (vars a) τ)->wpAny (model X.prog X.w) X.A (eval e X.env) (EP X pins σ Q) X.xe s:=fun hk=>by
    rw[hk] at q1
    obtain⟨F1,gg,b1,b2,b3,b4,b5,b6⟩:=cE (vars a) BJ r nd
    refine rd ⟨F1,τ,b6,?_⟩
    rw[z]
    intro v H' e m
    obtain⟨c1,c2,c3⟩:=grow (fun _=>True) b1 b2 e
    exact q1 v H' _ [] gg ⟨b4.trans c3 (fun x hx=>.inl (b5 x hx)),c1,m.fix.frozen,c2,by simpa using b3,fun a ha=>.inl (b5 a (by simpa using ha))⟩
   by_cases hn:aS a=true
   ·cases d with
    | lst o ds=>
     by_cases hi:ai ds=true
     ·have hk:aA a (.lst o ds) τ=(.lst true ds,τ):=by
       unfold aA
       rw[if_neg hl,hn]
       show (if ai ds=true then _ else _)=_
       rw[if_pos hi]
      rw[hk] at q1
      refine hN hn pins s σ H Q I ⟨fun _=>True,τ,aJ r,?_⟩
      show Bp ex (Bn (Bt cl a τ) c8) _
      rw[z]
      intro p ys H' e hp hy m
      obtain⟨k1,k2,k3⟩:=c9 BJ r e
      refine q1 (.ref p) H' F [p] fo ⟨k3,k1,.CQ (fun zz=>BJ p zz hp) hy (m.free hi),k2,?_,fun a ha=>?_⟩
      ·rw[List.singleton_append,List.nodup_cons]
       refine⟨fun zz=>?_,nd⟩
       obtain⟨_,xs,e⟩:=r.own p zz
       rw[hp] at e;cases e
      ·rw[List.singleton_append] at ha
       rcases List.mem_cons.mp ha with rfl|ha
       ·exact .inr hp
       ·exact .inl ha
     ·have hk:aA a (.lst o ds) τ=(.lst true (BA ds),BI (vars a) τ):=by
       unfold aA
       rw[if_neg hl,hn]
       show (if ai ds=true then _ else _)=_
       rw[if_neg hi]
      rw[hk] at q1
      obtain⟨F1,gg,b1,b2,b3,b4,b5,b6⟩:=cE (vars a) BJ r nd
      refine hN hn pins s σ H Q I ⟨F1,τ,b6,?_⟩
      show Bp ex (Bn (Bt cl a τ) c8) _
      rw[z]
      intro p ys H' e hp hy m
      obtain⟨c1,c2,c3⟩:=grow (fun a=>a≠p) b1 b2 e
      have m2:Bo X.K (fun a=>F1 a∨(a≠p/\H a=none/\H' a≠none)) H' ys ds:=m.step (fun a xs h r=>⟨h.1.elim (fun z=>.inl z) fun z=>.inr ⟨h.2,z,r.some⟩,r⟩) fun a xs h=>h
      refine q1 (.ref p) H' _ [p] gg ⟨b4.trans c3 (fun x hx=>.inl (b5 x hx)),c1,.CQ (fun zz=>?_) hy m2.frozen,c2,?_,fun a ha=>?_⟩
      ·rcases zz with zz|zz
       ·exact b1 p zz hp
       ·exact zz.1 rfl
      ·rw[List.singleton_append,List.nodup_cons]
       refine⟨fun zz=>?_,b3⟩
       obtain⟨_,xs,e⟩:=b2.own p zz
       rw[hp] at e;cases e
      ·rw[List.singleton_append] at ha
       rcases List.mem_cons.mp ha with rfl|ha
       ·exact .inr hp
       ·exact .inl (b5 a ha)
    | _=>
     refine other ?_
     unfold aA
     rw[if_neg hl,hn]
   ·have DA:aS a=false:=by simpa using hn
    refine other ?_
    unfold aA
    rw[if_neg hl,DA]
theorem yR {a b:Expr}{pos:Pos}{va vb:List Nat}{fa fb:Ev->Res D}(ha:PE X a (RD X.K ex va fa))(hb:PE X b (RD X.K ex vb fb)) :
  PE X (.BinOp a .Add b pos) (RN X.K ex (va++vb) fun τ=>Bn (Bn (fa τ) fun x=>Bn (fb τ) fun y=>C4 .add x y) c8):=by
 refine ar (me jJ ha hb) fun σ H Q ⟨S,τ,hs,q⟩=>?_
 refine az (.refl _) hs.left (Bp.Bn (Bp.Bn q)) fun x v H1 e1 _ m1 q1=>?_
 refine az e1 hs.right (Bp.Bn q1) fun y w H2 e2 Ci m2 q2=>?_
 have stuck:∀ {P:Prop},C4 .add x y=Bu->P:=fun z=>by rw[z] at q2;exact q2.no.elim
 cases x with
 | int a=>cases y with
  | int b=>exact q2.ok.no.elim
  | _=>exact stuck rfl
 | str a=>cases y with
  | str b=>exact(Bp.Bv q2).2.ok.no.elim
  | _=>exact stuck rfl
 | lst o a=>cases y with
  | lst o' b=>
   obtain⟨p,xs,rfl,h1,n1⟩:=m1.Fj
   obtain⟨p',ys,rfl,h2,n2⟩:=m2.Fj
   obtain⟨gd,q3⟩:=Bp.Bv q2
   have g':=aP gd
   have l1:=n1.length
   have l2:=n2.length
   have Hd:Ls X.K H2 p xs:=h1.elim (fun z=>.inl (Ci.rd z)) .inr
   exact⟨p,p',xs,ys,rfl,rfl,Hd,h2,by omega,fun z hz=>q3.ok.ok z _ _ (e2.trans (.upd hz)) (e2.free hz) aq (v7 ((n1.later Ci).append n2) hz)⟩
  | _=>exact stuck rfl
 | _=>exact stuck rfl
theorem yS {a b:Expr}{pos:Pos}{va vb:List Nat}{fa fb:Ev->Res D}(ha:PE X a (RD X.K ex va fa))(hb:PE X b (RD X.K ex vb fb)) :
  PE X (.BinOp a .Mult b pos) (RN X.K ex (va++vb) fun τ=>Bn (Bn (fa τ) fun x=>Bn (fb τ) fun y=>C4 .mul x y) c8):=by
 refine ar (me jK ha hb) fun σ H Q ⟨S,τ,hs,q⟩=>?_
 refine az (.refl _) hs.left (Bp.Bn (Bp.Bn q)) fun x v H1 e1 _ m1 q1=>?_
 refine az e1 hs.right (Bp.Bn q1) fun y w H2 e2 Ci m2 q2=>?_
 have stuck:∀ {P:Prop},C4 .mul x y=Bu->P:=fun z=>by rw[z] at q2;exact q2.no.elim
 cases y with
 | int b=>
  cases m2
  cases x with
  | int a=>exact(Bp.Bv q2).2.ok.no.elim
  | str a=>exact(Bp.Bv q2).2.ok.no.elim
  | lst o a=>
   obtain⟨p,xs,rfl,h1,n1⟩:=m1.Fj
   obtain⟨gd,q3⟩:=Bp.Bv q2
   have gd:=of_decide_eq_true gd
   have Hd:Ls X.K H2 p xs:=h1.elim (fun z=>.inl (Ci.rd z)) .inr
   exact⟨p,b,xs,rfl,rfl,Hd,gd.1,gd.2.1,by rw[n1.length];exact gd.2.2,fun z hz=>q3.ok.ok z _ _ (e2.trans (.upd hz)) (e2.free hz) aq (v7 ((n1.later Ci).rep b.toNat) hz)⟩
  | _=>exact stuck rfl
 | _=>cases x<;>exact stuck rfl
theorem Bh {a:Expr}{lo hi:Option Expr}{pos p2:Pos}{va vl vh:List Nat}{fa:Ev->Res D}{fl fh:Ev->Res (Option Int)}(ha:PE X a (RD X.K ex va fa))(hl:PO X lo (Jh X.K ex vl fl))(hh:PO X hi (Jh X.K ex vh fh)) :
  PE X (.Subscript a (.Slice lo hi none p2) pos) (RN X.K ex (va++vl++vh) fun τ=>Bn (Bn (fa τ) fun x=>Bn (fl τ) fun l=>Bn (fh τ) fun h=>gc x l h) c8):=by
 refine ar (gS jF ha hl hh) fun σ H Q ⟨S,τ,hs,q⟩=>?_
 refine az (.refl _) hs.left.left (Bp.Bn (Bp.Bn q)) fun x v H1 e1 _ m1 q1=>?_
 refine rg e1 hs.left.right (Bp.Bn q1) fun l H2 e2 Ci q2=>?_
 refine rg e2 hs.right (Bp.Bn q2) fun h H3 e3 F3 q3=>?_
 cases x with
 | lst o ds=>
  obtain⟨p,xs,rfl,h1,n1⟩:=m1.Cd
  exact⟨p,xs,rfl,(Ci.trans F3).seq h1,fun z hz=>q3.ok.ok z _ _ (e3.trans (.upd hz)) (e3.free hz) aq (v7 (jM l h (n1.later (Ci.trans F3))) hz)⟩
 | str _=>exact(Bp.Bv q3).2.ok.no.elim
 | _=>exact q3.no.elim
end
section
variable {Z:Sg}{CX:Cy}{cl:Nat->List D->Res D}{xp:XK->Hp->Str->Prop}
theorem jU {X:Cx}{ex:Str->Prop}{G:Gm}(g:BN Z CX cl xp X ex G){i:Nat}{x:Str}{pos:Pos}(h:cY G i x=true):PE X (.Name x pos) (uS i):=by
 unfold cY at h
 rw[Bool.and_eq_true] at h
 have hx:G.N[i]? = some x:=eq_of_beq h.1
 have hk:=g.kd i x hx
 have hv:JA X.env.scope x:=by
  have h2:=h.2
  rw[Bool.or_eq_true,Bool.or_eq_true] at h2
  rcases h2 with (h2|h2)|h2
  ·exact .inl (hk.trans (eq_of_beq h2))
  ·exact .inr (.inl (hk.trans (eq_of_beq h2)))
  ·exact .inr (.inr (hk.trans (eq_of_beq h2)))
 exact lW (i:=i) (by rw[g.N];exact hx) hv (g.Er i x hx).1 (g.Er i x hx).2
theorem v9 {X:Cx}{ex:Str->Prop}{G G':Gm}{fr:List Nat}(g:BN Z CX cl xp X ex G){scope:Scope}{tg iter elt:Expr}{ifs:List Expr}{pos:Pos}{T:Tg}{s:Sr}{I:List IR}{E:IR}(hs:Fp Z G scope G' fr)(hT:bI G' T tg=true)(ha:∀ i∈Dr T,fr.length<=i)
  (hi:bM Z G s iter=true/\dJ s tg=true) (ht:aO Z G' I ifs=true) (he:Bx Z G' E elt=true) :
  PE X (.ListComp elt [⟨tg,iter,ifs,0⟩] scope pos) (RN X.K ex (vars (.comp G' fr T s I E)) fun τ=>Bn (Bt cl (.comp G' fr T s I E) τ) c8):=by
 intro pins s' σ H Q Iv h
 obtain⟨CB,S⟩:=dD g Iv.ok hs
 have p:=jG (pos:=pos) (elt:=elt) (ifs:=ifs) (tg:=tg) (g:=gT X.K T) (tt:=RT X.K Ca (av I) (cL cl I)) (te:=RD X.K Ca (vars E) (Bt cl E)) (g.calm hs.cm) S (rz s X ex G iter tg g hi.1 hi.2) (fun C s H fp=>HQ (bc g hs CB C s H fp) T tg hT)
  (fun C s H fp=>rq I _ Ca G' ifs (bc g hs CB C s H fp) ht) (fun C s H fp=>(snd E _ Ca G' elt (bc g hs CB C s H fp) he).1) (fun x=>bG hi.1 X.env x)
 refine p pins s' σ H Q Iv ?_
 obtain⟨S0,τ,Mp,q⟩:=h
 have q':=Bp.Bn (show Bp ex (Bn (Bt cl (.comp G' fr T s I E) τ) c8) _ from q)
 rw[eI] at q'
 exact bT hs.Kj ha Mp q' fun A ys ds H' e hA He m k=>k.ok A ys H' e hA He m
theorem Df:∀ (a:IR) (X:Cx) (ex:Str->Prop) (G:Gm) (e:Expr),BN Z CX cl xp X ex G->Bx Z G a e=true->aS a=true->PE X e (RN X.K ex (vars a) fun τ=>Bn (Bt cl a τ) c8):=by
 intro a X ex G e g h n
 cases a with
 | bin op a b=>
  cases op with
  | add=>
   cases e with
   | BinOp l o r pos=>
    have h':(o == GG .add&&Bx Z G a l&&Bx Z G b r)=true:=h
    simp only[Bool.and_eq_true] at h'
    have e1:o=GG .add:=eq_of_beq h'.1.1
    subst e1
    exact yR (snd a X ex G l g h'.1.2).1 (snd b X ex G r g h'.2).1
   | _=>first|exact aa h|cases h
  | mul=>
   cases e with
   | BinOp l o r pos=>
    have h':(o == GG .mul&&Bx Z G a l&&Bx Z G b r)=true:=h
    simp only[Bool.and_eq_true] at h'
    have e1:o=GG .mul:=eq_of_beq h'.1.1
    subst e1
    exact yS (snd a X ex G l g h'.1.2).1 (snd b X ex G r g h'.2).1
   | _=>first|exact aa h|cases h
  | _=>cases n
 | sl a lo hi=>
  cases e with
  | Subscript o s pos=>
   cases s with
   | Slice l u st p=>
    cases st with
    | none=>
     have h':(Bx Z G a o&&jk Z G lo l&&jk Z G hi u)=true:=h
     simp only[Bool.and_eq_true] at h'
     exact Bh (snd a X ex G o g h'.1.1).1 (rl lo X ex G l g h'.1.2) (rl hi X ex G u g h'.2)
    | some _=>first|exact aa h|cases h
   | _=>first|exact aa h|cases h
  | _=>first|exact aa h|cases h
 | bi f es=>cases n
 | comp G' fr tg src ifs elt=>
  cases e with
  | ListComp el gens scope pos=>
   have h:lJ gens (fun t it fs=>bb Z G scope G' fr&&bI G' tg t&&(Dr tg).all (fun i=>decide (fr.length<=i))&&(bM Z G src it&&dJ src t)&&aO Z G' ifs fs&&Bx Z G' elt el)=true:=h
   obtain⟨t,it,fs,rfl,h⟩:=gu h
   have h':(bb Z G scope G' fr&&bI G' tg t&&(Dr tg).all (fun i=>decide (fr.length<=i))&&(bM Z G src it&&dJ src t)&&aO Z G' ifs fs&&Bx Z G' elt el)=true:=h
   simp only[Bool.and_eq_true] at h'
   exact v9 g (gx h'.1.1.1.1.1) h'.1.1.1.1.2 (fun i hi=>of_decide_eq_true (List.all_eq_true.mp h'.1.1.1.2 i hi)) h'.1.1.2 h'.1.2 h'.2
  | _=>first|exact aa h|cases h
 | _=>cases n
theorem wa {X:Cx}{ex:Str->Prop}{pos:Pos}(mv:Bool):PE X (.Dict [] [] pos) (RO X.K ex (B6 cl mv .Dy)):=by
 refine ar ei fun σ H Q ⟨F,τ,fo,BJ,r,nd,q⟩=>fun p hp=>?_
 have q':∀ v H' F' fv f',Ow X.K F H fo F' H' σ v (.Bw true [] []) fv τ f'->Q v H':=q
 have e:aj H (upd H p (.dK [])):=.upd hp
 obtain⟨k1,k2,k3⟩:=c9 BJ r e
 have nF:¬ F p:=fun z=>BJ p z hp
 have QC:p∉fo:=fun z=>by
  obtain⟨_,u,eu⟩:=r.own p z
  rw[hp] at eu;cases eu
 exact q' _ _ F [p] fo ⟨k3,k1,.Fi (kvs:=[]) nF aq rfl .nil,k2,by rw[List.singleton_append,List.nodup_cons];exact⟨QC,nd⟩,fun a ha=>by
  rcases List.mem_append.mp ha with ha|ha
  ·rw[List.mem_singleton.mp ha];exact .inr hp
  ·exact .inl ha⟩
mutual
theorem Hf:∀ (a:IR) (mv:Bool) (X:Cx) (ex:Str->Prop) (G:Gm) (e:Expr),BN Z CX cl xp X ex G->Bx Z G a e=true->PE X e (RO X.K ex (B6 cl mv a))
 | .v i,mv,X,ex,G,e,g,h=>by
  cases e with
  | Name x pos=>exact Ll (jU g h) mv
  | _=>first|exact aa h|cases h
 | .tup es,mv,X,ex,G,e,g,h=>by
  cases e with
  | Tuple l n pos=>exact E7 (wb es mv X ex G l g h)
  | _=>first|exact aa h|cases h
 | .lst es,mv,X,ex,G,e,g,h=>by
  cases e with
  | List l pos=>exact E8 (wb es mv X ex G l g h)
  | _=>first|exact aa h|cases h
 | .ite t a b,mv,X,ex,G,e,g,h=>by
  cases e with
  | IfExp c x y pos=>
   have h':(Bx Z G t c&&Bx Z G a x&&Bx Z G b y)=true:=h
   simp only[Bool.and_eq_true] at h'
   exact yQ (snd t X ex G c g h'.1.1).2 (Hf a mv X ex G x g h'.1.2) (Hf b mv X ex G y g h'.2)
  | _=>first|exact aa h|cases h
 | .call f es,mv,X,ex,G,e,g,h=>by
  cases e with
  | Call fn args CU pos=>
   cases fn with
   | Name x p=>
    cases CU with
    | nil=>
     have h':(aT Z G f x&&Z.Ha G f&&aO Z G es args)=true:=h
     simp only[Bool.and_eq_true] at h'
     exact DQ g h'.1.1 h'.1.2 h'.2 mv
    | cons _ _=>first|exact aa h|cases h
   | _=>first|exact aa h|cases h
  | _=>first|exact aa h|cases h
 | .c d,mv,X,ex,G,e,g,h=>aC (snd _ X ex G e g h).1 (Df _ X ex G e g h)
 | .g n d,mv,X,ex,G,e,g,h=>aC (snd _ X ex G e g h).1 (Df _ X ex G e g h)
 | .bin op a b,mv,X,ex,G,e,g,h=>aC (snd _ X ex G e g h).1 (Df _ X ex G e g h)
 | .neg a,mv,X,ex,G,e,g,h=>aC (snd _ X ex G e g h).1 (Df _ X ex G e g h)
 | .cmp op a b,mv,X,ex,G,e,g,h=>aC (snd _ X ex G e g h).1 (Df _ X ex G e g h)
 | .chain op Cb a b c,mv,X,ex,G,e,g,h=>aC (snd _ X ex G e g h).1 (Df _ X ex G e g h)
 | .BV a b,mv,X,ex,G,e,g,h=>aC (snd _ X ex G e g h).1 (Df _ X ex G e g h)
 | .E0 a b,mv,X,ex,G,e,g,h=>aC (snd _ X ex G e g h).1 (Df _ X ex G e g h)
 | .Ce a,mv,X,ex,G,e,g,h=>aC (snd _ X ex G e g h).1 (Df _ X ex G e g h)
 | .idx a i,mv,X,ex,G,e,g,h=>aC (snd _ X ex G e g h).1 (Df _ X ex G e g h)
 | .sl a lo hi,mv,X,ex,G,e,g,h=>aC (snd _ X ex G e g h).1 (Df _ X ex G e g h)
 | .bi f es,mv,X,ex,G,e,g,h=>aC (snd _ X ex G e g h).1 (Df _ X ex G e g h)
 | .D8 a ns tb,mv,X,ex,G,e,g,h=>aC (snd _ X ex G e g h).1 (Df _ X ex G e g h)
 | .Cp a k,mv,X,ex,G,e,g,h=>aC (snd _ X ex G e g h).1 (Df _ X ex G e g h)
 | .HJ x a y,mv,X,ex,G,e,g,h=>aC (snd _ X ex G e g h).1 (Df _ X ex G e g h)
 | .C2 a k,mv,X,ex,G,e,g,h=>aC (snd _ X ex G e g h).1 (Df _ X ex G e g h)
 | .G4 n k a,mv,X,ex,G,e,g,h=>aC (snd _ X ex G e g h).1 (Df _ X ex G e g h)
 | .sset a,mv,X,ex,G,e,g,h=>aC (snd _ X ex G e g h).1 (Df _ X ex G e g h)
 | .EB a,mv,X,ex,G,e,g,h=>aC (snd _ X ex G e g h).1 (Df _ X ex G e g h)
 | .GC a,mv,X,ex,G,e,g,h=>aC (snd _ X ex G e g h).1 (Df _ X ex G e g h)
 | .E1 a k d,mv,X,ex,G,e,g,h=>aC (snd _ X ex G e g h).1 (Df _ X ex G e g h)
 | .Dy,mv,X,ex,G,e,g,h=>by
  have h:Hb e=true:=by cases e<;>exact h
  obtain⟨pos,rfl⟩:=jj h
  exact wa mv
 | .C3 a,mv,X,ex,G,e,g,h=>aC (snd _ X ex G e g h).1 (Df _ X ex G e g h)
 | .Ja m o es,mv,X,ex,G,e,g,h=>aC (snd _ X ex G e g h).1 (Df _ X ex G e g h)
 | .comp G' fr tg src ifs elt,mv,X,ex,G,e,g,h=>aC (snd _ X ex G e g h).1 (Df _ X ex G e g h)
theorem wb:∀ (as:List IR) (mv:Bool) (X:Cx) (ex:Str->Prop) (G:Gm) (l:List Expr),BN Z CX cl xp X ex G->aO Z G as l=true->PA X l (Jk X.K ex (ek cl mv as))
 | [],mv,X,ex,G,l,g,h=>by
  cases l with
  | nil=>exact v8
  | cons _ _=>first|exact aa h|cases h
 | a::as,mv,X,ex,G,l,g,h=>by
  cases l with
  | nil=>first|exact aa h|cases h
  | cons e l=>
   have h':(notStar e&&Bx Z G a e&&aO Z G as l)=true:=h
   simp only[Bool.and_eq_true] at h'
   exact rA h'.1.1 (Hf a mv X ex G e g h'.1.2) (wb as mv X ex G l g h'.2)
end
end
structure Bs (io:Option Nat) where
 F:Addr->Prop
 H:Hp
 L:Addr->LD->Prop
 T:Addr->List V ⊕ Str->Prop
 N:Option Addr:=none
structure B7 (K:PySem.W.Frag){io:Option Nat}(B:Bs io)(F:Addr->Prop)(H:Hp)(σ:St)(τ:Ev)(f:List Addr):Prop where
 BJ:Du F H
 Cq:BK K F H σ τ f
 B2:f.Nodup
 same:aj B.H H
 own:∀ a∈f,B.H a=none
 C5:∀ a,B.F a->F a
 out:∀ a,F a->B.F a∨B.H a=none
 pin:∀ a xs,B.L a xs->F a/\Rd H a xs.o
 GN:∀ a xs,B.T a xs->B5 K H a xs
 nm:∀ j a,io=some j->B.N=some a->σ[j]? = some (some (.ref a))
noncomputable def Fk (K:PySem.W.Frag){io:Option Nat}(B:Bs io)(Dn:Ends):Fl->Prop
 | .nx τ=>∀ σ H F f,B7 K B F H σ τ f->Dn.nx σ H
 | .bk τ=>∀ σ H F f,B7 K B F H σ τ f->Dn.bk σ H
 | .ct τ=>∀ σ H F f,B7 K B F H σ τ f->Dn.ct σ H
 | .rt d=>∀ v H F fv,Out K B.F B.H F H v d fv->Dn.rt v H
def RS (K:PySem.W.Frag)(io:Option Nat)(ex:Str->Prop)(g:Ev->Res Fl):TS:=fun Dn σ H=>∃ (B:Bs io),∃ F τ f,B7 K B F H σ τ f/\Bp ex (g τ) (Fk K B Dn)
section
variable {K:PySem.W.Frag}{io:Option Nat}{B:Bs io}{F F':Addr->Prop}{H H':Hp}{σ:St}{τ τ':Ev}{f f':List Addr}{ex:Str->Prop}
theorem B7.DD (m:B7 K B F H σ τ f)(s:EM F H f F' H')(BJ:Du F' H')(r:BK K F' H' σ τ' f')(nd:f'.Nodup)(hm:∀ a∈f',a∈f∨H a=none):B7 K B F' H' σ τ' f' where
 BJ:=BJ
 Cq:=r
 B2:=nd
 same:=m.same.trans s.same
 own:=fun a ha=>(hm a ha).elim (m.own a) fun z=>m.same.free z
 C5:=fun a h=>s.C5 a (m.C5 a h)
 out:=fun a h=>by
  rcases s.out a h with h|h|h
  ·exact m.out a h
  ·exact .inr (m.own a h)
  ·exact .inr (m.same.free h)
 pin:=fun a xs h=>⟨s.C5 a (m.pin a xs h).1,s.same.rd (m.pin a xs h).2⟩
 GN:=fun a xs h=>s.same.C0 (m.GN a xs h)
 nm:=m.nm
theorem B7.ow {v:V}{d:D}{fv:List Addr}(m:B7 K B F H σ τ f)(o:Ow K F H f F' H' σ v d fv τ' f'):B7 K B F' H' σ τ' f'/\∀ a∈fv,B.H a=none:=
 ⟨m.DD o.DD o.BJ o.Cq (List.nodup_append.mp o.B2).2.1 fun a ha=>o.mem a (List.mem_append_right _ ha),fun a ha=>(o.mem a (List.mem_append_left _ ha)).elim (m.own a) fun z=>m.same.free z⟩
theorem B7.grow (m:B7 K B F H σ τ f)(e:aj H H'):B7 K B F H' σ τ f:=by
 obtain⟨k1,k2,k3⟩:=c9 m.BJ m.Cq e
 exact m.DD k3 k1 k2 m.B2 fun a ha=>.inl ha
theorem B7.ro {g:Ev->Res (D×Ev)}{Kt:D×Ev->Prop}{Q:VK}(m:B7 K B F H σ τ f)(h:Bp ex (g τ) Kt)(k:∀ p v H' F' fv f',Ow K F H f F' H' σ v p.1 fv p.2 f'->Kt p->Q v H'):RO K ex g σ H Q:=
 ⟨F,τ,f,m.BJ,m.Cq,m.B2,h.mono fun p hp v H' F' fv f' o=>k p v H' F' fv f' o hp⟩
theorem B7.rt {is:List Nat}{g:Ev->Res Bool}{Kt:Bool->Prop}{Q:Bool->Hp->Prop}(m:B7 K B F H σ τ f)(h:Bp ex (g τ) Kt)(k:∀ b H',B7 K B F H' σ τ f->aj H H'->Kt b->Q b H'):RT K ex is g σ H Q:=
 cZ (.refl _) (aJ m.Cq) h fun b H2 e2 _ hb=>k b H2 (m.grow e2) e2 hb
theorem B7.rd {is:List Nat}{g:Ev->Res D}{Kt:D->Prop}{Q:VK}(m:B7 K B F H σ τ f)(h:Bp ex (g τ) Kt)(k:∀ d v H',B7 K B F H' σ τ f->aj H H'->Bq K (nw (fun _=>True) H) H' v d->Kt d->Q v H'):RD K ex is g σ H Q:=
 az (.refl _) (aJ m.Cq) h fun b v H2 e2 _ mv hb=>k b v H2 (m.grow e2) e2 mv hb
mutual
theorem nt:∀ (t:Tg) {σ:St}{τ:Ev}{f:List Addr}{v:V}{d:D}{fv:List Addr}{Kt:Ev->Prop}{Q:St->Hp->Prop},BK K F H σ τ f->BC K F H v d fv->(fv++f).Nodup->Bp ex (br t d τ) Kt->
  (∀ τ' Bz f',BK K F H Bz τ' f'->f'.Nodup->(∀ a∈f',a∈fv++f)->(∀ j,j∉Dr t->Bz[j]? = σ[j]?)->Kt τ'->Q Bz H)->gT K t v σ H Q
 | .nm i,σ,τ,f,v,d,fv,Kt,Q,r,m,nd,h,k=>by
  obtain⟨g,h',r2,p2⟩:=r.put i m
  have GK:(g++h').Nodup:=p2.nodup_iff.mpr nd
  exact k (τ.set i (some d)) (σ.set i (some v)) g r2 (List.nodup_append.mp GK).1 (fun a ha=>p2.mem_iff.mp (List.mem_append_left _ ha)) (fun j hj=>List.getElem?_set_ne (fun z=>hj (by rw[<- z];exact List.mem_singleton.mpr rfl))) h.ok
 | .tp ts,σ,τ,f,v,d,fv,Kt,Q,r,m,nd,h,k=>by
  cases m with
  | tup h1 h2=>
   obtain⟨gd,h⟩:=Bp.Bv h
   have g':=of_decide_eq_true gd
   exact⟨_,_,rfl,.inl h1,by rw[h2.length];exact g',de ts r h2 nd h k⟩
  | EG h0 h1 h2=>
   obtain⟨gd,h⟩:=Bp.Bv h
   have g':=of_decide_eq_true gd
   exact⟨_,_,rfl,.inr (.inl h1),by rw[h2.length];exact g',de ts r h2 nd h k⟩
  | lstK h1 h2=>
   obtain⟨gd,h⟩:=Bp.Bv h
   have g':=of_decide_eq_true gd
   exact⟨_,_,rfl,.inr h1.sq,by rw[h2.length];exact g',de ts r h2 nd h k⟩
  | CQ h0 h1 h2=>
   obtain⟨gd,h⟩:=Bp.Bv h
   have g':=of_decide_eq_true gd
   rw[List.cons_append,List.nodup_cons] at nd
   exact⟨_,_,rfl,.inr (.inl (.inl h1)),by rw[h2.length];exact g',de ts r h2 nd.2 h fun τ' Bz f' a1 a2 a3 a5 a4=>k τ' Bz f' a1 a2 (fun x hx=>by rw[List.cons_append];exact List.mem_cons_of_mem _ (a3 x hx)) a5 a4⟩
  | _=>exact h.no.elim
theorem de:∀ (ts:List Tg) {σ:St}{τ:Ev}{f:List Addr}{vs:List V}{ds:List D}{fv:List Addr}{Kt:Ev->Prop}{Q:St->Hp->Prop},BK K F H σ τ f->Br K F H vs ds fv->(fv++f).Nodup->Bp ex (cT ts ds τ) Kt->
  (∀ τ' Bz f',BK K F H Bz τ' f'->f'.Nodup->(∀ a∈f',a∈fv++f)->(∀ j,j∉ip ts->Bz[j]? = σ[j]?)->Kt τ'->Q Bz H)->Ki K ts vs σ H Q
 | [],σ,τ,f,vs,ds,fv,Kt,Q,r,m,nd,h,k=>by
  cases m with
  | nil=>exact⟨rfl,k τ σ f r (by simpa using nd) (fun a ha=>by simpa using ha) (fun _ _=>rfl) h.ok⟩
  | cons _ _=>exact h.no.elim
 | t::ts,σ,τ,f,vs,ds,fv,Kt,Q,r,m,nd,h,k=>by
  cases m with
  | nil=>exact h.no.elim
  | cons m1 m2=>
   rename_i v d f1 vs ds f2
   have Gi:(f2++(f1++f)).Nodup:=by
    refine(List.Perm.nodup_iff ?_).mp nd
    rw[<- List.append_assoc]
    exact List.Perm.append_right f List.perm_append_comm
   refine⟨_,_,rfl,nt t r m1 (List.nodup_append.mp Gi).2.1 (Bp.Bn h) fun τ' Bz f' r' Ms DB Lj h'=>?_⟩
   refine de ts r' m2 (List.nodup_append.mpr ⟨(List.nodup_append.mp Gi).1,Ms,fun a h1 b h2 e=>(List.nodup_append.mp Gi).2.2 a h1 b (DB b h2) e⟩) h' fun HR HU Hg QD Mu Mv Mw Mn=>k HR HU Hg QD Mu (fun a ha=>?_) (fun j hj=>(Mw j fun z=>hj (List.mem_append_right _ z)).trans (Lj j fun z=>hj (List.mem_append_left _ z))) Mn
   rcases List.mem_append.mp (Mv a ha) with z|z
   ·exact List.mem_append_left _ (List.mem_append_right _ z)
   ·rcases List.mem_append.mp (DB a z) with z|z
    ·exact List.mem_append_left _ (List.mem_append_left _ z)
    ·exact List.mem_append_right _ z
end
theorem B7.gT {t:Tg}{v:V}{d:D}{fv:List Addr}{Kt:Ev->Prop}{Q:St->Hp->Prop}(m:B7 K B F H σ τ f)(mv:BC K F H v d fv)(nd:(fv++f).Nodup)(hb:∀ a∈fv,B.H a=none)(F5:∀ j∈Dr t,io≠some j)(h:Bp ex (br t d τ) Kt)
  (k:∀ τ' Bz f',B7 K B F H Bz τ' f'->Kt τ'->Q Bz H):L2.gT K t v σ H Q:=
 nt t m.Cq mv nd h fun τ' Bz f' r' Ms hm hj h'=>k τ' Bz f' ⟨m.BJ,r',Ms,m.same,fun a ha=>(List.mem_append.mp (hm a ha)).elim (hb a) (m.own a),m.C5,m.out,m.pin,m.GN,fun j a e1 e2=>(hj j fun z=>F5 j z e1).trans (m.nm j a e1 e2)⟩ h'
theorem B7.write {i:Nat}{ds ds':List D}{w:V}{d:D}{fv:List Addr}{l:Addr}{xs ys:List V}(m:B7 K B F H σ τ f)(hs:ah τ i=some (.lst true ds))(CW:σ[i]? = some (some (.ref l)))(hl:H l=some (.lst xs))(mw:BC K F H w d fv)(nd:(fv++f).Nodup)(hb:∀ a∈fv,B.H a=none)
  (hy:∀ fi,Br K F H xs ds fi->∃ fl h,Br K F H ys ds' fl/\(fl++h).Perm (fv++fi)):∃ f',B7 K B F (upd H l (.lst ys)) σ (τ.set i (some (.lst true ds'))) f':=by
 obtain⟨v,fs,g,h1,h2,h3,h4⟩:=m.Cq.at hs
 rw[CW] at h1
 cases h1
 cases h2 with
 | @CQ a NY Oc fi hF hH hm=>
  rw[hl] at hH
  cases hH
  obtain⟨fl,h,DB,hp⟩:=hy fi hm
  have HW:((l::fi)++g).Nodup:=h4.nodup_iff.mp m.B2
  have Lm:(fv++((l::fi)++g)).Nodup:=(List.Perm.append_left fv h4).nodup_iff.mp nd
  have lg:l∉g:=by
   rw[List.cons_append,List.nodup_cons] at HW
   exact fun z=>HW.1 (List.mem_append_right _ z)
  have QE:l∉fi:=by
   rw[List.cons_append,List.nodup_cons] at HW
   exact fun z=>HW.1 (List.mem_append_left _ z)
  have QF:l∉fv:=fun z=>(List.nodup_append.mp Lm).2.2 l z l (by simp) rfl
  have HX:∀ a∈fl,a∈fv++fi:=fun a ha=>hp.mem_iff.mp (List.mem_append_left _ ha)
  have Od:l∉fl:=fun z=>(List.mem_append.mp (HX l z)).elim QF QE
  have sl:∀ a (u:LD),F a->Rd H a u.o->F a/\Rd (upd H l (.lst ys)) a u.o:=fun a xs h r=>by
   refine⟨h,?_⟩
   have:a≠l:=fun z=>hF (by rw[<- z];exact h)
   unfold Rd
   rw[ag this]
   exact r
  have st:∀ a xs,B5 K H a xs->B5 K (upd H l (.lst ys)) a xs:=fun a xs h=>h.upd hl
  have r1:BK K F (upd H l (.lst ys)) σ (τ.set i none) g:=h3.step sl st fun a ha n _=>⟨n,ag fun z=>lg (by rw[<- z];exact ha)⟩
  have m1:BC K F (upd H l (.lst ys)) (.ref l) (.lst true ds') (l::fl):=.CQ hF aq (DB.step sl st fun a ha n _=>⟨n,ag fun z=>Od (by rw[<- z];exact ha)⟩)
  obtain⟨g',h',r2,p2⟩:=r1.put i m1
  have HY:σ.set i (some (.ref l))=σ:=by
   apply List.ext_getElem?
   intro j
   rw[List.getElem?_set]
   by_cases hj:i=j
   ·subst hj
    have Cu:i < σ.length:=(List.getElem?_eq_some_iff.mp CW).1
    rw[if_pos rfl,if_pos Cu,CW]
   ·rw[if_neg hj]
  rw[HY,List.set_set] at r2
  have QG:((l::fl)++g).Nodup:=by
   rw[List.cons_append,List.nodup_cons]
   refine⟨fun z=>(List.mem_append.mp z).elim Od lg,List.nodup_append.mpr ⟨?_,(List.nodup_append.mp HW).2.1,fun a h1 b h2 e=>?_⟩⟩
   ·have:(fl++h).Nodup:=hp.nodup_iff.mpr (List.nodup_append.mpr ⟨(List.nodup_append.mp Lm).1,(List.nodup_cons.mp (List.nodup_append.mp HW).1).2,fun a h1 b h2 e=>(List.nodup_append.mp Lm).2.2 a h1 b (List.mem_append_left _ (List.mem_cons_of_mem _ h2)) e⟩)
    exact(List.nodup_append.mp this).1
   ·subst e
    rcases List.mem_append.mp (HX a h1) with z|z
    ·exact(List.nodup_append.mp Lm).2.2 a z a (List.mem_append_right _ h2) rfl
    ·exact(List.nodup_append.mp HW).2.2 a (List.mem_cons_of_mem _ z) a h2 rfl
  have GK:(g'++h').Nodup:=p2.nodup_iff.mpr QG
  have lB:B.H l=none:=m.own l (h4.mem_iff.mpr (by simp))
  refine⟨g',fun a h=>?_,r2,(List.nodup_append.mp GK).1,fun b o Ia=>?_,fun a ha=>?_,m.C5,m.out,fun a xs h=>⟨(m.pin a xs h).1,(sl a xs (m.pin a xs h).1 (m.pin a xs h).2).2⟩,fun a xs h=>st a xs (m.GN a xs h),m.nm⟩
  ·have:a≠l:=fun z=>hF (by rw[<- z];exact h)
   rw[ag this]
   exact m.BJ a h
  ·have:b≠l:=fun z=>by rw[z,lB] at Ia;cases Ia
   rw[ag this]
   exact m.same _ _ Ia
  ·have:a∈(l::fl)++g:=p2.mem_iff.mp (List.mem_append_left _ ha)
   rcases List.mem_append.mp this with z|z
   ·rcases List.mem_cons.mp z with rfl|z
    ·exact lB
    ·rcases List.mem_append.mp (HX a z) with z|z
     ·exact hb a z
     ·exact m.own a (h4.mem_iff.mpr (List.mem_append_left _ (List.mem_cons_of_mem _ z)))
   ·exact m.own a (h4.mem_iff.mpr (List.mem_append_right _ z))
theorem Br.snoc {w:V}{d:D}{fv:List Addr}(mw:BC K F H w d fv){xs:List V}{ds:List D}{fi:List Addr}(m:Br K F H xs ds fi):∃ fl h,Br K F H (xs++[w]) (ds++[d]) fl/\(fl++h).Perm (fv++fi):=
 ⟨fi++(fv++[]),[],m.append (.cons mw .nil),by rw[List.append_nil,List.append_nil];exact List.perm_append_comm⟩
end
noncomputable def notTuple:Expr->Bool
 | .Tuple ..=>false
 | _=>true
noncomputable def gy:Expr->Bool
 | .ListComp ..=>false
 | .SetComp ..=>false
 | .DictComp ..=>false
 | _=>true
noncomputable def isName:Expr->Bool
 | .Name ..=>true
 | _=>false
noncomputable def isTup:Expr->Bool
 | .Tuple ..=>true
 | _=>false
noncomputable def Ln:Option Expr->(Str->Bool)->Bool
 | some (.Call (.Name x _) [.Constant (.str _) _ _] [] _),k=>k x
 | _,_=>false
theorem wc {e:Option Expr}{k:Str->Bool}(h:Ln e k=true):∃ x np w j p BF,e=some (.Call (.Name x np) [.Constant (.str w) j p] [] BF)/\k x=true:=by
 unfold Ln at h
 split at h
 ·exact⟨_,_,_,_,_,_,rfl,h⟩
 ·cases h
noncomputable def rev:Stmt->(Option Expr->Bool)->Bool
 | .Raise e none _,k=>k e
 | _,_=>false
theorem wd {s:Stmt}{k:Option Expr->Bool}(h:rev s k=true):∃ e pos,s=.Raise e none pos/\k e=true:=by
 unfold rev at h
 split at h
 ·exact⟨_,_,rfl,h⟩
 ·cases h
noncomputable def Lo:Option Expr->(Str->Expr->Bool)->Bool
 | some (.Call (.Name x _) [a] [] _),k=>k x a
 | _,_=>false
theorem wg {e:Option Expr}{k:Str->Expr->Bool}(h:Lo e k=true):∃ x np a BF,e=some (.Call (.Name x np) [a] [] BF)/\k x a=true:=by
 unfold Lo at h
 split at h
 ·exact⟨_,_,_,_,rfl,h⟩
 ·cases h
noncomputable def Km:Stmt->(Str->List Expr->Bool)->Bool
 | .Return (some (.Call (.Name xf _) args [] _)) _,k=>k xf args
 | _,_=>false
theorem wj {s:Stmt}{k:Str->List Expr->Bool}(h:Km s k=true):∃ xf p args q pos,s=.Return (some (.Call (.Name xf p) args [] q)) pos/\k xf args=true:=by
 unfold Km at h
 split at h
 ·exact⟨_,_,_,_,_,rfl,h⟩
 ·cases h
noncomputable def eX (Z:Sg)(G:Gm):List IR->List Expr->Bool
 | [],[e]=>notStar e&&Hb e
 | a::es,e::l=>notStar e&&Bx Z G a e&&eX Z G es l
 | _,_=>false
mutual
noncomputable def jo (Z:Sg)(G:Gm):IS->Stmt->Bool
 | .asg tg e,.Assign [t] v _=>bI G tg t&&Bx Z G e v&&(isName t||(isTup t&&notTuple v))
 | .EH i k e,.Assign [.Subscript (.Name x _) s _] v _=>cY G i x&&ba s&&Bx Z G k s&&Bx Z G e v
 | .Jb f es,s=>Km s fun xf args=>G.cm&&(aT Z G f xf&&Z.Dq.contains f)&&eX Z G es args
 | .ins i k e,.Expr (.Call (.Attribute (.Name x _) name apos) [s,v] [] BF) _=>cY G i x&&name == "insert"&&apos.endLine == BF.line&&(notStar s&&notStar v)&&Bx Z G k s&&Bx Z G e v
 | .app i e,.Expr (.Call (.Attribute (.Name x _) name apos) [v] [] BF) _=>cY G i x&&name == "append"&&apos.endLine == BF.line&&notStar v&&Bx Z G e v
 | .pass,.Expr (.Constant (.str _) _ _) _=>true
 | .exp e,.Expr v _=>gy v&&Bx Z G e v
 | .ret e,.Return (some v) _=>Bx Z G e v
 | .GD,.Return none _=>true
 | .BM t a b,.If c x y _=>Bx Z G t c&&bC Z G a x&&bC Z G b y
 | .BP tg s body,.For t it b [] _=>((G.cm&&G.rs)&&bI G tg t)&&(bM Z G s it&&dJ s t)&&bC Z G body b
 | .brk,.Break _=>true
 | .cnt,.Continue _=>true
 | .pass,.Pass _=>true
 | .never,_=>true
 | .CT n c e,s=>rev s fun o=>Lo o fun x a=>G.rs&&G.cm&&aT Z G n x&&x == c&&Z.rc.contains (n,c)&&aO Z {G with rs:=false,tr:=false} [e] [a]
 | .CS n c _,.Raise e none _=>Ln e fun x=>G.rs&&G.cm&&aT Z G n x&&x == c&&Z.rc.contains (n,c)
 | _,_=>false
noncomputable def bC (Z:Sg)(G:Gm):List IS->List Stmt->Bool
 | [],[]=>true
 | a::as,s::ss=>jo Z G a s&&bC Z G as ss
 | _,_=>false
end
section
variable {Z:Sg}{CX:Cy}{cl:Nat->List D->Res D}{xp:XK->Hp->Str->Prop}{X:Cx}{ex:Str->Prop}{G:Gm}
theorem su {tg:Tg}{t:Expr}(ht:bI G tg t=true){ga:Ev->Res (D×Ev)}{Dn:Ends}{σ:St}{H:Hp}(h:RS X.K G.io ex (fun τ=>Bn (ga τ) fun p=>Bn (br tg p.1 p.2) fun τ'=>.ok (.nx τ')) Dn σ H):u3 (RO X.K ex ga) (gT X.K tg) Dn σ H:=by
 obtain⟨B,F,τ,f,m,q⟩:=h
 refine m.ro (Bp.Bn q) fun p v H' F' fv f' o hp=>?_
 obtain⟨m',hb⟩:=m.ow o
 exact m'.gT o.rep o.B2 hb (c6 tg t ht) (Bp.Bn hp) fun τ' Bz Hg GO h'=>h'.ok _ _ _ _ GO
theorem DR (g:BN Z CX cl xp X ex G){tg:Tg}{e:IR}{t v:Expr}{pos:Pos}(ht:bI G tg t=true)(hv:Bx Z G e v=true)(hc:(isName t||(isTup t&&notTuple v))=true):PS X (.Assign [t] v pos) (RS X.K G.io ex (Cz cl (.asg tg e))):=by
 have pe:=Hf e false X ex G v g hv
 have pg:=HQ g tg t ht
 cases t with
 | Name x px=>
  cases tg with
  | tp _=>cases ht
  | nm i=>
   have IU:(G.N[i]? == some x&&(G.kd[i]? == some .local||(G.df&&G.kd[i]? == some .cell)))=true:=(Bool.and_eq_true_iff.mp ht).1
   rw[Bool.and_eq_true,Bool.or_eq_true,Bool.and_eq_true] at IU
   have hx:G.N[i]? = some x:=eq_of_beq IU.1
   have hk:=g.kd i x hx
   have Mx:Loc X.env.scope x:=IU.2.elim (fun z=>.inl (hk.trans (eq_of_beq z))) fun z=>.inr (hk.trans (eq_of_beq z.2))
   have JC:X.fn x=true∨X.env.scope.names.lookup x=some .local:=IU.2.elim (fun z=>.inr (hk.trans (eq_of_beq z))) fun z=>.inl (g.df z.1 x)
   have plain:swapsWith v (some (.Name x px)) pos.line X.env=pure false->PS X (.Assign [.Name x px] v pos) (RS X.K G.io ex (Cz cl (.asg (.nm i) e))):=fun hs=>
    aM (u5 (i:=i) (by rw[g.N];exact g.B2) (by rw[g.N];exact hx) Mx pe hs JC) fun Dn σ H h=>su ht h
   cases v with
   | ListComp el gens scope GP=>
    have JU:swapsWith (.ListComp el gens scope GP) (some (.Name x px)) pos.line X.env=pure (X.env.blockKind == .function&&X.env.kindOf x == some .local&&px.line == GP.line&&!(scope.names.any fun (n,k)=>n == x&&(k == .local||k == .cell))):=rfl
    cases hb:(X.env.blockKind == .function&&X.env.kindOf x == some .local&&px.line == GP.line&&!(scope.names.any fun (n,k)=>n == x&&(k == .local||k == .cell))) with
    | false=>exact plain (by rw[JU,hb])
    | true=>
     rw[hb] at JU
     have QH:X.env.kindOf x=some .local:=by
      simp only[Bool.and_eq_true] at hb
      exact eq_of_beq hb.1.1.2
     cases e with
     | comp G' fr T src ifs elt=>
      have hv:lJ gens (fun t it fs=>bb Z G scope G' fr&&bI G' T t&&(Dr T).all (fun i=>decide (fr.length<=i))&&(bM Z G src it&&dJ src t)&&aO Z G' ifs fs&&Bx Z G' elt el)=true:=hv
      obtain⟨t,it,fs,rfl,hv⟩:=gu hv
      have h':(bb Z G scope G' fr&&bI G' T t&&(Dr T).all (fun i=>decide (fr.length<=i))&&(bM Z G src it&&dJ src t)&&aO Z G' ifs fs&&Bx Z G' elt el)=true:=hv
      simp only[Bool.and_eq_true] at h'
      have hs:=gx h'.1.1.1.1.1
      have hT:=h'.1.1.1.1.2
      have ha:∀ i∈Dr T,fr.length<=i:=fun i hi=>of_decide_eq_true (List.all_eq_true.mp h'.1.1.1.2 i hi)
      intro pins s' σ H Dn Iv h
      obtain⟨CB,S⟩:=dD g Iv.ok hs
      have p:=qB (py:=px) (spos:=pos) (i:=i) (pos:=GP) (elt:=el) (ifs:=fs) (tg:=t) (g:=gT X.K T) (tt:=RT X.K Ca (av ifs) (cL cl ifs)) (te:=RD X.K Ca (vars elt) (Bt cl elt)) (g.calm hs.cm) (by rw[g.N];exact g.B2) (by rw[g.N];exact hx) QH S (rz src X ex G it t g h'.1.1.2.1 h'.1.1.2.2) (fun C s H fp=>HQ (bc g hs CB C s H fp) T t hT)
       (fun C s H fp=>rq ifs _ Ca G' fs (bc g hs CB C s H fp) h'.1.2) (fun C s H fp=>(snd elt _ Ca G' el (bc g hs CB C s H fp) h'.2).1) JU (fun x=>bG h'.1.1.2.1 X.env x)
      refine p pins s' σ H Dn Iv ?_
      obtain⟨B,F,τ,f,m,q⟩:=h
      -- as one QI is kept
      have q0:Bp ex (Bn (Bn (Bt cl (.comp G' fr T src ifs elt) τ) fun d=>.ok (aA (.comp G' fr T src ifs elt) d τ)) fun p=>Bn (br (.nm i) p.1 p.2) fun τ'=>.ok (.nx τ')) (Fk X.K B Dn):=q
      have q1:=Bp.Bn (Bp.Bn q0)
      have fin:∀ (d:D) (v:V) (H':Hp) (F':Addr->Prop) (fv f':List Addr),Ow X.K F H f F' H' σ v (aA (.comp G' fr T src ifs elt) d τ).1 fv (aA (.comp G' fr T src ifs elt) d τ).2 f'->(∀ (p:D×Ev),p=aA (.comp G' fr T src ifs elt) d τ->Bp ex (Bn (br (.nm i) p.1 p.2) fun τ'=>.ok (.nx τ')) (Fk X.K B Dn))->Dn.nx (σ.set i (some v)) H':=by
       intro d v H' F' fv f' o hp
       obtain⟨m',Fg⟩:=m.ow o
       have:=m'.gT (t:=.nm i) (Q:=Dn.nx) o.rep o.B2 Fg (c6 _ _ ht) (Bp.Bn (hp _ rfl)) fun τ' Bz Hg GO h'=>h'.ok _ _ _ _ GO
       exact this
      cases z:Bt cl (.comp G' fr T src ifs elt) τ with
      | error er=>
       rw[z] at q1
       cases er with
       | stuck=>exact q1.no.elim
       | exc c=>
        refine bT (S:=fun _=>True) (τ:=τ) (ex:=ex) (Kt:=fun _=>False) hs.Kj ha (aJ m.Cq) ?_ fun A ys ds H' e hA He mm k=>k.elim
        show Bp ex (Bt cl (.comp G' fr T src ifs elt) τ) _
        rw[z]
        exact q1
      | ok d=>
       rw[z] at q1
       have q2:=q1.ok.ok
       obtain⟨o',ds,rfl⟩:∃ o ds,d=.lst o ds:=by
        have zz:=z
        rw[eI] at zz
        obtain⟨its,_,zz⟩:=bw zz
        obtain⟨_,zz⟩:=gk zz
        obtain⟨ds,_,zz⟩:=bw zz
        cases zz
        exact⟨true,ds,rfl⟩
       by_cases hi:ai ds=true
       ·have F4:aA (.comp G' fr T src ifs elt) (.lst o' ds) τ=(.lst true ds,τ):=by
         unfold aA
         rw[if_neg (show ¬ ao (.lst o' ds)=true by intro z;cases z)]
         show (if ai ds=true then _ else _)=_
         rw[if_pos hi]
        refine bT (S:=fun _=>True) (τ:=τ) (ex:=ex) (Kt:=fun d'=>∃ Ko,d'=.lst Ko ds) hs.Kj ha (aJ m.Cq) ?_ fun A ys ds' H' e hA He mm k=>?_
        ·show Bp ex (Bt cl (.comp G' fr T src ifs elt) τ) _
         rw[z]
         exact⟨o',rfl⟩
        ·obtain⟨Ko,k⟩:=k
         cases k
         obtain⟨k1,k2,k3⟩:=c9 m.BJ m.Cq e
         refine fin (.lst o' ds) (.ref A) H' F [A] f ?_ (fun p hp=>by subst hp;exact q2)
         rw[F4]
         refine⟨k3,k1,.CQ (fun zz=>m.BJ A zz hA) He (mm.free hi),k2,?_,fun a ha=>?_⟩
         ·rw[List.singleton_append,List.nodup_cons]
          refine⟨fun zz=>?_,m.B2⟩
          obtain⟨_,xs,e⟩:=m.Cq.own A zz
          rw[hA] at e;cases e
         ·rw[List.singleton_append] at ha
          rcases List.mem_cons.mp ha with rfl|ha
          ·exact .inr hA
          ·exact .inl ha
       ·have F4:aA (.comp G' fr T src ifs elt) (.lst o' ds) τ=(.lst true (BA ds),BI (vars (.comp G' fr T src ifs elt)) τ):=by
         unfold aA
         rw[if_neg (show ¬ ao (.lst o' ds)=true by intro z;cases z)]
         show (if ai ds=true then _ else _)=_
         rw[if_neg hi]
        obtain⟨F1,gg,b1,b2,b3,b4,b5,b6⟩:=cE (vars (.comp G' fr T src ifs elt)) m.BJ m.Cq m.B2
        refine bT (S:=F1) (τ:=τ) (ex:=ex) (Kt:=fun d'=>∃ Ko,d'=.lst Ko ds) hs.Kj ha b6 ?_ fun A ys ds' H' e hA He mm k=>?_
        ·show Bp ex (Bt cl (.comp G' fr T src ifs elt) τ) _
         rw[z]
         exact⟨o',rfl⟩
        ·obtain⟨Ko,k⟩:=k
         cases k
         obtain⟨c1,c2,c3⟩:=grow (fun a=>a≠A) b1 b2 e
         have m2:Bo X.K (fun a=>F1 a∨(a≠A/\H a=none/\H' a≠none)) H' ys ds:=mm.step (fun a xs h r=>⟨h.1.elim (fun z=>.inl z) fun z=>.inr ⟨h.2,z,r.some⟩,r⟩) fun a xs h=>h
         refine fin (.lst o' ds) (.ref A) H' (fun a=>F1 a∨(a≠A/\H a=none/\H' a≠none)) [A] gg ?_ (fun p hp=>by subst hp;exact q2)
         rw[F4]
         refine⟨b4.trans c3 (fun x hx=>.inl (b5 x hx)),c1,.CQ (fun zz=>?_) He m2.frozen,c2,?_,fun a ha=>?_⟩
         ·rcases zz with zz|zz
          ·exact b1 A zz hA
          ·exact zz.1 rfl
         ·rw[List.singleton_append,List.nodup_cons]
          refine⟨fun zz=>?_,b3⟩
          obtain⟨_,xs,e⟩:=b2.own A zz
          rw[hA] at e;cases e
         ·rw[List.singleton_append] at ha
          rcases List.mem_cons.mp ha with rfl|ha
          ·exact .inr hA
          ·exact .inl (b5 a ha)
     | _=>first|exact aa hv|cases hv
   | SetComp _ _ _ _=>cases e<;>first|exact aa hv|cases hv
   | DictComp _ _ _ _ _=>cases e<;>first|exact aa hv|cases hv
   | _=>exact plain rfl
 | Tuple ts k px=>
  have FK:notTuple v=true:=hc
  refine aM (u4 pe pg ?_ ?_ rfl) fun Dn σ H h=>su ht h
  ·cases v<;>rfl
  ·cases v<;>first|rfl|cases FK
 | _=>cases hc
end
theorem B5.My {K:PySem.W.Frag}{H:Hp}{a l:Addr}{xs:List V ⊕ Str}{ys zs:List (Key×V)}(hl:H l=some (.dK ys))(h:B5 K H a xs):B5 K (L2.upd H l (.dK zs)) a xs:=by
 cases xs with
 | inl xs=>
  rcases h with h|h
  ·have:a≠l:=by
    rintro rfl
    rcases h with h|⟨o,h⟩<;>(rw[hl] at h;cases h)
   refine .inl ?_
   unfold Rd
   rw[ag this]
   exact h
  ·exact .inr h
 | inr c=>
  obtain⟨C,o,vs,h0,h1,h2,h3⟩:=h
  have:a≠l:=by
   rintro rfl
   rw[hl] at h2;cases h2
  exact⟨C,o,vs,h0,h1,by rw[ag this];exact h2,h3⟩
theorem Br.QJ {K:PySem.W.Frag}{F:Addr->Prop}{H:Hp}{vs:List V}{ds:List D}{f:List Addr}(h:Br K F H vs ds f)(n:ai ds=true):f=[]:=by
 refine Br.rec (motive_1:=fun _ d f _=>ao d=true->f=[]) (motive_2:=fun _ d f _=>ai d=true->f=[]) (fun _=>rfl) (fun _ _=>rfl) (fun _ _=>rfl) (fun _ _=>rfl) (fun _ _=>rfl) (fun _ _ i z=>i z) (fun _ _ _ _ _=>rfl) (fun _ _ _ _=>rfl) (fun _ _ _ _ z=>aa z) (fun _ _ _ _ _ _=>rfl) (fun _ _ _ _ _ z=>aa z) (fun _=>rfl) (fun {v d f vs ds g} _ _ i j z=>?_) h n
 have z':=Bool.and_eq_true_iff.mp (show (ao d&&ai ds)=true from z)
 rw[i z'.1,j z'.2]
 rfl
theorem jV {K:PySem.W.Frag}{F:Addr->Prop}{H:Hp}{σ:St}{τ:Ev}{f:List Addr}{i:Nat}{ks:List Key}{ds:List D}(r:BK K F H σ τ f)(hs:ah τ i=some (.Bw true ks ds))(n:ai ds=true) :
  ∃ l kvs g,σ[i]? = some (some (.ref l))/\¬ F l/\H l=some (.dK kvs)/\kvs.map (·.1)=ks/\Br K F H (kvs.map (·.2)) ds []/\BK K F H σ (τ.set i none) g/\f.Perm (l::g):=by
 obtain⟨v,fs,g,h1,h2,h3,h4⟩:=r.at hs
 cases h2 with
 | @Fi a kvs _ _ fi hF hH hk hm=>
  have e:=hm.QJ n
  subst e
  exact⟨a,kvs,g,h1,hF,hH,hk,hm,h3,h4⟩
theorem B7.Ib {K:PySem.W.Frag}{io:Option Nat}{B:Bs io}{F:Addr->Prop}{H:Hp}{σ:St}{τ:Ev}{f g:List Addr}{i:Nat}{l:Addr}{kvs B3:List (Key×V)}{Ep:List Key}{ds':List D}(m:B7 K B F H σ τ f)(CW:σ[i]? = some (some (.ref l)))(hF:¬ F l)(hl:H l=some (.dK kvs))(hr:BK K F H σ (τ.set i none) g)(h4:f.Perm (l::g))
  (hk:B3.map (·.1)=Ep) (hm:Br K F H (B3.map (·.2)) ds' []):∃ f',B7 K B F (upd H l (.dK B3)) σ (τ.set i (some (.Bw true Ep ds'))) f':=by
 have Oe:(l::g).Nodup:=h4.nodup_iff.mp m.B2
 have lg:l∉g:=(List.nodup_cons.mp Oe).1
 have sl:∀ a (u:LD),F a->Rd H a u.o->F a/\Rd (upd H l (.dK B3)) a u.o:=fun a xs h r=>by
  refine⟨h,?_⟩
  have:a≠l:=fun z=>hF (by rw[<- z];exact h)
  unfold Rd
  rw[ag this]
  exact r
 have st:∀ a xs,B5 K H a xs->B5 K (upd H l (.dK B3)) a xs:=fun a xs h=>h.My hl
 have r1:BK K F (upd H l (.dK B3)) σ (τ.set i none) g:=hr.step sl st fun a ha n _=>⟨n,ag fun z=>lg (by rw[<- z];exact ha)⟩
 have m1:BC K F (upd H l (.dK B3)) (.ref l) (.Bw true Ep ds') [l]:=.Fi hF aq hk (hm.step sl st aY)
 obtain⟨g',h',r2,p2⟩:=r1.put i m1
 have HY:σ.set i (some (.ref l))=σ:=by
  apply List.ext_getElem?
  intro j
  rw[List.getElem?_set]
  by_cases hj:i=j
  ·subst hj
   rw[if_pos rfl,if_pos (List.getElem?_eq_some_iff.mp CW).1,CW]
  ·rw[if_neg hj]
 rw[HY,List.set_set] at r2
 have GK:(g'++h').Nodup:=p2.nodup_iff.mpr Oe
 have lB:B.H l=none:=m.own l (h4.mem_iff.mpr (by simp))
 refine⟨g',fun a h=>?_,r2,(List.nodup_append.mp GK).1,fun b o Ia=>?_,fun a ha=>m.own a (h4.mem_iff.mpr (p2.mem_iff.mp (List.mem_append_left _ ha))),m.C5,m.out,fun a xs h=>⟨(m.pin a xs h).1,(sl a xs (m.pin a xs h).1 (m.pin a xs h).2).2⟩,fun a xs h=>st a xs (m.GN a xs h),m.nm⟩
 ·have:a≠l:=fun z=>hF (by rw[<- z];exact h)
  rw[ag this]
  exact m.BJ a h
 ·have:b≠l:=fun z=>by rw[z,lB] at Ia;cases Ia
  rw[ag this]
  exact m.same _ _ Ia
section
variable {K:PySem.W.Frag}{S:Addr->Prop}{H:Hp}
theorem has_any (kvs:List (Key×V))(q:Key):(kvs.any fun kv=>decide (kv.1=q))=lu (kvs.map (·.1)) q:=by
 unfold lu
 rw[List.any_map]
 rfl
theorem yT (kvs:List (Key×V))(q:Key)(v:V):(putK kvs q v).map (·.1)=cS (kvs.map (·.1)) q:=by
 unfold putK cS
 rw[has_any]
 by_cases h:lu (kvs.map (·.1)) q=true
 ·rw[if_pos h,if_pos h,List.map_map]
  refine List.map_congr_left fun kv _=>?_
  show (if kv.1=q then (kv.1,v) else kv).1=kv.1
  split<;>rfl
 ·rw[if_neg h,if_neg h,List.map_append]
  rfl
theorem yU (q:Key){v:V}{d:D}(mv:Bq K S H v d){kvs:List (Key×V)}{ds:List D}(m:Bo K S H (kvs.map (·.2)) ds):Bo K S H ((putK kvs q v).map (·.2)) (cb (kvs.map (·.1)) ds q d):=by
 unfold putK cb
 rw[has_any]
 by_cases h:lu (kvs.map (·.1)) q=true
 ·rw[if_pos h,if_pos h,List.map_map]
  clear h
  induction kvs generalizing ds with
  | nil=>
   cases m
   exact .nil
  | cons p kvs ih=>
   rw[List.map_cons] at m
   cases ds with
   | nil=>exact absurd m.length (by simp)
   | cons e ds=>
    cases m with
    | cons m1 m2=>
     rw[List.map_cons,List.map_cons,List.zipWith_cons_cons]
     refine .cons ?_ (ih m2)
     show Bq K S H (if p.1=q then (p.1,v) else p).2 (if p.1=q then d else e)
     split
     ·exact mv
     ·exact m1
 ·rw[if_neg h,if_neg h,List.map_append]
  exact m.append (.cons mv .nil)
theorem wk {ks:List Key}{ds:List D}{q:Key}{d:D}(h1:ai ds=true)(h2:ao d=true):ai (cb ks ds q d)=true:=by
 unfold cb
 rw[bE] at h1
 rw[bE,List.all_eq_true]
 rw[List.all_eq_true] at h1
 intro x hx
 split at hx
 ·rw[List.mem_iff_getElem?] at hx
  obtain⟨i,hi⟩:=hx
  rw[List.getElem?_zipWith] at hi
  split at hi
  ·rename_i a b e1 e2
   cases hi
   split
   ·exact h2
   ·exact h1 _ (List.mem_of_getElem? e2)
  ·cases hi
 ·rcases List.mem_append.mp hx with hx|hx
  ·exact h1 x hx
  ·rw[List.mem_singleton.mp hx];exact h2
end
section
variable {Z:Sg}{CX:Cy}{cl:Nat->List D->Res D}{xp:XK->Hp->Str->Prop}{X:Cx}{ex:Str->Prop}{G:Gm}
theorem Dg (g:BN Z CX cl xp X ex G){i:Nat}{k e:IR}{x:Str}{p sp pos:Pos}{s v:Expr}(h1:cY G i x=true)(h2:ba s=true)(h3:Bx Z G k s=true)(h4:Bx Z G e v=true) :
  PS X (.Assign [.Subscript (.Name x p) s sp] v pos) (RS X.K G.io ex (Cz cl (.EH i k e))):=by
 have hu:=g.un
 refine aM (qH (by omega) (jU g h1) (snd k X ex G s g h3).1 (snd e X ex G v g h4).1 (by cases v<;>rfl)) fun Dn σ H h=>?_
 obtain⟨B,F,τ,f,m,q⟩:=h
 have q0:Bp ex (Bn (Bt cl e τ) fun d=>match ah τ i with|some (.Bw true ks ds)=>Bn (Bt cl k τ) fun y=>(match ck y with|some q=>Bv (ao d&&ai ds&&bF ks.length) (.ok (.nx (τ.set i (some (.Bw true (cS ks q) (cb ks ds q d))))))|none=>Bu)|_=>Bu) (Fk X.K B Dn):=q
 refine m.rd (Bp.Bn q0) fun d w H1 m1 e1 mw q1=>?_
 cases z0:ah τ i with
 | none=>rw[z0] at q1;exact q1.no.elim
 | some d0=>
  rw[z0] at q1
  cases d0 with
  | Bw ow ks ds=>
   cases ow with
   | false=>exact q1.no.elim
   | true=>
    obtain⟨v0,Mz,_⟩:∃ v0,σ[i]? = some (some v0)/\True:=by
     obtain⟨v0,_,_,h,_⟩:=m1.Cq.at z0
     exact⟨v0,h,trivial⟩
    refine⟨v0,Mz,m1.rd (Bp.Bn q1) fun y w2 H2 m2 e2 QK q2=>?_⟩
    cases hk:ck y with
    | none=>simp only[hk] at q2;exact q2.no.elim
    | some qk=>
     simp only[hk] at q2
     obtain⟨gd,q2⟩:=Bp.Bv q2
     rw[Bool.and_eq_true,Bool.and_eq_true] at gd
     obtain⟨l,kvs,g0,CW,hF,hl,MA,hm,hr,hp⟩:=jV m2.Cq z0 gd.1.2
     rw[Mz] at CW
     cases CW
     subst MA
     have QL:Bo X.K (fun _=>True) H2 (kvs.map (·.2)) ds:=hm.read (fun _ _=>trivial) fun _ _=>trivial
     have QM:Bq X.K (fun _=>True) H2 w d:=mw.mono (fun _ _=>trivial) e2
     have QN:Br X.K F H2 ((putK kvs qk w).map (·.2)) (cb (kvs.map (·.1)) ds qk d) []:=(yU qk QM QL).free (wk gd.1.2 gd.1.1)
     obtain⟨f',m3⟩:=m2.Ib Mz hF hl hr hp (yT kvs qk w) QN
     have hlen:kvs.length < sizeLine:=by
      have:=dM gd.2
      rwa [List.length_map] at this
     exact⟨l,_,rfl,.inl ⟨kvs,qk,hl,dO QK hk,hlen,rfl⟩,q2.ok _ _ _ _ m3⟩
  | _=>exact q1.no.elim
end
section
variable {K:PySem.W.Frag}{F:Addr->Prop}{H:Hp}
theorem BC.parts {v:V}{o:Bool}{es:List D}{fv:List Addr}(h:BC K F H v (.lst o es) fv):∃ b zs fe h',v=.ref b/\Ck K H b zs/\Br K F H zs es fe/\(fe++h').Perm fv:=by
 cases h with
 | EG h0 h1 h2=>exact⟨_,_,[],[],rfl,.inl h1,h2,.refl _⟩
 | lstK h1 h2=>exact⟨_,_,[],[],rfl,h1.sq,h2,.refl _⟩
 | @CQ a xs ds f h0 h1 h2=>exact⟨a,_,f,[a],rfl,.inl (.inl h1),h2,List.perm_append_comm (l₁:=f) (l₂:=[a])⟩
theorem Br.split (n:Nat){vs:List V}{ds:List D}{f:List Addr}(h:Br K F H vs ds f):∃ f1 f2,Br K F H (vs.take n) (ds.take n) f1/\Br K F H (vs.drop n) (ds.drop n) f2/\f1++f2=f:=by
 revert n
 refine Br.ind (P:=fun vs ds f=>∀ n,∃ f1 f2,Br K F H (vs.take n) (ds.take n) f1/\Br K F H (vs.drop n) (ds.drop n) f2/\f1++f2=f) (fun n=>⟨[],[],by rw[List.take_nil,List.take_nil];exact .nil,by rw[List.drop_nil,List.drop_nil];exact .nil,rfl⟩) (fun v d f vs ds g a b j n=>?_) h
 cases n with
 | zero=>exact⟨[],f++g,.nil,.cons a b,rfl⟩
 | succ n=>
  obtain⟨f1,f2,h1,h2,h3⟩:=j n
  exact⟨f++f1,f2,.cons a h1,h2,by rw[List.append_assoc,h3]⟩
end
section
variable {Z:Sg}{CX:Cy}{cl:Nat->List D->Res D}{xp:XK->Hp->Str->Prop}{X:Cx}{ex:Str->Prop}{G:Gm}
theorem nu {K:PySem.W.Frag}{F:Addr->Prop}{H:Hp}{σ:St}{τ:Ev}{f:List Addr}{i:Nat}{ds:List D}(r:BK K F H σ τ f)(hs:ah τ i=some (.lst true ds)):∃ l xs,σ[i]? = some (some (.ref l))/\H l=some (.lst xs)/\xs.length=ds.length:=by
 obtain⟨v,fs,g,h1,h2,h3,h4⟩:=r.at hs
 cases h2 with
 | CQ hF hH hm=>exact⟨_,_,h1,hH,hm.length⟩
theorem DS (g:BN Z CX cl xp X ex G){i:Nat}{k e:IR}{x:Str}{p apos BF pos:Pos}{s v:Expr}(h1:cY G i x=true)(h2:(apos.endLine == BF.line)=true)(h3:notStar s=true)(Ke:notStar v=true)(h4:Bx Z G k s=true)(h5:Bx Z G e v=true) :
  PS X (.Expr (.Call (.Attribute (.Name x p) "insert" apos) [s,v] [] BF) pos) (RS X.K G.io ex (Cz cl (.ins i k e))):=by
 have pa:PA X [s,v] (cu (RD X.K ex (vars k) (Bt cl k)) (cu (RO X.K ex (B6 cl false e)) i3)):=ay (snd k X ex G s g h4).1 (ay (Hf e false X ex G v g h5) aX (af Ke _ _)) (af h3 _ _)
 have DL:((backTo BF (starEach [s,v] X.env)).all (fun x=>!x.1)&&(backToKw BF (keywordEach [] X.env)).all (fun x=>x.1.isSome)&&decide ([s,v].length+([]:List Keyword).length+(if ([]:List Keyword).isEmpty then 0 else 1) < 30))=true:=by
  rw[af h3,af Ke]
  rfl
 refine aM (fX (gV PySem.F.plainAttrs_list PySem.F.slot_list_insert PySem.F.type_list_insert vE (jU g h1) pa rfl DL h2 (af h3 _ _) (by rw[af Ke];rfl))) fun Dn σ H h=>?_
 obtain⟨B,F,τ,f,m,q⟩:=h
 have q0:Bp ex (match ah τ i with|some (.lst _ _)=>(Bn (Bt cl k τ) fun y=>Bn (B6 cl false e τ) fun p=>(match y,ah p.2 i with|.int z,some (.lst true ds)=>Bv (decide (0<=z/\z.toNat<=ds.length)&&bF ds.length) (.ok (.nx (p.2.set i (some (.lst true (ds.take z.toNat++p.1::ds.drop z.toNat))))))|_,_=>Bu))|_=>Bu) (Fk X.K B Dn):=q
 cases z0:ah τ i with
 | none=>rw[z0] at q0;exact q0.no.elim
 | some d0=>
  rw[z0] at q0
  cases d0 with
  | lst o0 Oc=>
   obtain⟨v0,QO,g0,a1,a2,a3,a4⟩:=m.Cq.at z0
   obtain⟨l,MB,_,_,rfl,hq,_⟩:=a2.parts
   refine⟨.ref l,a1,.inl ⟨rfl,MB,hq⟩,m.rd (Bp.Bn q0) fun y w H1 m1 e1 mw q1=>?_⟩
   refine m1.ro (Bp.Bn q1) fun p v H' F' fv f' o hp=>?_
   obtain⟨m',hb⟩:=m1.ow o
   cases y with
   | int z=>
    cases mw.BH
    cases zs:ah p.2 i with
    | none=>simp only[zs] at hp;exact hp.no.elim
    | some d=>
     simp only[zs] at hp
     cases d with
     | lst ow ds=>
      cases ow with
      | false=>exact hp.no.elim
      | true=>
       obtain⟨gd,hp⟩:=Bp.Bv hp
       rw[Bool.and_eq_true] at gd
       have gz:0<=z/\z.toNat<=ds.length:=of_decide_eq_true gd.1
       obtain⟨l',xs,CW,hl,hlen⟩:=nu m'.Cq zs
       rw[a1] at CW
       cases CW
       obtain⟨Hg,m3⟩:=m'.write (ys:=xs.take z.toNat++v::xs.drop z.toNat) (ds':=ds.take z.toNat++p.1::ds.drop z.toNat) zs a1 hl o.rep o.B2 hb fun fi hm=>by
        obtain⟨f1,f2,s1,s2,s3⟩:=hm.split z.toNat
        refine⟨f1++(fv++f2),[],s1.append (.cons o.rep s2),?_⟩
        rw[List.append_nil,<- s3,<- List.append_assoc,<- List.append_assoc]
        exact List.Perm.append_right _ List.perm_append_comm
       exact⟨l,xs,z,v,rfl,rfl,hl,gz.1,by rw[hlen];exact gz.2,by rw[hlen];exact dM gd.2,hp.ok _ _ _ _ m3⟩
     | _=>exact hp.no.elim
   | _=>exact hp.no.elim
  | _=>exact q0.no.elim
end
theorem jW {K:PySem.W.Frag}{h:Heap}{C:Addr}{Of:List Value}{newId:String}(X:K.In h)(q:PySem.W.excIn K C Of newId=true):∃ bm N nm qn bs hdct sn sub ab col dd k0 k1 k2 k3 k5 mN,
  h.get? C=some (excClassObj nm qn C N bs bm hdct sn sub ab col dd k0 k1 k2 k3 k5 newId)/\h.Ns N mN/\mN "__init__" = none/\OwnTail h Of bm:=by
 unfold PySem.W.excIn at q;split at q
 ·rename_i dd cd sl ho;split at q
  ·rename_i C' bm k0 k1 k2 k3 n k5 hm hs;simp only[Bool.and_eq_true,beq_iff_eq,Bool.not_eq_true'] at q
   obtain⟨⟨⟨⟨⟨rfl,rfl⟩,Kp⟩,ht⟩,BD⟩,Og⟩:=q;obtain⟨nm,bs,mro,ns,qn,hd,sn,sub,ab,col,del⟩:=cd
   dsimp only at hm Kp BD Og;subst hm Kp
   obtain⟨l⟩:=sl
   have hs:l=[k0,k1,k2,k3,some (.builtin n),k5]:=hs
   subst hs
   exact⟨bm,ns,nm,qn,bs,hd,sn,sub,ab,col,dd,k0,k1,k2,k3,k5,_,X _ _ ho,.of_isNs (PySem.W.isNs_of_in X BD),PySem.W.nsMap_none_of_in X BD Og,PySem.W.tail_of_in X ht⟩
  ·cases q
 ·cases q
section
variable {Z:Sg}{CX:Cy}{cl:Nat->List D->Res D}{xp:XK->Hp->Str->Prop}{X:Cx}{ex:Str->Prop}{G:Gm}
theorem nv (g:BN Z CX cl xp X ex G){n:Nat}{c w w':Str}{np BF pos p1:Pos}{j:Nat}(Kr:G.rs=true)(DC:G.cm=true)(hx:aT Z G n c=true)(hc:(n,c)∈Z.rc) :
  PS X (.Raise (some (.Call (.Name c np) [.Constant (.str w) j p1] [] BF)) none pos) (RS X.K G.io ex (Cz cl (.CS n c w'))):=by
 obtain⟨k1,k2,k3,k4⟩:=cf g hx
 obtain⟨_,C,hm,hn,hq⟩:=g.E6 n c hc
 intro pins s σ H Dn I ⟨B,F,τ,f,m,q⟩
 have q:ex c:=q
 obtain⟨bm,N,nm,qn,bs,hdct,sn,sub,ab,col,dd,k0,MC,MD,ME,k5,mN,e1,e2,e3,e4⟩:=jW I.ok.mod.Ht hq
 refine wpAny_Raise_call_subT (C:=C) (nm:=nm) (q:=qn) (N:=N) (bs:=bs) (bm:=bm) (hdct:=hdct) (sn:=sn) (sub:=sub) (ab:=ab) (col:=col) (dd:=dd) (k0:=k0) (k1:=MC) (k2:=MD) (k3:=ME) (k5:=k5)
  PySem.F.excBase_ValueError (mN:=mN) (e4.hasType PySem.F.excBase_ValueError.hasBase) (I.ok.hd (g.calm DC)) rfl e3 (bU I k1 hm ⟨rfl,?_⟩ k4)
 have pa:PA X [.Constant (.str w) j p1] (cu (tC (.str w)) i3):=ay dR aX rfl
 refine Calls.evalArgs_plain (wpAny_mono (pa BF pins s σ H (fun vs H'=>vs=[.str w]) I rfl) (fun us s2 ⟨vs,H1,I1,r,hv⟩=>⟨rfl,?_,I1.bk _ _ e1,e2.keeps I1.bk,e4.keeps I1.bk,fun h' e hx=>g.Jf Kr pins σ H1 s2 c C h' e us I1 q hn hx⟩) fun _ _ y=>y)
 subst hv
 rw[<- r.length]
 exact(by decide:1<=sizeLine)
end
section
variable {X:Cx}{pins:List (Addr×Obj)}{σ:St}{H:Hp}{s:Shared}
theorem wm {M:Model}{A:Around}{E:Value->Shared->Prop}{i:Nat}{x:Str}{v:V}{Q:Unit->Shared->Prop}(I:Inv X pins σ H s)(hN:X.N.Nodup)(hi:X.N[i]? = some x)(hk:X.env.kindOf x=some .local)(CW:σ[i]? = some (some v))
  (h:∀ s',Inv X pins (σ.set i none) H s'->Q () s'):wpAny M A (unbindName X.env x) Q E s:=by
 obtain⟨m,hn,hl⟩:=id I.loc
 have Ew:(X.env.scope.kind == .class||(X.env.scope.kind == .module&&X.env.locals != X.env.globals))=false:=by rw[I.ok.kind];rfl
 have FJ:=I.FJ
 obtain⟨u,_,q⟩:=hl i x v hi CW (.inl hk)
 have hv:m x=some u:=by
  rcases q with ⟨_,e⟩|⟨k,_⟩
  ·exact e
  ·rw[hk] at k;rcases k with k|k<;>cases k
 refine wpAny_unbindName_local hk hn hv Ew fun h' w DA hs=>?_
 obtain⟨oL,_,_,Nt,_⟩:=id hn
 refine h _ ⟨I.ok,I.os,I.bare,⟨fun b o e n hb hx=>?_,fun b o e n hb hx=>?_,I.base.free,fun b o e hx=>?_,I.base.Cn,I.base.B8,I.base.Di⟩,⟨_,DA,fun j y v' e1 e2 e3=>?_⟩,fun y c e=>?_,I.free,I.BY,fun p hp=>?_,fun b ob e=>?_,by simpa using I.len⟩
 ·exact(hs.2 b (Nat.ne_of_lt (Nat.lt_of_lt_of_le (Heap.lt_size e) I.ok.above))).trans (I.base.keep b o e n hb hx)
 ·obtain⟨sl,e1⟩:=I.base.slot b o e n hb hx
  exact⟨sl,(hs.2 b (Nat.ne_of_lt (Nat.lt_of_lt_of_le (Heap.lt_size e) I.ok.above))).trans e1⟩
 ·obtain⟨o',e1⟩:=I.base.there b o e hx
  exact⟨o',(hs.2 b (Nat.ne_of_lt (Nat.lt_of_lt_of_le (Heap.lt_size e) I.ok.above))).trans e1⟩
 ·have hj:j≠i:=by
   rintro rfl
   have Cu:j < σ.length:=(List.getElem?_eq_some_iff.mp CW).1
   rw[List.getElem?_set_self Cu] at e2
   cases e2
  rw[List.getElem?_set_ne (Ne.symm hj)] at e2
  obtain⟨u',r',q⟩:=hl j y v' e1 e2 e3
  refine⟨u',r',?_⟩
  rcases q with ⟨k,e⟩|⟨k,c,e,z⟩
  ·refine .inl ⟨k,?_⟩
   have:y≠x:=fun e=>hj (dQ hN e1 (e ▸ hi))
   simp[this,e]
  ·exact .inr ⟨k,c,e,z.sameBut hs (FJ y c e)⟩
 ·obtain⟨w',z⟩:=I.cell y c e
  exact⟨w',z.sameBut hs (FJ y c e)⟩
 ·obtain⟨e,n,ne,nf,d⟩:=I.pin p hp
  exact⟨(hs.2 p.1 ne).trans e,n,ne,nf,d⟩
 ·refine(I.BD b ob e).CH (fun c w' hc q=>(hs.2 c ?_).trans q) (fun _ q=>q) fun _ _ q=>q
  rintro rfl
  rcases hc with rfl|hc
  ·rw[I.free] at e;cases e
  ·rw[I.free] at hc;cases hc
theorem wo {M:Model}{A:Around}{E:Value->Shared->Prop}{i:Nat}{x:Str}{pos:Pos}{Q:Unit->Shared->Prop}(I:Inv X pins σ H s)(hN:X.N.Nodup)(hi:X.N[i]? = some x)(hk:X.env.kindOf x=some .local)
  (h:∀ s',Inv X pins (σ.set i none) H s'->Q () s'):wpAny M A (do bindName X.env x .none;unbindBehindTheSuite X.env x pos) Q E s:=by
 have Gk:i < σ.length:=by rw[I.len];exact(List.getElem?_eq_some_iff.mp hi).1
 unfold bindName unbindBehindTheSuite
 refine wpAny_bind (wpAny_bind (wpAny_holding (wpAny_point (wpAny_bind (cP (v:=.By) I hN hi (.inl hk) rfl (fun s1 I1=>wpAny_point (wpAny_onRaise (wm I1 hN hi hk (v:=.By) (by rw[List.getElem?_set_self Gk]) fun s2 I2=>?_))) (.inr hk))))))
 rw[List.set_set] at I2
 exact h s2 I2
theorem Inv.Ks {a:Addr}{o:Obj}{u:HO}(I:Inv X pins σ H s)(ha:s.heap.get? a=some o)(n:H a=none)(hu:aF X.prog X.w (upd H a (.BI o u)) s.heap a u)(n0:∀ ob,X.BS.heap.get? a=some ob->X.Cr a=none->a∉X.ex->False)
  (MF:X.Cr a=none) (nl:a≠X.env.locals) (nc:∀ x c,X.env.cells.lookup x=some c->c≠a) (np:∀ p∈X.pn++pins,p.1≠a):Inv X pins σ (upd H a (.BI o u)) s:=by
 refine⟨I.ok,I.os,I.bare,⟨I.base.keep,I.base.slot,fun b ob e z hx=>?_,I.base.there,fun b xs e=>?_,fun b ob v e=>?_,fun b ps e=>?_⟩,I.loc,I.cell,?_,fun x c e=>?_,fun p hp=>?_,fun b ob e=>?_,I.len⟩
 ·have:b≠a:=by rintro rfl;exact n0 ob e z hx
  rw[ag this]
  exact I.base.free b ob e z hx
 ·have:b≠a:=by rintro rfl;rw[MF] at e;cases e
  rw[ag this];exact I.base.Cn b xs e
 ·have:b≠a:=by rintro rfl;rw[MF] at e;cases e
  rw[ag this];exact I.base.B8 b ob v e
 ·have:b≠a:=by rintro rfl;rw[MF] at e;cases e
  obtain⟨more,z⟩:=I.base.Di b ps e
  exact⟨more,by rw[ag this];exact z⟩
 ·rw[ag (Ne.symm nl)];exact I.free
 ·rw[ag (nc x c e)];exact I.BY x c e
 ·obtain⟨e,z,r⟩:=I.pin p hp
  exact⟨e,by rw[ag (np p hp)];exact z,r⟩
 ·by_cases hb:b=a
  ·subst hb
   rw[aq] at e
   cases e
   exact⟨ha,hu⟩
  ·rw[ag hb] at e
   exact(I.BD b ob e).CH (fun _ _ _ z=>z) (fun c z=>by rw[ag (aw z n)];exact z) fun c xs z=>by rw[ag (aw z n)];exact z
theorem jX {H1 H':Hp}{s1 s':Shared}{B:Heap}{a:Addr}{cls a0:Value}{h5:Heap}(I:Inv X pins σ H1 s1)(os:s'.os=s1.os)(bare:AllBare s'.gens)(un:Un (Cg X.stack) [] H1 H' s1.heap s'.heap)(hB:BX X.prog X.w H' B)(sm:aj H1 H')
  (kB:∀ b o,s1.heap.get? b=some o->H1 b=none->b∉Cg X.stack->B.get? b=some o) (fl:Heap.FlyingW B X.stack a cls a0 h5) (up:s'.heap.UpToSlots h5):Inv X pins σ H' {s' with heap:=h5}:=by
 refine I.FL (s':={s' with heap:=h5}) os ⟨fun b o e n nf _=>fl.1 _ _ (kB b o e n nf),fun b o e n hf _=>?_,un.free,fun b o e _=>?_,fun b xs e=>sm _ _ e,fun b o u e=>sm _ _ e,fun b ps e=>⟨#[],by rw[sm _ _ e];simp⟩⟩ (hB.kept fl.1) bare (fun b z=>absurd z (by simp))
 ·obtain⟨sl,h1⟩:=un.slot b o e n hf (by simp)
  obtain⟨_,o',CD,nf⟩:=I.stack.mem hf
  rw[e] at CD
  cases CD
  obtain⟨GU,h2⟩:=up b _ h1 nf
  exact⟨GU,h2⟩
 ·cases q:H1 b with
  | none=>
   by_cases hf:b∈Cg X.stack
   ·obtain⟨sl,h1⟩:=un.slot b o e q hf (by simp)
    obtain⟨_,o',CD,nf⟩:=I.stack.mem hf
    rw[e] at CD
    cases CD
    obtain⟨GU,h2⟩:=up b _ h1 nf
    exact⟨_,h2⟩
   ·exact⟨_,fl.1 _ _ (kB b o e q hf)⟩
  | some u=>
   obtain⟨ob,ho⟩:=(hB b u (sm _ _ q)).at
   exact⟨_,fl.1 _ _ ho⟩
end
theorem BK.drop {K:PySem.W.Frag}{F:Addr->Prop}{H:Hp}{o:Option V}:∀ {σ:St}{τ:Ev}{f:List Addr} (i:Nat),BK K F H σ τ f->f.Nodup->∃ g,BK K F H (σ.set i o) (τ.set i Option.none) g/\g.Nodup/\∀ a∈g,a∈f
 | _,_,_,i,.nil,nd=>⟨[],.nil,nd,fun _ h=>h⟩
 | _,_,_,0,.none h,nd=>⟨_,.none h,nd,fun _ h=>h⟩
 | _,_,_,0,.some m h,nd=>⟨_,.none h,(List.nodup_append.mp nd).2.1,fun _ h=>List.mem_append_right _ h⟩
 | _,_,_,i+1,.none h,nd=>by
  obtain⟨g,h1,h2,h3⟩:=BK.drop (o:=o) i h nd
  exact⟨g,.none h1,h2,h3⟩
 | _,_,_,i+1,.some (f:=f0) m h,nd=>by
  obtain⟨QP,GK,QQ⟩:=List.nodup_append.mp nd
  obtain⟨g,h1,h2,h3⟩:=BK.drop (o:=o) i h GK
  exact⟨f0++g,.some m h1,List.nodup_append.mpr ⟨QP,h2,fun a ha b hb=>QQ a ha b (h3 b hb)⟩,fun a ha=>(List.mem_append.mp ha).elim (List.mem_append_left _) fun z=>List.mem_append_right _ (h3 a z)⟩
theorem eJ {K:PySem.W.Frag}{F:Addr->Prop}{H:Hp}:∀ {σ:St}{n:Nat},σ.length=n->BK K F H σ (List.replicate n none) []
 | [],0,_=>.nil
 | _::σ,n+1,h=>.none (eJ (by simpa using h))
noncomputable def cN (X:Cx)(a:Addr):Cx:={X with A:=X.A.mark (some (.ref a)),calm:=false,xe:=fun _ _=>False}
section
variable {X:Cx}{pins CY:List (Addr×Obj)}{σ:St}{H:Hp}{s:Shared}{E:Value->Shared->Prop}{a:Addr}
theorem fF (I:Inv X pins σ H s):Inv (cN X a) pins σ H s:=
 ⟨⟨I.ok.mod,I.ok.kind,I.ok.glob,I.ok.blt,I.ok.above,I.ok.inj,I.ok.has,I.ok.Gj,(fun z=>nomatch z),I.ok.frames,I.ok.Bu,I.ok.GS,I.ok.bs,I.ok.Et,I.ok.DF,I.ok.DG,I.ok.B9,I.ok.DH⟩,I.os,I.bare,I.base,I.loc,I.cell,I.free,I.BY,I.pin,I.BD,I.len⟩
theorem iA (ok:X.Ok)(I:Inv (cN X a) pins σ H s):Inv X pins σ H s:=
 ⟨ok,I.os,I.bare,I.base,I.loc,I.cell,I.free,I.BY,I.pin,I.BD,I.len⟩
end
section
variable {Z:Sg}{CX:Cy}{cl:Nat->List D->Res D}{xp:XK->Hp->Str->Prop}{X:Cx}{ex:Str->Prop}{G:Gm}{pins:List (Addr×Obj)}{a:Addr}
theorem jY (g:BN Z CX cl xp X ex G):BN Z CX cl xp X.Ca Ca {G with rs:=false,tr:=false} where
 N:=g.N
 B2:=g.B2
 calm:=g.calm
 fk:=g.fk
 un:=g.un
 own:=fun z=>by cases z
 kd:=g.kd
 Er:=g.Er
 gl:=g.gl
 E5:=g.E5
 df:=g.df
 blt:=g.blt
 cst:=g.cst
 fns:=g.fns
 Dq:=g.Dq
 Fm:=g.Fm
 EJ:=g.EJ
 Fo:=g.Fo
 E6:=g.E6
 Jf:=fun z=>by cases z
 tr:=fun z=>by cases z
 Jg:=⟨fun _ _ _=>False,fun pins σ H s e s' _ h=>(g.FA _ _ _ _ _ h).elim,fun c _ z=>z.elim⟩
 Fe:=g.Fe
 FA:=g.FA
theorem lP (g:BN Z CX cl xp X ex G)(En:∀ f∈Z.fns,f∈Z.pl->∀ x,Z.name f=some x->Gf X.prog X.w X.K X.mg X.base CX (X.A.mark (some (.ref a))) cl xp f x):BN Z CX cl xp (cN X a) Ca {G with cm:=false,rs:=false,tr:=false} where
 N:=g.N
 B2:=g.B2
 calm:=fun z=>by cases z
 fk:=g.fk
 un:=g.un
 own:=fun z=>by cases z
 kd:=g.kd
 Er:=g.Er
 gl:=g.gl
 E5:=g.E5
 df:=g.df
 blt:=g.blt
 cst:=g.cst
 fns:=fun f hf h x hx=>En f hf (h.elim (fun z=>by cases z) id) x hx
 Dq:=fun f hf h=>by cases h
 Fm:=g.Fm
 EJ:=g.EJ
 Fo:=g.Fo
 E6:=g.E6
 Jf:=fun z=>by cases z
 tr:=fun z=>by cases z
 Jg:=⟨fun _ _ _=>False,fun pins σ H s e s' _ h=>(g.FA _ _ _ _ _ h).elim,fun c _ z=>z.elim⟩
 Fe:=g.Fe
 FA:=g.FA
theorem lQ (g:BN Z CX cl xp X ex G){n:Nat}{c:Str}{e:IR}{a:Expr}{np BF pos:Pos}(Kr:G.rs=true)(DC:G.cm=true)(hx:aT Z G n c=true)(hc:(n,c)∈Z.rc)(BU:aO Z {G with rs:=false,tr:=false} [e] [a]=true) :
  PS X (.Raise (some (.Call (.Name c np) [a] [] BF)) none pos) (RS X.K G.io ex (Cz cl (.CT n c e))):=by
 obtain⟨k1,k2,k3,k4⟩:=cf g hx
 obtain⟨_,C,hm,hn,hq⟩:=g.E6 n c hc
 intro pins s σ H Dn I ⟨B,F,τ,f,m,q⟩
 have q:Bp ex (Bn (Dc (Bt cl e τ)) fun _=>.error (.exc c)) (Fk X.K B Dn):=q
 have pa:=iz [e] X.Ca Ca _ [a] (jY g) BU
 cases z:Bt cl e τ with
 | error er=>rw[z] at q;exact q.no.elim
 | ok d=>
  rw[z] at q
  have q:ex c:=q
  obtain⟨bm,N,nm,qn,bs,hdct,sn,sub,ab,col,dd,k0,MC,MD,ME,k5,mN,e1,e2,e3,e4⟩:=jW I.ok.mod.Ht hq
  refine wpAny_Raise_call_subT (C:=C) (nm:=nm) (q:=qn) (N:=N) (bs:=bs) (bm:=bm) (hdct:=hdct) (sn:=sn) (sub:=sub) (ab:=ab) (col:=col) (dd:=dd) (k0:=k0) (k1:=MC) (k2:=MD) (k3:=ME) (k5:=k5)
   PySem.F.excBase_ValueError (mN:=mN) (e4.hasType PySem.F.excBase_ValueError.hasBase) (I.ok.hd (g.calm DC)) (bj Z _ BF X.env BU) e3 (bU I k1 hm ⟨rfl,?_⟩ k4)
  have QR:RA X.K Ca (av [e]) (aI cl [e]) σ H (fun vs _=>vs.length=1):=by
   refine⟨fun _=>True,τ,aJ m.Cq,?_⟩
   show Bp Ca (Bn (Bt cl e τ) fun d=>Bn (aI cl [] τ) fun ds=>.ok (d::ds)) _
   rw[z]
   intro vs H' _ r
   exact r.length
  have BW:(notStar a&&Bx Z {G with rs:=false,tr:=false} e a&&aO Z {G with rs:=false,tr:=false} [] [])=true:=BU
  simp only[Bool.and_eq_true] at BW
  have e0:=af BW.1.1 [] X.env
  have Oh:=pa BF pins s σ H _ (I.Dj _) QR
  rw[show starEach [a] X.Ca.env=(false,eval a X.env)::starEach [] X.env from e0] at Oh
  rw[e0]
  refine Calls.evalArgs_plain (wpAny_mono Oh (fun us s2 ⟨vs,H1,I1,r,hv⟩=>⟨rfl,?_,I1.B1.bk _ _ e1,e2.keeps I1.B1.bk,e4.keeps I1.B1.bk,fun h' e hx=>g.Jf Kr pins σ H1 s2 c C h' e us I1.B1 q hn hx⟩) fun _ _ y=>y.elim)
  rw[<- r.length,hv]
  exact(by decide:1<=sizeLine)
end
theorem bf {a b:Addr}{H:Hp}(h:b≠a):rm a H b=H b:=if_neg h
theorem bO {a:Addr}{H:Hp}:rm a H a=none:=if_pos rfl
theorem jZ {a b:Addr}{H:Hp}{u:HO}(h:rm a H b=some u):H b=some u/\b≠a:=by
 by_cases e:b=a
 ·rw[e,bO] at h;cases h
 ·rw[bf e] at h;exact⟨h,e⟩
theorem yV {a:Addr}{H:Hp}:aj (rm a H) H:=fun b u h=>(jZ h).1
section
variable {P:Program}{w:World}{H H':Hp}{h g:Heap}{a:Addr}{kvs:List (Key×V)}
theorem sv (x:BX P w H h)(e:H a=some (.dK kvs)):BX P w (rm a H) h:=fun b o q=>by
 obtain⟨q1,q2⟩:=jZ q
 refine(x b o q1).CH (fun _ _ _ z=>z) (fun c z=>?_) fun c xs z=>?_
 ·rw[bf (by rintro rfl;rw[e] at z;cases z)];exact z
 ·rw[bf (by rintro rfl;rw[e] at z;cases z)];exact z
theorem sx (x:BX P w H h)(n:H a=none)(y:aF P w H' h a (.dK kvs)):BX P w (upd H a (.dK kvs)) h:=fun b o q=>by
 by_cases hb:b=a
 ·subst hb
  rw[aq] at q
  cases q
  exact cW rfl y
 ·rw[ag hb] at q
  exact(x b o q).CH (fun _ _ _ z=>z) (fun c z=>by rw[ag (aw z n)];exact z) fun c xs z=>by rw[ag (aw z n)];exact z
theorem sy (n:H a=none):rm a (upd H a (.dK kvs))=H:=by
 funext b
 by_cases hb:b=a
 ·rw[hb,bO,n]
 ·rw[bf hb,ag hb]
end
section
variable {K:PySem.W.Frag}{F F':Addr->Prop}{H H':Hp}{a:Addr}{kvs:List (Key×V)}
theorem ny (e:H a=some (.dK kvs)){b:Addr}{xs:List V ⊕ Str}(h:B5 K H b xs):B5 K (rm a H) b xs:=by
 cases xs with
 | inl xs=>
  rcases h with h|h
  ·have:b≠a:=by
    rintro rfl
    rcases h with h|⟨o,h⟩<;>(rw[e] at h;cases h)
   refine .inl ?_
   unfold Rd
   rw[bf this]
   exact h
  ·exact .inr h
 | inr c=>
  obtain⟨C,o,vs,h0,h1,h2,h3⟩:=h
  have:b≠a:=by
   rintro rfl
   rw[e] at h2;cases h2
  exact⟨C,o,vs,h0,h1,by rw[bf this];exact h2,h3⟩
theorem sA {b:Addr}{u:HO}(n:b≠a)(h:Rd H b u):Rd (rm a H) b u:=by
 unfold Rd
 rw[bf n]
 exact h
theorem wq {v:V}{d:D}{fv:List Addr}(o:Out K F H F' H' v d fv)(hs:aj H (rm a H'))(nF:¬ F' a)(nf:a∉fv)(e:H' a=some (.dK kvs)):Out K F H F' (rm a H') v d fv:=by
 have ne:∀ b,F' b->b≠a:=fun b hb z=>nF (z ▸ hb)
 refine⟨fun b hb=>by rw[bf (ne b hb)];exact o.BJ b hb,hs,o.rep.step (fun b u hb r=>⟨hb,sA (ne b hb) r⟩) (fun b xs r=>ny e r) fun b hb n1 n2=>⟨n1,bf fun z=>nf (z ▸ hb)⟩,o.B2,o.new,o.C5,o.out⟩
theorem wt {v:V}{d:D}{fv:List Addr}(o:Out K F H F' H' v d fv)(n:H' a=none):Out K F H F' (upd H' a (.dK kvs)) v d fv:=by
 have e:aj H' (upd H' a (.dK kvs)):=.upd n
 refine⟨fun b hb z=>o.BJ b hb (e.free z),o.same.trans e,o.rep.step (fun b u hb r=>⟨hb,e.rd r⟩) (fun b xs r=>e.C0 r) fun b hb n1 n2=>⟨n1,ag fun z=>n2 (z ▸ n)⟩,o.B2,o.new,o.C5,o.out⟩
end
theorem rB {d:D}(h:mK d=true):ao d=true:=by cases d<;>first|rfl|cases h
theorem iB:∀ {ds:List D},bL ds=true->ai ds=true
 | [],_=>rfl
 | d::ds,h=>by
  have h':(mK d&&bL ds)=true:=h
  rw[Bool.and_eq_true] at h'
  show (ao d&&ai ds)=true
  rw[rB h'.1,iB h'.2]
  rfl
theorem Bq.sc {K:PySem.W.Frag}{S S':Addr->Prop}{H H':Hp}{v:V}{d:D}(h:Bq K S H v d)(s:mK d=true):Bq K S' H' v d:=by
 cases h with
 | By=>exact .By
 | bl b=>exact .bl b
 | int i=>exact .int i
 | str x=>exact .str x
 | _=>cases s
theorem Bo.sc {K:PySem.W.Frag}{S S':Addr->Prop}{H H':Hp}{vs:List V}{ds:List D}(h:Bo K S H vs ds)(s:bL ds=true):Bo K S' H' vs ds:=by
 revert s
 refine Bo.ind (P:=fun vs ds=>bL ds=true->Bo K S' H' vs ds) (fun _=>.nil) (fun v d vs ds a b j s=>?_) h
 have h':(mK d&&bL ds)=true:=s
 rw[Bool.and_eq_true] at h'
 exact .cons (a.sc h'.1) (j h'.2)
section
variable {Z:Sg}{CX:Cy}{cl:Nat->List D->Res D}{xp:XK->Hp->Str->Prop}{X:Cx}{ex:Str->Prop}{G:Gm}
def Oi (K:PySem.W.Frag)(cl:Nat->List D->Res D)(f:Nat)(vs:List V)(H:Hp)(Q:VK):Prop:=∃ a F ws ds kvs es,vs=ws++[.ref a]/\J9 K a F H ws ds kvs es/\
 ∃ d Ep Dt,cl f (BA ds++[.Bw false (kvs.map (·.1)) es])=.ok (.tup [d,.Bw false Ep Dt])/\ai Dt=true/\∀ v H' F' fv B3,HM K a F H F' H' v d fv B3 Ep Dt->Q v H'
theorem nA (g:BN Z CX cl xp X ex G){k:Nat}{f:Nat}{fa:Addr}{fd:FuncData}{ps:List Str}{pins:List (Addr×Obj)}{σ:St}{H:Hp}{s:Shared}{Q:VK}{us:List Value}{vs:List V}
  (F:CJ X.prog X.w X.K X.mg X.base CX k fa fd ps (J' X.K cl f ps)) (hr:Cs k X.A) (hb:Binds X.K fd ps []) (hlen:∀ ds r,cl f ds=.ok r->ds.length=ps.length)
  (I:Inv X pins σ H s) (r:Vals vs us) (q:Oi X.K cl f vs H Q):wpAny (model X.prog X.w) X.A (call (.ref fa) us) (EP X pins σ Q) X.xe s:=by
 obtain⟨a,Fc,ws,ds,kvs,es,rfl,A,d,Ep,Dt,hc,Oj,q⟩:=q
 have hl:(ws++[V.ref a]).length=ps.length:=by
  have:=hlen _ _ hc
  rw[List.length_append,bg] at this
  rw[List.length_append,A.ws.length]
  exact this
 have x1:BX X.prog X.w (rm a H) s.heap:=sv I.BD A.at_
 have na:ax s.heap (rm a H) a=none:=aV bO
 have x2:BX X.prog X.w (upd (ax s.heap (rm a H)) a (.dK kvs)) s.heap:=sx (jf x1) na (I.BD a _ A.at_)
 have nb:∀ b,H b=none->upd (ax s.heap (rm a H)) a (.dK kvs) b=none:=fun b e=>by
  have hb:b≠a:=by rintro rfl;rw[A.at_] at e;cases e
  rw[ag hb]
  exact aV (by rw[bf hb];exact e)
 have e0:=I.Dk
 have env:EA X.prog X.w X.K X.mg X.base X.A X.stack s (upd (ax s.heap (rm a H)) a (.dK kvs)):=⟨e0.frames,e0.mod,fun b o e=>⟨(e0.bs b o e).1,nb b (e0.bs b o e).2⟩,e0.Et,e0.B9,fun b hb=>nb b (e0.DH b hb),x2,e0.bare⟩
 have MG:∀ b,Fc b->b≠a:=fun b hb z=>A.nF (z ▸ hb)
 have Ku:∀ {vs:List V}{ds:List D},Bo X.K Fc H vs ds->Bo X.K (fun b=>Fc b/\ax s.heap (rm a H) b≠none) (upd (ax s.heap (rm a H)) a (.dK kvs)) vs ds:=fun m=>
  (gv x1 (m.step (S':=Fc) (H':=rm a H) (fun b u hb rd=>⟨hb,sA (MG b hb) rd⟩) fun b xs h=>ny A.at_ h)).mono (fun _ h=>h) (.upd na)
 have Lb:(us++([]:List Value)).length=ps.length:=by rw[List.append_nil,<- r.length];exact hl
 have bd:=hb s us I.Dv Lb
 rw[List.append_nil] at bd
 have DZ:J' X.K cl f ps (ws++[.ref a]) (upd (ax s.heap (rm a H)) a (.dK kvs)) (fun v H'=>∃ F' fv B3,HM X.K a (fun b=>Fc b/\ax s.heap (rm a H) b≠none) (upd (ax s.heap (rm a H)) a (.dK kvs)) F' H' v d fv B3 Ep Dt) (fun _ _ _=>False):=
  ⟨hl,a,_,ws,ds,kvs,es,rfl,⟨fun b hb=>by rw[ag (MG b hb.1)];exact hb.2,fun z=>A.nF z.1,aq,Ku A.ws,Ku A.vs,A.lf⟩,d,Ep,Dt,hc,Oj,fun v H' F' fv B3 o=>⟨F',fv,B3,o⟩⟩
 refine wpAny_call (codeAny_mono (F.run X.A X.stack s _ ⟨us,[]⟩ us _ _ _ hr env bd r DZ) fun r' s' hq=>?_)
 cases r' with
 | error e=>exact(g.FA _ _ _ _ _ hq).elim
 | ok fl=>
  cases fl with
  | ret u=>
   obtain⟨v,H',a1,a2,a3,a4,a5,F',fv,B3,o⟩:=hq
   have oo:=o.out
   rw[sy na] at oo
   have MH:aj (ax s.heap (rm a H)) (rm a H'):=fun b u e=>by
    have hb:b≠a:=by rintro rfl;rw[na] at e;cases e
    rw[bf hb]
    exact oo.same b u e
   have p:Ea s.heap (ax s.heap (rm a H)) (rm a H'):=⟨fun b o u e=>MH _ _ e,fun b xs e=>MH _ _ e,fun b o e n=>by
    by_cases hb:b=a
    ·rw[hb];exact bO
    ·rw[bf hb]
     exact a3.free b o e (by rw[ag hb];exact n) (by simp)⟩
   have o2:=gw x1 (fun b hb=>by rw[bf (MG b hb)];exact A.BJ b hb) p (wq oo MH o.nF o.nf o.at_)
   have nr:cq (rm a H) (rm a H') a=none:=by rw[res_none bO];exact bO
   have o3:=wt (kvs:=B3) o2 nr
   have hE:∀ b,b≠a->H b=none->H' b=upd (cq (rm a H) (rm a H')) a (.dK B3) b:=fun b hb e=>by
    rw[ag hb,res_none (by rw[bf hb];exact e),bf hb]
   have Kv:∀ b,H b=none->b≠a:=fun b e z=>by rw[z,A.at_] at e;cases e
   have un:Un (Cg X.stack) [] H (upd (cq (rm a H) (rm a H')) a (.dK B3)) s.heap s'.heap:=⟨fun b o e n=>a3.keep b o e (nb b n),fun b o e n=>a3.slot b o e (nb b n),fun b o e n hx=>by
    rw[<- hE b (Kv b n) n]
    exact a3.free b o e (nb b n) hx,a3.there,fun b xs e=>?_,fun b o u e=>?_,fun b ps e=>⟨#[],?_⟩⟩
   ·have BD:BX X.prog X.w (upd (cq (rm a H) (rm a H')) a (.dK B3)) s'.heap:=
     sx (gq x1 (sv a4 o.at_) p (fs:=Cg X.stack) (fun b o hH e n f=>a3.keep b o e (by
      have hb:b≠a:=by rintro rfl;exact hH bO
      rw[ag hb];exact n) f (by simp)) fun b hb=>by rw[bf (Kv b (e0.DH b hb))];exact e0.DH b hb) nr (a4 a _ o.at_)
    refine I.after (Q:=Q) ⟨v,_,a1,a2,un,BD,a5,q v _ _ fv B3 ⟨o3,fun z=>z.elim A.nF o.nF,o.nf,aq,o.ks,?_⟩⟩
    exact fun hs=>(o.vs hs).sc hs
   ·rw[ag (by rintro rfl;rw[A.at_] at e;cases e),res_some (by rw[bf (by rintro rfl;rw[A.at_] at e;cases e)];exact e)]
   ·rw[ag (by rintro rfl;rw[A.at_] at e;cases e),res_some (by rw[bf (by rintro rfl;rw[A.at_] at e;cases e)];exact e)]
   ·rw[ag (by rintro rfl;rw[A.at_] at e;cases e),res_some (by rw[bf (by rintro rfl;rw[A.at_] at e;cases e)];exact e)]
    simp
  | next=>exact False.elim hq
  | brk=>exact False.elim hq
  | cont=>exact False.elim hq
def QS:TE:=fun σ H Q=>∀ p,H p=none->Q (.ref p) (upd H p (.dK []))
noncomputable def rC (K:PySem.W.Frag)(ex:Str->Prop)(cl:Nat->List D->Res D):List IR->TA
 | []=>cu QS i3
 | e::es=>cu (RD K ex (vars e) (Bt cl e)) (rC K ex cl es)
theorem j5 {K:PySem.W.Frag}{ex:Str->Prop}{cl:Nat->List D->Res D}{S:Addr->Prop}{σ:St}{τ:Ev}{H:Hp}:∀ (es:List IR) {H1:Hp}{Kt:List D->Prop}{Q:List V->Hp->Prop},aj H H1->Slots K S H σ τ (av es)->Bp ex (aI cl es τ) Kt->
  (∀ ds vs H2 p,aj H H2->aj H1 H2->Bo K (nw S H) H2 vs ds->Kt ds->H2 p=none->Q (vs++[.ref p]) (upd H2 p (.dK [])))->rC K ex cl es σ H1 Q
 | [],H1,Kt,Q,e,hs,h,k=>fun p hp=>k [] [] H1 p e (.refl _) .nil h.ok hp
 | a::es,H1,Kt,Q,e,hs,h,k=>by
  refine az e hs.left (Bp.Bn (show Bp ex (Bn (Bt cl a τ) fun d=>Bn (aI cl es τ) fun ds=>.ok (d::ds)) Kt from h)) fun x v H2 e2 Ci m q=>?_
  exact j5 es e2 hs.right (Bp.Bn q) fun ds vs H3 p e3 F3 ms kt hp=>k (x::ds) (v::vs) H3 p e3 (Ci.trans F3) (.cons (m.mono (fun _ z=>z) F3) ms) kt.ok hp
theorem nB (g:BN Z CX cl xp X ex G):∀ (es:List IR) (args:List Expr),eX Z G es args=true->PA X args (rC X.K ex cl es)
 | [],args,h=>by
  match args,h with
  | [e],h=>
   have h':=Bool.and_eq_true_iff.mp (show (notStar e&&Hb e)=true from h)
   obtain⟨p,rfl⟩:=jj h'.2
   exact ay (fun pins s σ H Q I q=>ei pins s σ H Q I q) aX (af h'.1 _ _)
  | [],h=>cases h
  | _::_::_,h=>cases h
 | a::es,args,h=>by
  match args,h with
  | e::l,h=>
   have h':(notStar e&&Bx Z G a e&&eX Z G es l)=true:=h
   simp only[Bool.and_eq_true] at h'
   exact ay (snd a X ex G e g h'.1.2).1 (nB g es l h'.2) (af h'.1.1 _ _)
  | [],h=>cases h
theorem nC (Z:Sg)(G:Gm):∀ {es:List IR}{l:List Expr} (p:Pos) (env:Env),eX Z G es l=true->(backTo p (starEach l env)).any (·.1)=false
 | [],[e],p,env,h=>by
  have h':=Bool.and_eq_true_iff.mp (show (notStar e&&Hb e)=true from h)
  rw[af h'.1]
  rfl
 | a::es,e::l,p,env,h=>by
  have h':(notStar e&&Bx Z G a e&&eX Z G es l)=true:=h
  simp only[Bool.and_eq_true] at h'
  rw[af h'.1.1]
  have ih:=nC Z G (es:=es) (l:=l) p env h'.2
  show (false||(backTo p (starEach l env)).any (·.1))=false
  rw[ih]
  rfl
 | [],[],_,_,h=>by cases h
 | [],_::_::_,_,_,h=>by cases h
 | _::_,[],_,_,h=>by cases h
theorem nE (g:BN Z CX cl xp X ex G){f:Nat}{x:Str}{p pos:Pos}{es:List IR}{args:List Expr}(h1:aT Z G f x=true)(hf:f∈Z.Dq)(DC:G.cm=true)(BU:eX Z G es args=true) :
  PE X (.Call (.Name x p) args [] pos) (fun σ H Q=>rC X.K ex cl es σ H fun vs H1=>Oi X.K cl f vs H1 Q):=by
 obtain⟨k1,k2,k3,k4⟩:=cf g h1
 obtain⟨k,Kb,fd,ps,hm,F4,hb,F,hr,hlen⟩:=(g.Dq f hf DC x k2).ex
 intro pins s σ H Q I q
 have pa:=nB g es args BU
 refine wpAny_Call_Name_kw (bU I k1 hm ?_ k4)
 have fin:∀ (e:Expr) (l:List Expr),args=e::l->notStar e=true->(backTo pos (starEach l X.env)).any (·.1)=false->wpAny (model X.prog X.w) X.A (callWith pos (.ref Kb) [] (backTo pos (starEach args X.env)) []) (EP X pins σ Q) X.xe s:=by
  rintro e l rfl h1 h2
  refine PySem.W.callWith_K (h₀:=X.base) I.ok.mod.Ht F4 (BG (pa pos pins s σ H _ I q) fun us s1 ⟨vs,H1,I1,r,q1⟩=>⟨I1.Dv,?_⟩) (af h1 l X.env) h2
  exact nA g F hr hb hlen I1 r q1
 match es,args,BU with
 | [],[e],BU=>exact fin e [] rfl (Bool.and_eq_true_iff.mp (show (notStar e&&Hb e)=true from BU)).1 rfl
 | a::es,e::l,BU=>
  have BW:(notStar e&&Bx Z G a e&&eX Z G es l)=true:=BU
  simp only[Bool.and_eq_true] at BW
  exact fin e l rfl BW.1.1 (nC Z G (es:=es) pos X.env BW.2)
 | [],[],BU=>cases BU
 | [],_::_::_,BU=>cases BU
 | _::_,[],BU=>cases BU
theorem DT (g:BN Z CX cl xp X ex G){f:Nat}{es:List IR}{st:Stmt}(h:Km st (fun xf args=>G.cm&&(aT Z G f xf&&Z.Dq.contains f)&&eX Z G es args)=true) :
  PS X st (RS X.K G.io ex (Cz cl (.Jb f es))):=by
 obtain⟨xf,p,args,qp,pos,rfl,h0⟩:=wj h
 simp only[Bool.and_eq_true] at h0
 obtain⟨⟨DC,hf,QT⟩,BU⟩:=h0
 refine aM (iV (nE (p:=p) (pos:=qp) g hf (by simpa using QT) DC BU)) fun Dn σ H hh=>?_
 obtain⟨B,F,τ,fo,m,q⟩:=hh
 have q0:Bp ex (Bn (aI cl es τ) fun ds=>Bn (Dc (cl f (BA ds++[.Bw false [] []]))) jd) (Fk X.K B Dn):=q
 obtain⟨F1,gg,b1,b2,b3,b4,b5,b6⟩:=cE (av es) m.BJ m.Cq m.B2
 refine j5 es (.refl _) b6 (Bp.Bn q0) fun ds ws H2 a e2 _ ms q2 ha=>?_
 obtain⟨c1,c2,c3⟩:=grow (fun _=>True) b1 b2 e2
 have m2:B7 X.K B (fun b=>F1 b∨(True/\H b=none/\H2 b≠none)) H2 σ (BI (av es) τ) gg:=m.DD (b4.trans c3 (fun x hx=>.inl (b5 x hx))) c1 c2 b3 fun b hb=>.inl (b5 b hb)
 cases zc:cl f (BA ds++[.Bw false [] []]) with
 | error er=>rw[zc] at q2;exact q2.no.elim
 | ok rr=>
  rw[zc] at q2
  have q3:Bp ex (jd rr) (Fk X.K B Dn):=q2
  obtain⟨d,Lp,Lq,rfl⟩:∃ d Lp Lq,rr=.tup [d,.Bw false Lp Lq]:=by
   unfold jd at q3
   split at q3
   ·exact⟨_,_,_,rfl⟩
   ·exact q3.no.elim
  obtain⟨QU,q4⟩:=Bp.Bv (show Bp ex (Bv (ai Lq) (.ok (.rt d))) (Fk X.K B Dn) from q3)
  have q4:Fk X.K B Dn (.rt d):=q4.ok
  have nF:¬ (F1 a∨(True/\H a=none/\H2 a≠none)):=fun z=>c1 a z ha
  have up:aj H2 (upd H2 a (.dK [])):=.upd ha
  refine⟨a,fun b=>F1 b∨(True/\H b=none/\H2 b≠none),ws,ds,[],[],rfl,⟨fun b hb z=>c1 b hb (up.free z),nF,aq,(ms.step (S':=fun b=>F1 b∨(True/\H b=none/\H2 b≠none)) (H':=H2) (fun b xs h r=>⟨h.elim (fun z=>.inl z) fun z=>.inr ⟨trivial,z,r.some⟩,r⟩) fun b xs h=>h).mono (fun _ z=>z) up,.nil,rfl⟩,d,Lp,Lq,zc,QU,fun v H' F' fv Kw o=>?_⟩
  have ot:=o.out
  rw[sy ha] at ot
  exact q4 v H' F' fv ⟨ot.BJ,m2.same.trans ot.same,ot.rep,ot.B2,fun b hb=>m2.same.free (ot.new b hb),fun b hb=>ot.C5 b (m2.C5 b hb),fun b hb=>(ot.out b hb).elim (m2.out b) fun z=>.inr (m2.same.free z)⟩
end
section
variable {Z:Sg}{CX:Cy}{cl:Nat->List D->Res D}{xp:XK->Hp->Str->Prop}{X:Cx}{ex:Str->Prop}{G:Gm}
theorem DU (g:BN Z CX cl xp X ex G){i:Nat}{e:IR}{x:Str}{p apos BF pos:Pos}{v:Expr}(h1:cY G i x=true)(h2:(apos.endLine == BF.line)=true)(h3:notStar v=true)(h4:Bx Z G e v=true) :
  PS X (.Expr (.Call (.Attribute (.Name x p) "append" apos) [v] [] BF) pos) (RS X.K G.io ex (Cz cl (.app i e))):=by
 have pa:PA X [v] (cu (RO X.K ex (B6 cl false e)) i3):=ay (Hf e false X ex G v g h4) aX (af h3 _ _)
 have DL:((backTo BF (starEach [v] X.env)).all (fun x=>!x.1)&&(backToKw BF (keywordEach [] X.env)).all (fun x=>x.1.isSome)&&decide ([v].length+([]:List Keyword).length+(if ([]:List Keyword).isEmpty then 0 else 1) < 30))=true:=by
  rw[af h3]
  rfl
 refine aM (fX (gV PySem.F.plainAttrs_list PySem.F.slot_list_append PySem.F.type_list_append fu (jU g h1) pa rfl DL h2 (af h3 _ _) rfl)) fun Dn σ H h=>?_
 obtain⟨B,F,τ,f,m,q⟩:=h
 have q0:Bp ex (match ah τ i with|some (.lst _ _)=>(Bn (B6 cl false e τ) fun p=>(match ah p.2 i with|some (.lst true ds)=>Bv (bF ds.length) (.ok (.nx (p.2.set i (some (.lst true (ds++[p.1]))))))|_=>Bu))|_=>Bu) (Fk X.K B Dn):=q
 cases z0:ah τ i with
 | none=>rw[z0] at q0;exact q0.no.elim
 | some d0=>
  rw[z0] at q0
  cases d0 with
  | lst o0 Oc=>
   obtain⟨v0,QO,g0,a1,a2,a3,a4⟩:=m.Cq.at z0
   have hq:∃ l xs,v0=.ref l/\Ck X.K H l xs:=by
    cases a2 with
    | EG _ b1 _=>exact⟨_,_,rfl,.inl b1⟩
    | lstK b1 _=>exact⟨_,_,rfl,b1.sq⟩
    | CQ _ b1 _=>exact⟨_,_,rfl,.inl (.inl b1)⟩
   obtain⟨l,MB,rfl,hq⟩:=hq
   refine⟨.ref l,a1,.inl ⟨rfl,MB,hq⟩,m.ro (Bp.Bn q0) fun p v H' F' fv f' o hp=>?_⟩
   obtain⟨m',hb⟩:=m.ow o
   cases zs:ah p.2 i with
   | none=>rw[zs] at hp;exact hp.no.elim
   | some d=>
    rw[zs] at hp
    cases d with
    | lst ow ds=>
     cases ow with
     | false=>exact hp.no.elim
     | true=>
      obtain⟨gd,hp⟩:=Bp.Bv hp
      obtain⟨l',xs,CW,hl,hlen⟩:=nu m'.Cq zs
      rw[a1] at CW
      cases CW
      obtain⟨Hg,m3⟩:=m'.write (ys:=xs++[v]) (ds':=ds++[p.1]) zs a1 hl o.rep o.B2 hb fun fi hm=>hm.snoc o.rep
      exact⟨l,xs,v,rfl,rfl,hl,by rw[hlen];exact dM gd,hp.ok _ _ _ _ m3⟩
    | _=>exact hp.no.elim
  | _=>exact q0.no.elim
theorem Fk.Hh {K:PySem.W.Frag}{io:Option Nat}{B:Bs io}{F F':Addr->Prop}{H H':Hp}{σ:St}{τ τ':Ev}{f f':List Addr}{v:V}{d:D}{fv:List Addr}(m:B7 K B F H σ τ f)(o:Ow K F H f F' H' σ v d fv τ' f'):Out K B.F B.H F' H' v d fv:=by
 obtain⟨m',hb⟩:=m.ow o
 exact⟨m'.BJ,m'.same,o.rep,(List.nodup_append.mp o.B2).1,hb,m'.C5,m'.out⟩
theorem DV (g:BN Z CX cl xp X ex G){e:IR}{v:Expr}{pos:Pos}(h:Bx Z G e v=true):PS X (.Return (some v) pos) (RS X.K G.io ex (Cz cl (.ret e))):=by
 refine aM (iV (Hf e true X ex G v g h)) fun Dn σ H ⟨B,F,τ,f,m,q⟩=>?_
 exact m.ro (Bp.Bn q) fun p v H' F' fv f' o hp=>hp.ok _ _ _ _ (Fk.Hh m o)
theorem rD {pos:Pos}:PS X (.Return none pos) (RS X.K G.io ex (Cz cl .GD)):=
 aM qh fun Dn σ H ⟨B,F,τ,f,m,q⟩=>q.ok .By H F [] ⟨m.BJ,m.same,.By,List.nodup_nil,fun a ha=>absurd ha (by simp),m.C5,m.out⟩
theorem DW (g:BN Z CX cl xp X ex G){e:IR}{v:Expr}{pos:Pos}(hc:gy v=true)(h:Bx Z G e v=true):PS X (.Expr v pos) (RS X.K G.io ex (Cz cl (.exp e))):=by
 refine aM (fX (snd e X ex G v g h).1 (by cases v<;>first|rfl|cases hc)) fun Dn σ H ⟨B,F,τ,f,m,q⟩=>?_
 exact m.rd (Bp.Bn q) fun d v H' m' _ _ hd=>hd.ok _ _ _ _ m'
theorem E9 {c:Expr}{x y:List Stmt}{pos:Pos}{t:IR}{a b:List IS}(hc:PT X c (RT X.K ex (vars t) fun τ=>Bn (Bt cl t τ) aB))(ha:Ex X x (RS X.K G.io ex (aH cl a)))(hb:Ex X y (RS X.K G.io ex (aH cl b))):PS X (.If c x y pos) (RS X.K G.io ex (Cz cl (.BM t a b))):=by
 refine aM (xB hc ha hb) fun Dn σ H ⟨B,F,τ,f,m,q⟩=>?_
 refine m.rt (Bp.Bn q) fun r H' m' _ hr=>?_
 cases r with
 | true=>rw[if_pos rfl] at hr ⊢;exact⟨B,F,τ,f,m',hr⟩
 | false=>rw[if_neg Bool.false_ne_true] at hr ⊢;exact⟨B,F,τ,f,m',hr⟩
theorem B7.less {K:PySem.W.Frag}{io:Option Nat}{B:Bs io}{L:Addr->LD->Prop}{T:Addr->List V ⊕ Str->Prop}{F:Addr->Prop}{H:Hp}{σ:St}{τ:Ev}{f:List Addr}(m:B7 K (⟨B.F,B.H,fun a xs=>B.L a xs∨L a xs,fun a xs=>B.T a xs∨T a xs,B.N⟩:Bs io) F H σ τ f):B7 K B F H σ τ f:=
 ⟨m.BJ,m.Cq,m.B2,m.same,m.own,m.C5,m.out,fun a xs h=>m.pin a xs (.inl h),fun a xs h=>m.GN a xs (.inl h),m.nm⟩
theorem iC:∀ (ds:List D) (i:Nat),(BA ds).drop i=BA (ds.drop i):=by
 intro ds i
 rw[aZ,aZ,List.map_drop]
theorem iD {J:It}{K:PySem.W.Frag}{io:Option Nat}{B:Bs io}{F:Addr->Prop}{H:Hp}{σ:St}{τ:Ev}{f:List Addr}{T:Tg}{body:List IS}{its:List D}{Dn:Ends}(F5:∀ j∈Dr T,io≠some j)(m:B7 K B F H σ τ f)(w:C6 K F H J its)
  (q:Bp ex (forM (fun x τ=>Bn (br T x τ) fun τ'=>aH cl body τ') (BA its) τ) (Fk K B Dn)) :
  ∃ W:Nat->Nat->St->Hp->Prop,(∃ m,W 0 m σ H)/\∀ i m σ H,W i m σ H->(J.stop i H/\Dn.nx σ H)∨(J.go i H/\∃ N:St->Hp->Prop,(∀ Bz H',N Bz H'->∃ m',m' < m/\W (i+1) m' Bz H')/\
   ∀ x H',J.Gn i H x H'->gT K T x σ H' fun D3 H2=>RS K io ex (aH cl body) {Dn with nx:=N,ct:=N,bk:=Dn.nx} D3 H2):=by
 let B':Bs io:=⟨B.F,B.H,fun a xs=>B.L a xs∨(F a/\Rd H a xs.o),fun a xs=>B.T a xs∨B5 K H a xs,B.N⟩
 have m0:B7 K B' F H σ τ f:=⟨m.BJ,m.Cq,m.B2,m.same,m.own,m.C5,m.out,fun a xs h=>h.elim (m.pin a xs) id,fun a xs h=>h.elim (m.GN a xs) id,m.nm⟩
 let bd:D->Ev->Res Fl:=fun x τ=>Bn (br T x τ) fun τ'=>aH cl body τ'
 refine⟨fun i n σ H=>n=its.length - i/\i<=its.length/\∃ F τ f,B7 K B' F H σ τ f/\Bp ex (forM bd ((BA its).drop i) τ) (Fk K B Dn),⟨its.length,by simp,Nat.zero_le _,F,τ,f,m0,by rw[List.drop_zero];exact q⟩,?_⟩
 rintro i n Nw H1 ⟨rfl,hi,F1,Ge,f1,m1,q1⟩
 have w1:C6 K F1 H1 J its:=w.step (fun a xs h r=>m1.pin a xs (.inr ⟨h,r⟩)) fun a xs h=>m1.GN a xs (.inr h)
 by_cases Cu:i < its.length
 ·refine .inr ⟨w1.go Cu,fun σ H=>∃ F τ f,B7 K B' F H σ τ f/\Bp ex (forM bd ((BA its).drop (i+1)) τ) (Fk K B Dn),fun Bz H' h=>⟨its.length - (i+1),by omega,rfl,Cu,h⟩,fun x H' y=>?_⟩
  obtain⟨eH,mx⟩:=w1.Gn y (d:=its[i]) (by simp[Cu])
  have m1:=m1.grow eH
  have hd:(BA its).drop i=er its[i]::(BA its).drop (i+1):=by
   rw[iC,List.drop_eq_getElem_cons Cu,BA,iC]
  rw[hd] at q1
  have q2:=Bp.Bn q1
  refine m1.gT mx.frozen (by simpa using m1.B2) (fun a ha=>absurd ha (by simp)) F5 (Bp.Bn q2) fun τ' Bz f' m' h'=>?_
  refine⟨B',F1,τ',f',m',h'.mono fun r hr=>?_⟩
  cases r with
  | nx τ'=>exact fun Bz H' F' f' GO=>⟨F',τ',f',GO,hr⟩
  | ct τ'=>exact fun Bz H' F' f' GO=>⟨F',τ',f',GO,hr⟩
  | bk τ'=>exact fun Bz H' F' f' GO=>hr.ok _ _ _ _ GO.less
  | rt d=>exact fun v H' F' fv o=>hr.ok _ _ _ _ o
 ·have e:i=its.length:=by omega
  subst e
  refine .inl ⟨w1.stop rfl,?_⟩
  have:(BA its).drop its.length=[]:=by rw[<- bg its,List.drop_length]
  rw[this] at q1
  exact q1.ok _ _ _ _ m1.less
theorem rE (a b:Int):BA (bu a b)=bu a b:=by
 unfold bu
 rw[aZ,List.map_map]
 rfl
noncomputable def sC (cl:Nat->List D->Res D):Sr->Ev->Res (Int×Int)
 | .Cf n,τ=>Bn (Bt cl n τ) fun|.int i=>Bv (bA i) (.ok (0,i))|_=>Bu
 | .Dz a b,τ=>Bn (Bt cl a τ) fun x=>Bn (Bt cl b τ) fun y=>match x,y with|.int i,.int j=>Bv (bA i&&bA j) (.ok (i,j))|_,_=>Bu
 | _,_=>Bu
def QV (K:PySem.W.Frag)(ex:Str->Prop)(is:List Nat)(f:Ev->Res (Int×Int)):TI:=fun σ H R=>∃ S τ,Slots K S H σ τ is/\Bp ex (f τ) fun p=>∀ H',aj H H'->R (JE p.1 (p.2 - p.1).toNat) H'
noncomputable def nG:Sr->Bool
 | .Cf _=>true
 | .Dz _ _=>true
 | _=>false
theorem nH {s:Sr}(h:nG s=true){τ:Ev}{k:List D->Prop}(q:Bp ex (bZ cl s τ) k):Bp ex (sC cl s τ) fun p=>k (bu p.1 p.2):=by
 cases s with
 | Cf n=>
  refine Bp.mk ((Bp.Bn (show Bp ex (Bn (Bt cl n τ) fun|.int i=>Bv (bA i) (.ok (bu 0 i))|_=>Bu) k from q)).mono fun d hd=>?_)
  cases d with
  | int i=>
   obtain⟨gd,hd⟩:=Bp.Bv hd
   show Bp ex (Bv (bA i) (.ok (0,i))) _
   unfold Bv
   rw[if_pos gd]
   exact hd.ok
  | _=>exact hd.no.elim
 | Dz a b=>
  refine Bp.mk ((Bp.Bn (show Bp ex (Bn (Bt cl a τ) fun x=>Bn (Bt cl b τ) fun y=>match x,y with|.int i,.int j=>Bv (bA i&&bA j) (.ok (bu i j))|_,_=>Bu) k from q)).mono fun d hd=>Bp.mk ((Bp.Bn hd).mono fun e he=>?_))
  cases d with
  | int i=>
   cases e with
   | int j=>
    obtain⟨gd,he⟩:=Bp.Bv he
    show Bp ex (Bv (bA i&&bA j) (.ok (i,j))) _
    unfold Bv
    rw[if_pos gd]
    exact he.ok
   | _=>exact he.no.elim
  | _=>cases e<;>exact he.no.elim
 | _=>first|exact aa h|cases h
theorem Bj:∀ (s:Sr) (X:Cx) (ex:Str->Prop) (G:Gm) (e tg:Expr),BN Z CX cl xp X ex G->bM Z G s e=true->nG s=true->PI X tg e (QV X.K ex (cU s) (sC cl s)):=by
 intro s X ex G e tg g h hr
 cases s with
 | Cf n=>
  cases e with
  | Call fn args CU pos=>
   cases fn with
   | Name x p=>
    match args,CU,h with
    | [a],[],h=>
     have h':(x == "range"&&G.gl.contains 15&&notStar a&&Bx Z G n a)=true:=h
     simp only[Bool.and_eq_true] at h'
     have e1:x = "range":=eq_of_beq h'.1.1.1
     subst e1
     obtain⟨k1,k2,_,_⟩:=cw g (show aN[15]? = some ("range" : Str) from rfl) h'.1.1.2
     refine dY (e9 k1 k2 (ay (snd n X ex G a g h'.2).1 aX (af h'.1.2 _ _)) (af h'.1.2 _ _)) fun σ H Q ⟨S,τ,hs,q⟩=>?_
     refine az (.refl _) hs (Bp.Bn q) fun x v H1 e1 _ m1 q1=>?_
     cases x with
     | int i=>
      cases m1.BH
      obtain⟨gd,q1⟩:=Bp.Bv q1
      have Gh : -(2 ^ 62)<=i/\i < 2 ^ 62:=of_decide_eq_true gd
      refine⟨i,rfl,Gh.1,Gh.2,?_⟩
      have:=q1.ok _ e1
      rw[show (0,i).2 - (0,i).1=i from Int.sub_zero i] at this
      exact this
     | _=>exact q1.no.elim
    | [],_,h=>first|exact aa h|cases h
    | [_],_::_,h=>first|exact aa h|cases h
    | _::_::_,_,h=>first|exact aa h|cases h
   | _=>first|exact aa h|cases h
  | _=>first|exact aa h|cases h
 | Dz a b=>cases e<;>exact aa h
 | _=>cases hr
theorem DX (g:BN Z CX cl xp X ex G){t it:Expr}{x:List Stmt}{pos:Pos}{T:Tg}{s:Sr}{a:List IS}(Kx:(G.cm=true/\G.rs=true)/\bI G T t=true)(Gg:bM Z G s it=true/\dJ s t=true)(ha:Ex X x (RS X.K G.io ex (aH cl a))):PS X (.For t it x [] pos) (RS X.K G.io ex (Cz cl (.BP T s a))):=by
 have hT:=Kx.2
 have hs:=Gg.1
 by_cases hr:nG s=true
 ·refine aM (md (g.own Kx.1.2) (g.calm Kx.1.1) (Bj s X ex G it t g hs hr) (HQ g T t hT) ha (fun x=>bG hs X.env x)) fun Dn σ H ⟨B,F,τ,f,m,q⟩=>?_
  have q0:Bp ex (Bn (ia cl s τ) fun p=>forM (fun x τ=>Bn (br T x τ) fun τ'=>aH cl a τ') p.1 p.2) (Fk X.K B Dn):=q
  have base:Bp ex (bZ cl s τ) fun its=>Bp ex (forM (fun x τ=>Bn (br T x τ) fun τ'=>aH cl a τ') its τ) (Fk X.K B Dn):=by
   cases s with
   | Cf u=>exact(Bp.Bn (show Bp ex (Bn (bZ cl (.Cf u) τ) fun its=>.ok (its,τ)) _ from Bp.Bn q0)).mono fun its h=>h.ok
   | Dz u v=>exact(Bp.Bn (show Bp ex (Bn (bZ cl (.Dz u v) τ) fun its=>.ok (its,τ)) _ from Bp.Bn q0)).mono fun its h=>h.ok
   | _=>cases hr
  exact⟨fun _=>True,τ,aJ m.Cq,(nH hr base).mono fun p hp H1 e1=>iD (c6 T t hT) (m.grow e1) (.Ft p.1 p.2) (by rw[rE];exact hp)⟩
 ·refine aM (md (g.own Kx.1.2) (g.calm Kx.1.1) (rz s X ex G it t g hs Gg.2) (HQ g T t hT) ha (fun x=>bG hs X.env x)) fun Dn σ H ⟨B,F,τ,f,m,q⟩=>?_
  have q0:Bp ex (Bn (ia cl s τ) fun p=>forM (fun x τ=>Bn (br T x τ) fun τ'=>aH cl a τ') p.1 p.2) (Fk X.K B Dn):=q
  have q1:=Bp.Bn q0
  have MI:ia cl s τ=(Bn (bZ cl s τ) fun its=>.ok (BA its,BI (cU s) τ)):=by
   cases s with
   | val u=>rfl
   | zip u v=>rfl
   | D9 u=>rfl
   | rev u=>rfl
   | _=>exact absurd rfl hr
  rw[MI] at q1
  obtain⟨F1,gg,b1,b2,b3,b4,b5,b6⟩:=cE (cU s) m.BJ m.Cq m.B2
  refine yG (.refl _) b6 (Bp.Bn q1) fun its J H1 e1 _ w1 hk=>?_
  obtain⟨c1,c2,c3⟩:=grow (fun _=>True) b1 b2 e1
  have m2:B7 X.K B (fun a=>F1 a∨(True/\H a=none/\H1 a≠none)) H1 σ (BI (cU s) τ) gg:=m.DD (b4.trans c3 (fun x hx=>.inl (b5 x hx))) c1 c2 b3 fun a ha=>.inl (b5 a ha)
  exact iD (c6 T t hT) m2 (w1.step (fun a xs h r=>⟨h.elim (fun z=>.inl z) fun z=>.inr ⟨trivial,z,r.some⟩,r⟩) fun a xs h=>h) hk.ok
mutual
theorem MJ:∀ (a:IS) (X:Cx) (ex:Str->Prop) (G:Gm) (s:Stmt),BN Z CX cl xp X ex G->jo Z G a s=true->PS X s (RS X.K G.io ex (Cz cl a))
 | .asg tg e,X,ex,G,s,g,h=>by
  cases s with
  | Assign ts v pos=>
   match ts,h with
   | [t],h=>
    have h':(bI G tg t&&Bx Z G e v&&(isName t||(isTup t&&notTuple v)))=true:=h
    simp only[Bool.and_eq_true] at h'
    exact DR g h'.1.1 h'.1.2 h'.2
   | [],h=>first|exact aa h|cases h
   | _::_::_,h=>first|exact aa h|cases h
  | _=>first|exact aa h|cases h
 | .par i j a b,X,ex,G,s,g,h=>by cases s<;>first|exact aa h|cases h
 | .G5 i k e,X,ex,G,s,g,h=>by cases s<;>first|exact aa h|cases h
 | .EH i k e,X,ex,G,s,g,h=>by
  cases s with
  | Assign ts v pos=>
   cases ts with
   | nil=>first|exact aa h|cases h
   | cons t ts=>
    cases ts with
    | cons _ _=>cases t<;>first|exact aa h|cases h|(rename_i o _ _;cases o<;>cases h)
    | nil=>
     cases t with
     | Subscript o s sp=>
      cases o with
      | Name x p=>
       have h':(cY G i x&&ba s&&Bx Z G k s&&Bx Z G e v)=true:=h
       simp only[Bool.and_eq_true] at h'
       exact Dg g h'.1.1.1 h'.1.1.2 h'.1.2 h'.2
      | _=>first|exact aa h|cases h
     | _=>first|exact aa h|cases h
  | _=>first|exact aa h|cases h
 | .G6 i k e,X,ex,G,s,g,h=>by cases s<;>first|exact aa h|cases h
 | .Jb f es,X,ex,G,s,g,h=>by
  have h1:Km s (fun xf args=>G.cm&&(aT Z G f xf&&Z.Dq.contains f)&&eX Z G es args)=true:=by cases s<;>exact h
  exact DT g h1
 | .JZ j i body,X,ex,G,s,g,h=>by cases s<;>first|exact aa h|cases h
 | .ext i e,X,ex,G,s,g,h=>by cases s<;>first|exact aa h|cases h
 | .ins i k e,X,ex,G,s,g,h=>by
  cases s with
  | Expr v pos=>
   cases v with
   | Call fn args CU BF=>
    cases fn with
    | Attribute o name apos=>
     cases o with
     | Name x p=>
      match args,CU,h with
      | [s,v],[],h=>
       have h':(cY G i x&&name == "insert"&&apos.endLine == BF.line&&(notStar s&&notStar v)&&Bx Z G k s&&Bx Z G e v)=true:=h
       simp only[Bool.and_eq_true] at h'
       have e1:name = "insert":=eq_of_beq h'.1.1.1.1.2
       subst e1
       exact DS g h'.1.1.1.1.1 h'.1.1.1.2 h'.1.1.2.1 h'.1.1.2.2 h'.1.2 h'.2
      | [],_,h=>first|exact aa h|cases h
      | [_],_,h=>first|exact aa h|cases h
      | [_,_],_::_,h=>first|exact aa h|cases h
      | _::_::_::_,_,h=>first|exact aa h|cases h
     | _=>first|exact aa h|cases h
    | _=>first|exact aa h|cases h
   | _=>first|exact aa h|cases h
  | _=>first|exact aa h|cases h
 | .app i e,X,ex,G,s,g,h=>by
  cases s with
  | Expr v pos=>
   cases v with
   | Call fn args CU BF=>
    cases fn with
    | Attribute o name apos=>
     cases o with
     | Name x p=>
      match args,CU,h with
      | [v],[],h=>
       have h':(cY G i x&&name == "append"&&apos.endLine == BF.line&&notStar v&&Bx Z G e v)=true:=h
       simp only[Bool.and_eq_true] at h'
       have e1:name = "append":=eq_of_beq h'.1.1.1.2
       subst e1
       exact DU g h'.1.1.1.1 h'.1.1.2 h'.1.2 h'.2
      | [],_,h=>first|exact aa h|cases h
      | [_],_::_,h=>first|exact aa h|cases h
      | _::_::_,_,h=>first|exact aa h|cases h
     | _=>first|exact aa h|cases h
    | _=>first|exact aa h|cases h
   | _=>first|exact aa h|cases h
  | _=>first|exact aa h|cases h
 | .N0 i,X,ex,G,s,g,h=>by cases s<;>first|exact aa h|cases h
 | .pop j i,X,ex,G,s,g,h=>by cases s<;>first|exact aa h|cases h
 | .N2 j e,X,ex,G,s,g,h=>by cases s<;>first|exact aa h|cases h
 | .J1 i j,X,ex,G,s,g,h=>by cases s<;>first|exact aa h|cases h
 | .N1 j f es i,X,ex,G,s,g,h=>by cases s<;>first|exact aa h|cases h
 | .J0 j g0 a f es i,X,ex,G,s,g,h=>by cases s<;>first|exact aa h|cases h
 | .N3 i,X,ex,G,s,g,h=>by cases s<;>first|exact aa h|cases h
 | .JY _ _ _,X,ex,G,s,g,h=>by cases s<;>first|exact aa h|cases h
 | .exp e,X,ex,G,s,g,h=>by
  cases s with
  | Expr v pos=>
   have h':(gy v&&Bx Z G e v)=true:=by cases v<;>first|exact h|(rename_i c _ _;cases c<;>exact h)
   simp only[Bool.and_eq_true] at h'
   exact DW g h'.1 h'.2
  | _=>first|exact aa h|cases h
 | .ret e,X,ex,G,s,g,h=>by
  cases s with
  | Return v pos=>
   cases v with
   | none=>first|exact aa h|cases h
   | some v=>exact DV g h
  | _=>first|exact aa h|cases h
 | .GD,X,ex,G,s,g,h=>by
  cases s with
  | Return v pos=>
   cases v with
   | none=>exact rD
   | some v=>first|exact aa h|cases h
  | _=>first|exact aa h|cases h
 | .BM t a b,X,ex,G,s,g,h=>by
  cases s with
  | If c x y pos=>
   have h':(Bx Z G t c&&bC Z G a x&&bC Z G b y)=true:=h
   simp only[Bool.and_eq_true] at h'
   exact E9 (snd t X ex G c g h'.1.1).2 (jq a X ex G x g h'.1.2) (jq b X ex G y g h'.2)
  | _=>first|exact aa h|cases h
 | .BP tg s body,X,ex,G,st,g,h=>by
  cases st with
  | For t it b QW pos=>
   cases QW with
   | cons _ _=>first|exact aa h|cases h
   | nil=>
    have h':(((G.cm&&G.rs)&&bI G tg t)&&(bM Z G s it&&dJ s t)&&bC Z G body b)=true:=h
    simp only[Bool.and_eq_true] at h'
    exact DX g h'.1.1 h'.1.2 (jq body X ex G b g h'.2)
  | _=>first|exact aa h|cases h
 | .FX t body,X,ex,G,s,g,h=>by cases s<;>first|exact aa h|cases h
 | .brk,X,ex,G,s,g,h=>by
  cases s with
  | Break pos=>exact aM l5 fun Dn σ H ⟨B,F,τ,f,m,q⟩=>q.ok _ _ _ _ m
  | _=>first|exact aa h|cases h
 | .cnt,X,ex,G,s,g,h=>by
  cases s with
  | Continue pos=>exact aM gP fun Dn σ H ⟨B,F,τ,f,m,q⟩=>q.ok _ _ _ _ m
  | _=>first|exact aa h|cases h
 | .pass,X,ex,G,s,g,h=>by
  cases s with
  | Pass pos=>exact aM qg fun Dn σ H ⟨B,F,τ,f,m,q⟩=>q.ok _ _ _ _ m
  | Expr v pos=>
   cases v with
   | Constant c j p=>
    cases c with
    | str z=>exact aM uZ fun Dn σ H ⟨B,F,τ,f,m,q⟩=>q.ok _ _ _ _ m
    | _=>first|exact aa h|cases h
   | _=>first|exact aa h|cases h
  | _=>first|exact aa h|cases h
 | .CS n c w,X,ex,G,s,g,h=>by
  cases s with
  | Raise e cause pos=>
   cases cause with
   | some _=>exact aa h
   | none=>
    have h:Ln e (fun x=>G.rs&&G.cm&&aT Z G n x&&x == c&&Z.rc.contains (n,c))=true:=h
    obtain⟨x,np,w',j,p,BF,rfl,h⟩:=wc h
    have h':(G.rs&&G.cm&&aT Z G n x&&x == c&&Z.rc.contains (n,c))=true:=h
    simp only[Bool.and_eq_true] at h'
    have e:=eq_of_beq h'.1.2
    subst e
    exact nv g h'.1.1.1.1 h'.1.1.1.2 h'.1.1.2 (by simpa using h'.2)
  | _=>exact aa h
 | .DO body n cs i hd,X,ex,G,s,g,h=>by cases s<;>exact aa h
 | .CT n c e,X,ex,G,s,g,h=>by
  have h1:rev s (fun o=>Lo o fun x a=>G.rs&&G.cm&&aT Z G n x&&x == c&&Z.rc.contains (n,c)&&aO Z {G with rs:=false,tr:=false} [e] [a])=true:=by cases s<;>exact h
  obtain⟨o,pos,rfl,h2⟩:=wd h1
  obtain⟨x,np,a,BF,rfl,h3⟩:=wg h2
  simp only[Bool.and_eq_true] at h3
  obtain⟨⟨⟨⟨⟨Kr,DC⟩,hx⟩,QX⟩,QY⟩,BU⟩:=h3
  have e:=eq_of_beq QX
  subst e
  exact lQ g Kr DC hx (by simpa using QY) BU
 | .J2 i f es n cs k hd,X,ex,G,s,g,h=>by cases s<;>first|exact aa h|cases h
 | .never,X,ex,G,s,g,h=>aM l7 fun Dn σ H ⟨B,F,τ,f,m,q⟩=>q.no.elim
theorem jq:∀ (as:List IS) (X:Cx) (ex:Str->Prop) (G:Gm) (ss:List Stmt),BN Z CX cl xp X ex G->bC Z G as ss=true->Ex X ss (RS X.K G.io ex (aH cl as))
 | [],X,ex,G,ss,g,h=>by
  cases ss with
  | nil=>exact cC fW fun Dn σ H ⟨B,F,τ,f,m,q⟩=>q.ok _ _ _ _ m
  | cons _ _=>first|exact aa h|cases h
 | a::as,X,ex,G,ss,g,h=>by
  cases ss with
  | nil=>first|exact aa h|cases h
  | cons s ss=>
   have h':(jo Z G a s&&bC Z G as ss)=true:=h
   simp only[Bool.and_eq_true] at h'
   refine cC (cQ (MJ a X ex G s g h'.1) (jq as X ex G ss g h'.2)) fun Dn σ H ⟨B,F,τ,f,m,q⟩=>?_
   refine⟨B,F,τ,f,m,(Bp.Bn q).mono fun r hr=>?_⟩
   cases r with
   | nx τ'=>exact fun Bz H' F' f' m'=>⟨B,F',τ',f',m',hr⟩
   | ct τ'=>exact hr.ok
   | bk τ'=>exact hr.ok
   | rt d=>exact hr.ok
end
end
section
variable {P:Program}{w:World}
theorem gA {outer:List Env}{H:Hp}{s:Shared}{E:XK}{e:Value}{s':Shared}(x:BX P w H s.heap)(fr:∀ b∈Cg outer,H b=none)(h:Co P w outer (ax s.heap H) s E e s'):Co P w outer H s E e s':=by
 obtain⟨a,cls,a0,H',B,h1,h2,h3,h4,h5,_,h6,h7,h8⟩:=h
 exact⟨a,cls,a0,cq H H',B,h1,h2,h3,jg x h4,gq x h5 (cX h4) (fun b o _=>h6 b o) fr,ik,fun b o e n f=>h6 b o e (aV n) f,h7,h8⟩
theorem gB {outer:List Env}{H:Hp}{s:Shared}{e:Value}{s':Shared}:¬ Co P w outer H s (fun _ _ _=>False) e s':=fun ⟨_,_,_,_,_,_,_,_,_,_,_,_,_,z⟩=>z
variable {K:PySem.W.Frag}{mg:Str->Option Value}{base:Heap}{N:List Str}{qual:Str}{scope:Scope}{f:Addr}{cd:Value}{A:Around}{outer:List Env}{s:Shared}{H:Hp}{E:XK}
theorem sD {H':Hp}{B:Heap}{s2:Shared}{a:Addr}{cls a0:Value}(lt:GI H)(os:s2.os=s.os)(bare:AllBare s2.gens)(fl:Heap.FlyingW B outer a cls a0 s2.heap)(hB:BX P w H' B)
  (kB:∀ b o,s.heap.get? b=some o->H b=none->b∉Cg outer->B.get? b=some o) (hs:∀ b o,s.heap.get? b=some o->H b=none->b∈Cg outer->∃ sl,s2.heap.get? b=some {o with slots:=sl})
  (fr:∀ b o,s.heap.get? b=some o->H b=none->H' b=none) (pz:∀ b o u,H b=some (.BI o u)->H' b=some (.BI o u)) (pt:∀ b xs,H b=some (.tup xs)->H' b=some (.tup xs)) (hE:E cls none H0):Co P w outer H s E (.ref a) s2:=by
 refine⟨a,cls,a0,H',B,rfl,os,bare,⟨fun b o e n nf _=>fl.1 _ _ (kB b o e n nf),fun b o e n hf _=>hs b o e n hf,fun b o e n _=>fr b o e n,fun b o e _=>?_,pt,pz,fun b ps e=>?_⟩,hB,fun b o e=>(lt b o e).elim (fun ⟨ob,u,z⟩=>by subst z;exact pz _ _ _ e) fun ⟨xs,z⟩=>by subst z;exact pt _ _ e,kB,fl,hE⟩
 ·cases q:H b with
  | none=>
   by_cases hf:b∈Cg outer
   ·obtain⟨sl,h⟩:=hs b o e q hf
    exact⟨_,h⟩
   ·exact⟨_,fl.1 _ _ (kB b o e q hf)⟩
  | some u=>
   have:∃ u',H' b=some u':=by
    rcases lt b u q with ⟨ob,v,rfl⟩|⟨xs,rfl⟩
    ·exact⟨_,pz _ _ _ q⟩
    ·exact⟨_,pt _ _ q⟩
   obtain⟨u',hu⟩:=this
   obtain⟨ob,ho⟩:=(hB b u' hu).at
   exact⟨_,fl.1 _ _ ho⟩
 ·rcases lt b _ e with ⟨ob,v,z⟩|⟨xs,z⟩<;>cases z
theorem sE {b:Addr}{o:Obj}(e:s.heap.get? b=some o)(n:b∉Cg outer):b∉Cg (envOfC qual scope s.heap.objs.size f cd::outer):=fun z=>by
 unfold Cg at z n
 rcases List.mem_filterMap.mp z with ⟨env,hm,hf⟩
 rcases List.mem_cons.mp hm with rfl|hm
 ·have h1:s.heap.objs.size=b:=Option.some.inj hf
  have h2:=Heap.lt_size e
  rw[h1] at h2
  exact Nat.lt_irrefl _ h2
 ·exact n (List.mem_filterMap.mpr ⟨env,hm,hf⟩)
theorem rF (lt:GI H){ex:Str->Prop}(hE:∀ c C,ex c->PySem.W.nsIn K mainGlobals c=some (some (.ref C))->E (.ref C) none H0) :
  Passes (Co P w) (bX (Co P w) P w K mg base N qual scope f cd A outer s H E) (fun cls _ _=>∃ c C,ex c/\PySem.W.nsIn K mainGlobals c=some (some (.ref C))/\cls=.ref C):=by
 intro pins σ H1 s1 e s' I ⟨a,cls,a0,H',B,he,os,bare,un,hB,_,kB,fl,c,C,hc,hn,Ew⟩
 subst he Ew
 have I':=I.FL os un (hB.kept fl.1) bare (fun b z=>absurd z (by simp))
 show wpAny _ _ (leaving _ (.ref a)) _ _ s'
 refine wpAny_leaves_onW (show (A.deeper (envOfC qual scope s.heap.objs.size f cd)).frames=some (envOfC qual scope s.heap.objs.size f cd::outer) from I.ok.frames) rfl fl fun h' QZ up=>?_
 refine sD lt I'.os I'.bare QZ hB (fun b o e n nf=>?_) (fun b o e n hf=>?_) (fun b o e n=>I'.base.free b o e n (by simp[bX])) I'.base.B8 I'.base.Cn (hE c C hc hn)
 ·exact kB b o (I.base.keep b o e n nf (by simp[bX])) (I.base.free b o e n (by simp[bX])) (sE e nf)
 ·obtain⟨sl,h1⟩:=I'.base.slot b o e n hf (by simp[bX])
  obtain⟨_,o',CD,nf⟩:=I.ok.B9.mem hf
  have CD:s.heap.get? b=some o':=CD
  rw[e] at CD
  cases CD
  obtain⟨GU,h2⟩:=up b _ h1 nf
  exact⟨GU,h2⟩
theorem nI (lt:GI H){pins:List (Addr×Obj)}{σ:St}{H1:Hp}{s1:Shared}{C e:Addr}{h':Heap}{vs:List Value}(hE:E (.ref C) none H0)
  (I:Inv (bX (Co P w) P w K mg base N qual scope f cd A outer s H E) pins σ H1 s1) (hx:Heap.MadeExcOf s1.heap h' e (.ref C) vs) :
  (bX (Co P w) P w K mg base N qual scope f cd A outer s H E).xe (.ref e) {s1 with heap:=h'}:=by
 have Q0:∀ env∈(bX (Co P w) P w K mg base N qual scope f cd A outer s H E).stack,∀ b,env.frame=some b->b∈Cg (bX (Co P w) P w K mg base N qual scope f cd A outer s H E).stack:=fun env he b hb=>List.mem_filterMap.mpr ⟨env,he,hb⟩
 show wpAny _ _ (leaving _ (.ref e)) _ _ _
 refine wpAny_leaves_madeW (base:=PySem.W.hideAll s1.heap (Cg (bX (Co P w) P w K mg base N qual scope f cd A outer s H E).stack)) (h:=s1.heap) (show (A.deeper (envOfC qual scope s.heap.objs.size f cd)).frames=some (envOfC qual scope s.heap.objs.size f cd::outer) from I.ok.frames) rfl (fun b o q=>PySem.W.of_hideAll _ q) (PySem.W.funFrames_hide I.stack Q0) hx fun h2 t fl _ _ up=>?_
 have Hs:∀ b u o,H1 b=some u->s1.heap.get? b=some o->(PySem.W.hideAll s1.heap (Cg (bX (Co P w) P w K mg base N qual scope f cd A outer s H E).stack)).get? b=some o:=fun b u o hu ho=>PySem.W.hideAll_get _ ho fun z=>by
  rw[I.DI b z] at hu;cases hu
 refine sD (H':=H1) lt I.os I.bare fl (fun b o hb=>?_) (fun b o he n nf=>?_) (fun b o he n hf=>?_) (fun b o e n=>I.base.free b o e n (by simp[bX])) I.base.B8 I.base.Cn hE
 ·refine(I.BD b o hb).CH (fun c u hc hu=>?_) (fun _ z=>z) fun _ _ z=>z
  rcases hc with rfl|hc
  ·exact Hs _ _ _ hb hu
  ·exact Hs _ _ _ hc hu
 ·exact PySem.W.hideAll_get _ (I.base.keep b o he n nf (by simp[bX])) (sE he nf)
 ·obtain⟨sl,h1⟩:=I.base.slot b o he n hf (by simp[bX])
  obtain⟨_,o',CD,nf⟩:=I.ok.B9.mem hf
  have CD:s.heap.get? b=some o':=CD
  rw[he] at CD
  cases CD
  obtain⟨GU,h3⟩:=up b _ (hx.keeps b _ h1) nf
  exact⟨GU,h3⟩
end
noncomputable def gC (X:Cx)(pins:List (Addr×Obj))(E:Value->Shared->Prop):Cx:={X with xe:=E,pn:=X.pn++pins}
def MK (K:PySem.W.Frag){io:Option Nat}(B:Bs io)(ex:Str->Prop)(g:Ev->Res Fl):TS:=fun Dn σ H=>∃ F τ f,B7 K B F H σ τ f/\Bp ex (g τ) (Fk K B Dn)
section
variable {X:Cx}{pins CY:List (Addr×Obj)}{σ:St}{H:Hp}{s:Shared}{E:Value->Shared->Prop}{a:Addr}
theorem rG (I:Inv X pins σ H s):Inv (gC X pins E) [] σ H s:=
 ⟨⟨I.ok.mod,I.ok.kind,I.ok.glob,I.ok.blt,I.ok.above,I.ok.inj,I.ok.has,I.ok.Gj,I.ok.hd,I.ok.frames,I.ok.Bu,I.ok.GS,I.ok.bs,I.ok.Et,I.ok.DF,I.ok.DG,I.ok.B9,I.ok.DH⟩,I.os,I.bare,I.base,I.loc,I.cell,I.free,I.BY,fun p hp=>I.pin p (by simpa[gC] using hp),I.BD,I.len⟩
theorem bp (I:Inv (gC X pins E) CY σ H s):Inv X pins σ H s:=
 ⟨⟨I.ok.mod,I.ok.kind,I.ok.glob,I.ok.blt,I.ok.above,I.ok.inj,I.ok.has,I.ok.Gj,I.ok.hd,I.ok.frames,I.ok.Bu,I.ok.GS,I.ok.bs,I.ok.Et,I.ok.DF,I.ok.DG,I.ok.B9,I.ok.DH⟩,I.os,I.bare,I.base,I.loc,I.cell,I.free,I.BY,fun p hp=>I.pin p (List.mem_append_left _ hp),I.BD,I.len⟩
end
section
variable {Z:Sg}{CX:Cy}{cl:Nat->List D->Res D}{xp:XK->Hp->Str->Prop}{X:Cx}{ex:Str->Prop}{G:Gm}{pins:List (Addr×Obj)}{a:Addr}
theorem rH (g:BN Z CX cl xp X ex G){E:Value->Shared->Prop}{Jz:Str->Prop}(hE:∃ E':XK,Passes CX (gC X pins E) E'/\∀ c H,Jz c->xp E' H c):BN Z CX cl xp (gC X pins E) Jz {G with rs:=false,tr:=false} where
 N:=g.N
 B2:=g.B2
 calm:=g.calm
 fk:=g.fk
 un:=g.un
 own:=fun z=>by cases z
 kd:=g.kd
 Er:=g.Er
 gl:=g.gl
 E5:=g.E5
 df:=g.df
 blt:=g.blt
 cst:=g.cst
 fns:=g.fns
 Dq:=g.Dq
 Fm:=g.Fm
 EJ:=g.EJ
 Fo:=g.Fo
 E6:=g.E6
 Jf:=fun z=>by cases z
 tr:=fun z=>by cases z
 Jg:=hE
 Fe:=g.Fe
 FA:=g.FA
def gD (X:Cx)(pins:List (Addr×Obj))(Dn:Ends)(hs:List ExceptHandler):Value->Shared->Prop:=fun e s1=>
 wpAny (model X.prog X.w) X.A (noteFrame e X.env) (fun _ s2=>wpAny (model X.prog X.w) X.A (setFlight e none) (fun _ s3=>wpAny (model X.prog X.w) X.A (handleBy e X.env hs) (SP X pins Dn) X.xe s3) X.xe s2) X.xe s1
theorem nJ (g:BN Z (Co X.prog X.w) cl xp X ex G)(BU:X.stack=X.env::X.outer)(Ic:X.env.frame=some X.env.locals)(lt:GI X.Cr)(En:∀ a:Addr,∀ f∈Z.fns,f∈Z.pl->∀ x,Z.name f=some x->Gf X.prog X.w X.K X.mg X.base (Co X.prog X.w) (X.A.mark (some (.ref a))) cl xp f x)
  {B0:Bs G.io} (Ie:B0.N=none) (Jm:B0.H=X.Cr) (Jn:Du B0.F B0.H) (Jo:∀ a xs,¬ B0.L a xs) (Jp:∀ a xs,¬ B0.T a xs) {hd:List IS}{n i:Nat}{c x y:Str}{np hpos:Pos}{b0:Stmt}{Ed:List Stmt}{Dn:Ends}{C C':Addr}{N:Nat}
  (h2:aT Z G n x=true) (hn:PySem.W.nsIn X.K mainGlobals c=some (some (.ref C))) (Jq:nameIn X.K C=some c) (hm:X.mg x=some (.ref C')) (hex:PySem.W.exmOne X.K (.ref C) (.ref C')=some true) (h4:G.N[i]? = some y) (h5:G.kd[i]? = some .local)
  (h6:bC Z {G with cm:=false,rs:=false,tr:=false} hd (b0::Ed)=true) (hN:N=X.N.length) (q:Bp ex (Bn (Dc (aH cl hd ((List.replicate N none).set i (some (.exc c))))) fun|.nx τ'=>.ok (.nx (τ'.set i none))|_=>Bu) (Fk X.K B0 Dn)) :
  Passes (Co X.prog X.w) (gC X pins (gD X pins Dn [.ExceptHandler (some (.Name x np)) (some y) (b0::Ed) hpos])) (fun cls _ _=>cls=.ref C):=by
 intro CY Bz H1 s1 e s' I2 ⟨a,cls,a0,H',B,he,os,bare,un,hB,sm,kB,fl,Ew⟩
 subst he Ew
 obtain⟨k1,k2,k3,k4⟩:=cf g h2
 have hk:X.env.kindOf y=some .local:=(g.kd i y h4).trans h5
 have Ol:X.N.Nodup:=by rw[g.N];exact g.B2
 have hi:X.N[i]? = some y:=by rw[g.N];exact h4
 have ok:=(bp I2).ok
 have Q1:Heap.FlyingW B (X.env::X.outer) a (.ref C) a0 s'.heap:=BU ▸ fl
 show wpAny (model X.prog X.w) X.A (noteFrame (.ref a) X.env) _ X.xe s'
 refine wpAny_looks_onW (A:=X.A) (by rw[<- BU];exact ok.frames) Ic Q1 fun S7 Ky Om=>?_
 refine wpAny_landsW Ky fun ML MM Oo=>?_
 have I5:Inv (gC X pins (gD X pins Dn [.ExceptHandler (some (.Name x np)) (some y) (b0::Ed) hpos])) CY Bz H' {s' with heap:=ML}:=jX I2 os bare un hB sm kB (show Heap.FlyingW B X.stack a (.ref C) a0 ML from BU ▸ MM) (Om.trans Oo)
 have J5:Inv (cN X a) pins Bz H' {s' with heap:=ML}:=fF (bp I5)
 refine wpAny_handleBy_cons (codeAny_handlers_test (bU J5 k1 hm ?_ k4)) (by intro q;cases q)
 obtain⟨Q2,Q3,Q4⟩:=MM.there
 refine(PySem.W.exm_one J5.Dv (IX.type ⟨Q2,Q3,Q4⟩) hex).here ?_
 refine codeAny_handlers_suite_as ?_
 refine lands_againW MM fun Jr Kz Q5=>?_
 have I6:Inv (gC X pins (gD X pins Dn [.ExceptHandler (some (.Name x np)) (some y) (b0::Ed) hpos])) CY Bz H' {s' with heap:=Jr}:=jX I2 os bare un hB sm kB (show Heap.FlyingW B X.stack a (.ref C) a0 Jr from BU ▸ Kz) ((Om.trans Oo).trans Q5)
 obtain⟨oe,vs,KA,Q6,Lr,_⟩:=Kz.first
 have na:H' a=none:=by
  cases z:H' a with
  | none=>rfl
  | some u=>
   obtain⟨ob,ho⟩:=(hB a u z).at
   rw[Kz.2.1] at ho;cases ho
 have Oq:∀ b,b∉X.fs->b≠X.env.locals->b∉Cg X.stack:=fun b h1 h2 z=>by
  rw[BU] at z
  unfold Cg at z
  rcases List.mem_filterMap.mp z with ⟨env,hm,hf⟩
  rcases List.mem_cons.mp hm with rfl|hm
  ·rw[Ic] at hf;exact h2 (Option.some.inj hf).symm
  ·exact h1 (List.mem_filterMap.mpr ⟨env,hm,hf⟩)
 have nl:a≠X.env.locals:=by
  rintro rfl
  obtain⟨m,⟨o,es,ep,ho,hd,_⟩,_⟩:=I6.loc
  have ho:Jr.get? X.env.locals=some o:=ho
  rw[KA] at ho;cases ho
  rw[Lr] at hd;cases hd
 have Q7:Inv (cN X a) pins Bz (upd H' a (.BI oe XU)) {s' with heap:=Jr}:=by
  refine(fF (bp I6)).Ks KA na ⟨trivial,⟨_,KA⟩,fun _ _ _ _=>trivial⟩ (fun ob e z hx=>?_) ?_ nl (fun y c e z=>?_) fun p hp z=>?_
  ·by_cases hf:a∈X.fs
   ·obtain⟨sl,e1⟩:=I6.base.slot a ob e z hf hx
    have e1:Jr.get? a=_:=e1
    obtain⟨_,o',CD,nf⟩:=ok.B9.mem hf
    rw[show X.BS.heap.get? a=_ from e] at CD;cases CD
    rw[KA] at e1;cases e1
    exact nf _ Lr
   ·have e1:=I2.base.keep a ob e z hf hx
    have e2:=I2.base.free a ob e z hx
    have:=kB a ob e1 e2 (Oq a hf nl)
    rw[Kz.2.1] at this;cases this
  ·show X.Cr a=none
   cases z:X.Cr a with
   | none=>rfl
   | some u=>
    exfalso
    rcases lt a u z with ⟨ob,v,rfl⟩|⟨xs,rfl⟩
    ·have:=I6.base.B8 a ob v z;rw[na] at this;cases this
    ·have:=I6.base.Cn a xs z;rw[na] at this;cases this
  ·subst z
   obtain⟨v,o,ho,hd⟩:=I6.cell y c e
   have ho:Jr.get? c=some o:=ho
   rw[KA] at ho;cases ho
   rw[Lr] at hd;cases hd
  ·subst z
   obtain⟨e1,e2,e3,e4,_⟩:=I2.pin p (List.mem_append_left _ hp)
   have:=kB p.1 p.2 e1 e2 (Oq _ e4 e3)
   rw[Kz.2.1] at this;cases this
 refine cP (X:=cN X a) (v:=.ref a) Q7 Ol hi (.inl hk) rfl (fun s7 I7=>?_) (.inr hk)
 have Ot:aj B0.H (upd H' a (.BI oe XU)):=by
  rw[Jm]
  intro b o e
  have hb:H' b=some o:=by
   rcases lt b o e with ⟨ob,v,rfl⟩|⟨xs,rfl⟩
   ·exact I6.base.B8 b ob v e
   ·exact I6.base.Cn b xs e
  rw[ag (aw hb na)]
  exact hb
 have hlen:Bz.length=N:=by rw[hN];exact I6.len
 have NO:i < Bz.length:=by rw[I6.len];exact(List.getElem?_eq_some_iff.mp hi).1
 have xo:B5 X.K (upd H' a (.BI oe XU)) a (.inr c):=⟨C,oe,vs,hn,Jq,aq,Q6,Lr⟩
 obtain⟨g',h',r0,p0⟩:=(eJ (K:=X.K) (F:=B0.F) (H:=upd H' a (.BI oe XU)) hlen).put i (BC.exc xo)
 have gn:g'=[]:=by
  have:=p0.length_eq
  simp at this
  exact this.1
 subst gn
 have Q8:B7 X.K B0 B0.F (upd H' a (.BI oe XU)) (Bz.set i (some (.ref a))) ((List.replicate N none).set i (some (.exc c))) []:=
  ⟨fun b hb z=>Jn b hb (Ot.free z),r0,List.nodup_nil,Ot,fun _ z=>absurd z (by simp),fun _ z=>z,fun _ z=>.inl z,fun a xs z=>(Jo a xs z).elim,fun a xs z=>(Jp a xs z).elim,fun j a _ e=>by rw[Ie] at e;cases e⟩
 have q2:Bp Ca (aH cl hd ((List.replicate N none).set i (some (.exc c)))) (Fk X.K B0 {nx:=fun MN H8=>∃ F8 KC f8,B7 X.K B0 F8 H8 MN KC f8/\Fk X.K B0 Dn (.nx (KC.set i none)),rt:=fun _ _=>False}):=by
  cases z:aH cl hd ((List.replicate N none).set i (some (.exc c))) with
  | error er=>rw[z] at q;exact q.no.elim
  | ok r=>
   rw[z] at q
   cases r with
   | nx KC=>exact fun MN H8 F8 f8 m8=>⟨F8,KC,f8,m8,q.ok⟩
   | _=>exact q.no.elim
 refine wpAny_mono (jq hd (cN X a) Ca {G with cm:=false,rs:=false,tr:=false} (b0::Ed) (lP g (En a)) h6 pins s7 _ _ _ I7 ⟨B0,B0.F,_,[],Q8,q2⟩) (fun fw s8 hs=>?_) fun _ _ z=>z.elim
 cases fw with
 | next=>
  obtain⟨MN,H8,I8,F8,KC,f8,m8,q8⟩:=hs
  refine wo (iA ok I8) Ol hi hk fun s9 I9=>?_
  obtain⟨g8,r9,n9,m9⟩:=BK.drop (o:=none) i m8.Cq m8.B2
  exact⟨_,_,I9,q8 _ _ F8 g8 ⟨m8.BJ,r9,n9,m8.same,fun b hb=>m8.own b (m9 b hb),m8.C5,m8.out,m8.pin,m8.GN,fun j a _ e=>by rw[Ie] at e;cases e⟩⟩
 | brk=>obtain⟨_,_,_,z⟩:=hs;exact z.elim
 | cont=>obtain⟨_,_,_,z⟩:=hs;exact z.elim
 | ret u=>obtain⟨_,_,_,_,_,z⟩:=hs;exact z.elim
end
noncomputable def MO:Stmt->(List Stmt->Str->Str->Stmt->List Stmt->Bool)->Bool
 | .Try b [.ExceptHandler (some (.Name x _)) (some y) (b0::r) _] [] [] _,k=>k b x y b0 r
 | _,_=>false
theorem wu {s:Stmt}{k:List Stmt->Str->Str->Stmt->List Stmt->Bool}(h:MO s k=true):∃ b x np y b0 r hp pos,s=.Try b [.ExceptHandler (some (.Name x np)) (some y) (b0::r) hp] [] [] pos/\k b x y b0 r=true:=by
 unfold MO at h
 split at h
 ·exact⟨_,_,_,_,_,_,_,_,rfl,h⟩
 ·cases h
noncomputable def jr (Z:Sg)(G:Gm):IS->Stmt->Bool
 | .DO body n cs i hd,s=>MO s fun b x y b0 r=>bC Z {G with rs:=false,tr:=false} body b&&aT Z G n x&&cs.all (fun c=>Z.xm.contains (c,n))&&G.N[i]? == some y&&G.kd[i]? == some .local&&bC Z {G with cm:=false,rs:=false,tr:=false} hd (b0::r)
 | _,_=>false
noncomputable def nK:IS->Bool
 | .DO _ _ _ _ _=>true
 | _=>false
noncomputable def nL (Z:Sg)(G:Gm):List IS->List Stmt->Bool
 | [],[]=>true
 | a::as,s::ss=>(if nK a=true then jr Z G a s else jo Z G a s)&&nL Z G as ss
 | _,_=>false
section
variable {Z:Sg}{cl:Nat->List D->Res D}{X:Cx}{ex:Str->Prop}{G:Gm}
theorem wx (g:BN Z (Co X.prog X.w) cl (Eb X.K) X ex G)(BU:X.stack=X.env::X.outer)(Ic:X.env.frame=some X.env.locals)(lt:GI X.Cr)(En:∀ a:Addr,∀ f∈Z.fns,f∈Z.pl->∀ x,Z.name f=some x->Gf X.prog X.w X.K X.mg X.base (Co X.prog X.w) (X.A.mark (some (.ref a))) cl (Eb X.K) f x)
  {B0:Bs G.io} (Ie:B0.N=none) (Jm:B0.H=X.Cr) (Jn:Du B0.F B0.H) (Jo:∀ a xs,¬ B0.L a xs) (Jp:∀ a xs,¬ B0.T a xs) {a:IS}{st:Stmt} (h:jr Z G a st=true):PS X st (MK X.K B0 ex (Cz cl a)):=by
 cases a with
 | DO body n cs i hd=>
  obtain⟨b,x,np,y,b0,r,hp,pos,rfl,h0⟩:=wu (k:=fun b x y b0 r=>bC Z {G with rs:=false,tr:=false} body b&&aT Z G n x&&cs.all (fun c=>Z.xm.contains (c,n))&&G.N[i]? == some y&&G.kd[i]? == some .local&&bC Z {G with cm:=false,rs:=false,tr:=false} hd (b0::r)) h
  have h:(bC Z {G with rs:=false,tr:=false} body b&&aT Z G n x&&cs.all (fun c=>Z.xm.contains (c,n))&&G.N[i]? == some y&&G.kd[i]? == some .local&&bC Z {G with cm:=false,rs:=false,tr:=false} hd (b0::r))=true:=h0
  simp only[Bool.and_eq_true] at h
  obtain⟨⟨⟨⟨⟨h1,h2⟩,h3⟩,h4⟩,h5⟩,h6⟩:=h
  have h4:=eq_of_beq h4
  have h5:=eq_of_beq h5
  rw[List.all_eq_true] at h3
  obtain⟨k1,k2,k3,k4⟩:=cf g h2
  intro pins s σ H Dn I ⟨F,τ,f,m,q⟩
  have Q9:τ.length=X.N.length:=by rw[<- m.Cq.len];exact I.len
  refine wpAny_Try_except ?_
  have q:Bp ex (match aH cl body τ with
   | .ok (.nx τ')=>.ok (.nx τ')
   | .error (.exc c)=>Bv (cs.contains c) (Bn (Dc (aH cl hd ((List.replicate τ.length none).set i (some (.exc c))))) fun
    | .nx τ'=>.ok (.nx (τ'.set i none))
    | _=>Bu)
   | _=>Bu) (Fk X.K B0 Dn):=q
  cases z:aH cl body τ with
  | ok rr=>
   rw[z] at q
   cases rr with
   | nx τ'=>
    have q:Fk X.K B0 Dn (.nx τ'):=q.ok
    refine wpAny_mono (jq body X.Ca Ca {G with rs:=false,tr:=false} b (jY g) h1 pins s σ H Dn (I.Dj _) ⟨B0,F,τ,f,m,by rw[z];exact q⟩) (fun fw s' hs=>?_) fun _ _ z=>False.elim z
    have hs:=SP.B1 hs
    cases fw with
    | next=>exact wpAny_execs_nil hs
    | _=>exact hs
   | _=>exact q.no.elim
  | error er=>
   rw[z] at q
   cases er with
   | stuck=>exact q.no.elim
   | exc c=>
    obtain⟨Ra,q⟩:=Bp.Bv q
    have hc:(c,n)∈Z.xm:=by simpa using h3 c (by simpa using Ra)
    obtain⟨C,C',hn,_,Jq,hm,hex⟩:=g.Fo c n x hc k2
    have ps:=nJ (pins:=pins) (np:=np) (hpos:=hp) (Dn:=Dn) g BU Ic lt En Ie Jm Jn Jo Jp h2 hn Jq hm hex h4 h5 h6 Q9 q
    have go:BN Z (Co X.prog X.w) cl (Eb X.K) (gC X pins (gD X pins Dn [.ExceptHandler (some (.Name x np)) (some y) (b0::r) hp])) (fun c'=>c'=c) {G with rs:=false,tr:=false}:=
     rH g ⟨_,ps,fun c' H e Rb hC=>by subst e;rw[hn] at hC;cases hC;rfl⟩
    refine wpAny_mono (jq body _ _ {G with rs:=false,tr:=false} b go h1 [] s σ H Dn (rG I) ⟨B0,F,τ,f,m,by rw[z];exact rfl⟩) (fun fw s' hs=>?_) fun e s' he=>he
    cases fw with
    | next=>
     obtain⟨Bz,H',I',q'⟩:=hs
     exact wpAny_execs_nil ⟨Bz,H',bp I',q'⟩
    | brk=>obtain⟨Bz,H',I',q'⟩:=hs;exact⟨Bz,H',bp I',q'⟩
    | cont=>obtain⟨Bz,H',I',q'⟩:=hs;exact⟨Bz,H',bp I',q'⟩
    | ret u=>obtain⟨v,Bz,H',I',rv,q'⟩:=hs;exact⟨v,Bz,H',bp I',rv,q'⟩
 | _=>cases h
theorem Ou (g:BN Z (Co X.prog X.w) cl (Eb X.K) X ex G)(BU:X.stack=X.env::X.outer)(Ic:X.env.frame=some X.env.locals)(lt:GI X.Cr)(En:∀ a:Addr,∀ f∈Z.fns,f∈Z.pl->∀ x,Z.name f=some x->Gf X.prog X.w X.K X.mg X.base (Co X.prog X.w) (X.A.mark (some (.ref a))) cl (Eb X.K) f x)
  {B0:Bs G.io} (Ie:B0.N=none) (Jm:B0.H=X.Cr) (Jn:Du B0.F B0.H) (Jo:∀ a xs,¬ B0.L a xs) (Jp:∀ a xs,¬ B0.T a xs):∀ (as:List IS) (ss:List Stmt),nL Z G as ss=true->Ex X ss (MK X.K B0 ex (aH cl as))
 | [],ss,h=>by
  cases ss with
  | nil=>exact cC fW fun Dn σ H ⟨F,τ,f,m,q⟩=>q.ok _ _ _ _ m
  | cons _ _=>cases h
 | a::as,ss,h=>by
  cases ss with
  | nil=>cases h
  | cons s ss=>
   have h':((if nK a=true then jr Z G a s else jo Z G a s)&&nL Z G as ss)=true:=h
   rw[Bool.and_eq_true] at h'
   have p1:PS X s (MK X.K B0 ex (Cz cl a)):=by
    by_cases ht:nK a=true
    ·rw[if_pos ht] at h'
     exact wx g BU Ic lt En Ie Jm Jn Jo Jp h'.1
    ·rw[if_neg ht] at h'
     exact aM (MJ a X ex G s g h'.1) fun Dn σ H ⟨F,τ,f,m,q⟩=>⟨B0,F,τ,f,m,q⟩
   refine cC (cQ p1 (Ou g BU Ic lt En Ie Jm Jn Jo Jp as ss h'.2)) fun Dn σ H ⟨F,τ,f,m,q⟩=>?_
   refine⟨F,τ,f,m,(Bp.Bn q).mono fun r hr=>?_⟩
   cases r with
   | nx τ'=>exact fun Bz H' F' f' m'=>⟨F',τ',f',m',hr⟩
   | ct τ'=>exact hr.ok
   | bk τ'=>exact hr.ok
   | rt d=>exact hr.ok
end
noncomputable def j7 (Z:Sg)(fn:Fn)(ps:List Str)(st:Stmt):Bool:=
 (au st).kind == .function&&!(au st).isCoroutine&&!(au st).isGenerator&&decide (fn.G.N.Nodup)&&fn.G.N.take ps.length == ps
&&ps.all (fun x=>(au st).names.lookup x == some .local||(au st).names.lookup x == some .cell)&&(au st).names.all (fun y=>y.2 != .free)
&&(List.range fn.G.N.length).all (fun i=>(fn.G.N[i]?).bind ((au st).names.lookup ·) == fn.G.kd[i]?)
&&fn.G.N.all (fun x=>!(x == "__debug__")&&!(x == "__classdict__"))
&&fn.G.gl.all (fun n=>match Z.name n with|some x=>(au st).names.lookup x == some .globalImplicit|none=>false)
&&decide (ps.length=fn.np)
noncomputable def ak (Z:Sg)(fn:Fn)(ps:List Str)(st:Stmt):Bool:=j7 Z fn ps st&&(fn.io.isNone&&nL Z fn.G fn.body (aG st))
noncomputable def Lu:List Stmt->(Expr->Bool)->Bool
 | [.Return (some v) _],k=>k v
 | _,_=>false
theorem wy {ss:List Stmt}{k:Expr->Bool}(h:Lu ss k=true):∃ v pos,ss=[.Return (some v) pos]/\k v=true:=by
 unfold Lu at h
 split at h
 ·exact⟨_,_,rfl,h⟩
 ·cases h
noncomputable def fG (Z:Sg)(G:Gm)(e:IR):List IS->List Stmt->Bool
 | [],ss=>Lu ss fun v=>Bx Z G e v
 | a::as,s::ss=>jo Z G a s&&fG Z G e as ss
 | _,_=>false
noncomputable def dP (Z:Sg)(fn:Fn)(ps:List Str)(st:Stmt):Bool:=j7 Z fn ps st&&(match fn.io with
 | some e=>fG Z fn.G e fn.body (aG st)&&fn.G.io == some (fn.np - 1)&&decide (0 < fn.np)&&!fn.G.tr
 | none=>false)
structure F7 (Z:Sg)(fn:Fn)(ps:List Str)(st:Stmt):Prop where
 sc:DJ fn.G.N ps (au st)
 kd:∀ (i:Nat) (x:Str),fn.G.N[i]? = some x->(au st).names.lookup x=fn.G.kd[i]?
 Er:∀ x∈fn.G.N,(x == ("__debug__" : Str))=false/\(x == ("__classdict__" : Str))=false
 gl:∀ n∈fn.G.gl,∀ x,Z.name n=some x->(au st).names.lookup x=some .globalImplicit
 np:ps.length=fn.np
structure Fb (Z:Sg)(fn:Fn)(ps:List Str)(st:Stmt):Prop extends F7 Z fn ps st where
 pl:fn.io=none
 body:nL Z fn.G fn.body (aG st)=true
structure F9 (Z:Sg)(fn:Fn)(ps:List Str)(st:Stmt):Prop extends F7 Z fn ps st where
 ex:∃ e,fn.io=some e/\fG Z fn.G e fn.body (aG st)=true/\fn.G.io=some (fn.np - 1)/\0 < fn.np/\fn.G.tr=false
theorem iE {Z:Sg}{fn:Fn}{ps:List Str}{st:Stmt}(h:j7 Z fn ps st=true):F7 Z fn ps st:=by
 unfold j7 at h
 simp only[Bool.and_eq_true] at h
 obtain⟨⟨⟨⟨⟨⟨⟨⟨⟨⟨h1,h2⟩,h3⟩,h4⟩,h5⟩,h6⟩,h7⟩,h8⟩,h9⟩,G3⟩,IW⟩:=h
 rw[List.all_eq_true] at h6 h7 h8 h9 G3
 refine⟨⟨eq_of_beq h1,by simpa using h2,by simpa using h3,of_decide_eq_true h4,eq_of_beq h5,fun x hx=>?_,fun y hy=>by simpa using h7 y hy⟩,fun i x hx=>?_,fun x hx=>by simpa using h9 x hx,fun n hn x hx=>?_,of_decide_eq_true IW⟩
 ·have:=h6 x hx
  rw[Bool.or_eq_true] at this
  exact this.elim (fun z=>.inl (eq_of_beq z)) fun z=>.inr (eq_of_beq z)
 ·have Cu:i < fn.G.N.length:=(List.getElem?_eq_some_iff.mp hx).1
  have:=eq_of_beq (h8 i (List.mem_range.mpr Cu))
  rw[hx] at this
  exact this
 ·have:=G3 n hn
  rw[hx] at this
  exact eq_of_beq this
theorem iF {Z:Sg}{fn:Fn}{ps:List Str}{st:Stmt}(h:ak Z fn ps st=true):Fb Z fn ps st:=by
 unfold ak at h
 rw[Bool.and_eq_true,Bool.and_eq_true] at h
 exact⟨iE h.1,Option.isNone_iff_eq_none.mp h.2.1,h.2.2⟩
theorem nM {Z:Sg}{fn:Fn}{ps:List Str}{st:Stmt}(h:dP Z fn ps st=true):F9 Z fn ps st:=by
 unfold dP at h
 rw[Bool.and_eq_true] at h
 obtain⟨h1,h2⟩:=h
 refine⟨iE h1,?_⟩
 cases z:fn.io with
 | none=>rw[z] at h2;cases h2
 | some e=>
  rw[z] at h2
  have h2:(fG Z fn.G e fn.body (aG st)&&fn.G.io == some (fn.np - 1)&&decide (0 < fn.np)&&!fn.G.tr)=true:=h2
  simp only[Bool.and_eq_true] at h2
  exact⟨e,rfl,h2.1.1.1,eq_of_beq h2.1.1.2,of_decide_eq_true h2.1.2,by simpa using h2.2⟩
structure Ga (K:PySem.W.Frag)(mg:Str->Option Value)(Z:Sg)(T:Tb)(f:Nat)(x:Str):Prop where
 ex:∃ (fn:Fn) (st:Stmt) (fa:Addr) (fd:FuncData) (ps:List Str),T f=some fn/\G0 K x x st fa fd/\mg x=some (.ref fa)/\Binds K fd ps []/\F9 Z fn ps st
structure BB (K:PySem.W.Frag)(mg:Str->Option Value)(Z:Sg)(T:Tb)(f:Nat)(x:Str):Prop where
 ex:∃ (fn:Fn) (st:Stmt) (fa:Addr) (fd:FuncData) (ps:List Str),T f=some fn/\G0 K x x st fa fd/\mg x=some (.ref fa)/\Binds K fd ps []/\Fb Z fn ps st
section
variable {P:Program}{w:World}{K:PySem.W.Frag}{mg:Str->Option Value}{base:Heap}{Z:Sg}{T:Tb}
def Ee (mg:Str->Option Value)(x:Str)(v:V):Prop:=(∃ C,v=.ref C/\mg x=some (.ref C))∨(∃ T,v=.ty T/\mg x=none/\bootBuiltins x=some (.type T))
structure DE (K:PySem.W.Frag)(mg:Str->Option Value)(Z:Sg)(T:Tb):Prop where
 E5:∀ n x,Z.name n=some x->x≠"__name__"/\(x == ("__debug__" : Str))=false
 blt:∀ (n:Nat) (x:Str),aN[n]? = some x->mg x=none
 cst:∀ n d x,(n,d)∈Z.Je->Z.name n=some x->∃ u v,mg x=some u/\RelV v u/\∀ S H,Bq K S H v d
 fns:∀ f∈Z.fns,∀ x,Z.name f=some x->BB K mg Z T f x
 Dq:∀ f∈Z.Dq,∀ x,Z.name f=some x->Ga K mg Z T f x
 FC:∀ f∈Z.pl,∀ fn,T f=some fn->fn.G.cm=false
 Fm:∀ n∈Z.cls,∀ x,Z.name n=some x->∃ v,Ee mg x v
 EJ:∀ c n b x,(c,n,b)∈Z.xt->Z.name n=some x->∃ C,PySem.W.nsIn K mainGlobals c=some (some (.ref C))/\ExcAt K C/\∀ v,Ee mg x v->PySem.W.kitOne K (.ref C) (vv v)=some b
 Fo:∀ c n x,(c,n)∈Z.xm->Z.name n=some x->∃ C C',PySem.W.nsIn K mainGlobals c=some (some (.ref C))/\PySem.W.nsIn K mainGlobals x=some (some (.ref C'))/\nameIn K C=some c/\mg x=some (.ref C')/\PySem.W.exmOne K (.ref C) (.ref C')=some true
 E6:∀ n c,(n,c)∈Z.rc->Z.name n=some c/\∃ C,mg c=some (.ref C)/\PySem.W.nsIn K mainGlobals c=some (some (.ref C))/\PySem.W.excIn K C Lg "ValueError.__new__" = true
theorem fH {F:Addr->Prop}{H:Hp}:∀ {vs:List V}{ds:List D} (n:Nat),Bo K F H vs ds->BK K F H (vs.map some++List.replicate n none) ((BA ds).map some++List.replicate n none) []
 | [],[],n,.nil=>by
  induction n with
  | zero=>exact .nil
  | succ n ih=>exact .none ih
 | v::vs,d::ds,n,.cons h1 h2=>.some (f:=[]) h1.frozen (fH n h2)
structure Rm (n:Nat)(A:Around):Prop where
 dp:A.depth+3*n+5 < recursionLimit
 un:A.units+16*n+200 < cLine
theorem Rm.room {n:Nat}{A:Around}(r:Rm n A)(hn:n < 900)(h:A.handled=none):Cs n A:=⟨fun _=>h,by have:=r.dp;rw[Nat.mod_eq_of_lt (by omega)];exact this,by have:=r.un;rw[Nat.mod_eq_of_lt (by omega)];exact this⟩
theorem Rm.Hk {n:Nat}{A:Around}(r:Rm n A)(hn:n < 900):Cs (1000+n) A:=⟨fun z=>by omega,by have:=r.dp;rw[show (1000+n) % 1000=n by omega];exact this,by have:=r.un;rw[show (1000+n) % 1000=n by omega];exact this⟩
theorem Rm.of {n k:Nat}{A:Around}(r:Cs k A)(h:k % 1000=n):Rm n A:=⟨by have:=r.dp;rw[h] at this;exact this,by have:=r.un;rw[h] at this;exact this⟩
theorem gE (t:DE K mg Z T){n k:Nat}{f:Nat}{fn:Fn}{x:Str}{st:Stmt}{fa:Addr}{fd:FuncData}{ps:List Str}(hk:k % 1000=n)(hn:n < 900)(h1:T f=some fn)(h2:G0 K x x st fa fd)(h5:Fb Z fn ps st)(hp:k < 1000∨fn.G.cm=false)
  (ih:∀ (A:Around),Rm n A->∀ f∈Z.fns,(A.handled=none∨f∈Z.pl)->∀ x,Z.name f=some x->Gf P w K mg base (Co P w) A (ae T n) (Eb K) f x)
  (GQ:∀ (A:Around),Rm n A->∀ f∈Z.Dq,A.handled=none->∀ x,Z.name f=some x->Lh P w K mg base (Co P w) A (ae T n) f x) :
  CJ P w K mg base (Co P w) (k+1) fa fd ps (HL K (ae T (n+1)) (Eb K) f ps):=by
 have Ds:∀ ds,ae T (n+1) f ds=cn (ae T n) fn ds:=fun ds=>by
  show (match T f with|some fn=>(match fn.io with|none=>cn (ae T n) fn ds|some e=>cp (ae T n) fn e ds)|none=>Bu)=_
  rw[h1]
  show (match fn.io with|none=>cn (ae T n) fn ds|some e=>cp (ae T n) fn e ds)=_
  rw[h5.pl]
 obtain⟨oc,od,kV,doc,pm,an,Dl,ct,Gq,rfl,lk,FN⟩:=h2.ex
 refine sf lk FN h5.sc (by omega) (fun vs H Q E h=>h.1) fun A outer s H vs Q E hr DZ=>?_
 obtain⟨hl,lt,F,ds,BJ,m,q⟩:=DZ
 have DC:fn.G.cm=true->A.handled=none:=fun z=>hp.elim (fun h=>hr.hd h) fun h=>by rw[h] at z;cases z
 refine⟨_,Ou (Z:=Z) (cl:=ae T n) (ex:=Eb K E H) (G:=fn.G) (B0:=⟨F,H,fun _ _=>False,fun _ _=>False,none⟩) ?_ rfl rfl lt (fun a f' Ef Ig x' CA=>ih ((A.deeper (envOfC x (au st) s.heap.objs.size fa Dl)).mark (some (.ref a))) ⟨(Rm.of hr hk).dp,(Rm.of hr hk).un⟩ f' Ef (.inr Ig) x' CA) rfl rfl BJ (fun _ _ z=>z) (fun _ _ z=>z) fn.body (aG st) h5.body,?_⟩
 ·refine⟨rfl,h5.sc.nd,fun z=>by show A.handled.isNone=true;rw[DC z];rfl,h5.sc.kind,?_,fun _=>PassesOwn.leaving,fun i y hy=>h5.kd i y hy,fun i y hy=>h5.Er y (List.mem_of_getElem? hy),fun m hm y hy=>h5.gl m hm y hy,t.E5,fun _ _=>rfl,t.blt,t.cst,?_,fun f' Ef z x' CA=>GQ _ (Rm.of hr hk) f' Ef (DC z) x' CA,t.Fm,t.EJ,t.Fo,t.E6,?_,?_,?_,?_,?_⟩
  ·have:=hr.un
   show (A.deeper _).units+42 < cLine
   omega
  ·exact fun f' Ef hc x' CA=>ih _ (Rm.of hr hk) f' Ef (hc.elim (fun z=>.inl (DC z)) .inr) x' CA
  ·exact fun _ pins σ H1 s1 c C h' e vs I hex hn hx=>nI lt (hex C hn) I hx
  ·exact fun _=>⟨rfl,rfl,lt,fun a f' Ef Ig x' CA=>ih ((A.deeper (envOfC x (au st) s.heap.objs.size fa Dl)).mark (some (.ref a))) ⟨(Rm.of hr hk).dp,(Rm.of hr hk).un⟩ f' Ef (.inr Ig) x' CA,fun _ _ _ _ _ _ z=>z,fun c C H' hC Rb Ov=>by rw[hC] at Ov;cases Ov;rfl⟩
  ·exact⟨_,rF (ex:=Eb K E H) lt fun c C hc hn=>hc C hn,fun c H' hc C hn=>⟨c,C,hc,hn,rfl⟩⟩
  ·exact fun outer H s E e s' x fr h=>gA x fr h
  ·exact fun H outer s e s'=>gB
 ·rw[Ds] at q
  obtain⟨gd,q⟩:=Bp.Bv q
  have Gh:(BA ds).length=fn.np:=of_decide_eq_true gd
  have DA:fn.G.N.length - vs.length=fn.G.N.length - fn.np:=by rw[m.length,<- bg ds,Gh]
  refine⟨F,(BA ds).map some++List.replicate (fn.G.N.length - fn.np) none,[],⟨BJ,?_,List.nodup_nil,.refl _,fun a ha=>absurd ha (by simp),fun a h=>h,fun a h=>.inl h,fun a xs h=>h.elim,fun a xs h=>h.elim,fun _ _ _ z=>by cases z⟩,(Bp.Bn q).mono fun r hr=>?_⟩
  ·show BK K F H (start fn.G.N vs) _ []
   unfold start
   rw[DA]
   exact fH _ m
  ·cases r with
   | nx τ'=>exact fun Bz H' F' f' m'=>hr.ok .By H' F' [] ⟨m'.BJ,m'.same,.By,List.nodup_nil,fun a ha=>absurd ha (by simp),m'.C5,m'.out⟩
   | rt d=>exact fun v H' F' fv o=>hr.ok v H' F' fv o
   | bk τ'=>exact hr.no.elim
   | ct τ'=>exact hr.no.elim
theorem iG {F:Addr->Prop}{H:Hp}{a:Addr}{d:D}(hd:BC K F H (.ref a) d [a]):∀ {vs:List V}{ds:List D} (n:Nat),Bo K F H vs ds->BK K F H ((vs++[V.ref a]).map some++List.replicate n none) ((BA ds++[d]).map some++List.replicate n none) [a]
 | [],[],n,.nil=>by
  have h0:BK K F H (List.replicate n none) (List.replicate n none) []:=eJ (by simp)
  exact .some (f:=[a]) (g:=[]) hd h0
 | v::vs,d::ds,n,.cons h1 h2=>.some (f:=[]) h1.frozen (iG hd n h2)
theorem fI (o:Bool)(ks:List Key)(es:List D):∀ ds:List D,lA (ds++[.Bw o ks es])=ds++[.Bw true ks es]
 | []=>rfl
 | [d]=>rfl
 | d::d'::ds=>by
  show d::lA (d'::ds++[.Bw o ks es])=_
  rw[fI o ks es (d'::ds)]
  rfl
def Ox (K:PySem.W.Frag){io:Option Nat}(B:Bs io)(cl:Nat->List D->Res D)(e:IR)(as:List IS):TS:=fun Dn σ H=>∃ F τ f,B7 K B F H σ τ f/\Bp Ca (aH cl as τ) fun r=>∃ τ',r=.nx τ'/\Bp Ca (B6 cl true e τ') fun p=>
 ∀ Bz F' H' Jj HV v fv f' Hg,B7 K B F' H' Bz τ' f'->Ow K F' H' f' Jj HV Bz v p.1 fv p.2 Hg->Dn.rt v HV
theorem Oy {CX:Cy}{cl:Nat->List D->Res D}{xp:XK->Hp->Str->Prop}{X:Cx}{G:Gm}(g:BN Z CX cl xp X Ca G)(B:Bs G.io){e:IR}:∀ (as:List IS) (ss:List Stmt),fG Z G e as ss=true->Ex X ss (Ox X.K B cl e as)
 | [],ss,h=>by
  obtain⟨v,pos,rfl,hv⟩:=wy (show Lu ss (fun v=>Bx Z G e v)=true by cases ss<;>exact h)
  have p1:PS X (.Return (some v) pos) (Ox X.K B cl e []):=aM (iV (Hf e true X Ca G v g hv)) fun Dn σ H ⟨F,τ,f,m,q⟩=>by
   obtain⟨τ',e',q'⟩:=q.ok
   cases e'
   exact m.ro q' fun p v H' F' fv f' o hp=>hp σ F H F' H' v fv f f' m o
  exact cC (cQ p1 fW) fun Dn σ H ⟨F,τ,f,m,q⟩=>⟨F,τ,f,m,q⟩
 | a::as,ss,h=>by
  cases ss with
  | nil=>cases h
  | cons s ss=>
   have h':(jo Z G a s&&fG Z G e as ss)=true:=h
   rw[Bool.and_eq_true] at h'
   refine cC (cQ (MJ a X Ca G s g h'.1) (Oy g B as ss h'.2)) fun Dn σ H ⟨F,τ,f,m,q⟩=>?_
   refine⟨B,F,τ,f,m,(Bp.Bn q).mono fun r hr=>?_⟩
   cases r with
   | nx τ'=>exact fun Bz H' F' f' m'=>⟨F',τ',f',m',hr⟩
   | ct τ'=>obtain⟨_,z,_⟩:=hr.ok;cases z
   | bk τ'=>obtain⟨_,z,_⟩:=hr.ok;cases z
   | rt d=>obtain⟨_,z,_⟩:=hr.ok;cases z
theorem nN (t:DE K mg Z T){n k:Nat}{f:Nat}{fn:Fn}{x:Str}{st:Stmt}{fa:Addr}{fd:FuncData}{ps:List Str}(hk:k % 1000=n)(hn:n < 900)(h1:T f=some fn)(h2:G0 K x x st fa fd)(h5:F9 Z fn ps st)(hp:k < 1000)
  (ih:∀ (A:Around),Rm n A->∀ f∈Z.fns,(A.handled=none∨f∈Z.pl)->∀ x,Z.name f=some x->Gf P w K mg base (Co P w) A (ae T n) (Eb K) f x)
  (GQ:∀ (A:Around),Rm n A->∀ f∈Z.Dq,A.handled=none->∀ x,Z.name f=some x->Lh P w K mg base (Co P w) A (ae T n) f x) :
  CJ P w K mg base (Co P w) (k+1) fa fd ps (J' K (ae T (n+1)) f ps):=by
 obtain⟨e,F5,FR,Oz,hpos,Rc⟩:=h5.ex
 have Ds:∀ ds,ae T (n+1) f ds=cp (ae T n) fn e ds:=fun ds=>by
  show (match T f with|some fn=>(match fn.io with|none=>cn (ae T n) fn ds|some e=>cp (ae T n) fn e ds)|none=>Bu)=_
  rw[h1]
  show (match fn.io with|none=>cn (ae T n) fn ds|some e=>cp (ae T n) fn e ds)=_
  rw[F5]
 obtain⟨oc,od,kV,doc,pm,an,Dl,ct,Gq,rfl,lk,FN⟩:=h2.ex
 refine sf lk FN h5.sc (by omega) (fun vs H Q E h=>h.1) fun A outer s H vs Q E hr DZ=>?_
 obtain⟨hl,a,F,ws,ds,kvs,es,rfl,AI,d,Ep,Dt,hc,Oj,q⟩:=DZ
 have DC:A.handled=none:=hr.hd hp
 refine⟨_,Oy (Z:=Z) (CX:=Co P w) (cl:=ae T n) (xp:=Eb K) (G:=fn.G) ?_ ⟨F,rm a H,fun _ _=>False,fun _ _=>False,some a⟩ fn.body (aG st) FR,?_⟩
 ·refine⟨rfl,h5.sc.nd,fun z=>by show A.handled.isNone=true;rw[DC];rfl,h5.sc.kind,?_,fun _=>PassesOwn.leaving,fun i y hy=>h5.kd i y hy,fun i y hy=>h5.Er y (List.mem_of_getElem? hy),fun m hm y hy=>h5.gl m hm y hy,t.E5,fun _ _=>rfl,t.blt,t.cst,fun f' Ef hc x' CA=>ih _ (Rm.of hr hk) f' Ef (.inl DC) x' CA,fun f' Ef z x' CA=>GQ _ (Rm.of hr hk) f' Ef DC x' CA,t.Fm,t.EJ,t.Fo,t.E6,fun _ pins σ H1 s1 c C h' e vs I hex hn hx=>hex.elim,(fun z=>by rw[Rc] at z;cases z),⟨fun _ _ _=>False,fun pins σ H s e s' _ h=>(gB h).elim,fun c H z=>z.elim⟩,fun outer H s E e s' x fr h=>gA x fr h,fun H outer s e s'=>gB⟩
  have:=hr.un
  show (A.deeper _).units+42 < cLine
  omega
 ·rw[Ds] at hc
  unfold cp at hc
  obtain⟨gd,hc⟩:=gk hc
  have Gh:(BA ds++[D.Bw false (kvs.map (·.1)) es]).length=fn.np:=of_decide_eq_true gd
  rw[fI] at hc
  obtain⟨r,Rf,hc⟩:=bw hc
  have OA:ws.length=fn.np - 1:=by
   rw[List.length_append,bg] at Gh
   rw[AI.ws.length,<- Gh]
   simp
  have DA:fn.G.N.length - (ws++[V.ref a]).length=fn.G.N.length - fn.np:=by
   rw[List.length_append,OA]
   show fn.G.N.length - (fn.np - 1+1)=_
   rw[Nat.sub_add_cancel hpos]
  have m0:BC K F H (.ref a) (.Bw true (kvs.map (·.1)) es) [a]:=.Fi AI.nF AI.at_ rfl (Bo.free (iB AI.lf) AI.vs)
  refine⟨F,(BA ds++[D.Bw true (kvs.map (·.1)) es]).map some++List.replicate (fn.G.N.length - fn.np) none,[a],⟨AI.BJ,?_,by simp,yV,fun b hb=>by rw[List.mem_singleton.mp hb];exact bO,fun b h=>h,fun b h=>.inl h,fun b xs h=>h.elim,fun b xs h=>h.elim,fun j b e1 e2=>?_⟩,?_⟩
  ·show BK K F H (start fn.G.N (ws++[.ref a])) _ [a]
   unfold start
   rw[DA]
   exact iG m0 _ AI.ws
  ·rw[Oz] at e1
   cases e1
   cases e2
   show (start fn.G.N (ws++[.ref a]))[fn.np - 1]? = _
   unfold start
   rw[<- OA,List.map_append,List.append_assoc,List.getElem?_append_right (by simp)]
   simp
  ·rw[Rf]
   cases r with
   | nx τ'=>
    obtain⟨p,Rg,hc⟩:=bw (show Bn (B6 (ae T n) true e τ') (Jc (fn.np - 1))=.ok _ from hc)
    refine⟨τ',rfl,?_⟩
    rw[Rg]
    intro Bz F' H' Jj HV v fv f' Hg m o
    unfold Jc at hc
    split at hc
    ·rename_i Lp S8 zs
     obtain⟨gs,hc⟩:=gk hc
     cases hc
     obtain⟨mo,hb⟩:=m.ow o
     obtain⟨l,Kw,g1,CW,hF,hH,MA,Rh,G8,Ri⟩:=jV mo.Cq zs gs
     have Jq:=mo.nm _ _ Oz rfl
     rw[CW] at Jq
     cases Jq
     refine q v HV Jj fv Kw ⟨Fk.Hh m o,hF,fun z=>?_,hH,MA,fun hs=>(Rh.read (S:=fun _=>True) (fun _ _=>trivial) fun _ _=>trivial).sc hs⟩
     exact(List.nodup_append.mp o.B2).2.2 _ z _ (Ri.mem_iff.mpr (List.mem_cons.mpr (.inl rfl))) rfl
    ·cases hc
   | bk _=>cases hc
   | ct _=>cases hc
   | rt _=>cases hc
theorem eK (t:DE K mg Z T):∀ (n:Nat),n < 900->(∀ (A:Around),Rm n A->∀ f∈Z.fns,(A.handled=none∨f∈Z.pl)->∀ x,Z.name f=some x->Gf P w K mg base (Co P w) A (ae T n) (Eb K) f x)/\
  ∀ (A:Around),Rm n A->∀ f∈Z.Dq,A.handled=none->∀ x,Z.name f=some x->Lh P w K mg base (Co P w) A (ae T n) f x
 | 0,h9=>by
  refine⟨fun A hr f hf hc x hx=>?_,fun A hr f hf hc x hx=>?_⟩
  ·obtain⟨fn,st,fa,fd,ps,h1,h2,h3,h4,h5⟩:=(t.fns f hf x hx).ex
   have no:∀ vs H Q E,¬ HL K (ae T 0) (Eb K) f ps vs H Q E:=fun vs H Q E ⟨_,_,F,ds,_,_,h⟩=>h
   exact⟨1000+0,fa,fd,ps,h3,h2.kp,h4,⟨fun vs H Q E h=>h.1,fun A outer s H args us vs Q E _ _ _ _ h=>(no _ _ _ _ h).elim⟩,hr.Hk h9,fun ex ds k h=>h.elim⟩
  ·obtain⟨fn,st,fa,fd,ps,h1,h2,h3,h4,h5⟩:=(t.Dq f hf x hx).ex
   have no:∀ vs H Q E,¬ J' K (ae T 0) f ps vs H Q E:=fun vs H Q E ⟨_,a,F,ws,ds,kvs,es,_,_,d,Ep,Dt,h,_⟩=>by cases h
   exact⟨0,fa,fd,ps,h3,h2.kp,h4,⟨fun vs H Q E h=>h.1,fun A outer s H args us vs Q E _ _ _ _ h=>(no _ _ _ _ h).elim⟩,hr.room h9 hc,fun ds r h=>by cases h⟩
 | n+1,h9=>by
  obtain⟨ih,GQ⟩:=eK t n (by omega)
  refine⟨fun A hr f hf hc x hx=>?_,fun A hr f hf hc x hx=>?_⟩
  ·obtain⟨fn,st,fa,fd,ps,h1,h2,h3,h4,h5⟩:=(t.fns f hf x hx).ex
   have hlen:∀ (ex:Str->Prop) ds (k:D->Prop),Bp ex (ae T (n+1) f ds) k->ds.length=ps.length:=fun ex ds k h=>by
    have Ds:ae T (n+1) f ds=cn (ae T n) fn ds:=by
     show (match T f with|some fn=>(match fn.io with|none=>cn (ae T n) fn ds|some e=>cp (ae T n) fn e ds)|none=>Bu)=_
     rw[h1]
     show (match fn.io with|none=>cn (ae T n) fn ds|some e=>cp (ae T n) fn e ds)=_
     rw[h5.pl]
    rw[Ds] at h
    obtain⟨gd,_⟩:=Bp.Bv h
    rw[of_decide_eq_true gd,h5.np]
   by_cases En:f∈Z.pl
   ·exact⟨1000+n+1,fa,fd,ps,h3,h2.kp,h4,gE t (k:=1000+n) (n:=n) (by omega) (by omega) h1 h2 h5 (.inr (t.FC f En fn h1)) ih GQ,hr.Hk h9,hlen⟩
   ·exact⟨n+1,fa,fd,ps,h3,h2.kp,h4,gE t (k:=n) (n:=n) (by omega) (by omega) h1 h2 h5 (.inl (by omega)) ih GQ,hr.room h9 (hc.elim id fun z=>absurd z En),hlen⟩
  ·obtain⟨fn,st,fa,fd,ps,h1,h2,h3,h4,h5⟩:=(t.Dq f hf x hx).ex
   obtain⟨e,F5,_⟩:=h5.ex
   refine⟨n+1,fa,fd,ps,h3,h2.kp,h4,nN t (k:=n) (n:=n) (by omega) (by omega) h1 h2 h5 (by omega) ih GQ,hr.room h9 hc,fun ds r h=>?_⟩
   have Ds:ae T (n+1) f ds=cp (ae T n) fn e ds:=by
    show (match T f with|some fn=>(match fn.io with|none=>cn (ae T n) fn ds|some e=>cp (ae T n) fn e ds)|none=>Bu)=_
    rw[h1]
    show (match fn.io with|none=>cn (ae T n) fn ds|some e=>cp (ae T n) fn e ds)=_
    rw[F5]
   rw[Ds] at h
   obtain⟨gd,_⟩:=gk h
   rw[of_decide_eq_true gd,h5.np]
theorem rJ (t:DE K mg Z T)(n:Nat)(hn:n < 900):∀ (A:Around),Rm n A->∀ f∈Z.fns,(A.handled=none∨f∈Z.pl)->∀ x,Z.name f=some x->Gf P w K mg base (Co P w) A (ae T n) (Eb K) f x:=(eK t n hn).1
end
section
variable {P:Program}{w:World}{K:PySem.W.Frag}{mg:Str->Option Value}{base:Heap}{Z:Sg}{T:Tb}
theorem Ee.fn {mg:Str->Option Value}{x:Str}{v v':V}(h:Ee mg x v)(h':Ee mg x v'):v=v':=by
 rcases h with ⟨C,rfl,h1⟩|⟨T,rfl,h1,h2⟩<;>rcases h' with ⟨C',rfl,k1⟩|⟨T',rfl,k1,k2⟩
 ·rw[h1] at k1;cases k1;rfl
 ·rw[h1] at k1;cases k1
 ·rw[h1] at k1;cases k1
 ·rw[h2] at k2;cases k2;rfl
noncomputable def Js (K:PySem.W.Frag)(cl:Nat->List D->Res D)(f:Nat)(ps:List Str):Sp:=fun vs H Q E=>vs.length=ps.length/\∃ F ds,Du F H/\Bo K F H vs ds/\
 Bp Ca (cl f (BA ds)) fun d=>∀ v H' F' fv,Out K F H F' H' v d fv->Q v H'
theorem nO {cl:Nat->List D->Res D}{k f:Nat}{fa:Addr}{fd:FuncData}{ps:List Str}(F:CJ P w K mg base (Co P w) k fa fd ps (HL K cl (Eb K) f ps)):CJ P w K mg base (Co P w) k fa fd ps (Js K cl f ps):=by
 refine⟨fun vs H Q E h=>h.1,fun A outer s H args us vs Q E hr e0 bd r DZ=>?_⟩
 obtain⟨hl,Fc,ds,BJ,m,q⟩:=DZ
 have e1:EA P w K mg base A outer s (ax s.heap H):=⟨e0.frames,e0.mod,fun b o e=>⟨(e0.bs b o e).1,aV (e0.bs b o e).2⟩,e0.Et,e0.B9,fun b hb=>aV (e0.DH b hb),jf e0.BD,e0.bare⟩
 have hq:Bp (Eb K E (ax s.heap H)) (cl f (BA ds)) fun d=>∀ v H' F' fv,Out K Fc H F' H' v d fv->Q v H':=by
  cases z:cl f (BA ds) with
  | ok d=>rw[z] at q;exact q
  | error er=>
   rw[z] at q
   cases er with
   | stuck=>exact q.no.elim
   | exc c=>exact False.elim q
 have hs:HL K cl (Eb K) f ps vs (ax s.heap H) (fun v H'=>Ea s.heap (ax s.heap H) H'->Q v (cq H H')) E:=
  ⟨hl,mW _ _,_,ds,fun a h=>h.2,gv e0.BD m,hq.mono fun d hd v H' F' fv o p=>hd v _ _ fv (gw e0.BD BJ p o)⟩
 refine codeAny_mono (F.run A outer s (ax s.heap H) args us vs _ E hr e1 bd r hs) fun r' s' hq=>?_
 cases r' with
 | error e=>exact gA e0.BD e0.DH hq
 | ok fl=>
  cases fl with
  | ret u=>
   obtain⟨v,H',a1,a2,a3,a4,a5,a6⟩:=hq
   exact⟨v,cq H H',a1,a2,jg e0.BD a3,gq e0.BD a4 (cX a3) (fs:=Cg outer) (fun b o _ e n f=>a3.keep b o e n f (by simp)) e0.DH,a5,a6 (cX a3)⟩
  | next=>exact hq
  | brk=>exact hq
  | cont=>exact hq
theorem wz (t:DE K mg Z T)(n:Nat)(hn:n < 900){f:Nat}{fn:Fn}{x:Str}{st:Stmt}{fa:Addr}{fd:FuncData}{ps:List Str}(h1:T f=some fn)(h2:G0 K x x st fa fd)(h5:Fb Z fn ps st):CJ P w K mg base (Co P w) (n+1) fa fd ps (Js K (ae T (n+1)) f ps):=
 nO (gE t (k:=n) (n:=n) (by omega) hn h1 h2 h5 (.inl (by omega)) (rJ t n hn) (eK t n hn).2)
theorem wA {f n:Nat}{x:Str}{a:Addr}{H:Hp}{ns:List Int}(hS:Ls K H a (ns.map V.int))(hl:ae T n f [.lst false (ns.map .int)]=.ok (.bl true)) :
  Js K (ae T n) f [x] [.ref a] H (fun v _=>v=.bl true) fun _ _ _=>False:=by
 have m:Bo K (fun a=>H a≠none) H [.ref a] [.lst false (ns.map .int)]:=by
  refine .cons ?_ .nil
  rcases hS with hS|hS
  ·exact .lst hS.some hS (Bo.ofInts ns)
  ·exact .lstK hS (Bo.ofInts ns)
 refine⟨rfl,fun a=>H a≠none,[.lst false (ns.map .int)],fun a h=>h,m,?_⟩
 have he:BA [.lst false (ns.map .int)]=[D.lst false (ns.map .int)]:=by
  rw[BA,BA,er,aZ,List.map_map]
  rfl
 rw[he,hl]
 intro v H' F' fv o
 cases o.rep
 rfl
theorem nP {l:PySem.W.OpenLaw}{q:Program}{loose:List Str}{XP:(Str->Option Value)->Heap->Prop}{YP:World->Heap->Prop}{d:DefRec}{K:Params->PySem.W.Frag}{T:Tb}{n f:Nat}{x:Str}(hn:l.most=some 63)(JL:d.params.defaults=[])(hr:Cs (n+1) callerA)
  (hY:∀ (w:World) (h:Heap),YP w h->(K w.params).In h)
  (F:∀ (w:World) (mg:Str->Option Value) (fa:Addr) (h:Heap),(K w.params).In h->h.Ns mainGlobals mg->mg d.name=some (.ref fa)->
   ∃ fd:FuncData,(∀ (s:Shared) (u:Value),BindsTo s fd ⟨[u],[]⟩ [(x,u)])/\∀ base:Heap,(K w.params).In base->base.Ns mainGlobals mg->CJ l.prog w (K w.params) mg base (Co l.prog w) (n+1) fa fd [x] (Js (K w.params) (ae T (n+1)) f [x]))
  (hl:∀ ns:List Int,ns.length<=63->ae T (n+1) f [.lst false (ns.map .int)]=.ok (.bl true)) :
  PySem.W.WalkO q loose XP YP l.row.toRowW d [] (fun f vs=>PySem.call f vs):=
 L2.qz (n:=63) (k:=n+1) (x:=x) (CX:=fun w=>Co l.prog w) (sp:=fun w=>Js (K w.params) (ae T (n+1)) f [x]) hn (by decide) JL hr hY F (fun w H a ns h1 _ hS=>wA hS (hl ns h1)) fun _ _ _ _ _ z=>gB z
end
namespace Ev
section
variable {α β:Type}{cl:Nat->List D->Res D}{τ:Ev}{mv:Bool}
theorem j8 {a:α}{f:α->Res β}:Bn (.ok a) f=f a:=rfl
theorem sF {x:Res α}:Bv true x=x:=rfl
theorem OB {d:D}:Bt cl (.c d) τ=.ok d:=rfl
theorem OC {n:Nat}{d:D}:Bt cl (.g n d) τ=.ok d:=rfl
theorem OD {i:Nat}:Bt cl (.v i) τ=(match ah τ i with|some d=>.ok d|none=>Bu):=rfl
noncomputable def yW (cl:Nat->List D->Res D)(op:FW)(b:IR)(τ:Ev)(x:D):Res D:=Bn (Bt cl b τ) (C4 op x)
theorem nQ {op:FW}{b:IR}{x:D}:yW cl op b τ x=Bn (Bt cl b τ) (C4 op x):=rfl
theorem sG {op:FW}{a b:IR}:Bt cl (.bin op a b) τ=Bn (Bt cl a τ) (yW cl op b τ):=rfl
noncomputable def MP (r:Bool):Res D:=.ok (.bl r)
theorem sH {r:Bool}:MP r=.ok (.bl r):=rfl
noncomputable def iH (op:Dx)(x y:D):Res D:=Bn (C9 op x y) MP
theorem j9 {op:Dx}{x y:D}:iH op x y=Bn (C9 op x y) MP:=rfl
noncomputable def yX (cl:Nat->List D->Res D)(op:Dx)(b:IR)(τ:Ev)(x:D):Res D:=Bn (Bt cl b τ) (iH op x)
theorem nR {op:Dx}{b:IR}{x:D}:yX cl op b τ x=Bn (Bt cl b τ) (iH op x):=rfl
theorem sI {op:Dx}{a b:IR}:Bt cl (.cmp op a b) τ=Bn (Bt cl a τ) (yX cl op b τ):=rfl
noncomputable def wB (cl:Nat->List D->Res D)(Cb:Dx)(c:IR)(τ:Ev)(y:D)(r:Bool):Res D:=if r=true then Bn (Bt cl c τ) (iH Cb y) else .ok (.bl false)
theorem nS {Cb:Dx}{c:IR}{y:D}{r:Bool}:wB cl Cb c τ y r=if r=true then Bn (Bt cl c τ) (iH Cb y) else .ok (.bl false):=rfl
noncomputable def wC (cl:Nat->List D->Res D)(op Cb:Dx)(c:IR)(τ:Ev)(x y:D):Res D:=Bn (C9 op x y) (wB cl Cb c τ y)
theorem nT {op Cb:Dx}{c:IR}{x y:D}:wC cl op Cb c τ x y=Bn (C9 op x y) (wB cl Cb c τ y):=rfl
noncomputable def OE (cl:Nat->List D->Res D)(op Cb:Dx)(b c:IR)(τ:Ev)(x:D):Res D:=Bn (Bt cl b τ) (wC cl op Cb c τ x)
theorem sJ {op Cb:Dx}{b c:IR}{x:D}:OE cl op Cb b c τ x=Bn (Bt cl b τ) (wC cl op Cb c τ x):=rfl
theorem ka {op Cb:Dx}{a b c:IR}:Bt cl (.chain op Cb a b c) τ=Bn (Bt cl a τ) (OE cl op Cb b c τ):=rfl
noncomputable def nU (cl:Nat->List D->Res D)(b:IR)(τ:Ev)(x:D)(r:Bool):Res D:=if r=true then Bt cl b τ else .ok x
theorem kb {b:IR}{x:D}{r:Bool}:nU cl b τ x r=if r=true then Bt cl b τ else .ok x:=rfl
noncomputable def yY (cl:Nat->List D->Res D)(b:IR)(τ:Ev)(x:D):Res D:=Bn (aB x) (nU cl b τ x)
theorem nV {b:IR}{x:D}:yY cl b τ x=Bn (aB x) (nU cl b τ x):=rfl
theorem sL {a b:IR}:Bt cl (.BV a b) τ=Bn (Bt cl a τ) (yY cl b τ):=rfl
noncomputable def wD (cl:Nat->List D->Res D)(b:IR)(τ:Ev)(x:D)(r:Bool):Res D:=if r=true then .ok x else Bt cl b τ
theorem nW {b:IR}{x:D}{r:Bool}:wD cl b τ x r=if r=true then .ok x else Bt cl b τ:=rfl
noncomputable def OF (cl:Nat->List D->Res D)(b:IR)(τ:Ev)(x:D):Res D:=Bn (aB x) (wD cl b τ x)
theorem sM {b:IR}{x:D}:OF cl b τ x=Bn (aB x) (wD cl b τ x):=rfl
theorem yZ {a b:IR}:Bt cl (.E0 a b) τ=Bn (Bt cl a τ) (OF cl b τ):=rfl
noncomputable def nX (r:Bool):Res D:=.ok (.bl !r)
theorem kc {r:Bool}:nX r=.ok (.bl !r):=rfl
noncomputable def y3 (x:D):Res D:=Bn (aB x) nX
theorem nY {x:D}:y3 x=Bn (aB x) nX:=rfl
theorem sN {a:IR}:Bt cl (.Ce a) τ=Bn (Bt cl a τ) y3:=rfl
noncomputable def tupK (ds:List D):Res D:=Bv (aQ ds.length) (.ok (.tup ds))
theorem nZ {ds:List D}:tupK ds=Bv (aQ ds.length) (.ok (.tup ds)):=rfl
theorem sO {es:List IR}:Bt cl (.tup es) τ=Bn (aI cl es τ) tupK:=rfl
noncomputable def lstK (ds:List D):Res D:=Bv (aQ ds.length) (.ok (.lst true ds))
theorem n6 {ds:List D}:lstK ds=Bv (aQ ds.length) (.ok (.lst true ds)):=rfl
theorem sP {es:List IR}:Bt cl (.lst es) τ=Bn (aI cl es τ) lstK:=rfl
noncomputable def y9 (cl:Nat->List D->Res D)(i:IR)(τ:Ev)(x:D):Res D:=Bn (Bt cl i τ) (aK x)
theorem n8 {i:IR}{x:D}:y9 cl i τ x=Bn (Bt cl i τ) (aK x):=rfl
theorem sQ {a i:IR}:Bt cl (.idx a i) τ=Bn (Bt cl a τ) (y9 cl i τ):=rfl
noncomputable def wF (cl:Nat->List D->Res D)(hi:Option IR)(τ:Ev)(x:D)(l:Option Int):Res D:=Bn (gj cl hi τ) (gc x l)
theorem og {hi:Option IR}{x:D}{l:Option Int}:wF cl hi τ x l=Bn (gj cl hi τ) (gc x l):=rfl
noncomputable def OG (cl:Nat->List D->Res D)(lo hi:Option IR)(τ:Ev)(x:D):Res D:=Bn (gj cl lo τ) (wF cl hi τ x)
theorem sR {lo hi:Option IR}{x:D}:OG cl lo hi τ x=Bn (gj cl lo τ) (wF cl hi τ x):=rfl
theorem za {a:IR}{lo hi:Option IR}:Bt cl (.sl a lo hi) τ=Bn (Bt cl a τ) (OG cl lo hi τ):=rfl
noncomputable def sS (cl:Nat->List D->Res D)(f:Nat)(ds:List D):Res D:=cl f (BA ds)
theorem ke {f:Nat}{ds:List D}:sS cl f ds=cl f (BA ds):=rfl
theorem oh {f:Nat}{es:List IR}:Bt cl (.call f es) τ=Bn (aI cl es τ) (sS cl f):=rfl
theorem zb {f:Bi}{es:List IR}:Bt cl (.bi f es) τ=Bn (aI cl es τ) (cH f):=rfl
noncomputable def zd (k:Kd)(x:D):Res D:=Bv (dt x) (.ok (.bl (aU k x)))
theorem oj {k:Kd}{x:D}:zd k x=Bv (dt x) (.ok (.bl (aU k x))):=rfl
theorem ze:dt .By=true:=rfl
theorem zf {b:Bool}:dt (.bl b)=true:=rfl
theorem zg {i:Int}:dt (.int i)=true:=rfl
theorem zh {x:Str}:dt (.str x)=true:=rfl
theorem zi {ds:List D}:dt (.tup ds)=true:=rfl
theorem zj {o:Bool}{ds:List D}:dt (.lst o ds)=true:=rfl
theorem om {a:IR}:Bt cl (.C3 a) τ=Bn (Bt cl a τ) qR:=rfl
theorem zk {o:Bool}{ds:List D}:qR (.lst o ds)=.ok (.lst true ds.reverse):=rfl
theorem oq:Bt cl .Dy τ=.ok (.Bw true [] []):=rfl
noncomputable def sT (cl:Nat->List D->Res D)(k:IR)(τ:Ev)(x:D):Res D:=Bn (Bt cl k τ) (hU x)
theorem kg {k:IR}{x:D}:sT cl k τ x=Bn (Bt cl k τ) (hU x):=rfl
theorem ou {a k:IR}:Bt cl (.C2 a k) τ=Bn (Bt cl a τ) (sT cl k τ):=rfl
noncomputable def wG (n:Bool)(y x:D):Res D:=hW n x y
theorem ox {n o:Bool}{x:Str}{ks:List Key}{ds:List D}:wG n (.str x) (.Bw o ks ds)=.ok (.bl (n != (look ks ds (.inr x)).isSome)):=rfl
noncomputable def zl (cl:Nat->List D->Res D)(n:Bool)(a:IR)(τ:Ev)(y:D):Res D:=Bn (Bt cl a τ) (wG n y)
theorem oy {n:Bool}{a:IR}{y:D}:zl cl n a τ y=Bn (Bt cl a τ) (wG n y):=rfl
theorem sU {n:Bool}{k a:IR}:Bt cl (.G4 n k a) τ=Bn (Bt cl k τ) (zl cl n a τ):=rfl
theorem sV {a:IR}{k:Kd}:Bt cl (.Cp a k) τ=Bn (Bt cl a τ) (zd k):=rfl
noncomputable def wH (ds:List D):Res D:=.ok (.lst true ds)
theorem oz {ds:List D}:wH ds=.ok (.lst true ds):=rfl
noncomputable def sW (cl:Nat->List D->Res D)(G:Gm)(fr:List Nat)(T:Tg)(I:List IR)(E:IR)(τ:Ev)(its:List D):Res D:=Bv (bF its.length) (Bn (Dc (aR (bB cl T I E (EL G fr τ)) its)) wH)
theorem kh {G:Gm}{fr:List Nat}{T:Tg}{I:List IR}{E:IR}{its:List D}:sW cl G fr T I E τ its=Bv (bF its.length) (Bn (Dc (aR (bB cl T I E (EL G fr τ)) its)) wH):=rfl
theorem oA {G:Gm}{fr:List Nat}{T:Tg}{s:Sr}{I:List IR}{E:IR}:Bt cl (.comp G fr T s I E) τ=Bn (bZ cl s τ) (sW cl G fr T I E τ):=rfl
theorem zm:aI cl [] τ=.ok []:=rfl
noncomputable def oB (d:D)(ds:List D):Res (List D):=.ok (d::ds)
theorem ki {d:D}{ds:List D}:oB d ds=.ok (d::ds):=rfl
noncomputable def OH (cl:Nat->List D->Res D)(es:List IR)(τ:Ev)(d:D):Res (List D):=Bn (aI cl es τ) (oB d)
theorem sX {es:List IR}{d:D}:OH cl es τ d=Bn (aI cl es τ) (oB d):=rfl
theorem zo {e:IR}{es:List IR}:aI cl (e::es) τ=Bn (Bt cl e τ) (OH cl es τ):=rfl
noncomputable def zp:D->Res (Option Int)
 | .int i=>.ok (some i)
 | _=>Bu
theorem oC {i:Int}:zp (.int i)=.ok (some i):=rfl
theorem zq:gj cl none τ=.ok none:=rfl
theorem zr {e:IR}:gj cl (some e) τ=Bn (Bt cl e τ) zp:=rfl
theorem zt:cL cl [] τ=.ok true:=rfl
noncomputable def OI (cl:Nat->List D->Res D)(es:List IR)(τ:Ev)(r:Bool):Res Bool:=if r=true then cL cl es τ else .ok false
theorem sY {es:List IR}{r:Bool}:OI cl es τ r=if r=true then cL cl es τ else .ok false:=rfl
theorem zu {e:IR}{es:List IR}:cL cl (e::es) τ=Bn (Bn (Bt cl e τ) aB) (OI cl es τ):=rfl
noncomputable def sZ:D->Res (List D)
 | .int i=>Bv (bA i) (.ok (bu 0 i))
 | _=>Bu
theorem kj {i:Int}:sZ (.int i)=Bv (bA i) (.ok (bu 0 i)):=rfl
theorem zv {n:IR}:bZ cl (.Cf n) τ=Bn (Bt cl n τ) sZ:=rfl
noncomputable def zw (cl:Nat->List D->Res D)(τ:Ev)(b:IR)(x:D):Res (List D):=Bn (Bt cl b τ) fun y=>qQ x y
noncomputable def oD (x y:D):Res (List D):=qQ x y
theorem oE {b:IR}{x:D}:zw cl τ b x=Bn (Bt cl b τ) (oD x):=rfl
theorem iI {o o':Bool}{ds es:List D}:oD (.lst o ds) (.lst o' es)=.ok (dv ds es):=rfl
theorem iJ {ds es:List D}:oD (.tup ds) (.tup es)=.ok (dv ds es):=rfl
theorem oF {o:Bool}{ds:List D}:qO (.lst o ds)=.ok (ej ds):=rfl
theorem tf {a:IR}:bZ cl (.D9 a) τ=Bn (Bt cl a τ) qO:=rfl
theorem oG {o:Bool}{ds:List D}:qP (.lst o ds)=.ok ds.reverse:=rfl
theorem tj {a:IR}:bZ cl (.rev a) τ=Bn (Bt cl a τ) qP:=rfl
theorem tm {a b:IR}:bZ cl (.zip a b) τ=Bn (Bt cl a τ) (zw cl τ b):=rfl
theorem tq {e:IR}:bZ cl (.val e) τ=Bn (Bt cl e τ) du:=rfl
theorem zx {o:Bool}{ds:List D}:du (.lst o ds)=.ok ds:=rfl
theorem zA {ds:List D}:du (.tup ds)=.ok ds:=rfl
theorem zB {x:Str}:du (.str x)=Bv (aQ x.length) (.ok (bh x)):=rfl
theorem OJ {t:IR}:J4 cl t τ=Bn (Bt cl t τ) aB:=rfl
theorem Ll {i:Nat}:B6 cl mv (.v i) τ=(match ah τ i with|some d=>if mv=true then .ok (d,τ.set i none) else .ok (er d,τ.set i (some (er d)))|none=>Bu):=rfl
noncomputable def tu (p:List D×Ev):Res (D×Ev):=Bv (aQ p.1.length) (.ok (.tup p.1,p.2))
theorem kl {p:List D×Ev}:tu p=Bv (aQ p.1.length) (.ok (.tup p.1,p.2)):=rfl
theorem E7 {es:List IR}:B6 cl mv (.tup es) τ=Bn (ek cl mv es τ) tu:=rfl
noncomputable def tx (p:List D×Ev):Res (D×Ev):=Bv (aQ p.1.length) (.ok (.lst true p.1,p.2))
theorem km {p:List D×Ev}:tx p=Bv (aQ p.1.length) (.ok (.lst true p.1,p.2)):=rfl
theorem E8 {es:List IR}:B6 cl mv (.lst es) τ=Bn (ek cl mv es τ) tx:=rfl
noncomputable def gF (es:List IR)(τ:Ev)(d:D):Res (D×Ev):=if ao d=true then .ok (d,τ) else .ok (d,BI (av es) τ)
theorem fJ {es:List IR}{d:D}:gF es τ d=if ao d=true then .ok (d,τ) else .ok (d,BI (av es) τ):=rfl
noncomputable def oH (cl:Nat->List D->Res D)(f:Nat)(es:List IR)(τ:Ev)(ds:List D):Res (D×Ev):=Bn (cl f (BA ds)) (gF es τ)
theorem iK {f:Nat}{es:List IR}{ds:List D}:oH cl f es τ ds=Bn (cl f (BA ds)) (gF es τ):=rfl
theorem DQ {f:Nat}{es:List IR}:B6 cl mv (.call f es) τ=Bn (aI cl es τ) (oH cl f es τ):=rfl
noncomputable def cy (e:IR)(τ:Ev)(d:D):Res (D×Ev):=.ok (aA e d τ)
theorem kn {e:IR}{d:D}:cy e τ d=.ok (aA e d τ):=rfl
theorem OK {d:D}:B6 cl mv (.c d) τ=Bn (Bt cl (.c d) τ) (cy (.c d) τ):=rfl
theorem tD {op:FW}{a b:IR}:B6 cl mv (.bin op a b) τ=Bn (Bt cl (.bin op a b) τ) (cy (.bin op a b) τ):=rfl
theorem tF {op:Dx}{a b:IR}:B6 cl mv (.cmp op a b) τ=Bn (Bt cl (.cmp op a b) τ) (cy (.cmp op a b) τ):=rfl
theorem tG {a b:IR}:B6 cl mv (.BV a b) τ=Bn (Bt cl (.BV a b) τ) (cy (.BV a b) τ):=rfl
theorem tJ {a i:IR}:B6 cl mv (.idx a i) τ=Bn (Bt cl (.idx a i) τ) (cy (.idx a i) τ):=rfl
theorem zC {a:IR}{lo hi:Option IR}:B6 cl mv (.sl a lo hi) τ=Bn (Bt cl (.sl a lo hi) τ) (cy (.sl a lo hi) τ):=rfl
theorem zD {f:Bi}{es:List IR}:B6 cl mv (.bi f es) τ=Bn (Bt cl (.bi f es) τ) (cy (.bi f es) τ):=rfl
theorem oI {a:IR}:B6 cl mv (.C3 a) τ=Bn (Bt cl (.C3 a) τ) (cy (.C3 a) τ):=rfl
theorem oJ {a k:IR}:B6 cl mv (.C2 a k) τ=Bn (Bt cl (.C2 a k) τ) (cy (.C2 a k) τ):=rfl
theorem oK {G:Gm}{fr:List Nat}{T:Tg}{s:Sr}{I:List IR}{E:IR}:B6 cl mv (.comp G fr T s I E) τ=Bn (Bt cl (.comp G fr T s I E) τ) (cy (.comp G fr T s I E) τ):=rfl
theorem zE:ek cl mv [] τ=.ok ([],τ):=rfl
noncomputable def wI (d:D)(q:List D×Ev):Res (List D×Ev):=.ok (d::q.1,q.2)
theorem oM {d:D}{q:List D×Ev}:wI d q=.ok (d::q.1,q.2):=rfl
noncomputable def OL (cl:Nat->List D->Res D)(mv:Bool)(es:List IR)(p:D×Ev):Res (List D×Ev):=Bn (ek cl mv es p.2) (wI p.1)
theorem tK {es:List IR}{p:D×Ev}:OL cl mv es p=Bn (ek cl mv es p.2) (wI p.1):=rfl
theorem zF {e:IR}{es:List IR}:ek cl mv (e::es) τ=Bn (B6 cl mv e τ) (OL cl mv es):=rfl
noncomputable def MQ (d:D):Res (Option D):=.ok (some d)
theorem tL {d:D}:MQ d=.ok (some d):=rfl
noncomputable def wJ (cl:Nat->List D->Res D)(E:IR)(τ:Ev)(r:Bool):Res (Option D):=if r=true then Bn (Bt cl E τ) MQ else .ok none
theorem oN {E:IR}{r:Bool}:wJ cl E τ r=if r=true then Bn (Bt cl E τ) MQ else .ok none:=rfl
noncomputable def OM (cl:Nat->List D->Res D)(I:List IR)(E:IR)(τ:Ev):Res (Option D):=Bn (cL cl I τ) (wJ cl E τ)
theorem tM {I:List IR}{E:IR}:OM cl I E τ=Bn (cL cl I τ) (wJ cl E τ):=rfl
theorem ko {T:Tg}{I:List IR}{E:IR}{x:D}:bB cl T I E τ x=Bn (br T x τ) (OM cl I E):=rfl
theorem oO {G:Gm}{fr:List Nat}:EL G fr τ=fr.map (ah τ)++List.replicate (G.N.length - fr.length) none:=rfl
theorem ON {e:IR}{i:Int}:aA e (.int i) τ=(.int i,τ):=rfl
theorem OO {e:IR}{x:Str}:aA e (.str x) τ=(.str x,τ):=rfl
theorem OP {e:IR}{b:Bool}:aA e (.bl b) τ=(.bl b,τ):=rfl
theorem OQ {e:IR}:aA e .By τ=(.By,τ):=rfl
noncomputable def MR (τ':Ev):Res Fl:=.ok (.nx τ')
theorem tO:MR τ=.ok (.nx τ):=rfl
noncomputable def zG (tg:Tg)(p:D×Ev):Res Fl:=Bn (br tg p.1 p.2) MR
theorem oP {tg:Tg}{p:D×Ev}:zG tg p=Bn (br tg p.1 p.2) MR:=rfl
theorem DR {tg:Tg}{e:IR}:Cz cl (.asg tg e) τ=Bn (B6 cl false e τ) (zG tg):=rfl
noncomputable def wK (i:Nat)(p:D×Ev):Option D->Res Fl
 | some (.lst true ds)=>Bv (bF ds.length) (.ok (.nx (p.2.set i (some (.lst true (ds++[p.1]))))))
 | _=>Bu
noncomputable def wL (i:Nat)(p:D×Ev):Res Fl:=wK i p (ah p.2 i)
theorem oQ {i:Nat}{p:D×Ev}:wL i p=wK i p (ah p.2 i):=rfl
noncomputable def zH (cl:Nat->List D->Res D)(i:Nat)(e:IR)(τ:Ev):Option D->Res Fl
 | some (.lst _ _)=>Bn (B6 cl false e τ) (wL i)
 | _=>Bu
theorem oR {i:Nat}{e:IR}{o:Bool}{ds:List D}:zH cl i e τ (some (.lst o ds))=Bn (B6 cl false e τ) (wL i):=rfl
theorem oS {i:Nat}{p:D×Ev}{ds:List D}:wK i p (some (.lst true ds))=Bv (bF ds.length) (.ok (.nx (p.2.set i (some (.lst true (ds++[p.1])))))):=rfl
noncomputable def rK (i:Nat)(p:D×Ev)(z:Int):Option D->Res Fl
 | some (.lst true ds)=>Bv (decide (0<=z/\z.toNat<=ds.length)&&bF ds.length) (.ok (.nx (p.2.set i (some (.lst true (ds.take z.toNat++p.1::ds.drop z.toNat))))))
 | _=>Bu
theorem oT {i:Nat}{p:D×Ev}{z:Int}{ds:List D}:rK i p z (some (.lst true ds))=Bv (decide (0<=z/\z.toNat<=ds.length)&&bF ds.length) (.ok (.nx (p.2.set i (some (.lst true (ds.take z.toNat++p.1::ds.drop z.toNat)))))):=rfl
noncomputable def wM (i:Nat):D->D×Ev->Res Fl
 | .int z,p=>rK i p z (ah p.2 i)
 | _,_=>Bu
theorem oU {i:Nat}{z:Int}{p:D×Ev}:wM i (.int z) p=rK i p z (ah p.2 i):=rfl
noncomputable def wN (cl:Nat->List D->Res D)(i:Nat)(e:IR)(τ:Ev)(y:D):Res Fl:=Bn (B6 cl false e τ) (wM i y)
theorem oV {i:Nat}{e:IR}{y:D}:wN cl i e τ y=Bn (B6 cl false e τ) (wM i y):=rfl
noncomputable def zI (cl:Nat->List D->Res D)(i:Nat)(k e:IR)(τ:Ev):Option D->Res Fl
 | some (.lst _ _)=>Bn (Bt cl k τ) (wN cl i e τ)
 | _=>Bu
theorem oW {i:Nat}{k e:IR}{o:Bool}{ds:List D}:zI cl i k e τ (some (.lst o ds))=Bn (Bt cl k τ) (wN cl i e τ):=rfl
theorem DS {i:Nat}{k e:IR}:Cz cl (.ins i k e) τ=zI cl i k e τ (ah τ i):=by
 show (match ah τ i with|some (.lst _ _)=>(Bn (Bt cl k τ) fun y=>Bn (B6 cl false e τ) fun p=>(match y,ah p.2 i with|.int z,some (.lst true ds)=>Bv (decide (0<=z/\z.toNat<=ds.length)&&bF ds.length) (.ok (Fl.nx (p.2.set i (some (.lst true (ds.take z.toNat++p.1::ds.drop z.toNat))))))|_,_=>Bu))|_=>Bu)=_
 cases ah τ i with
 | none=>rfl
 | some d=>
  cases d with
  | lst o ds=>
   refine congrArg (Bn (Bt cl k τ)) (funext fun y=>congrArg (Bn (B6 cl false e τ)) (funext fun p=>?_))
   cases y with
   | int z=>
    show (match D.int z,ah p.2 i with|.int z,some (.lst true ds)=>Bv (decide (0<=z/\z.toNat<=ds.length)&&bF ds.length) (.ok (.nx (p.2.set i (some (.lst true (ds.take z.toNat++p.1::ds.drop z.toNat))))))|_,_=>Bu)=rK i p z (ah p.2 i)
    cases ah p.2 i with
    | none=>rfl
    | some d2=>cases d2<;>first|rfl|(rename_i b _;cases b<;>rfl)
   | _=>rfl
  | _=>rfl
noncomputable def kq (cl:Nat->List D->Res D)(i:Nat)(k:IR)(τ:Ev)(d:D):Option D->Res Fl
 | some (.Bw true ks ds)=>Bn (Bt cl k τ) fun y=>(match ck y with|some q=>Bv (ao d&&ai ds&&bF ks.length) (.ok (.nx (τ.set i (some (.Bw true (cS ks q) (cb ks ds q d))))))|none=>Bu)
 | _=>Bu
theorem gG {i:Nat}{k:IR}{d:D}{ks:List Key}{ds:List D}{x:Str}(h:Bt cl k τ=.ok (.str x))(hl:(ao d&&ai ds&&bF ks.length)=true):kq cl i k τ d (some (.Bw true ks ds))=.ok (.nx (τ.set i (some (.Bw true (cS ks (.inr x)) (cb ks ds (.inr x) d))))):=by
 show (Bn (Bt cl k τ) fun y=>(match ck y with|some q=>Bv (ao d&&ai ds&&bF ks.length) (.ok (Fl.nx (τ.set i (some (.Bw true (cS ks q) (cb ks ds q d))))))|none=>Bu))=_
 rw[h]
 show Bv _ _=_
 rw[hl]
 rfl
noncomputable def tP (cl:Nat->List D->Res D)(i:Nat)(k:IR)(τ:Ev)(d:D):Res Fl:=kq cl i k τ d (ah τ i)
theorem kr {i:Nat}{k:IR}{d:D}:tP cl i k τ d=kq cl i k τ d (ah τ i):=rfl
theorem Dg {i:Nat}{k e:IR}:Cz cl (.EH i k e) τ=Bn (Bt cl e τ) (tP cl i k τ):=rfl
noncomputable def zJ (cl:Nat->List D->Res D)(f:Nat)(ds:List D):Res Fl:=Bn (Dc (cl f (BA ds++[.Bw false [] []]))) jd
theorem oX {f:Nat}{ds:List D}:zJ cl f ds=Bn (Dc (cl f (BA ds++[.Bw false [] []]))) jd:=rfl
theorem oY {d:D}{ks:List Key}{vs:List D}:jd (.tup [d,.Bw false ks vs])=Bv (ai vs) (.ok (.rt d)):=rfl
theorem DT {f:Nat}{es:List IR}:Cz cl (.Jb f es) τ=Bn (aI cl es τ) (zJ cl f):=rfl
theorem DU {i:Nat}{e:IR}:Cz cl (.app i e) τ=zH cl i e τ (ah τ i):=rfl
noncomputable def zK (τ:Ev)(d:D):Res Fl:=.ok (.nx τ)
theorem oZ {d:D}:zK τ d=.ok (.nx τ):=rfl
theorem DW {e:IR}:Cz cl (.exp e) τ=Bn (Bt cl e τ) (zK τ):=rfl
noncomputable def OR (p:D×Ev):Res Fl:=.ok (.rt p.1)
theorem tQ {p:D×Ev}:OR p=.ok (.rt p.1):=rfl
theorem DV {e:IR}:Cz cl (.ret e) τ=Bn (B6 cl true e τ) OR:=rfl
noncomputable def OS (cl:Nat->List D->Res D)(a b:List IS)(τ:Ev)(r:Bool):Res Fl:=if r=true then aH cl a τ else aH cl b τ
theorem tT {a b:List IS}{r:Bool}:OS cl a b τ r=if r=true then aH cl a τ else aH cl b τ:=rfl
theorem o4 {n:Nat}{c w:Str}:Cz cl (.CS n c w) τ=.error (.exc c):=rfl
noncomputable def zL (c:Str)(d:D):Res Fl:=.error (.exc c)
theorem o5 {c:Str}{d:D}:zL c d=.error (.exc c):=rfl
theorem ku {n:Nat}{c:Str}{e:IR}:Cz cl (.CT n c e) τ=Bn (Dc (Bt cl e τ)) (zL c):=rfl
theorem tU {x:Str}{a:IR}{y:Option Str}:Bt cl (.HJ x a y) τ=Bn (Bt cl a τ) (qS x y):=rfl
theorem tV {x:Str}{y:Option Str}{z:Str}:qS x y (.str z)=Bv (aQ (x.length+(reprText z).length+(y.getD Str.empty).length)) (.ok (.str (x++reprText z++y.getD Str.empty))):=rfl
theorem tX {α β:Type}{c:Str}{f:α->Res β}:Bn (.error (.exc c)) f=.error (.exc c):=rfl
theorem E9 {t:IR}{a b:List IS}:Cz cl (.BM t a b) τ=Bn (J4 cl t τ) (OS cl a b τ):=rfl
noncomputable def turn (cl:Nat->List D->Res D)(tg:Tg)(body:List IS)(x:D)(τ:Ev):Res Fl:=Bn (br tg x τ) (aH cl body)
theorem aD {tg:Tg}{body:List IS}{x:D}:turn cl tg body x τ=Bn (br tg x τ) (aH cl body):=rfl
noncomputable def zM (cl:Nat->List D->Res D)(tg:Tg)(body:List IS)(p:List D×Ev):Res Fl:=forM (turn cl tg body) p.1 p.2
theorem o6 {tg:Tg}{body:List IS}{p:List D×Ev}:zM cl tg body p=forM (turn cl tg body) p.1 p.2:=rfl
theorem DX {tg:Tg}{s:Sr}{body:List IS}:Cz cl (.BP tg s body) τ=Bn (ia cl s τ) (zM cl tg body):=rfl
noncomputable def wO (f:Ev->Res Fl):Fl->Res Fl
 | .nx τ'=>f τ'
 | .ct τ'=>.ok (.ct τ')
 | .bk τ'=>.ok (.bk τ')
 | .rt d=>.ok (.rt d)
theorem zN:aH cl [] τ=.ok (.nx τ):=rfl
theorem zO {s:IS}{r:List IS}:aH cl (s::r) τ=Bn (Cz cl s τ) (wO (aH cl r)):=rfl
theorem tY {f:Ev->Res Fl}:wO f (.nx τ)=f τ:=rfl
theorem tZ {f:Ev->Res Fl}{d:D}:wO f (.rt d)=.ok (.rt d):=rfl
noncomputable def zP (τ:Ev)(its:List D):Res (List D×Ev):=.ok (its,τ)
theorem o7 {its:List D}:zP τ its=.ok (its,τ):=rfl
noncomputable def o8 (e:IR)(τ:Ev)(its:List D):Res (List D×Ev):=.ok (BA its,BI (vars e) τ)
theorem kx {e:IR}{its:List D}:o8 e τ its=.ok (BA its,BI (vars e) τ):=rfl
theorem t4 {n:IR}:ia cl (.Cf n) τ=Bn (bZ cl (.Cf n) τ) (zP τ):=rfl
theorem t5 {e:IR}:ia cl (.rev e) τ=Bn (bZ cl (.rev e) τ) (o8 e τ):=rfl
theorem t6 {e:IR}:ia cl (.val e) τ=Bn (bZ cl (.val e) τ) (o8 e τ):=rfl
noncomputable def wQ (body:D->Ev->Res Fl)(xs:List D):Fl->Res Fl
 | .nx τ'=>forM body xs τ'
 | .ct τ'=>forM body xs τ'
 | .bk τ'=>.ok (.nx τ')
 | .rt d=>.ok (.rt d)
theorem t7 {body:D->Ev->Res Fl}:forM body [] τ=.ok (.nx τ):=rfl
theorem cg {body:D->Ev->Res Fl}{x:D}{xs:List D}:forM body (x::xs) τ=Bn (body x τ) (wQ body xs):=rfl
theorem t9 {body:D->Ev->Res Fl}{xs:List D}:wQ body xs (.nx τ)=forM body xs τ:=rfl
theorem ua {body:D->Ev->Res Fl}{xs:List D}{d:D}:wQ body xs (.rt d)=.ok (.rt d):=rfl
theorem zQ {i:Nat}{d:D}:br (.nm i) d τ=.ok (τ.set i (some d)):=rfl
theorem zR {ts:List Tg}{ds:List D}:br (.tp ts) (.tup ds) τ=Bv (decide (ds.length=ts.length)) (cT ts ds τ):=rfl
theorem ub:cT [] [] τ=.ok τ:=rfl
theorem uc {t:Tg}{ts:List Tg}{d:D}{ds:List D}:cT (t::ts) (d::ds) τ=Bn (br t d τ) (cT ts ds):=rfl
theorem zS {o:Option D}:ah (o::τ) 0=o:=by unfold ah;simp
theorem zT {o:Option D}{i:Nat}:ah (o::τ) (i+1)=ah τ i:=bo
theorem ud {o p:Option D}:(o::τ).set 0 p=p::τ:=rfl
theorem ue {o p:Option D}{i:Nat}:(o::τ).set (i+1) p=o::τ.set i p:=rfl
theorem uf {a b:Int}:C4 .add (.int a) (.int b)=.ok (.int (a+b)):=rfl
theorem jt {a b:Str}:C4 .add (.str a) (.str b)=Bv (aQ (a.length+b.length)) (.ok (.str (a++b))):=rfl
theorem o9 {o o':Bool}{a b:List D}:C4 .add (.lst o a) (.lst o' b)=Bv (aQ (a.length+b.length)) (.ok (.lst true (a++b))):=rfl
theorem ug {a b:Int}:C4 .sub (.int a) (.int b)=.ok (.int (a - b)):=rfl
theorem uh {a b:Int}:C4 .mul (.int a) (.int b)=Bv (decide (-(2 ^ 64) < a/\a < 2 ^ 64)||decide (-(2 ^ 64) < b/\b < 2 ^ 64)) (.ok (.int (a*b))):=rfl
theorem pd {a:Str}{b:Int}:C4 .mul (.str a) (.int b)=Bv (decide (-16000<=b/\b<=16000/\a.length<=1000)) (.ok (.str (Txt.mul a b))):=rfl
theorem wR {a b:Int}:C4 .fdiv (.int a) (.int b)=Bv (decide (0 < b/\b < 1073741824)) (.ok (.int (a / b))):=rfl
theorem zU {a b:Int}:C4 .mod (.int a) (.int b)=Bv (decide (0 < b)) (.ok (.int (a % b))):=rfl
theorem ui {a b:Int}:C4 .pow (.int a) (.int b)=Bv (decide (0<=b/\b<=1000000/\a.natAbs < 2 ^ 64)) (.ok (.int (a ^ b.toNat))):=rfl
theorem OT {o:Bool}{ds:List D}{i:Int}:aK (.lst o ds) (.int i)=(match Dm ds i with|some d=>.ok d|none=>Bu):=rfl
theorem Rj {z:Str}{i:Int}:aK (.str z) (.int i)=Bv (aQ z.length) (match Dm z.cps.toList i with|some c=>.ok (.str ⟨#[c]⟩)|none=>Bu):=rfl
theorem wU {o:Bool}{ds:List D}{lo hi:Option Int}:gc (.lst o ds) lo hi=.ok (.lst true (lq ds lo hi)):=rfl
theorem zV {z:Str}{lo hi:Option Int}:gc (.str z) lo hi=Bv (aQ z.length) (.ok (.str (Txt.slice z lo hi))):=rfl
theorem zW {b:Bool}:aB (.bl b)=.ok b:=rfl
theorem zX {a b:D}:C9 .eq a b=Cm 40 a b:=by cases a<;>cases b<;>rfl
noncomputable def zY (r:Bool):Res Bool:=.ok !r
theorem pf {r:Bool}:zY r=.ok !r:=rfl
theorem zZ {a b:D}:C9 .ne a b=Bn (Cm 40 a b) zY:=by cases a<;>cases b<;>rfl
theorem Aa {n:Nat}{a b:Int}:Cm (n+1) (.int a) (.int b)=.ok (a == b):=rfl
theorem Ab {n:Nat}{a b:Str}:Cm (n+1) (.str a) (.str b)=.ok (a == b):=rfl
theorem Ac {n:Nat}{a b:Bool}:Cm (n+1) (.bl a) (.bl b)=.ok (a == b):=rfl
theorem Ad {n:Nat}{a b:List D}:Cm (n+1) (.tup a) (.tup b)=bQ (Cm n) a b:=rfl
theorem Ae {n:Nat}{o o':Bool}{a b:List D}:Cm (n+1) (.lst o a) (.lst o' b)=bQ (Cm n) a b:=rfl
theorem Af {a b:Int}:C9 .lt (.int a) (.int b)=.ok (decide (a < b)):=rfl
theorem Ag {a b:Int}:C9 .le (.int a) (.int b)=.ok (decide (a<=b)):=rfl
theorem Ah {a b:Int}:C9 .gt (.int a) (.int b)=.ok (decide (b < a)):=rfl
theorem uj {y x:Str}:C9 .EY (.str y) (.str x)=.ok (hJ x y):=rfl
theorem Ai {a:D}:C9 .EZ a .By=.ok (bK a):=by cases a<;>rfl
theorem uk {a:D}:C9 .Fz a .By=.ok (!bK a):=by cases a<;>rfl
theorem OU:bK .By=true:=rfl
theorem OV {i:Int}:bK (.int i)=false:=rfl
theorem OW {i:Str}:bK (.str i)=false:=rfl
theorem OX {b:Bool}:bK (.bl b)=false:=rfl
theorem OY {ds:List D}:bK (.tup ds)=false:=rfl
theorem OZ {o:Bool}{ds:List D}:bK (.lst o ds)=false:=rfl
theorem um {x:Str}:cH .len [.str x]=Bv (aQ x.length) (.ok (.int x.length)):=rfl
theorem uo {ds:List D}:cH .len [.tup ds]=.ok (.int ds.length):=rfl
theorem uq {o:Bool}{ds:List D}:cH .len [.lst o ds]=.ok (.int ds.length):=rfl
theorem ph {x:Str}:cH .ord [.str x]=Bv (decide (x.length=1)) (.ok (.int (x.cps.getD 0 0:Nat))):=rfl
theorem ky {o:Bool}{ds:List D}:cH .tuple [.lst o ds]=.ok (.tup ds):=rfl
theorem rL (ns:List Bool):bz (ns.map .bl)=some ns:=by
 induction ns with
 | nil=>rfl
 | cons n ns ih=>
  show (bz (ns.map .bl)).map (n::·)=_
  rw[ih]
  rfl
theorem pj {o:Bool}{bs:List Bool}:cH .all [.lst o (bs.map .bl)]=.ok (.bl (bs.all id)):=by
 show (match bz (bs.map .bl) with|some bs=>.ok (.bl (bs.all id))|none=>Bu)=(_:Res D)
 rw[rL]
theorem pk {x:Str}:aU .str (.str x)=true:=rfl
theorem pq {x:Int}:aU .int (.int x)=true:=rfl
theorem pA {x:Int}:aU .bool (.int x)=false:=rfl
theorem pB {x:List D}:aU .tuple (.tup x)=true:=rfl
theorem iL {i:Int}:aU .str (.int i)=false:=rfl
theorem iM {ds:List D}:aU .str (.tup ds)=false:=rfl
theorem iN {o:Bool}{ds:List D}:aU .str (.lst o ds)=false:=rfl
theorem iO {ds:List D}:aU .int (.tup ds)=false:=rfl
theorem iP {o:Bool}{ds:List D}:aU .int (.lst o ds)=false:=rfl
theorem fK {b:Bool}:aU .bool (.bl b)=true:=rfl
theorem fL {x:Str}:aU .bool (.str x)=false:=rfl
theorem fM {ds:List D}:aU .bool (.tup ds)=false:=rfl
theorem fN {o:Bool}{ds:List D}:aU .bool (.lst o ds)=false:=rfl
theorem fO:aU .list (.By)=false:=rfl
theorem fP {b:Bool}:aU .list (.bl b)=false:=rfl
theorem fQ {i:Int}:aU .list (.int i)=false:=rfl
theorem fR {x:Str}:aU .list (.str x)=false:=rfl
theorem fS {ds:List D}:aU .list (.tup ds)=false:=rfl
theorem fT {o:Bool}{ds:List D}:aU .list (.lst o ds)=true:=rfl
theorem eL:aU .tuple (.By)=false:=rfl
theorem eM {b:Bool}:aU .tuple (.bl b)=false:=rfl
theorem eN {i:Int}:aU .tuple (.int i)=false:=rfl
theorem eO {x:Str}:aU .tuple (.str x)=false:=rfl
theorem eP {o:Bool}{ds:List D}:aU .tuple (.lst o ds)=false:=rfl
theorem Bl (ns:List Int):ai (ns.map .int)=true:=by
 rw[bE,List.all_map,List.all_eq_true]
 intro x _
 rfl
theorem lR (ns:List Str):ai (ns.map .str)=true:=by
 rw[bE,List.all_map,List.all_eq_true]
 intro x _
 rfl
theorem Aj {i:Int}:er (.int i)=.int i:=by rw[er]
theorem Ak {i:Str}:er (.str i)=.str i:=by rw[er]
theorem Al {i:Bool}:er (.bl i)=.bl i:=by rw[er]
theorem Am:er .By=.By:=by rw[er]
theorem An {ds:List D}:er (.tup ds)=.tup (BA ds):=by rw[er]
theorem Ao {o:Bool}{ds:List D}:er (.lst o ds)=.lst false (BA ds):=by rw[er]
theorem ur:BA []=[]:=by rw[BA]
theorem uu {d:D}{ds:List D}:BA (d::ds)=er d::BA ds:=by rw[BA]
theorem ju (ns:List Int):BA (ns.map .int)=ns.map .int:=bY (Bl ns)
theorem dE (ns:List Str):BA (ns.map .str)=ns.map .str:=bY (lR ns)
theorem uv {i:Int}:ao (.int i)=true:=rfl
theorem uw {i:Str}:ao (.str i)=true:=rfl
theorem ux {i:Bool}:ao (.bl i)=true:=rfl
theorem uy:ao .By=true:=rfl
theorem uz {ds:List D}:ao (.tup ds)=ai ds:=rfl
theorem uA {o:Bool}{ds:List D}:ao (.lst o ds)=false:=rfl
theorem pC:ai []=true:=rfl
theorem pD {d:D}{ds:List D}:ai (d::ds)=(ao d&&ai ds):=rfl
noncomputable def rM:Fl->Res D
 | .nx _=>.ok .By
 | .rt d=>.ok d
 | _=>Bu
theorem run {fn:Fn}{ds:List D}(h:ds.length=fn.np):cn cl fn ds=Bn (aH cl fn.body (ds.map some++List.replicate (fn.G.N.length - fn.np) none)) rM:=by
 unfold cn
 rw[decide_eq_true h]
 rfl
theorem pE:rM (.nx τ)=.ok .By:=rfl
theorem pF {d:D}:rM (.rt d)=.ok d:=rfl
theorem call {T:Tb}{n f:Nat}{fn:Fn}{ds:List D}(h:T f=some fn)(h0:fn.io=none):ae T (n+1) f ds=cn (ae T n) fn ds:=by
 show (match T f with|some fn=>(match fn.io with|none=>cn (ae T n) fn ds|some e=>cp (ae T n) fn e ds)|none=>Bu)=_
 rw[h]
 show (match fn.io with|none=>cn (ae T n) fn ds|some e=>cp (ae T n) fn e ds)=_
 rw[h0]
noncomputable def O0 (cl:Nat->List D->Res D)(e:IR)(p:Nat):Fl->Res D
 | .nx τ=>Bn (B6 cl true e τ) (Jc p)
 | _=>Bu
theorem pG {e:IR}{p:Nat}:O0 cl e p (.nx τ)=Bn (B6 cl true e τ) (Jc p):=rfl
theorem Rk {T:Tb}{n f:Nat}{fn:Fn}{ds:List D}{m k:Nat}{body:List IS}{e:IR}(h:T f=some fn)(h0:fn.io=some e)(h1:fn.np=m)(h2:fn.G.N.length=k)(h3:fn.body=body)(hl:ds.length=m) :
  ae T (n+1) f ds=Bn (aH (ae T n) body ((lA ds).map some++List.replicate (k - m) none)) (O0 (ae T n) e (m - 1)):=by
 show (match T f with|some fn=>(match fn.io with|none=>cn (ae T n) fn ds|some e=>cp (ae T n) fn e ds)|none=>Bu)=_
 rw[h]
 show (match fn.io with|none=>cn (ae T n) fn ds|some e=>cp (ae T n) fn e ds)=_
 rw[h0]
 show cp (ae T n) fn e ds=_
 unfold cp
 rw[decide_eq_true (show ds.length=fn.np by rw[hl,h1]),h1,h2,h3]
 show Bn _ _=Bn _ _
 congr 1
theorem go {T:Tb}{n f:Nat}{fn:Fn}{ds:List D}{m k:Nat}{body:List IS}(h:T f=some fn)(h0:fn.io=none)(h1:fn.np=m)(h2:fn.G.N.length=k)(h3:fn.body=body)(hl:ds.length=m) :
  ae T (n+1) f ds=Bn (aH (ae T n) body (ds.map some++List.replicate (k - m) none)) rM:=by
 rw[call h h0,run (by rw[hl,h1]),h1,h2,h3]
end
end Ev
namespace Ev
section
variable {cl:Nat->List D->Res D}{τ:Ev}
theorem line:sizeLine=16777216:=sizeLine_eq
theorem pH {a b:Int}(h1 : -18446744073709551616 < a)(h2:a < 18446744073709551616):C4 .mul (.int a) (.int b)=.ok (.int (a*b)):=by
 rw[uh,decide_eq_true (show -(2 ^ 64) < a/\a < 2 ^ 64 from ⟨by omega,by omega⟩)]
 rfl
theorem pI {a b:Int}(h1 : -18446744073709551616 < b)(h2:b < 18446744073709551616):C4 .mul (.int a) (.int b)=.ok (.int (a*b)):=by
 rw[uh,decide_eq_true (show -(2 ^ 64) < b/\b < 2 ^ 64 from ⟨by omega,by omega⟩),Bool.or_true]
 rfl
theorem pJ {a b:Int}(h1:0 < b)(h2:b < 1073741824):C4 .fdiv (.int a) (.int b)=.ok (.int (a / b)):=by
 rw[wR,decide_eq_true ⟨h1,h2⟩]
 rfl
theorem uB {a b:Int}(h1:0 < b):C4 .mod (.int a) (.int b)=.ok (.int (a % b)):=by
 rw[zU,decide_eq_true h1]
 rfl
theorem gH {n:Nat}(h:n<=16777216):aQ n=true:=decide_eq_true (by rw[line];exact h)
theorem pK {n:Nat}(h:n < 16777216):bF n=true:=decide_eq_true (by rw[line];exact h)
theorem kz {i:Int}(h1 : -4611686018427387904<=i)(h2:i < 4611686018427387904):bA i=true:=decide_eq_true ⟨by omega,by omega⟩
theorem rN {α β:Type}(f:α->β)(xs:List α)(i:Int):Dm (xs.map f) i=(Dm xs i).map f:=by
 unfold Dm
 rw[List.length_map]
 cases GZ xs.length i with
 | none=>rfl
 | some j=>exact List.getElem?_map ..
theorem jv {α:Type}{xs:List α}{i:Int}(d:α)(h0:0<=i)(h1:i < xs.length):Dm xs i=some (xs.getD i.toNat d):=by
 unfold Dm GZ
 rw[if_pos h0,if_pos h1]
 show xs[i.toNat]? = _
 have:i.toNat < xs.length:=by omega
 rw[List.getD_eq_getElem?_getD,List.getElem?_eq_getElem this]
 rfl
theorem O1 {o:Bool}{xs:List Int}{i:Int}(h0:0<=i)(h1:i < xs.length):aK (.lst o (xs.map .int)) (.int i)=.ok (.int (xs.getD i.toNat 0)):=by
 rw[OT,rN,jv 0 h0 h1]
 rfl
theorem MS {z:Str}{i:Int}(h0:0<=i)(h1:i < z.length)(hz:z.length<=16777216):aK (.str z) (.int i)=.ok (.str ⟨#[z.cps.toList.getD i.toNat 0]⟩):=by
 rw[Rj,gH hz]
 have hl:z.cps.toList.length=z.length:=by simp[Str.length]
 rw[jv 0 h0 (by rw[hl];exact h1)]
 rfl
theorem wV {α:Type}(xs:List α){m:Int}(h:0<=m):lq xs none (some m)=xs.take m.toNat:=by
 unfold lq HT.DK
 simp only[List.drop_zero,Nat.sub_zero]
 rw[if_neg (by omega)]
 by_cases hm:m.toNat<=xs.length
 ·rw[show min m.toNat xs.length=m.toNat from Nat.min_eq_left hm]
 ·rw[show min m.toNat xs.length=xs.length from Nat.min_eq_right (by omega),List.take_length,List.take_of_length_le (by omega)]
noncomputable def fz:Bool->Option D->Option D
 | true,some d=>some (er d)
 | true,none=>none
 | false,o=>o
theorem Ap {d:D}:fz true (some d)=some (er d):=rfl
theorem Aq {o:Option D}:fz false o=o:=rfl
theorem uC {is:List Nat}{k:Nat}:eW is k []=[]:=rfl
theorem uD {is:List Nat}{k:Nat}{o:Option D}{τ:Ev}:eW is k (o::τ)=fz (is.contains k) o::eW is (k+1) τ:=by
 show (if is.contains k then o.map er else o)::eW is (k+1) τ=_
 cases is.contains k<;>cases o<;>rfl
theorem Ar {d:D}:vars (.c d)=[]:=rfl
theorem As {n:Nat}{d:D}:vars (.g n d)=[]:=rfl
theorem Au {i:Nat}:vars (.v i)=[i]:=rfl
theorem pL {o:FW}{a b:IR}:vars (.bin o a b)=vars a++vars b:=rfl
theorem pM {es:List IR}:vars (.lst es)=av es:=rfl
theorem kA {f:Nat}{es:List IR}:vars (.call f es)=av es:=rfl
theorem uE {f:Bi}{es:List IR}:vars (.bi f es)=av es:=rfl
theorem pN {a i:IR}:vars (.idx a i)=vars a++vars i:=rfl
theorem uF:av []=[]:=rfl
theorem uG {e:IR}{es:List IR}:av (e::es)=vars e++av es:=rfl
theorem kC {G:Gm}{fr:List Nat}{t:Tg}{s:Sr}{i:List IR}{e:IR}:aS (.comp G fr t s i e)=true:=rfl
theorem uH {a:IR}{b c:Option IR}:aS (.sl a b c)=true:=rfl
theorem Av {e:IR}{o:Bool}{ds:List D}{τ:Ev}:aA e (.lst o ds) τ=cond (aS e) (cond (ai ds) (.lst true ds,τ) (.lst true (BA ds),BI (vars e) τ)) (.lst false (BA ds),BI (vars e) τ):=by
 unfold aA
 rw[if_neg (show ¬ ao (.lst o ds)=true by intro z;cases z)]
 cases aS e
 ·exact Prod.ext (by show er (.lst o ds)=_;rw[er];rfl) rfl
 ·show (if ai ds=true then _ else _)=_
  cases ai ds<;>rfl
theorem Aw {e:IR}{ds:List D}{τ:Ev}:aA e (.tup ds) τ=cond (ai ds) (.tup ds,τ) (.tup (BA ds),BI (vars e) τ):=by
 unfold aA
 cases h:ai ds with
 | true=>rw[if_pos (show ao (.tup ds)=true from h)];rfl
 | false=>
  rw[if_neg (show ¬ ao (.tup ds)=true by intro z;rw[show ao (.tup ds)=ai ds from rfl,h] at z;cases z)]
  cases aS e<;>exact Prod.ext (by show er (.tup ds)=_;rw[er];rfl) rfl
theorem kD {body:D->Ev->Res Fl}(P:Nat->Ev->Prop):∀ (its:List D) (k:Nat) (τ:Ev),P k τ->(∀ (i:Nat) (x:D) (τ:Ev),its[i]? = some x->P (k+i) τ->∃ τ',body x τ=.ok (.nx τ')/\P (k+i+1) τ')->∃ τ',forM body its τ=.ok (.nx τ')/\P (k+its.length) τ'
 | [],k,τ,h,_=>⟨τ,rfl,h⟩
 | x::xs,k,τ,h,hb=>by
  obtain⟨Ge,e1,h1⟩:=hb 0 x τ rfl h
  obtain⟨MT,e2,h2⟩:=kD P xs (k+1) Ge h1 fun i y σ hy hp=>by
   obtain⟨τ',e',h'⟩:=hb (i+1) y σ (by simpa using hy) (by rw[show k+(i+1)=k+1+i by omega];exact hp)
   exact⟨τ',e',by rw[show k+1+i+1=k+(i+1)+1 by omega];exact h'⟩
  refine⟨MT,?_,by rw[List.length_cons,show k+(xs.length+1)=k+1+xs.length by omega];exact h2⟩
  rw[cg,e1,j8,t9,e2]
theorem gI {body:D->Ev->Res Fl}(P:Nat->Ev->Prop){its:List D}{τ:Ev}(h:P 0 τ)(hb:∀ (i:Nat)(x:D)(τ:Ev),its[i]? = some x->P i τ->∃ τ',body x τ=.ok (.nx τ')/\P (i+1) τ'):∃ τ',forM body its τ=.ok (.nx τ')/\P its.length τ':=by
 obtain⟨τ',h1,h2⟩:=kD P its 0 τ h fun i x τ hx hp=>by
  rw[Nat.zero_add] at hp ⊢
  exact hb i x τ hx hp
 exact⟨τ',h1,by rw[Nat.zero_add] at h2;exact h2⟩
theorem iQ {α β:Type}{body:D->Ev->Res Fl}(f:β->α->β)(Fd:α->D)(st:β->Ev->Prop):∀ (xs:List α) (b:β) (τ:Ev),st b τ->(∀ (x:α) (b:β) (τ:Ev),x∈xs->st b τ->∃ τ',body (Fd x) τ=.ok (.nx τ')/\st (f b x) τ')->
  ∃ τ',forM body (xs.map Fd) τ=.ok (.nx τ')/\st (xs.foldl f b) τ'
 | [],b,τ,h,_=>⟨τ,rfl,h⟩
 | x::xs,b,τ,h,hb=>by
  obtain⟨Ge,e1,h1⟩:=hb x b τ (by simp) h
  obtain⟨MT,e2,h2⟩:=iQ f Fd st xs (f b x) Ge h1 fun y b σ hy hp=>hb y b σ (List.mem_cons_of_mem _ hy) hp
  refine⟨MT,?_,h2⟩
  rw[List.map_cons,cg,e1,j8,t9,e2]
theorem cz {α β:Type}{g:D->Res (Option D)}(Fd:α->D)(out:α->β)(Ih:β->D):∀ (xs:List α),(∀ x∈xs,g (Fd x)=.ok (some (Ih (out x))))->aR g (xs.map Fd)=.ok ((xs.map out).map Ih)
 | [],_=>rfl
 | x::xs,h=>by
  show Bn (g (Fd x)) _=_
  rw[h x (by simp)]
  show Bn (aR g (xs.map Fd)) _=_
  rw[cz Fd out Ih xs fun y hy=>h y (List.mem_cons_of_mem _ hy)]
  rfl
theorem uI {α:Type}{a:α}:Dc (.ok a:Res α)=.ok a:=rfl
theorem pO (a b:Int):bu a b=((List.range (b - a).toNat).map fun k=>a+(k:Nat)).map .int:=by
 unfold bu
 rw[List.map_map]
 rfl
end
end Ev
theorem BL:type_of% (And.intro (And.intro (And.intro (And.intro (And.intro (And.intro (And.intro (And.intro @Ev.j8 @Ev.sF) (And.intro @Ev.OB @Ev.OC)) (And.intro (And.intro @Ev.OD @Ev.nQ) (And.intro @Ev.sG (And.intro @Ev.sH @Ev.j9)))) (And.intro (And.intro (And.intro @Ev.nR @Ev.sI) (And.intro @Ev.nS @Ev.nT)) (And.intro (And.intro @Ev.sJ @Ev.ka) (And.intro @Ev.kb (And.intro @Ev.nV @Ev.sL))))) (And.intro (And.intro (And.intro (And.intro @Ev.nW @Ev.sM) (And.intro @Ev.yZ @Ev.kc)) (And.intro (And.intro @Ev.nY @Ev.sN) (And.intro @Ev.nZ (And.intro @Ev.sO @Ev.n6)))) (And.intro (And.intro (And.intro @Ev.sP @Ev.n8) (And.intro @Ev.sQ (And.intro @Ev.og @Ev.sR))) (And.intro (And.intro @Ev.za @Ev.ke) (And.intro @Ev.oh (And.intro @Ev.zb @Ev.oj)))))) (And.intro (And.intro (And.intro (And.intro (And.intro @Ev.ze @Ev.zf) (And.intro @Ev.zg @Ev.zh)) (And.intro (And.intro @Ev.zi @Ev.zj) (And.intro @Ev.om (And.intro @Ev.zk @Ev.oq)))) (And.intro (And.intro (And.intro @Ev.kg @Ev.ou) (And.intro @Ev.ox @Ev.oy)) (And.intro (And.intro @Ev.sU @Ev.sV) (And.intro @Ev.oz (And.intro @Ev.kh @Ev.oA))))) (And.intro (And.intro (And.intro (And.intro @Ev.zm @Ev.ki) (And.intro @Ev.sX @Ev.zo)) (And.intro (And.intro @Ev.oC @Ev.zq) (And.intro @Ev.zr (And.intro @Ev.zt @Ev.sY)))) (And.intro (And.intro (And.intro @Ev.zu @Ev.kj) (And.intro @Ev.zv (And.intro @Ev.oE @Ev.iI))) (And.intro (And.intro @Ev.iJ @Ev.oF) (And.intro @Ev.tf (And.intro @Ev.oG @Ev.tj))))))) (And.intro (And.intro (And.intro (And.intro (And.intro (And.intro @Ev.tm @Ev.tq) (And.intro @Ev.zx @Ev.zA)) (And.intro (And.intro @Ev.zB @Ev.OJ) (And.intro @Ev.Ll (And.intro @Ev.kl @Ev.E7)))) (And.intro (And.intro (And.intro @Ev.km @Ev.E8) (And.intro @Ev.fJ @Ev.iK)) (And.intro (And.intro @Ev.DQ @Ev.kn) (And.intro @Ev.OK (And.intro @Ev.tD @Ev.tF))))) (And.intro (And.intro (And.intro (And.intro @Ev.tG @Ev.tJ) (And.intro @Ev.zC @Ev.zD)) (And.intro (And.intro @Ev.oI @Ev.oJ) (And.intro @Ev.oK (And.intro @Ev.zE @Ev.oM)))) (And.intro (And.intro (And.intro @Ev.tK @Ev.zF) (And.intro @Ev.tL (And.intro @Ev.oN @Ev.tM))) (And.intro (And.intro @Ev.ko @Ev.oO) (And.intro @Ev.ON (And.intro @Ev.OO @Ev.OP)))))) (And.intro (And.intro (And.intro (And.intro (And.intro @Ev.OQ @Ev.tO) (And.intro @Ev.oP @Ev.DR)) (And.intro (And.intro @Ev.oQ @Ev.oR) (And.intro @Ev.oS (And.intro @Ev.oT @Ev.oU)))) (And.intro (And.intro (And.intro @Ev.oV @Ev.oW) (And.intro @Ev.DS (And.intro @Ev.gG @Ev.kr))) (And.intro (And.intro @Ev.Dg @Ev.oX) (And.intro @Ev.oY (And.intro @Ev.DT @Ev.DU))))) (And.intro (And.intro (And.intro (And.intro @Ev.oZ @Ev.DW) (And.intro @Ev.tQ @Ev.DV)) (And.intro (And.intro @Ev.tT @Ev.o4) (And.intro @Ev.o5 (And.intro @Ev.ku @Ev.tU)))) (And.intro (And.intro (And.intro @Ev.tV @Ev.tX) (And.intro @Ev.E9 (And.intro @Ev.o6 @Ev.DX))) (And.intro (And.intro @Ev.zN @Ev.zO) (And.intro @Ev.tY (And.intro @Ev.tZ @Ev.o7)))))))) (And.intro (And.intro (And.intro (And.intro (And.intro (And.intro (And.intro @Ev.kx @Ev.t4) (And.intro @Ev.t5 @Ev.t6)) (And.intro (And.intro @Ev.t7 @Ev.cg) (And.intro @Ev.ua (And.intro @Ev.zQ @Ev.zR)))) (And.intro (And.intro (And.intro @Ev.ub @Ev.uc) (And.intro @Ev.zS @Ev.zT)) (And.intro (And.intro @Ev.ud @Ev.ue) (And.intro @Ev.uf (And.intro @Ev.jt @Ev.o9))))) (And.intro (And.intro (And.intro (And.intro @Ev.ug @Ev.pd) (And.intro @Ev.ui @Ev.wU)) (And.intro (And.intro @Ev.zV @Ev.zW) (And.intro @Ev.zX (And.intro @Ev.pf @Ev.zZ)))) (And.intro (And.intro (And.intro @Ev.Aa @Ev.Ab) (And.intro @Ev.Ac (And.intro @Ev.Ad @Ev.Ae))) (And.intro (And.intro @Ev.Af @Ev.Ag) (And.intro @Ev.Ah (And.intro @Ev.uj @Ev.Ai)))))) (And.intro (And.intro (And.intro (And.intro (And.intro @Ev.uk @Ev.OU) (And.intro @Ev.OV @Ev.OW)) (And.intro (And.intro @Ev.OX @Ev.OY) (And.intro @Ev.OZ (And.intro @Ev.um @Ev.uo)))) (And.intro (And.intro (And.intro @Ev.uq @Ev.ph) (And.intro @Ev.ky @Ev.pj)) (And.intro (And.intro @Ev.pk @Ev.pq) (And.intro @Ev.pA (And.intro @Ev.pB @Ev.iL))))) (And.intro (And.intro (And.intro (And.intro @Ev.iM @Ev.iN) (And.intro @Ev.iO @Ev.iP)) (And.intro (And.intro @Ev.fK @Ev.fL) (And.intro @Ev.fM (And.intro @Ev.fN @Ev.fO)))) (And.intro (And.intro (And.intro @Ev.fP @Ev.fQ) (And.intro @Ev.fR (And.intro @Ev.fS @Ev.fT))) (And.intro (And.intro @Ev.eL @Ev.eM) (And.intro @Ev.eN (And.intro @Ev.eO @Ev.eP))))))) (And.intro (And.intro (And.intro (And.intro (And.intro (And.intro @Ev.Aj @Ev.Ak) (And.intro @Ev.Al @Ev.Am)) (And.intro (And.intro @Ev.An @Ev.Ao) (And.intro @Ev.ur (And.intro @Ev.uu @Ev.ju)))) (And.intro (And.intro (And.intro @Ev.dE @Ev.uv) (And.intro @Ev.uw @Ev.ux)) (And.intro (And.intro @Ev.uy @Ev.uz) (And.intro @Ev.uA (And.intro @Ev.pC @Ev.pD))))) (And.intro (And.intro (And.intro (And.intro @Ev.pE @Ev.pF) (And.intro @Ev.pG @Ev.pH)) (And.intro (And.intro @Ev.pI @Ev.pJ) (And.intro @Ev.uB (And.intro @Ev.gH @Ev.pK)))) (And.intro (And.intro (And.intro @Ev.kz @Ev.O1) (And.intro @Ev.MS (And.intro @Ev.uI @Ev.Ap))) (And.intro (And.intro @Ev.Aq @Ev.uC) (And.intro @Ev.uD (And.intro @Ev.Ar @Ev.As)))))) (And.intro (And.intro (And.intro (And.intro (And.intro @Ev.Au @Ev.pL) (And.intro @Ev.pM @Ev.kA)) (And.intro (And.intro @Ev.uE @Ev.pN) (And.intro @Ev.uF (And.intro @Ev.uG @Ev.kC)))) (And.intro (And.intro (And.intro @Ev.uH @Ev.Av) (And.intro @Ev.Aw (And.intro @cond_true.{1} @cond_false.{1}))) (And.intro (And.intro @Ev.lR @List.contains_cons.{0}) (And.intro @List.contains_nil.{0} (And.intro @Bool.or_false @Bool.or_true))))) (And.intro (And.intro (And.intro (And.intro @List.map_cons.{0,0} @List.map_nil.{0,0}) (And.intro @List.cons_append.{0} @List.nil_append.{0})) (And.intro (And.intro @List.replicate_succ.{0} @List.replicate_zero.{0}) (And.intro @List.length_cons.{0} (And.intro @List.length_nil.{0} @Nat.zero_add)))) (And.intro (And.intro (And.intro @decide_true @Bool.and_self) (And.intro @Bool.not_true (And.intro @Bool.not_false @Bool.and_true))) (And.intro (And.intro @Bool.and_false @beq_self_eq_true.{0}) (And.intro @if_true.{1} (And.intro @if_false.{1} @Bool.false_eq_true))))))))):=⟨⟨⟨⟨⟨⟨⟨⟨@Ev.j8,@Ev.sF⟩,⟨@Ev.OB,@Ev.OC⟩⟩,⟨⟨@Ev.OD,@Ev.nQ⟩,⟨@Ev.sG,⟨@Ev.sH,@Ev.j9⟩⟩⟩⟩,⟨⟨⟨@Ev.nR,@Ev.sI⟩,⟨@Ev.nS,@Ev.nT⟩⟩,⟨⟨@Ev.sJ,@Ev.ka⟩,⟨@Ev.kb,⟨@Ev.nV,@Ev.sL⟩⟩⟩⟩⟩,⟨⟨⟨⟨@Ev.nW,@Ev.sM⟩,⟨@Ev.yZ,@Ev.kc⟩⟩,⟨⟨@Ev.nY,@Ev.sN⟩,⟨@Ev.nZ,⟨@Ev.sO,@Ev.n6⟩⟩⟩⟩,⟨⟨⟨@Ev.sP,@Ev.n8⟩,⟨@Ev.sQ,⟨@Ev.og,@Ev.sR⟩⟩⟩,⟨⟨@Ev.za,@Ev.ke⟩,⟨@Ev.oh,⟨@Ev.zb,@Ev.oj⟩⟩⟩⟩⟩⟩,⟨⟨⟨⟨⟨@Ev.ze,@Ev.zf⟩,⟨@Ev.zg,@Ev.zh⟩⟩,⟨⟨@Ev.zi,@Ev.zj⟩,⟨@Ev.om,⟨@Ev.zk,@Ev.oq⟩⟩⟩⟩,⟨⟨⟨@Ev.kg,@Ev.ou⟩,⟨@Ev.ox,@Ev.oy⟩⟩,⟨⟨@Ev.sU,@Ev.sV⟩,⟨@Ev.oz,⟨@Ev.kh,@Ev.oA⟩⟩⟩⟩⟩,⟨⟨⟨⟨@Ev.zm,@Ev.ki⟩,⟨@Ev.sX,@Ev.zo⟩⟩,⟨⟨@Ev.oC,@Ev.zq⟩,⟨@Ev.zr,⟨@Ev.zt,@Ev.sY⟩⟩⟩⟩,⟨⟨⟨@Ev.zu,@Ev.kj⟩,⟨@Ev.zv,⟨@Ev.oE,@Ev.iI⟩⟩⟩,⟨⟨@Ev.iJ,@Ev.oF⟩,⟨@Ev.tf,⟨@Ev.oG,@Ev.tj⟩⟩⟩⟩⟩⟩⟩,⟨⟨⟨⟨⟨⟨@Ev.tm,@Ev.tq⟩,⟨@Ev.zx,@Ev.zA⟩⟩,⟨⟨@Ev.zB,@Ev.OJ⟩,⟨@Ev.Ll,⟨@Ev.kl,@Ev.E7⟩⟩⟩⟩,⟨⟨⟨@Ev.km,@Ev.E8⟩,⟨@Ev.fJ,@Ev.iK⟩⟩,⟨⟨@Ev.DQ,@Ev.kn⟩,⟨@Ev.OK,⟨@Ev.tD,@Ev.tF⟩⟩⟩⟩⟩,⟨⟨⟨⟨@Ev.tG,@Ev.tJ⟩,⟨@Ev.zC,@Ev.zD⟩⟩,⟨⟨@Ev.oI,@Ev.oJ⟩,⟨@Ev.oK,⟨@Ev.zE,@Ev.oM⟩⟩⟩⟩,⟨⟨⟨@Ev.tK,@Ev.zF⟩,⟨@Ev.tL,⟨@Ev.oN,@Ev.tM⟩⟩⟩,⟨⟨@Ev.ko,@Ev.oO⟩,⟨@Ev.ON,⟨@Ev.OO,@Ev.OP⟩⟩⟩⟩⟩⟩,⟨⟨⟨⟨⟨@Ev.OQ,@Ev.tO⟩,⟨@Ev.oP,@Ev.DR⟩⟩,⟨⟨@Ev.oQ,@Ev.oR⟩,⟨@Ev.oS,⟨@Ev.oT,@Ev.oU⟩⟩⟩⟩,⟨⟨⟨@Ev.oV,@Ev.oW⟩,⟨@Ev.DS,⟨@Ev.gG,@Ev.kr⟩⟩⟩,⟨⟨@Ev.Dg,@Ev.oX⟩,⟨@Ev.oY,⟨@Ev.DT,@Ev.DU⟩⟩⟩⟩⟩,⟨⟨⟨⟨@Ev.oZ,@Ev.DW⟩,⟨@Ev.tQ,@Ev.DV⟩⟩,⟨⟨@Ev.tT,@Ev.o4⟩,⟨@Ev.o5,⟨@Ev.ku,@Ev.tU⟩⟩⟩⟩,⟨⟨⟨@Ev.tV,@Ev.tX⟩,⟨@Ev.E9,⟨@Ev.o6,@Ev.DX⟩⟩⟩,⟨⟨@Ev.zN,@Ev.zO⟩,⟨@Ev.tY,⟨@Ev.tZ,@Ev.o7⟩⟩⟩⟩⟩⟩⟩⟩,⟨⟨⟨⟨⟨⟨⟨@Ev.kx,@Ev.t4⟩,⟨@Ev.t5,@Ev.t6⟩⟩,⟨⟨@Ev.t7,@Ev.cg⟩,⟨@Ev.ua,⟨@Ev.zQ,@Ev.zR⟩⟩⟩⟩,⟨⟨⟨@Ev.ub,@Ev.uc⟩,⟨@Ev.zS,@Ev.zT⟩⟩,⟨⟨@Ev.ud,@Ev.ue⟩,⟨@Ev.uf,⟨@Ev.jt,@Ev.o9⟩⟩⟩⟩⟩,⟨⟨⟨⟨@Ev.ug,@Ev.pd⟩,⟨@Ev.ui,@Ev.wU⟩⟩,⟨⟨@Ev.zV,@Ev.zW⟩,⟨@Ev.zX,⟨@Ev.pf,@Ev.zZ⟩⟩⟩⟩,⟨⟨⟨@Ev.Aa,@Ev.Ab⟩,⟨@Ev.Ac,⟨@Ev.Ad,@Ev.Ae⟩⟩⟩,⟨⟨@Ev.Af,@Ev.Ag⟩,⟨@Ev.Ah,⟨@Ev.uj,@Ev.Ai⟩⟩⟩⟩⟩⟩,⟨⟨⟨⟨⟨@Ev.uk,@Ev.OU⟩,⟨@Ev.OV,@Ev.OW⟩⟩,⟨⟨@Ev.OX,@Ev.OY⟩,⟨@Ev.OZ,⟨@Ev.um,@Ev.uo⟩⟩⟩⟩,⟨⟨⟨@Ev.uq,@Ev.ph⟩,⟨@Ev.ky,@Ev.pj⟩⟩,⟨⟨@Ev.pk,@Ev.pq⟩,⟨@Ev.pA,⟨@Ev.pB,@Ev.iL⟩⟩⟩⟩⟩,⟨⟨⟨⟨@Ev.iM,@Ev.iN⟩,⟨@Ev.iO,@Ev.iP⟩⟩,⟨⟨@Ev.fK,@Ev.fL⟩,⟨@Ev.fM,⟨@Ev.fN,@Ev.fO⟩⟩⟩⟩,⟨⟨⟨@Ev.fP,@Ev.fQ⟩,⟨@Ev.fR,⟨@Ev.fS,@Ev.fT⟩⟩⟩,⟨⟨@Ev.eL,@Ev.eM⟩,⟨@Ev.eN,⟨@Ev.eO,@Ev.eP⟩⟩⟩⟩⟩⟩⟩,⟨⟨⟨⟨⟨⟨@Ev.Aj,@Ev.Ak⟩,⟨@Ev.Al,@Ev.Am⟩⟩,⟨⟨@Ev.An,@Ev.Ao⟩,⟨@Ev.ur,⟨@Ev.uu,@Ev.ju⟩⟩⟩⟩,⟨⟨⟨@Ev.dE,@Ev.uv⟩,⟨@Ev.uw,@Ev.ux⟩⟩,⟨⟨@Ev.uy,@Ev.uz⟩,⟨@Ev.uA,⟨@Ev.pC,@Ev.pD⟩⟩⟩⟩⟩,⟨⟨⟨⟨@Ev.pE,@Ev.pF⟩,⟨@Ev.pG,@Ev.pH⟩⟩,⟨⟨@Ev.pI,@Ev.pJ⟩,⟨@Ev.uB,⟨@Ev.gH,@Ev.pK⟩⟩⟩⟩,⟨⟨⟨@Ev.kz,@Ev.O1⟩,⟨@Ev.MS,⟨@Ev.uI,@Ev.Ap⟩⟩⟩,⟨⟨@Ev.Aq,@Ev.uC⟩,⟨@Ev.uD,⟨@Ev.Ar,@Ev.As⟩⟩⟩⟩⟩⟩,⟨⟨⟨⟨⟨@Ev.Au,@Ev.pL⟩,⟨@Ev.pM,@Ev.kA⟩⟩,⟨⟨@Ev.uE,@Ev.pN⟩,⟨@Ev.uF,⟨@Ev.uG,@Ev.kC⟩⟩⟩⟩,⟨⟨⟨@Ev.uH,@Ev.Av⟩,⟨@Ev.Aw,⟨@cond_true.{1},@cond_false.{1}⟩⟩⟩,⟨⟨@Ev.lR,@List.contains_cons.{0}⟩,⟨@List.contains_nil.{0},⟨@Bool.or_false,@Bool.or_true⟩⟩⟩⟩⟩,⟨⟨⟨⟨@List.map_cons.{0,0},@List.map_nil.{0,0}⟩,⟨@List.cons_append.{0},@List.nil_append.{0}⟩⟩,⟨⟨@List.replicate_succ.{0},@List.replicate_zero.{0}⟩,⟨@List.length_cons.{0},⟨@List.length_nil.{0},@Nat.zero_add⟩⟩⟩⟩,⟨⟨⟨@decide_true,@Bool.and_self⟩,⟨@Bool.not_true,⟨@Bool.not_false,@Bool.and_true⟩⟩⟩,⟨⟨@Bool.and_false,@beq_self_eq_true.{0}⟩,⟨@if_true.{1},⟨@if_false.{1},@Bool.false_eq_true⟩⟩⟩⟩⟩⟩⟩⟩⟩
namespace Fr
end Fr
end L2
namespace Law
open PySem L2
noncomputable def top (i:Nat):Stmt:=PySem.Challenge.pw_flagroll_k40_holdouts.main.body.getD i (.Pass ⟨0,0,0,0⟩)
noncomputable def Z:Sg:={nm:=(["LETTERS","PLACES","SALT_LENGTH","is_whole","is_text_of","mark_of","mark_holds","cond_holds","conds_hold","in_rows","in_group","check_salt","folded","lot_keys","place_of","run_index","face_at","share_at","outcome_face","rules_holding","decided_among","decide","entry_of","first_holdout","first_unmet_need"]:List Str)++(["reckoned_answer","answer_once","answer","_law_draw","_law_names","_law_salt","_law_place","_law_visitor_number","_law_same","_law_copy","_law_refused","_law_holdout","law","answer_once","answer","NoSwitch","NoSalt","ValueError","Twice","NoGroup","NoFace","NoRule","RollError"]:List Str),Je:=[(21,(.str "abcdefghijklmnopqrstuvwxyz")),(22,(.int 10007)),(23,(.int 12))],fns:=[24,25,26,27,28,29,30,31,32,33,34,35,36,37,38,39,40,41,42,43,44,45,46,48,49,50,51,52,53,54,55,56,57,58,59,60],cls:=[61,63,64,65,66,67],xt:=[(Str.ofString "NoSwitch",61,true),(Str.ofString "NoSwitch",63,true),(Str.ofString "NoSwitch",64,false),(Str.ofString "NoSwitch",65,false),(Str.ofString "NoSwitch",66,false),(Str.ofString "NoSwitch",67,false),(Str.ofString "NoSalt",61,false),(Str.ofString "NoSalt",63,true),(Str.ofString "NoSalt",64,false),(Str.ofString "NoSalt",65,false),(Str.ofString "NoSalt",66,false),(Str.ofString "NoSalt",67,false)],pl:=[],rc:=[(61,"NoSwitch"),(62,"NoSalt")],xm:=[(Str.ofString "NoSwitch",68),(Str.ofString "NoSalt",68)],Dq:=[47]}
noncomputable def Rl:List IS:=
 [(.ret (.BV (.Cp (.v 0) .int) (.Ce (.Cp (.v 0) .bool))))]
noncomputable def O6:Fn:={np:=1,G:={N:=["thing"],kd:=[.local],gl:=[14,8,16],df:=true},body:=Rl}
noncomputable def MU:List IS:=
 [(.BM (.Ce (.Cp (.v 0) .str)) [(.ret (.c (.bl false)))] []),(.BM (.Ce (.chain .le .le (.v 2) (.bi .len [(.v 0)]) (.v 3))) [(.ret (.c (.bl false)))] []),(.ret (.bi .all [(.comp {N:=["signs","sign"],kd:=[.cell,.local],gl:=[],df:=false} [1] (.nm 1) (.val (.v 0)) [] (.cmp .EY (.v 1) (.v 0)))]))]
noncomputable def Ii:Fn:={np:=4,G:={N:=["thing","signs","least","most"],kd:=[.local,.cell,.local,.local],gl:=[14,11,0,9],df:=true},body:=MU}
noncomputable def Rn:List IS:=
 [(.BP (.tp [(.nm 2),(.nm 3)]) (.val (.v 0)) [(.BM (.cmp .eq (.v 2) (.v 1)) [(.ret (.v 3))] [])]),(.ret (.c .By))]
noncomputable def O7:Fn:={np:=2,G:={N:=["marks","name","mark_name","thing"],kd:=[.local,.local,.local,.local],gl:=[],df:=true},body:=Rn}
noncomputable def Ro:List IS:=
 [(.BM (.cmp .eq (.v 0) (.c (.str "is"))) [(.ret (.BV (.cmp .Fz (.v 2) (.c .By)) (.cmp .EY (.v 2) (.v 1))))] []),(.BM (.cmp .eq (.v 0) (.c (.str "not"))) [(.ret (.E0 (.cmp .EZ (.v 2) (.c .By)) (.cmp .I0 (.v 2) (.v 1))))] []),(.BM (.cmp .eq (.v 0) (.c (.str "begins"))) [(.ret (.BV (.Cp (.v 2) .str) (.bi .any [(.comp {N:=["mark","thing"],kd:=[.cell,.local],gl:=[],df:=false} [2] (.nm 1) (.val (.v 1)) [] (.Ja .starts (.v 0) [(.v 1)]))])))] []),(.BM (.cmp .eq (.v 0) (.c (.str "least"))) [(.ret (.BV (.call 24 [(.v 2)]) (.cmp .ge (.v 2) (.idx (.v 1) (.c (.int 0))))))] []),(.BM (.cmp .eq (.v 0) (.c (.str "most"))) [(.ret (.BV (.call 24 [(.v 2)]) (.cmp .le (.v 2) (.idx (.v 1) (.c (.int 0))))))] []),(.BM (.cmp .eq (.v 0) (.c (.str "has"))) [(.ret (.cmp .Fz (.v 2) (.c .By)))] []),(.ret (.cmp .EZ (.v 2) (.c .By)))]
noncomputable def O8:Fn:={np:=3,G:={N:=["word","things","mark"],kd:=[.local,.local,.cell],gl:=[14,11,10,24],df:=true},body:=Ro}
noncomputable def Rp:List IS:=
 [(.asg (.nm 3) (.idx (.v 1) (.c (.int 0)))),(.asg (.nm 4) (.idx (.v 1) (.c (.int 1)))),(.BM (.cmp .eq (.v 4) (.c (.str "in"))) [(.ret (.call 31 [(.v 0),(.v 3),(.v 2)]))] []),(.BM (.cmp .eq (.v 4) (.c (.str "out"))) [(.ret (.Ce (.call 31 [(.v 0),(.v 3),(.v 2)])))] []),(.ret (.call 27 [(.v 4),(.idx (.v 1) (.c (.int 2))),(.call 26 [(.v 2),(.v 3)])]))]
noncomputable def O9:Fn:={np:=3,G:={N:=["groups","cond","marks","name","word"],kd:=[.local,.local,.local,.local,.local],gl:=[31,27,26],df:=true},body:=Rp}
noncomputable def MV:List IS:=
 [(.BP (.nm 3) (.val (.v 1)) [(.BM (.Ce (.call 28 [(.v 0),(.v 3),(.v 2)])) [(.ret (.c (.bl false)))] [])]),(.ret (.c (.bl true)))]
noncomputable def Ij:Fn:={np:=3,G:={N:=["groups","conds","marks","cond"],kd:=[.local,.local,.local,.local],gl:=[28],df:=true},body:=MV}
noncomputable def Rq:List IS:=
 [(.BP (.nm 3) (.val (.v 1)) [(.BM (.call 29 [(.v 0),(.v 3),(.v 2)]) [(.ret (.c (.bl true)))] [])]),(.ret (.c (.bl false)))]
noncomputable def O':Fn:={np:=3,G:={N:=["groups","rows","marks","row"],kd:=[.local,.local,.local,.local],gl:=[29],df:=true},body:=Rq}
noncomputable def Rr:List IS:=
 [(.BP (.tp [(.nm 3),(.nm 4)]) (.val (.v 0)) [(.BM (.cmp .eq (.v 3) (.v 1)) [(.ret (.call 30 [(.v 0),(.v 4),(.v 2)]))] [])]),(.ret (.c (.bl false)))]
noncomputable def Pa:Fn:={np:=3,G:={N:=["groups","name","marks","group_name","rows"],kd:=[.local,.local,.local,.local,.local],gl:=[30],df:=true},body:=Rr}
noncomputable def MW:List IS:=
 [(.BM (.Ce (.call 25 [(.v 0),(.g 21 (.str "abcdefghijklmnopqrstuvwxyz")),(.c (.int 1)),(.g 23 (.int 12))])) [(.CS 62 "NoSalt" "a salt is a text of one to twelve small letters from a to z")] [])]
noncomputable def Ik:Fn:={np:=1,G:={N:=["salt"],kd:=[.local],gl:=[25,21,23,62],df:=true},body:=MW}
noncomputable def MX:List IS:=
 [(.asg (.nm 3) (.c (.int 0))),(.BP (.nm 4) (.val (.v 0)) [(.asg (.nm 3) (.bin .mod (.bin .add (.bin .mul (.v 3) (.v 1)) (.bi .ord [(.v 4)])) (.v 2)))]),(.ret (.v 3))]
noncomputable def Il:Fn:={np:=3,G:={N:=["salt","factor","modulus","key","sign"],kd:=[.local,.local,.local,.local,.local],gl:=[7],df:=true},body:=MX}
noncomputable def MY:List IS:=
 [(.exp (.call 32 [(.v 0)])),(.asg (.nm 1) (.bin .add (.c (.int 1)) (.call 33 [(.v 0),(.c (.int 31)),(.bin .sub (.g 22 (.int 10007)) (.c (.int 1)))]))),(.asg (.nm 2) (.call 33 [(.v 0),(.c (.int 37)),(.g 22 (.int 10007))])),(.ret (.tup [(.v 1),(.v 2)]))]
noncomputable def Im:Fn:={np:=1,G:={N:=["salt","a","b"],kd:=[.local,.local,.local],gl:=[32,33,22],df:=true},body:=MY}
noncomputable def MZ:List IS:=
 [(.asg (.nm 2) (.call 34 [(.v 0)])),(.ret (.bin .mod (.bin .add (.bin .mul (.idx (.v 2) (.c (.int 0))) (.v 1)) (.idx (.v 2) (.c (.int 1)))) (.g 22 (.int 10007))))]
noncomputable def Io:Fn:={np:=2,G:={N:=["salt","number","keys"],kd:=[.local,.local,.local],gl:=[34,22],df:=true},body:=MZ}
noncomputable def Rt:List IS:=
 [(.asg (.nm 2) (.c (.int 0))),(.BP (.tp [(.nm 3),(.nm 4)]) (.val (.v 0)) [(.BM (.chain .le .lt (.v 3) (.v 1) (.v 4)) [(.ret (.bin .sub (.bin .add (.v 2) (.v 1)) (.v 3)))] []),(.asg (.nm 2) (.bin .sub (.bin .add (.v 2) (.v 4)) (.v 3)))]),(.ret (.c .By))]
noncomputable def Pb:Fn:={np:=2,G:={N:=["run","place","ahead","low","high"],kd:=[.local,.local,.local,.local,.local],gl:=[],df:=true},body:=Rt}
noncomputable def Ru:List IS:=
 [(.BP (.tp [(.nm 2),(.nm 3)]) (.val (.idx (.v 0) (.c (.int 0)))) [(.BM (.cmp .Fz (.call 36 [(.v 3),(.v 1)]) (.c .By)) [(.ret (.v 2))] [])]),(.ret (.c .By))]
noncomputable def Pc:Fn:={np:=2,G:={N:=["allot","place","face","run"],kd:=[.local,.local,.local,.local],gl:=[36],df:=true},body:=Ru}
noncomputable def Rv:List IS:=
 [(.asg (.nm 2) (.c (.int 0))),(.BP (.tp [(.nm 3),(.nm 4)]) (.val (.v 0)) [(.BM (.cmp .le (.v 3) (.v 1)) [(.asg (.nm 2) (.v 4))] [])]),(.ret (.v 2))]
noncomputable def Pd:Fn:={np:=2,G:={N:=["stages","day","share","first_day","places"],kd:=[.local,.local,.local,.local,.local],gl:=[],df:=true},body:=Rv}
noncomputable def M0:List IS:=
 [(.BM (.cmp .eq (.idx (.v 0) (.c (.int 0))) (.c (.str "face"))) [(.ret (.idx (.v 0) (.c (.int 1))))] []),(.BM (.cmp .eq (.idx (.v 0) (.c (.int 0))) (.c (.str "share"))) [(.ret (.ite (.cmp .lt (.v 3) (.call 38 [(.idx (.v 0) (.c (.int 2))),(.v 2)])) (.idx (.v 0) (.c (.int 1))) (.c .By)))] []),(.ret (.call 37 [(.v 1),(.v 3)]))]
noncomputable def Ip:Fn:={np:=4,G:={N:=["outcome","allot","day","place"],kd:=[.local,.local,.local,.local],gl:=[38,37],df:=true},body:=M0}
noncomputable def M1:List IS:=
 [(.ret (.comp {N:=["groups","marks","number","rule"],kd:=[.cell,.cell,.local,.local],gl:=[29],df:=false} [0,2] (.tp [(.nm 2),(.nm 3)]) (.D9 (.idx (.v 1) (.c (.int 2)))) [(.call 29 [(.v 0),(.idx (.v 3) (.c (.int 0))),(.v 1)])] (.v 2)))]
noncomputable def Iq:Fn:={np:=3,G:={N:=["groups","switch","marks"],kd:=[.cell,.local,.cell],gl:=[20],df:=true},body:=M1}
noncomputable def M3:List IS:=
 [(.BP (.nm 4) (.val (.v 2)) [(.asg (.nm 5) (.call 39 [(.idx (.idx (.idx (.v 0) (.c (.int 2))) (.v 4)) (.c (.int 1))),(.idx (.v 0) (.c (.int 3))),(.v 1),(.v 3)])),(.BM (.cmp .Fz (.v 5) (.c .By)) [(.ret (.tup [(.v 5),(.v 4)]))] [])]),(.ret (.tup [(.idx (.v 0) (.c (.int 1))),(.bi .len [(.idx (.v 0) (.c (.int 2)))])]))]
noncomputable def Ir:Fn:={np:=4,G:={N:=["switch","day","numbers","place","number","face"],kd:=[.local,.local,.local,.local,.local,.local],gl:=[39,0],df:=true},body:=M3}
noncomputable def M4:List IS:=
 [(.asg (.nm 4) (.call 40 [(.v 0),(.v 1),(.idx (.v 3) (.c (.int 1)))])),(.ret (.call 41 [(.v 1),(.v 2),(.v 4),(.call 35 [(.idx (.v 1) (.c (.int 0))),(.idx (.v 3) (.c (.int 0)))])]))]
noncomputable def Iu:Fn:={np:=4,G:={N:=["groups","switch","day","visitor","numbers"],kd:=[.local,.local,.local,.local,.local],gl:=[40,41,35],df:=true},body:=M4}
noncomputable def KD:List IS:=
 [(.BP (.tp [(.nm 2),(.nm 3)]) (.val (.idx (.v 0) (.c (.int 2)))) [(.BM (.cmp .eq (.v 2) (.v 1)) [(.ret (.v 3))] [])]),(.CT 61 "NoSwitch" (.HJ "there is no switch " (.v 1) none))]
noncomputable def FD:Fn:={np:=2,G:={N:=["house","name","switch_name","entry"],kd:=[.local,.local,.local,.local],gl:=[61],df:=true},body:=KD}
noncomputable def KG:List IS:=
 [(.BP (.tp [(.nm 3),(.nm 4),(.nm 5),(.nm 6)]) (.val (.idx (.v 0) (.c (.int 1)))) [(.BM (.BV (.E0 (.cmp .EZ (.v 6) (.c .By)) (.cmp .EY (.v 2) (.v 6))) (.cmp .lt (.call 35 [(.v 4),(.idx (.v 1) (.c (.int 0)))]) (.v 5))) [(.ret (.v 3))] [])]),(.ret (.c .By))]
noncomputable def FE:Fn:={np:=3,G:={N:=["house","visitor","name","holdout_name","salt","places","names"],kd:=[.local,.local,.local,.local,.local,.local,.local],gl:=[35],df:=true},body:=KG}
noncomputable def M5:List IS:=
 [(.BP (.tp [(.nm 5),(.nm 6)]) (.val (.v 3)) [.never]),(.ret (.c .By))]
noncomputable def Iw:Fn:={np:=5,G:={N:=["house","day","visitor","needs","told","name","face"],kd:=[.local,.local,.local,.local,.local,.local,.local],gl:=[],df:=true},body:=M5}
noncomputable def Iy:List IS:=
 [(.asg (.nm 5) (.call 43 [(.v 0),(.v 3)])),(.asg (.nm 6) (.idx (.v 5) (.c (.int 0)))),(.BM (.idx (.v 5) (.c (.int 2))) [(.ret (.tup [(.idx (.v 6) (.c (.int 1))),(.tup [(.c (.str "stopped"))])]))] []),(.asg (.nm 7) (.call 44 [(.v 0),(.v 2),(.v 3)])),(.BM (.cmp .Fz (.v 7) (.c .By)) [(.ret (.tup [(.idx (.v 6) (.c (.int 1))),(.tup [(.c (.str "held")),(.v 7)])]))] []),(.asg (.nm 8) (.call 45 [(.v 0),(.v 1),(.v 2),(.idx (.v 5) (.c (.int 1))),(.v 4)])),(.BM (.cmp .Fz (.v 8) (.c .By)) [(.ret (.tup [(.idx (.v 6) (.c (.int 1))),(.tup [(.c (.str "needs")),(.v 8)])]))] []),(.asg (.nm 9) (.call 42 [(.idx (.v 0) (.c (.int 0))),(.v 6),(.v 1),(.v 2)])),(.BM (.cmp .eq (.idx (.v 9) (.c (.int 1))) (.bi .len [(.idx (.v 6) (.c (.int 2)))])) [(.ret (.tup [(.idx (.v 9) (.c (.int 0))),(.tup [(.c (.str "rest"))])]))] []),(.ret (.tup [(.idx (.v 9) (.c (.int 0))),(.tup [(.c (.str "rule")),(.idx (.v 9) (.c (.int 1)))])]))]
noncomputable def Eg:Fn:={np:=5,G:={N:=["house","day","visitor","name","told","entry","switch","holdout_name","needed","decided"],kd:=[.local,.local,.local,.local,.local,.local,.local,.local,.local,.local],gl:=[43,44,45,42,0],df:=true},body:=Iy}
noncomputable def M6:List IS:=
 [(.BM (.G4 true (.v 3) (.v 4)) [(.EH 4 (.v 3) (.call 46 [(.v 0),(.v 1),(.v 2),(.v 3),(.v 4)]))] [])]
noncomputable def Iz:Fn:={np:=5,G:={N:=["house","day","visitor","name","told"],kd:=[.local,.local,.local,.local,.local],gl:=[46],df:=true,io:=some 4},body:=M6,io:=some (.C2 (.v 4) (.v 3))}
noncomputable def M7:List IS:=
 [(.Jb 47 [(.v 0),(.v 1),(.v 2),(.v 3)])]
noncomputable def IA:Fn:={np:=4,G:={N:=["house","day","visitor","name"],kd:=[.local,.local,.local,.local],gl:=[47],df:=true},body:=M7}
noncomputable def M8:List IS:=
 [(.asg (.nm 3) (.c (.int 0))),(.BM (.cmp .gt (.bi .len [(.v 0)]) (.c (.int 0))) [(.asg (.nm 3) (.bin .mod (.idx (.v 0) (.bin .mod (.v 1) (.bi .len [(.v 0)]))) (.c (.int 2147483647))))] []),(.asg (.nm 4) (.bin .add (.bin .mul (.v 3) (.bin .add (.c (.int 742938285)) (.bin .mul (.bin .mul (.c (.int 9973)) (.v 1)) (.v 1)))) (.bin .mul (.v 1) (.c (.int 630360016))))),(.ret (.bin .mod (.bin .fdiv (.bin .mod (.v 4) (.c (.int 2147483647))) (.c (.int 97))) (.v 2)))]
noncomputable def IB:Fn:={np:=3,G:={N:=["_law_script","_law_k","_law_many","_law_cell","_law_mixed"],kd:=[.local,.local,.local,.local,.local],gl:=[0],df:=true},body:=M8}
noncomputable def KH:List IS:=
 [(.asg (.nm 3) (.c (.str "abcdefghijklmnopqrstuvwxyz"))),(.asg (.nm 4) (.call 49 [(.v 0),(.v 1),(.c (.int 26))])),(.BM (.cmp .eq (.call 49 [(.v 0),(.bin .add (.v 1) (.c (.int 1))),(.c (.int 5))]) (.c (.int 0))) [(.ret (.comp {N:=["_law_letters","_law_start","_law_j"],kd:=[.cell,.cell,.local],gl:=[],df:=false} [3,4] (.nm 2) (.Cf (.v 2)) [] (.bin .mul (.idx (.v 0) (.v 1)) (.bin .add (.c (.int 1)) (.v 2)))))] []),(.asg (.nm 5) (.c (.str ""))),(.BP (.nm 6) (.Cf (.call 49 [(.v 0),(.bin .add (.v 1) (.c (.int 2))),(.c (.int 8))])) [(.asg (.nm 5) (.bin .add (.v 5) (.idx (.v 3) (.call 49 [(.v 0),(.bin .add (.bin .add (.v 1) (.c (.int 40))) (.v 6)),(.c (.int 26))]))))]),(.asg (.nm 7) (.call 49 [(.v 0),(.bin .add (.v 1) (.c (.int 3))),(.bin .add (.bi .len [(.v 5)]) (.c (.int 1)))])),(.asg (.nm 8) (.idx (.lst [(.c (.int 1)),(.c (.int 7)),(.c (.int 25)),(.c (.int 11))]) (.call 49 [(.v 0),(.bin .add (.v 1) (.c (.int 1))),(.c (.int 4))]))),(.ret (.comp {N:=["_law_body","_law_at","_law_letters","_law_start","_law_step","_law_j"],kd:=[.cell,.cell,.cell,.cell,.cell,.local],gl:=[],df:=false} [5,7,3,4,8] (.nm 5) (.Cf (.v 2)) [] (.bin .add (.bin .add (.sl (.v 0) none (some (.v 1))) (.idx (.v 2) (.bin .mod (.bin .add (.v 3) (.bin .mul (.v 4) (.v 5))) (.c (.int 26))))) (.sl (.v 0) (some (.v 1)) none))))]
noncomputable def FF:Fn:={np:=3,G:={N:=["_law_script","_law_k","_law_many","_law_letters","_law_start","_law_body","_law_j","_law_at","_law_step"],kd:=[.local,.local,.local,.cell,.cell,.cell,.local,.cell,.cell],gl:=[49,15,0],df:=true},body:=KH}
noncomputable def M9:List IS:=
 [(.asg (.nm 2) (.c (.str "abcdefghijklmnopqrstuvwxyz"))),(.asg (.nm 3) (.c (.str ""))),(.BP (.nm 4) (.Cf (.call 49 [(.v 0),(.v 1),(.c (.int 12))])) [(.asg (.nm 3) (.bin .add (.v 3) (.idx (.v 2) (.call 49 [(.v 0),(.bin .add (.bin .add (.v 1) (.c (.int 2))) (.v 4)),(.c (.int 26))]))))]),(.asg (.nm 5) (.call 49 [(.v 0),(.bin .add (.v 1) (.c (.int 1))),(.bin .add (.bi .len [(.v 3)]) (.c (.int 1)))])),(.ret (.bin .add (.bin .add (.sl (.v 3) none (some (.v 5))) (.idx (.v 2) (.call 49 [(.v 0),(.bin .add (.v 1) (.c (.int 14))),(.c (.int 26))]))) (.sl (.v 3) (some (.v 5)) none)))]
noncomputable def IC:Fn:={np:=2,G:={N:=["_law_script","_law_k","_law_letters","_law_body","_law_j","_law_at"],kd:=[.local,.local,.local,.local,.local,.local],gl:=[15,49,0],df:=true},body:=M9}
noncomputable def M':List IS:=
 [(.asg (.nm 2) (.c (.int 0))),(.asg (.nm 3) (.c (.int 0))),(.BP (.nm 4) (.val (.v 0)) [(.asg (.nm 2) (.bin .mod (.bin .add (.bin .mul (.v 2) (.c (.int 31))) (.bi .ord [(.v 4)])) (.c (.int 10006)))),(.asg (.nm 3) (.bin .mod (.bin .add (.bin .mul (.v 3) (.c (.int 37))) (.bi .ord [(.v 4)])) (.c (.int 10007))))]),(.ret (.bin .mod (.bin .add (.bin .mul (.bin .add (.c (.int 1)) (.v 2)) (.v 1)) (.v 3)) (.c (.int 10007))))]
noncomputable def ID:Fn:={np:=2,G:={N:=["_law_salt_here","_law_number","_law_first","_law_second","_law_sign"],kd:=[.local,.local,.local,.local,.local],gl:=[7],df:=true},body:=M'}
noncomputable def IE:List IS:=
 [(.asg (.nm 2) (.call 49 [(.v 0),(.v 1),(.c (.int 6))])),(.BM (.cmp .lt (.v 2) (.c (.int 2))) [(.ret (.idx (.lst [(.c (.int 0)),(.bin .pow (.c (.int 10)) (.c (.int 9)))]) (.v 2)))] []),(.ret (.bin .add (.bin .mul (.call 49 [(.v 0),(.bin .add (.v 1) (.c (.int 1))),(.c (.int 31600))]) (.c (.int 31600))) (.call 49 [(.v 0),(.bin .add (.v 1) (.c (.int 2))),(.c (.int 31600))])))]
noncomputable def Eh:Fn:={np:=2,G:={N:=["_law_script","_law_k","_law_way"],kd:=[.local,.local,.local],gl:=[49],df:=true},body:=IE}
noncomputable def Rw:List IS:=
 [(.BM (.cmp .EZ (.v 1) (.c .By)) [(.ret (.cmp .EZ (.v 0) (.c .By)))] []),(.BM (.E0 (.Cp (.v 1) .bool) (.Cp (.v 0) .bool)) [(.ret (.BV (.Cp (.v 1) .bool) (.BV (.Cp (.v 0) .bool) (.cmp .eq (.v 0) (.v 1)))))] []),(.BM (.Cp (.v 1) .str) [(.ret (.BV (.Cp (.v 0) .str) (.cmp .eq (.v 0) (.v 1))))] []),(.BM (.Cp (.v 1) .int) [(.ret (.BV (.Cp (.v 0) .int) (.cmp .eq (.v 0) (.v 1))))] []),(.BM (.Cp (.v 1) .tuple) [(.BM (.Ce (.Cp (.v 0) .tuple)) [(.ret (.c (.bl false)))] [])] [(.BM (.Ce (.Cp (.v 0) .list)) [(.ret (.c (.bl false)))] [])]),(.BM (.cmp .ne (.bi .len [(.v 0)]) (.bi .len [(.v 1)])) [(.ret (.c (.bl false)))] []),(.ret (.bi .all [(.comp {N:=["_law_own","_law_part"],kd:=[.local,.local],gl:=[54],df:=false} [] (.tp [(.nm 0),(.nm 1)]) (.zip (.v 0) (.v 1)) [] (.call 54 [(.v 0),(.v 1)]))]))]
noncomputable def Na:Fn:={np:=2,G:={N:=["_law_found","_law_due"],kd:=[.local,.local],gl:=[14,16,11,8,6,5,0,9,17],df:=true},body:=Rw}
noncomputable def Rx:List IS:=
 [(.BM (.Cp (.v 0) .list) [(.ret (.comp {N:=["_law_part"],kd:=[.local],gl:=[55],df:=false} [] (.nm 0) (.val (.v 0)) [] (.call 55 [(.v 0)])))] []),(.BM (.Cp (.v 0) .tuple) [(.ret (.bi .tuple [(.comp {N:=["_law_part"],kd:=[.local],gl:=[55],df:=false} [] (.nm 0) (.val (.v 0)) [] (.call 55 [(.v 0)]))]))] []),(.ret (.v 0))]
noncomputable def Nb:Fn:={np:=1,G:={N:=["_law_thing"],kd:=[.local],gl:=[14,5,6],df:=true},body:=Rx}
noncomputable def Ry:List IS:=
 [(.asg (.nm 3) (.lst [])),(.DO [(.exp (.call 60 [(.v 0),(.c (.int 5)),(.v 1),(.v 2)]))] 68 ["NoSwitch","NoSalt"] 4 [(.asg (.nm 3) (.lst [(.D8 (.v 4) [61] [(Str.ofString "NoSwitch",true),(Str.ofString "NoSalt",false)]),(.D8 (.v 4) [63] [(Str.ofString "NoSwitch",true),(Str.ofString "NoSalt",true)]),(.D8 (.v 4) [64] [(Str.ofString "NoSwitch",false),(Str.ofString "NoSalt",false)]),(.D8 (.v 4) [65] [(Str.ofString "NoSwitch",false),(Str.ofString "NoSalt",false)])])),(.asg (.nm 3) (.bin .add (.v 3) (.lst [(.D8 (.v 4) [66] [(Str.ofString "NoSwitch",false),(Str.ofString "NoSalt",false)]),(.D8 (.v 4) [67] [(Str.ofString "NoSwitch",false),(Str.ofString "NoSalt",false)])])))]),(.ret (.cmp .eq (.v 3) (.bin .add (.lst [(.c (.bl true)),(.c (.bl true))]) (.bin .mul (.lst [(.c (.bl false))]) (.c (.int 4))))))]
noncomputable def IF:Fn:={np:=3,G:={N:=["_law_house","_law_visitor","_law_name","_law_marks","e"],kd:=[.local,.local,.local,.local,.local],gl:=[68,60,14,61,63,64,65,66,67],df:=true},body:=Ry}
noncomputable def IG:List IS:=
 [(.asg (.nm 5) (.call 51 [(.v 0),(.v 1)])),(.asg (.nm 6) (.call 52 [(.v 5),(.v 4)])),(.asg (.nm 7) (.comp {N:=["_law_script","_law_k","_law_j","_law_own"],kd:=[.cell,.cell,.local,.local],gl:=[49],df:=false} [0,1] (.tp [(.nm 2),(.nm 3)]) (.D9 (.v 3)) [(.cmp .gt (.call 49 [(.v 0),(.bin .add (.bin .add (.v 1) (.c (.int 15))) (.v 2)),(.c (.int 3))]) (.c (.int 0)))] (.v 3))),(.BM (.cmp .eq (.call 49 [(.v 0),(.bin .add (.v 1) (.c (.int 21))),(.c (.int 2))]) (.c (.int 0))) [(.asg (.nm 7) (.C3 (.v 7)))] []),(.BM (.cmp .eq (.call 49 [(.v 0),(.bin .add (.v 1) (.c (.int 22))),(.c (.int 5))]) (.c (.int 0))) [(.asg (.nm 7) (.c .By))] []),(.ret (.tup [(.v 2),(.v 5),(.idx (.lst [(.v 6),(.v 6),(.bin .add (.v 6) (.c (.int 1))),(.c (.int 0)),(.c (.int 10007)),(.bin .fdiv (.v 6) (.c (.int 2)))]) (.call 49 [(.v 0),(.bin .add (.v 1) (.c (.int 23))),(.c (.int 6))])),(.v 7)]))]
noncomputable def Ei:Fn:={np:=5,G:={N:=["_law_script","_law_k","_law_name","_law_names_here","_law_number","_law_salt_here","_law_place_here","_law_some"],kd:=[.cell,.cell,.local,.local,.local,.local,.local,.local],gl:=[51,52,20,49,5,18],df:=true},body:=IG}
noncomputable def Rz:List IS:=
 [(.asg (.nm 1) (.c (.str "abcdefghijklmnopqrstuvwxyz"))),(.asg (.nm 2) (.call 50 [(.v 0),(.c (.int 0)),(.c (.int 6))])),(.asg (.nm 3) (.idx (.v 2) (.c (.int 5)))),(.asg (.nm 2) (.sl (.v 2) none (some (.bin .add (.c (.int 1)) (.call 49 [(.v 0),(.c (.int 5)),(.c (.int 5))]))))),(.asg (.nm 4) (.call 53 [(.v 0),(.c (.int 6))])),(.asg (.nm 5) (.lst [])),(.BP (.nm 6) (.Cf (.call 49 [(.v 0),(.c (.int 10)),(.idx (.lst [(.c (.int 4)),(.c (.int 61))]) (.bin .fdiv (.call 49 [(.v 0),(.c (.int 11)),(.c (.int 8))]) (.c (.int 7))))])) [(.asg (.nm 7) (.bin .add (.idx (.v 1) (.bin .mod (.v 6) (.c (.int 26)))) (.idx (.v 1) (.bin .fdiv (.v 6) (.c (.int 26)))))),(.asg (.nm 8) (.call 57 [(.v 0),(.bin .add (.c (.int 60)) (.bin .mul (.c (.int 24)) (.v 6))),(.v 7),(.v 2),(.v 4)])),(.ins 5 (.call 49 [(.v 0),(.bin .add (.c (.int 12)) (.bin .mod (.v 6) (.c (.int 30)))),(.bin .add (.v 6) (.c (.int 1)))]) (.v 8))]),(.asg (.nm 9) (.lst [])),(.BP (.nm 7) (.val (.v 2)) [(.app 9 (.tup [(.v 7),(.tup [(.tup [(.c (.str "ab")),(.c (.str "off")),(.lst [(.tup [(.lst []),(.tup [(.c (.str "face")),(.c (.str "on"))])])]),(.tup [(.lst []),(.lst [(.tup [(.c (.int 0)),(.c (.int 10007))])])])]),(.lst []),(.c (.bl false))])]))]),(.asg (.nm 10) (.tup [(.lst []),(.v 5),(.v 9)])),(.asg (.nm 11) (.call 55 [(.v 10)])),(.BP (.nm 12) (.val (.lst [(.v 4),(.call 53 [(.v 0),(.c (.int 42))])])) [(.BP (.nm 7) (.val (.v 2)) [(.asg (.nm 13) (.tup [(.c (.str "on")),(.tup [(.c (.str "rule")),(.c (.int 0))])])),(.BP (.tp [(.nm 14),(.nm 15),(.nm 16),(.nm 17)]) (.rev (.v 5)) [(.BM (.BV (.E0 (.cmp .EZ (.v 17) (.c .By)) (.cmp .EY (.v 7) (.v 17))) (.cmp .lt (.call 52 [(.v 15),(.v 12)]) (.v 16))) [(.asg (.nm 13) (.tup [(.c (.str "off")),(.tup [(.c (.str "held")),(.v 14)])]))] [])]),(.BM (.Ce (.call 54 [(.call 48 [(.v 11),(.c (.int 5)),(.tup [(.v 12),(.lst [])]),(.v 7)]),(.v 13)])) [(.ret (.c (.bl false)))] [])]),(.BM (.Ce (.call 56 [(.v 11),(.tup [(.v 12),(.lst [])]),(.v 3)])) [(.ret (.c (.bl false)))] [])]),(.ret (.call 54 [(.v 11),(.v 10)]))]
noncomputable def Hl:Fn:={np:=1,G:={N:=["_law_script","_law_letters","_law_names_here","_law_none","_law_number","_law_holdouts","_law_h","_law_name","_law_holdout_here","_law_switches","_law_house","_law_handed","_law_who","_law_due","_law_own","_law_salt_here","_law_places","_law_some"],kd:=[.local,.local,.local,.local,.local,.local,.local,.local,.local,.local,.local,.local,.local,.local,.local,.local,.local,.local],gl:=[50,49,53,15,57,55,18,52,54,48,56],df:=true},body:=Rz}
noncomputable def Nc:List IS:=
 [(.BM (.G4 true (.v 3) (.v 4)) [(.EH 4 (.v 3) (.call 46 [(.v 0),(.v 1),(.v 2),(.v 3),(.v 4)]))] []),(.ret (.C2 (.v 4) (.v 3)))]
noncomputable def IH:Fn:={np:=5,G:={N:=["house","day","visitor","name","told"],kd:=[.local,.local,.local,.local,.local],gl:=[46],df:=true},body:=Nc}
noncomputable def Nd:List IS:=
 [(.ret (.call 59 [(.v 0),(.v 1),(.v 2),(.v 3),.Dy]))]
noncomputable def II:Fn:={np:=4,G:={N:=["house","day","visitor","name"],kd:=[.local,.local,.local,.local],gl:=[59],df:=true},body:=Nd}
noncomputable def T:Tb:=fun n=>match n with
 | 24=>some O6
 | 25=>some Ii
 | 26=>some O7
 | 27=>some O8
 | 28=>some O9
 | 29=>some Ij
 | 30=>some O'
 | 31=>some Pa
 | 32=>some Ik
 | 33=>some Il
 | 34=>some Im
 | 35=>some Io
 | 36=>some Pb
 | 37=>some Pc
 | 38=>some Pd
 | 39=>some Ip
 | 40=>some Iq
 | 41=>some Ir
 | 42=>some Iu
 | 43=>some FD
 | 44=>some FE
 | 45=>some Iw
 | 46=>some Eg
 | 47=>some Iz
 | 48=>some IA
 | 49=>some IB
 | 50=>some FF
 | 51=>some IC
 | 52=>some ID
 | 53=>some Eh
 | 54=>some Na
 | 55=>some Nb
 | 56=>some IF
 | 57=>some Ei
 | 58=>some Hl
 | 59=>some IH
 | 60=>some II
 | _=>none
theorem c24:ak Z O6 ["thing"] (top 10)=true:=by decide +kernel
theorem c25:ak Z Ii ["thing","signs","least","most"] (top 11)=true:=by decide +kernel
theorem c26:ak Z O7 ["marks","name"] (top 13)=true:=by decide +kernel
theorem c27:ak Z O8 ["word","things","mark"] (top 15)=true:=by decide +kernel
theorem c28:ak Z O9 ["groups","cond","marks"] (top 16)=true:=by decide +kernel
theorem c29:ak Z Ij ["groups","conds","marks"] (top 17)=true:=by decide +kernel
theorem c30:ak Z O' ["groups","rows","marks"] (top 18)=true:=by decide +kernel
theorem c31:ak Z Pa ["groups","name","marks"] (top 19)=true:=by decide +kernel
theorem c32:ak Z Ik ["salt"] (top 23)=true:=by decide +kernel
theorem c33:ak Z Il ["salt","factor","modulus"] (top 24)=true:=by decide +kernel
theorem c34:ak Z Im ["salt"] (top 25)=true:=by decide +kernel
theorem c35:ak Z Io ["salt","number"] (top 26)=true:=by decide +kernel
theorem c36:ak Z Pb ["run","place"] (top 28)=true:=by decide +kernel
theorem c37:ak Z Pc ["allot","place"] (top 30)=true:=by decide +kernel
theorem c38:ak Z Pd ["stages","day"] (top 32)=true:=by decide +kernel
theorem c39:ak Z Ip ["outcome","allot","day","place"] (top 33)=true:=by decide +kernel
theorem c40:ak Z Iq ["groups","switch","marks"] (top 34)=true:=by decide +kernel
theorem c41:ak Z Ir ["switch","day","numbers","place"] (top 35)=true:=by decide +kernel
theorem c42:ak Z Iu ["groups","switch","day","visitor"] (top 36)=true:=by decide +kernel
theorem c43:ak Z FD ["house","name"] (top 38)=true:=by decide +kernel
theorem c44:ak Z FE ["house","visitor","name"] (top 39)=true:=by decide +kernel
theorem c45:ak Z Iw ["house","day","visitor","needs","told"] (top 40)=true:=by decide +kernel
theorem c46:ak Z Eg ["house","day","visitor","name","told"] (top 41)=true:=by decide +kernel
theorem c47:dP Z Iz ["house","day","visitor","name","told"] (top 42)=true:=by decide +kernel
theorem c48:ak Z IA ["house","day","visitor","name"] (top 43)=true:=by decide +kernel
theorem c49:ak Z IB ["_law_script","_law_k","_law_many"] (top 45)=true:=by decide +kernel
theorem c50:ak Z FF ["_law_script","_law_k","_law_many"] (top 46)=true:=by decide +kernel
theorem c51:ak Z IC ["_law_script","_law_k"] (top 47)=true:=by decide +kernel
theorem c52:ak Z ID ["_law_salt_here","_law_number"] (top 48)=true:=by decide +kernel
theorem c53:ak Z Eh ["_law_script","_law_k"] (top 49)=true:=by decide +kernel
theorem c54:ak Z Na ["_law_found","_law_due"] (top 50)=true:=by decide +kernel
theorem c55:ak Z Nb ["_law_thing"] (top 51)=true:=by decide +kernel
theorem c56:ak Z IF ["_law_house","_law_visitor","_law_name"] (top 52)=true:=by decide +kernel
theorem c57:ak Z Ei ["_law_script","_law_k","_law_name","_law_names_here","_law_number"] (top 53)=true:=by decide +kernel
theorem Pe:ak Z Hl ["_law_script"] (top 54)=true:=by decide +kernel
theorem c59:ak Z IH ["house","day","visitor","name","told"] (top 42)=true:=by decide +kernel
theorem c60:ak Z II ["house","day","visitor","name"] (top 43)=true:=by decide +kernel
theorem wW:∀ n x,Z.name n=some x->x≠"__name__"/\(x == ("__debug__" : Str))=false:=by
 have h:(aN++Z.nm).all (fun x=>!(x == "__name__")&&!(x == "__debug__"))=true:=by decide +kernel
 intro n x hx
 have:=List.all_eq_true.mp h x (List.mem_of_getElem? hx)
 simpa using this
theorem ln1 {fd:FuncData}{ps:List Str}(h:∀ x0:Value,bindArgs fd ⟨[x0],[]⟩=pure (ps.zip [x0]))(us:List Value)(e:us.length=1):bindArgs fd ⟨us,[]⟩=pure (ps.zip us):=by
 match us,e with
 | [x0],_=>exact h x0
theorem ln2 {fd:FuncData}{ps:List Str}(h:∀ x0 x1:Value,bindArgs fd ⟨[x0,x1],[]⟩=pure (ps.zip [x0,x1]))(us:List Value)(e:us.length=2):bindArgs fd ⟨us,[]⟩=pure (ps.zip us):=by
 match us,e with
 | [x0,x1],_=>exact h x0 x1
theorem ln3 {fd:FuncData}{ps:List Str}(h:∀ x0 x1 x2:Value,bindArgs fd ⟨[x0,x1,x2],[]⟩=pure (ps.zip [x0,x1,x2]))(us:List Value)(e:us.length=3):bindArgs fd ⟨us,[]⟩=pure (ps.zip us):=by
 match us,e with
 | [x0,x1,x2],_=>exact h x0 x1 x2
theorem ln4 {fd:FuncData}{ps:List Str}(h:∀ x0 x1 x2 x3:Value,bindArgs fd ⟨[x0,x1,x2,x3],[]⟩=pure (ps.zip [x0,x1,x2,x3]))(us:List Value)(e:us.length=4):bindArgs fd ⟨us,[]⟩=pure (ps.zip us):=by
 match us,e with
 | [x0,x1,x2,x3],_=>exact h x0 x1 x2 x3
theorem ln5 {fd:FuncData}{ps:List Str}(h:∀ x0 x1 x2 x3 x4:Value,bindArgs fd ⟨[x0,x1,x2,x3,x4],[]⟩=pure (ps.zip [x0,x1,x2,x3,x4]))(us:List Value)(e:us.length=5):bindArgs fd ⟨us,[]⟩=pure (ps.zip us):=by
 match us,e with
 | [x0,x1,x2,x3,x4],_=>exact h x0 x1 x2 x3 x4
theorem dfo {f:Nat}{x:Str}{fn:Fn}{st:Stmt}{fa:Addr}{ps:List Str}{K:W.Frag}{h:Heap}{mg:Str->Option Value}{oc:Value}{od an:Option Addr}{sl:Array (Option Value)}{kV dc pm cd ct:Value}(c:ak Z fn ps st=true)(hT:T f=some fn)(b:∀ (kV dc pm:Value)(an:Option Addr)(cd ct:Value)(us:List Value),us.length=ps.length->bindArgs (W.fnOf x x (bq st) (aG st) (au st) .none kV dc pm an cd ct) ⟨us,[]⟩=pure (ps.zip us))(X:K.In h)(G:h.Ns mainGlobals mg)
  (a:W.nsIn K mainGlobals x=some (some (.ref fa))) (l:K.lookup fa=some ⟨oc,od,.func (W.fnOf x x (bq st) (aG st) (au st) .none kV dc pm an cd ct),sl⟩) (e:W.codeIn K cd x=true) (k:W.keepIn K (.ref fa)=true):BB K mg Z T f x:=⟨fn,st,fa,_,ps,hT,dX l e k,W.mg_of X G a,(dX l e k).binds b,iF c⟩
theorem Bm {f:Nat}{x:Str}{fn:Fn}{st:Stmt}{fa:Addr}{ps:List Str}{K:W.Frag}{h:Heap}{mg:Str->Option Value}{oc:Value}{od an:Option Addr}{sl:Array (Option Value)}{kV dc pm cd ct:Value}(c:dP Z fn ps st=true)(hT:T f=some fn)(b:∀ (kV dc pm:Value)(an:Option Addr)(cd ct:Value)(us:List Value),us.length=ps.length->bindArgs (W.fnOf x x (bq st) (aG st) (au st) .none kV dc pm an cd ct) ⟨us,[]⟩=pure (ps.zip us))(X:K.In h)(G:h.Ns mainGlobals mg)
  (a:W.nsIn K mainGlobals x=some (some (.ref fa))) (l:K.lookup fa=some ⟨oc,od,.func (W.fnOf x x (bq st) (aG st) (au st) .none kV dc pm an cd ct),sl⟩) (e:W.codeIn K cd x=true) (k:W.keepIn K (.ref fa)=true):Ga K mg Z T f x:=⟨fn,st,fa,_,ps,hT,dX l e k,W.mg_of X G a,(dX l e k).binds b,nM c⟩
noncomputable def wX:Nat:=58
noncomputable def rO:Str:="_law_script"
theorem all_mk {l:PySem.W.OpenLaw}{w:World}{fa:Addr}{CM Dh Jt Ju Jv Jw KI:Addr}{K:W.Frag}{h:Heap}{mg:Str->Option Value}{Nf:Addr}{Ng KJ:Option Addr}{Nh:Array (Option Value)}{Ni KN KO KP IJ KQ:Value}{RB:Tok}{RC:Tok}{RE:Tok}(X:K.In h)(G:h.Ns mainGlobals mg)(RF:mg "law" = some (.ref fa))
  (RG:BB K mg Z T 24 "is_whole")
  (RH:BB K mg Z T 25 "is_text_of")
  (RJ:BB K mg Z T 26 "mark_of")
  (RK:BB K mg Z T 27 "mark_holds")
  (RL:BB K mg Z T 28 "cond_holds")
  (RM:BB K mg Z T 29 "conds_hold")
  (RP:BB K mg Z T 30 "in_rows")
  (RQ:BB K mg Z T 31 "in_group")
  (RU:BB K mg Z T 32 "check_salt")
  (RV:BB K mg Z T 33 "folded")
  (RW:BB K mg Z T 34 "lot_keys")
  (RX:BB K mg Z T 35 "place_of")
  (RY:BB K mg Z T 36 "run_index")
  (RZ:BB K mg Z T 37 "face_at")
  (R3:BB K mg Z T 38 "share_at")
  (R4:BB K mg Z T 39 "outcome_face")
  (R5:BB K mg Z T 40 "rules_holding")
  (R6:BB K mg Z T 41 "decided_among")
  (R7:BB K mg Z T 42 "decide")
  (R8:BB K mg Z T 43 "entry_of")
  (R9:BB K mg Z T 44 "first_holdout")
  (R':BB K mg Z T 45 "first_unmet_need")
  (Sa:BB K mg Z T 46 "reckoned_answer")
  (Sb:Ga K mg Z T 47 "answer_once")
  (Sd:BB K mg Z T 48 "answer")
  (Sf:BB K mg Z T 49 "_law_draw")
  (Sh:BB K mg Z T 50 "_law_names")
  (Si:BB K mg Z T 51 "_law_salt")
  (Sj:BB K mg Z T 52 "_law_place")
  (Sk:BB K mg Z T 53 "_law_visitor_number")
  (Sm:BB K mg Z T 54 "_law_same")
  (Sn:BB K mg Z T 55 "_law_copy")
  (So:BB K mg Z T 56 "_law_refused")
  (Ss:BB K mg Z T 57 "_law_holdout")
  (Su:BB K mg Z T 59 "answer_once")
  (Sw:BB K mg Z T 60 "answer")
  (a58:W.nsIn K mainGlobals "law" = some (some (.ref Nf))) (l58:K.lookup Nf=some ⟨Ni,Ng,.func (W.fnOf "law" "law" (bq (top 54)) (aG (top 54)) (au (top 54)) .none KN KO KP KJ IJ KQ),Nh⟩) (e58:W.codeIn K IJ "law" = true) (k58:W.keepIn K (.ref Nf)=true)
  (q21:W.nsIn K mainGlobals "LETTERS" = some (some (.str "abcdefghijklmnopqrstuvwxyz" RB)))
  (q22:W.nsIn K mainGlobals "PLACES" = some (some (.int 10007 RC)))
  (q23:W.nsIn K mainGlobals "SALT_LENGTH" = some (some (.int 12 RE)))
  (u61:W.nsIn K mainGlobals "NoSwitch" = some (some (.ref CM)))
  (u62:W.nsIn K mainGlobals "NoSalt" = some (some (.ref Dh)))
  (u64:W.nsIn K mainGlobals "Twice" = some (some (.ref Jt)))
  (u65:W.nsIn K mainGlobals "NoGroup" = some (some (.ref Ju)))
  (u66:W.nsIn K mainGlobals "NoFace" = some (some (.ref Jv)))
  (u67:W.nsIn K mainGlobals "NoRule" = some (some (.ref Jw)))
  (u68:W.nsIn K mainGlobals "RollError" = some (some (.ref KI)))
  (u63:W.nsIn K mainGlobals "ValueError" = some none)
  (vn61:nameIn K CM=some "NoSwitch")
  (vg61:W.findIn K (.ref CM) "__getattribute__" = some (some (.builtin "BaseException.__getattribute__")))
  (vo61:W.findIn K (.ref CM) "__getattr__" = some none)
  (vc61:W.findIn K (.ref CM) "__class__" = some (some (.builtin "object.__class__")))
  (vb61:W.mroIn K CM (.type "BaseException")=some true)
  (vj61:W.mroIn K CM (.type "object")=some true)
  (vi61:(W.clsIn K CM).isSome=true)
  (vx61:W.excIn K CM Lg "ValueError.__new__" = true)
  (y61_61:W.kitOne K (.ref CM) (.ref CM)=some true)
  (y61_63:W.kitOne K (.ref CM) (.type "ValueError")=some true)
  (y61_64:W.kitOne K (.ref CM) (.ref Jt)=some false)
  (y61_65:W.kitOne K (.ref CM) (.ref Ju)=some false)
  (y61_66:W.kitOne K (.ref CM) (.ref Jv)=some false)
  (y61_67:W.kitOne K (.ref CM) (.ref Jw)=some false)
  (m61_68:W.exmOne K (.ref CM) (.ref KI)=some true)
  (vn62:nameIn K Dh=some "NoSalt")
  (vg62:W.findIn K (.ref Dh) "__getattribute__" = some (some (.builtin "BaseException.__getattribute__")))
  (vo62:W.findIn K (.ref Dh) "__getattr__" = some none)
  (vc62:W.findIn K (.ref Dh) "__class__" = some (some (.builtin "object.__class__")))
  (vb62:W.mroIn K Dh (.type "BaseException")=some true)
  (vj62:W.mroIn K Dh (.type "object")=some true)
  (vi62:(W.clsIn K Dh).isSome=true)
  (vx62:W.excIn K Dh Lg "ValueError.__new__" = true)
  (y62_61:W.kitOne K (.ref Dh) (.ref CM)=some false)
  (y62_63:W.kitOne K (.ref Dh) (.type "ValueError")=some true)
  (y62_64:W.kitOne K (.ref Dh) (.ref Jt)=some false)
  (y62_65:W.kitOne K (.ref Dh) (.ref Ju)=some false)
  (y62_66:W.kitOne K (.ref Dh) (.ref Jv)=some false)
  (y62_67:W.kitOne K (.ref Dh) (.ref Jw)=some false)
  (m62_68:W.exmOne K (.ref Dh) (.ref KI)=some true)
  (z0:W.nsIn K mainGlobals "len" = some none)
  (z1:W.nsIn K mainGlobals "sum" = some none)
  (z2:W.nsIn K mainGlobals "min" = some none)
  (z3:W.nsIn K mainGlobals "max" = some none)
  (z4:W.nsIn K mainGlobals "sorted" = some none)
  (z5:W.nsIn K mainGlobals "list" = some none)
  (z6:W.nsIn K mainGlobals "tuple" = some none)
  (z7:W.nsIn K mainGlobals "ord" = some none)
  (z8:W.nsIn K mainGlobals "int" = some none)
  (z9:W.nsIn K mainGlobals "all" = some none)
  (z10:W.nsIn K mainGlobals "any" = some none)
  (z11:W.nsIn K mainGlobals "str" = some none)
  (z12:W.nsIn K mainGlobals "set" = some none)
  (z13:W.nsIn K mainGlobals "abs" = some none)
  (z14:W.nsIn K mainGlobals "isinstance" = some none)
  (z15:W.nsIn K mainGlobals "range" = some none)
  (z16:W.nsIn K mainGlobals "bool" = some none)
  (z17:W.nsIn K mainGlobals "zip" = some none)
  (z18:W.nsIn K mainGlobals "reversed" = some none)
  (z19:W.nsIn K mainGlobals "dict" = some none)
  (z20:W.nsIn K mainGlobals "enumerate" = some none) :
  ∃ fd:FuncData,(∀ (s:Shared) (v:Value),BindsTo s fd ⟨[v],[]⟩ [(rO,v)])/\∀ base:Heap,K.In base->base.Ns mainGlobals mg->CJ l.prog w K mg base (Co l.prog w) (12+1) fa fd [rO] (Js K (ae T (12+1)) wX [rO]):=by
 have e:=RF.symm.trans (PySem.W.mg_of X G a58)
 cases e
 have t:DE K mg Z T:=by
  constructor
  case E5=>
   exact wW
  case blt=>
   exact fun n x hx=>by
    have key:∀ y∈aN,mg y=none:=by
     intro y hy
     simp only[aN,List.mem_cons,List.not_mem_nil,or_false] at hy
     rcases hy with rfl|rfl|rfl|rfl|rfl|rfl|rfl|rfl|rfl|rfl|rfl|rfl|rfl|rfl|rfl|rfl|rfl|rfl|rfl|rfl|rfl
     ·exact W.mg_none_of X G z0
     ·exact W.mg_none_of X G z1
     ·exact W.mg_none_of X G z2
     ·exact W.mg_none_of X G z3
     ·exact W.mg_none_of X G z4
     ·exact W.mg_none_of X G z5
     ·exact W.mg_none_of X G z6
     ·exact W.mg_none_of X G z7
     ·exact W.mg_none_of X G z8
     ·exact W.mg_none_of X G z9
     ·exact W.mg_none_of X G z10
     ·exact W.mg_none_of X G z11
     ·exact W.mg_none_of X G z12
     ·exact W.mg_none_of X G z13
     ·exact W.mg_none_of X G z14
     ·exact W.mg_none_of X G z15
     ·exact W.mg_none_of X G z16
     ·exact W.mg_none_of X G z17
     ·exact W.mg_none_of X G z18
     ·exact W.mg_none_of X G z19
     ·exact W.mg_none_of X G z20
    exact key x (List.mem_of_getElem? hx)
  case cst=>
   exact fun n d x hm hx=>by
    have DB:(n,d)∈([(21,(.str "abcdefghijklmnopqrstuvwxyz")),(22,(.int 10007)),(23,(.int 12))]:List (Nat×D)):=hm
    simp only[List.mem_cons,List.not_mem_nil,or_false,Prod.mk.injEq] at DB
    rcases DB with ⟨rfl,rfl⟩|⟨rfl,rfl⟩|⟨rfl,rfl⟩
    ·cases hx;exact⟨_,.str _,PySem.W.mg_of X G q21,⟨_,rfl⟩,fun _ _=>.str _⟩
    ·cases hx;exact⟨_,.int _,PySem.W.mg_of X G q22,⟨_,rfl⟩,fun _ _=>.int _⟩
    ·cases hx;exact⟨_,.int _,PySem.W.mg_of X G q23,⟨_,rfl⟩,fun _ _=>.int _⟩
  case fns=>
   exact fun f hf x hx=>by
    have Ef:f∈([24,25,26,27,28,29,30,31,32,33,34,35,36,37,38,39,40,41,42,43,44,45,46,48,49,50,51,52,53,54,55,56,57,58,59,60]:List Nat):=hf
    simp only[List.mem_cons,List.not_mem_nil,or_false] at Ef
    rcases Ef with rfl|rfl|rfl|rfl|rfl|rfl|rfl|rfl|rfl|rfl|rfl|rfl|rfl|rfl|rfl|rfl|rfl|rfl|rfl|rfl|rfl|rfl|rfl|rfl|rfl|rfl|rfl|rfl|rfl|rfl|rfl|rfl|rfl|rfl|rfl|rfl
    ·cases hx;exact RG
    ·cases hx;exact RH
    ·cases hx;exact RJ
    ·cases hx;exact RK
    ·cases hx;exact RL
    ·cases hx;exact RM
    ·cases hx;exact RP
    ·cases hx;exact RQ
    ·cases hx;exact RU
    ·cases hx;exact RV
    ·cases hx;exact RW
    ·cases hx;exact RX
    ·cases hx;exact RY
    ·cases hx;exact RZ
    ·cases hx;exact R3
    ·cases hx;exact R4
    ·cases hx;exact R5
    ·cases hx;exact R6
    ·cases hx;exact R7
    ·cases hx;exact R8
    ·cases hx;exact R9
    ·cases hx;exact R'
    ·cases hx;exact Sa
    ·cases hx;exact Sd
    ·cases hx;exact Sf
    ·cases hx;exact Sh
    ·cases hx;exact Si
    ·cases hx;exact Sj
    ·cases hx;exact Sk
    ·cases hx;exact Sm
    ·cases hx;exact Sn
    ·cases hx;exact So
    ·cases hx;exact Ss
    ·cases hx;exact dfo Pe rfl (fun _ _ _ _ _ _=>ln1 fun _=>rfl) X G a58 l58 e58 k58
    ·cases hx;exact Su
    ·cases hx;exact Sw
  case Dq=>
   exact fun f hf x hx=>by
    have Ef:f∈([47]:List Nat):=hf
    simp only[List.mem_cons,List.not_mem_nil,or_false] at Ef
    rcases Ef with rfl
    ·cases hx;exact Sb
  case FC=>
   exact fun f hf=>absurd (show f∈([]:List Nat) from hf) (by simp)
  case Fm=>
   exact fun n hn x hx=>by
    have DA:n∈([61,63,64,65,66,67]:List Nat):=hn
    simp only[List.mem_cons,List.not_mem_nil,or_false] at DA
    rcases DA with rfl|rfl|rfl|rfl|rfl|rfl
    ·cases hx;exact⟨_,(.inl ⟨CM,rfl,PySem.W.mg_of X G u61⟩)⟩
    ·cases hx;exact⟨_,(.inr ⟨"ValueError",rfl,W.mg_none_of X G u63,by decide +kernel⟩)⟩
    ·cases hx;exact⟨_,(.inl ⟨Jt,rfl,PySem.W.mg_of X G u64⟩)⟩
    ·cases hx;exact⟨_,(.inl ⟨Ju,rfl,PySem.W.mg_of X G u65⟩)⟩
    ·cases hx;exact⟨_,(.inl ⟨Jv,rfl,PySem.W.mg_of X G u66⟩)⟩
    ·cases hx;exact⟨_,(.inl ⟨Jw,rfl,PySem.W.mg_of X G u67⟩)⟩
  case EJ=>
   exact fun c n b x hm hx=>by
    have DB:(c,n,b)∈([(Str.ofString "NoSwitch",61,true),(Str.ofString "NoSwitch",63,true),(Str.ofString "NoSwitch",64,false),(Str.ofString "NoSwitch",65,false),(Str.ofString "NoSwitch",66,false),(Str.ofString "NoSwitch",67,false),(Str.ofString "NoSalt",61,false),(Str.ofString "NoSalt",63,true),(Str.ofString "NoSalt",64,false),(Str.ofString "NoSalt",65,false),(Str.ofString "NoSalt",66,false),(Str.ofString "NoSalt",67,false)]:List (Str×Nat×Bool)):=hm
    simp only[List.mem_cons,List.not_mem_nil,or_false,Prod.mk.injEq] at DB
    rcases DB with ⟨rfl,rfl,rfl⟩|⟨rfl,rfl,rfl⟩|⟨rfl,rfl,rfl⟩|⟨rfl,rfl,rfl⟩|⟨rfl,rfl,rfl⟩|⟨rfl,rfl,rfl⟩|⟨rfl,rfl,rfl⟩|⟨rfl,rfl,rfl⟩|⟨rfl,rfl,rfl⟩|⟨rfl,rfl,rfl⟩|⟨rfl,rfl,rfl⟩|⟨rfl,rfl,rfl⟩
    ·cases hx;exact⟨CM,u61,⟨vg61,vo61,vc61,vb61,vj61,vi61⟩,fun v hv=>by rw[Ee.fn hv (.inl ⟨CM,rfl,PySem.W.mg_of X G u61⟩)];exact y61_61⟩
    ·cases hx;exact⟨CM,u61,⟨vg61,vo61,vc61,vb61,vj61,vi61⟩,fun v hv=>by rw[Ee.fn hv (.inr ⟨"ValueError",rfl,W.mg_none_of X G u63,by decide +kernel⟩)];exact y61_63⟩
    ·cases hx;exact⟨CM,u61,⟨vg61,vo61,vc61,vb61,vj61,vi61⟩,fun v hv=>by rw[Ee.fn hv (.inl ⟨Jt,rfl,PySem.W.mg_of X G u64⟩)];exact y61_64⟩
    ·cases hx;exact⟨CM,u61,⟨vg61,vo61,vc61,vb61,vj61,vi61⟩,fun v hv=>by rw[Ee.fn hv (.inl ⟨Ju,rfl,PySem.W.mg_of X G u65⟩)];exact y61_65⟩
    ·cases hx;exact⟨CM,u61,⟨vg61,vo61,vc61,vb61,vj61,vi61⟩,fun v hv=>by rw[Ee.fn hv (.inl ⟨Jv,rfl,PySem.W.mg_of X G u66⟩)];exact y61_66⟩
    ·cases hx;exact⟨CM,u61,⟨vg61,vo61,vc61,vb61,vj61,vi61⟩,fun v hv=>by rw[Ee.fn hv (.inl ⟨Jw,rfl,PySem.W.mg_of X G u67⟩)];exact y61_67⟩
    ·cases hx;exact⟨Dh,u62,⟨vg62,vo62,vc62,vb62,vj62,vi62⟩,fun v hv=>by rw[Ee.fn hv (.inl ⟨CM,rfl,PySem.W.mg_of X G u61⟩)];exact y62_61⟩
    ·cases hx;exact⟨Dh,u62,⟨vg62,vo62,vc62,vb62,vj62,vi62⟩,fun v hv=>by rw[Ee.fn hv (.inr ⟨"ValueError",rfl,W.mg_none_of X G u63,by decide +kernel⟩)];exact y62_63⟩
    ·cases hx;exact⟨Dh,u62,⟨vg62,vo62,vc62,vb62,vj62,vi62⟩,fun v hv=>by rw[Ee.fn hv (.inl ⟨Jt,rfl,PySem.W.mg_of X G u64⟩)];exact y62_64⟩
    ·cases hx;exact⟨Dh,u62,⟨vg62,vo62,vc62,vb62,vj62,vi62⟩,fun v hv=>by rw[Ee.fn hv (.inl ⟨Ju,rfl,PySem.W.mg_of X G u65⟩)];exact y62_65⟩
    ·cases hx;exact⟨Dh,u62,⟨vg62,vo62,vc62,vb62,vj62,vi62⟩,fun v hv=>by rw[Ee.fn hv (.inl ⟨Jv,rfl,PySem.W.mg_of X G u66⟩)];exact y62_66⟩
    ·cases hx;exact⟨Dh,u62,⟨vg62,vo62,vc62,vb62,vj62,vi62⟩,fun v hv=>by rw[Ee.fn hv (.inl ⟨Jw,rfl,PySem.W.mg_of X G u67⟩)];exact y62_67⟩
  case Fo=>
   exact fun c n x hm hx=>by
    have DB:(c,n)∈([(Str.ofString "NoSwitch",68),(Str.ofString "NoSalt",68)]:List (Str×Nat)):=hm
    simp only[List.mem_cons,List.not_mem_nil,or_false,Prod.mk.injEq] at DB
    rcases DB with ⟨rfl,rfl⟩|⟨rfl,rfl⟩
    ·cases hx;exact⟨CM,KI,u61,u68,vn61,PySem.W.mg_of X G u68,m61_68⟩
    ·cases hx;exact⟨Dh,KI,u62,u68,vn62,PySem.W.mg_of X G u68,m62_68⟩
  case E6=>
   exact fun n c hm=>by
    have DB:(n,c)∈([(61,"NoSwitch"),(62,"NoSalt")]:List (Nat×Str)):=hm
    simp only[List.mem_cons,List.not_mem_nil,or_false,Prod.mk.injEq] at DB
    rcases DB with ⟨rfl,rfl⟩|⟨rfl,rfl⟩
    ·exact⟨rfl,CM,PySem.W.mg_of X G u61,u61,vx61⟩
    ·exact⟨rfl,Dh,PySem.W.mg_of X G u62,u62,vx62⟩
 exact⟨PySem.W.fnOf "law" "law" (bq (top 54)) (aG (top 54)) (au (top 54)) .none KN KO KP KJ IJ KQ,fun s v=>.of_eq rfl,fun base _ _=>wz t 12 (by decide) (f:=58) (fn:=Hl) rfl (dX (st:=top 54) l58 e58 k58) (iF Pe)⟩
end Law
namespace L2
open PySem PySem.Spec PyProof.Rows PySem.SeqAt
namespace Fr
noncomputable def one (c:Nat):Str:=⟨#[c]⟩
noncomputable def BQ (cs:List Nat):Str:=⟨cs.toArray⟩
def low (c:Nat):Prop:=97<=c/\c<=122
theorem pP:(Str.ofString "abcdefghijklmnopqrstuvwxyz").cps.toList=List.range' 97 26:=by decide +kernel
theorem kE:(Str.ofString "abcdefghijklmnopqrstuvwxyz").length=26:=by decide +kernel
theorem cO {i:Int}(h0:0<=i)(h1:i < 26):aK (.str "abcdefghijklmnopqrstuvwxyz") (.int i)=.ok (.str (one (97+i.toNat))):=by
 rw[Ev.MS h0 (by rw[kE];exact h1) (by rw[kE];decide),pP]
 have:(List.range' 97 26).getD i.toNat 0=97+i.toNat:=by
  rw[List.getD_eq_getElem?_getD,List.getElem?_range' (by omega)]
  show 97+1*i.toNat=_
  omega
 rw[this]
 rfl
theorem bP (cs:List Nat):(BQ cs).length=cs.length:=by unfold BQ Str.length;simp
theorem kF (c:Nat):(one c).length=1:=rfl
theorem iR {cs:List Nat}{j:Int}(h0:0<=j)(h1:j<=cs.length):Txt.slice (BQ cs) none (some j)=BQ (cs.take j.toNat):=by
 have:=StrLaws.sliceText_to (x:=BQ cs) (j:=j) ⟨h0,by show j<=(cs.toArray.toList.length:Nat);simpa using h1⟩
 refine this.trans ?_
 show (⟨((cs.toArray.toList.drop 0).take (j - 0).toNat).toArray⟩:Str)=⟨(cs.take j.toNat).toArray⟩
 rw[List.toList_toArray,List.drop_zero,Int.sub_zero]
theorem eQ {cs:List Nat}{i:Int}(h0:0<=i)(h1:i<=cs.length):Txt.slice (BQ cs) (some i) none=BQ (cs.drop i.toNat):=by
 have:=StrLaws.sliceText_from (x:=BQ cs) (i:=i) ⟨h0,by show i<=(cs.toArray.toList.length:Nat);simpa using h1⟩
 refine this.trans ?_
 show (⟨((cs.toArray.toList.drop i.toNat).take ((cs.toArray.toList.length:Int) - i).toNat).toArray⟩:Str)=⟨(cs.drop i.toNat).toArray⟩
 rw[List.toList_toArray,List.take_of_length_le (by rw[List.length_drop];omega)]
theorem rP (a b:List Nat):BQ a++BQ b=BQ (a++b):=by
 show (⟨a.toArray++b.toArray⟩:Str)=⟨(a++b).toArray⟩
 rw[List.append_toArray]
theorem dh (c:Nat):one c=BQ [c]:=rfl
theorem b9 {a b:List Nat}(h:a.length+b.length<=1000):C4 .add (.str (BQ a)) (.str (BQ b))=.ok (.str (BQ (a++b))):=by
 rw[Ev.jt,Ev.gH (by rw[bP,bP];omega),rP]
 rfl
theorem cF (cs:List Nat):bh (BQ cs)=(cs.map one).map .str:=by
 unfold bh BQ one
 rw[List.map_map]
 rfl
theorem Ax {β:Type}{body:D->Ev->Res Fl}(f:β->Nat->β)(st:β->Ev->Prop)(cs:List Nat)(b:β)(τ:Ev)(h:st b τ)(hb:∀ (c:Nat)(b:β)(τ:Ev),c∈cs->st b τ->∃ τ',body (.str (one c)) τ=.ok (.nx τ')/\st (f b c) τ') :
  ∃ τ',forM body ((cs.map one).map .str) τ=.ok (.nx τ')/\st (cs.foldl f b) τ':=by
 have:=Ev.iQ (body:=body) f (fun c:Nat=>D.str (one c)) st cs b τ h hb
 rw[show (cs.map one).map D.str=cs.map fun c=>D.str (one c) by rw[List.map_map];rfl]
 exact this
theorem wY {c:Nat}(h:low c):hJ "abcdefghijklmnopqrstuvwxyz" (one c)=true:=by
 have:∀ k,k < 26->hJ "abcdefghijklmnopqrstuvwxyz" (one (97+k))=true:=by decide +kernel
 obtain⟨h1,h2⟩:=h
 rw[show c=97+(c - 97) by omega]
 exact this _ (by omega)
noncomputable def kf (a m:Int)(k:Int)(c:Nat):Int:=(k*a+(c:Nat)) % m
theorem kG (c:Nat):decide ((one c).length=1)=true:=rfl
theorem kH (c:Nat):(one c).cps.getD 0 0=c:=rfl
end Fr
end L2
namespace Law
open PySem PySem.Spec L2 L2.Fr PyProof.Rows
noncomputable def Hm (ns:List Int)(k:Int):Int:=if 0 < ns.length then ns.getD (k % (ns.length:Int)).toNat 0 % 2147483647 else 0
noncomputable def dr (ns:List Int)(k m:Int):Int:=(Hm ns k*(742938285+9973*k*k)+k*630360016) % 2147483647 / 97 % m
theorem Ay (ns:List Int)(k:Int):0<=Hm ns k/\Hm ns k < 2147483647:=by
 unfold Hm
 split
 ·exact⟨Int.emod_nonneg _ (by decide),Int.emod_lt_of_pos _ (by decide)⟩
 ·decide
theorem cA (ns:List Int)(k:Int){m:Int}(h:0 < m):0<=dr ns k m:=Int.emod_nonneg _ (by omega)
theorem cB (ns:List Int)(k:Int){m:Int}(h:0 < m):dr ns k m < m:=Int.emod_lt_of_pos _ h
theorem aW (n:Nat)(ns:List Int)(k m:Int)(h0:0<=k)(h1:k<=2000)(hm:0 < m):ae T (n+1) 49 [.lst false (ns.map .int),.int k,.int m]=.ok (.int (dr ns k m)):=by
 rw[Ev.go (show T 49=some IB from rfl) (show IB.io=none from rfl) (show IB.np=3 from rfl) (show IB.G.N.length=5 from rfl) (show IB.body=M8 from rfl) rfl];unfold M8
 obtain⟨b0,b1⟩:=Ay ns k
 unfold dr
 have lm:(ns.map D.int).length=ns.length:=List.length_map _
 by_cases h:0 < ns.length
 ·have hd:decide ((0:Int) < (ns.length:Int))=true:=decide_eq_true (by omega)
  have c0:=Int.emod_nonneg k (show (ns.length:Int)≠0 by omega)
  have c1:=Int.emod_lt_of_pos k (show (0:Int) < (ns.length:Int) by omega)
  have ec:ns.getD (k % (ns.length:Int)).toNat 0 % 2147483647=Hm ns k:=by unfold Hm;rw[if_pos h]
  simp -implicitDefEqProofs (disch:=omega) only[BL,Nat.reduceBEq,Nat.reduceSub,Nat.reduceAdd,reduceIte,lm,hd,ec]
 ·have hd:decide ((0:Int) < (ns.length:Int))=false:=decide_eq_false (by omega)
  have ec:Hm ns k=0:=by unfold Hm;rw[if_neg h]
  rw[ec]
  simp -implicitDefEqProofs (disch:=omega) only[BL,Nat.reduceBEq,Nat.reduceSub,Nat.reduceAdd,reduceIte,lm,hd]
def Sl (cs:List Nat):Prop:=1<=cs.length/\cs.length<=12/\∀ c∈cs,low c
noncomputable def FC (cs:List Nat)(m:Int):Int:=((1+cs.foldl (kf 31 10006) 0)*m+cs.foldl (kf 37 10007) 0) % 10007
theorem rQ (n:Nat){cs:List Nat}(h:Sl cs):ae T (n+1) 25 [.str (BQ cs),.str "abcdefghijklmnopqrstuvwxyz",.int 1,.int 12]=.ok (.bl true):=by
 rw[Ev.go (show T 25=some Ii from rfl) (show Ii.io=none from rfl) (show Ii.np=4 from rfl) (show Ii.G.N.length=4 from rfl) (show Ii.body=MU from rfl) rfl];unfold MU
 obtain⟨h1,h2,h3⟩:=h
 have e1:aR (bB (ae T n) (.nm 1) [] (.cmp .EY (.v 1) (.v 0)) [some (.str "abcdefghijklmnopqrstuvwxyz"),none]) (bh (BQ cs))=.ok ((cs.map fun c=>true).map .bl):=by
  rw[cF,List.map_map]
  refine Ev.cz (fun c:Nat=>D.str (one c)) (fun c=>true) .bl _ fun c hc=>?_
  have:=wY (h3 c hc)
  simp -implicitDefEqProofs (disch:=omega) only[BL,Nat.reduceBEq,Nat.reduceSub,Nat.reduceAdd,reduceIte,this]
 have ea:(cs.map fun _=>true).all id=true:=by rw[List.all_map];simp
 have lc:(bh (BQ cs)).length=cs.length:=by rw[cF,List.length_map,List.length_map]
 have d1:decide ((1:Int)<=(cs.length:Int))=true:=decide_eq_true (by omega)
 have d2:decide ((cs.length:Int)<=12)=true:=decide_eq_true (by omega)
 have sl:=bP cs
 simp -implicitDefEqProofs (disch:=omega) only[BL,Nat.reduceBEq,Nat.reduceSub,Nat.reduceAdd,reduceIte,d1,d2,e1,ea,lc,sl]
theorem jw (n:Nat){cs:List Nat}(h:Sl cs):ae T (n+2) 32 [.str (BQ cs)]=.ok .By:=by
 have e:=rQ n h
 rw[Ev.go (show T 32=some Ik from rfl) (show Ik.io=none from rfl) (show Ik.np=1 from rfl) (show Ik.G.N.length=1 from rfl) (show Ik.body=MW from rfl) rfl];unfold MW
 simp -implicitDefEqProofs (disch:=omega) only[BL,Nat.reduceBEq,Nat.reduceSub,Nat.reduceAdd,reduceIte,e]
noncomputable def pQ:List IS:=[(.asg (.nm 3) (.bin .mod (.bin .add (.bin .mul (.v 3) (.v 1)) (.bi .ord [(.v 4)])) (.v 2)))]
theorem pR (n:Nat)(cs:List Nat)(hm:cs.length<=12)(a m:Int)(h0:0 < m)(ha:0<=a)(S9:a < 18446744073709551616):ae T (n+1) 33 [.str (BQ cs),.int a,.int m]=.ok (.int (cs.foldl (kf a m) 0)):=by
 obtain⟨τ',e,s4,rfl⟩:=Ax (body:=Ev.turn (ae T n) (.nm 4) pQ) (kf a m) (fun k τ=>∃ s4,τ=[some (.str (BQ cs)),some (.int a),some (.int m),some (.int k),s4]) cs 0 [some (.str (BQ cs)),some (.int a),some (.int m),some (.int 0),none] ⟨none,rfl⟩ (by
  rintro c k τ hc ⟨s4,rfl⟩
  refine⟨[some (.str (BQ cs)),some (.int a),some (.int m),some (.int (kf a m k c)),some (.str (one c))],?_,_,rfl⟩
  unfold pQ kf
  simp -implicitDefEqProofs (disch:=omega) only[BL,Nat.reduceBEq,Nat.reduceSub,Nat.reduceAdd,reduceIte,Ev.aD,kG,kH])
 unfold pQ at e
 rw[Ev.go (show T 33=some Il from rfl) (show Il.io=none from rfl) (show Il.np=3 from rfl) (show Il.G.N.length=5 from rfl) (show Il.body=MX from rfl) rfl];unfold MX
 simp -implicitDefEqProofs (disch:=omega) only[BL,Nat.reduceBEq,Nat.reduceSub,Nat.reduceAdd,reduceIte,cF,bP,e]
theorem pS (n:Nat){cs:List Nat}(h:Sl cs):ae T (n+3) 34 [.str (BQ cs)]=.ok (.tup [.int (1+cs.foldl (kf 31 10006) 0),.int (cs.foldl (kf 37 10007) 0)]):=by
 have e1:=jw n h
 have e2:=pR (n+1) cs h.2.1 31 10006 (by decide) (by decide) (by decide)
 have e3:=pR (n+1) cs h.2.1 37 10007 (by decide) (by decide) (by decide)
 rw[Ev.go (show T 34=some Im from rfl) (show Im.io=none from rfl) (show Im.np=1 from rfl) (show Im.G.N.length=3 from rfl) (show Im.body=MY from rfl) rfl];unfold MY
 simp -implicitDefEqProofs (disch:=omega) only[BL,Nat.reduceBEq,Nat.reduceSub,Nat.reduceAdd,reduceIte,e1,e2,e3,Int.reduceSub]
theorem iS (n:Nat){cs:List Nat}(h:Sl cs)(m:Int)(m0:0<=m)(m1:m<=1000000000):ae T (n+4) 35 [.str (BQ cs),.int m]=.ok (.int (FC cs m)):=by
 have e1:=pS n h
 have x0:∀ (P Q:D),aK (.tup [P,Q]) (.int 0)=.ok P:=fun _ _=>rfl
 have x1:∀ (P Q:D),aK (.tup [P,Q]) (.int 1)=.ok Q:=fun _ _=>rfl
 rw[Ev.go (show T 35=some Io from rfl) (show Io.io=none from rfl) (show Io.np=2 from rfl) (show Io.G.N.length=3 from rfl) (show Io.body=MZ from rfl) rfl];unfold MZ
 unfold FC
 simp -implicitDefEqProofs (disch:=omega) only[BL,Nat.reduceBEq,Nat.reduceSub,Nat.reduceAdd,reduceIte,e1,x0,x1]
noncomputable def KR (p:Int×Int)(c:Nat):Int×Int:=(kf 31 10006 p.1 c,kf 37 10007 p.2 c)
theorem pT:∀ (cs:List Nat) (a b:Int),cs.foldl KR (a,b)=(cs.foldl (kf 31 10006) a,cs.foldl (kf 37 10007) b)
 | [],a,b=>rfl
 | c::cs,a,b=>by
  rw[List.foldl_cons,List.foldl_cons,List.foldl_cons]
  exact pT cs _ _
noncomputable def Nj:List IS:=[(.asg (.nm 2) (.bin .mod (.bin .add (.bin .mul (.v 2) (.c (.int 31))) (.bi .ord [(.v 4)])) (.c (.int 10006)))),(.asg (.nm 3) (.bin .mod (.bin .add (.bin .mul (.v 3) (.c (.int 37))) (.bi .ord [(.v 4)])) (.c (.int 10007))))]
theorem fU (n:Nat)(cs:List Nat)(hm:cs.length<=12)(m:Int)(m0:0<=m)(m1:m<=1000000000):ae T (n+1) 52 [.str (BQ cs),.int m]=.ok (.int (FC cs m)):=by
 obtain⟨τ',e,s4,rfl⟩:=Ax (body:=Ev.turn (ae T n) (.nm 4) Nj) KR (fun p τ=>∃ s4,τ=[some (.str (BQ cs)),some (.int m),some (.int p.1),some (.int p.2),s4]) cs (0,0) [some (.str (BQ cs)),some (.int m),some (.int 0),some (.int 0),none] ⟨none,rfl⟩ (by
  rintro c ⟨a,b⟩ τ hc ⟨s4,rfl⟩
  refine⟨[some (.str (BQ cs)),some (.int m),some (.int (KR (a,b) c).1),some (.int (KR (a,b) c).2),some (.str (one c))],?_,_,rfl⟩
  unfold Nj KR kf
  simp -implicitDefEqProofs (disch:=omega) only[BL,Nat.reduceBEq,Nat.reduceSub,Nat.reduceAdd,reduceIte,Ev.aD,kG,kH])
 rw[pT] at e
 unfold Nj at e
 unfold FC
 rw[Ev.go (show T 52=some ID from rfl) (show ID.io=none from rfl) (show ID.np=2 from rfl) (show ID.G.N.length=5 from rfl) (show ID.body=M' from rfl) rfl];unfold M'
 simp -implicitDefEqProofs (disch:=omega) only[BL,Nat.reduceBEq,Nat.reduceSub,Nat.reduceAdd,reduceIte,cF,bP,e]
end Law
namespace L2
open PySem PySem.Spec PyProof.Rows PySem.SeqAt
namespace Fr
variable {T:Tb}
mutual
noncomputable def pl:Nat->D->Bool
 | n+1,.tup ds=>C7 n ds&&decide (ds.length < 1000)
 | n+1,.lst o ds=>!o&&(C7 n ds&&decide (ds.length < 1000))
 | _+1,.Bw _ _ _=>false
 | _+1,.exc _=>false
 | 0,_=>false
 | _+1,_=>true
noncomputable def C7:Nat->List D->Bool
 | _,[]=>true
 | n,d::ds=>pl n d&&C7 n ds
end
theorem gJ {n:Nat}:∀ {ds:List D},C7 n ds=true->∀ d∈ds,pl n d=true
 | [],_,d,hd=>by simp at hd
 | e::ds,h,d,hd=>by
  have h':=Bool.and_eq_true_iff.mp (show (pl n e&&C7 n ds)=true from h)
  rcases List.mem_cons.mp hd with rfl|hd
  ·exact h'.1
  ·exact gJ h'.2 d hd
theorem pU:∀ (n:Nat) (d:D),pl n d=true->er d=d:=by
 intro n
 induction n with
 | zero=>intro d h;cases d<;>cases h
 | succ n ih=>
  have all:∀ ds:List D,C7 n ds=true->BA ds=ds:=by
   intro ds
   induction ds with
   | nil=>intro _;rfl
   | cons e ds GQ=>
    intro h
    have h':=Bool.and_eq_true_iff.mp (show (pl n e&&C7 n ds)=true from h)
    show er e::BA ds=_
    rw[ih e h'.1,GQ h'.2]
  intro d h
  cases d with
  | tup ds=>
   have h':=Bool.and_eq_true_iff.mp (show (C7 n ds&&decide (ds.length < 1000))=true from h)
   rw[er,all ds h'.1]
  | lst o ds=>
   have h':=Bool.and_eq_true_iff.mp (show (!o&&(C7 n ds&&decide (ds.length < 1000)))=true from h)
   have h2:=Bool.and_eq_true_iff.mp h'.2
   have ho:o=false:=by simpa using h'.1
   subst ho
   rw[er,all ds h2.1]
  | Bw _ _ _=>cases h
  | exc _=>cases h
  | _=>rfl
theorem pV {n:Nat}:∀ {ds:List D},C7 n ds=true->BA ds=ds
 | [],_=>rfl
 | e::ds,h=>by
  have h':=Bool.and_eq_true_iff.mp (show (pl n e&&C7 n ds)=true from h)
  show er e::BA ds=_
  rw[pU n e h'.1,pV h'.2]
noncomputable def pW (f:Nat):Gm:={N:=["_law_own","_law_part"],kd:=[.local,.local],gl:=[f],df:=false}
noncomputable def uJ (f:Nat):List IS:=
 [(.BM (.cmp .EZ (.v 1) (.c .By)) [(.ret (.cmp .EZ (.v 0) (.c .By)))] []),(.BM (.E0 (.Cp (.v 1) .bool) (.Cp (.v 0) .bool)) [(.ret (.BV (.Cp (.v 1) .bool) (.BV (.Cp (.v 0) .bool) (.cmp .eq (.v 0) (.v 1)))))] []),(.BM (.Cp (.v 1) .str) [(.ret (.BV (.Cp (.v 0) .str) (.cmp .eq (.v 0) (.v 1))))] []),(.BM (.Cp (.v 1) .int) [(.ret (.BV (.Cp (.v 0) .int) (.cmp .eq (.v 0) (.v 1))))] []),(.BM (.Cp (.v 1) .tuple) [(.BM (.Ce (.Cp (.v 0) .tuple)) [(.ret (.c (.bl false)))] [])] [(.BM (.Ce (.Cp (.v 0) .list)) [(.ret (.c (.bl false)))] [])]),(.BM (.cmp .ne (.bi .len [(.v 0)]) (.bi .len [(.v 1)])) [(.ret (.c (.bl false)))] []),(.ret (.bi .all [(.comp (pW f) [] (.tp [(.nm 0),(.nm 1)]) (.zip (.v 0) (.v 1)) [] (.call f [(.v 0),(.v 1)]))]))]
theorem eR (ds:List D):dv ds ds=ds.map fun a=>.tup [a,a]:=by
 unfold dv
 induction ds with
 | nil=>rfl
 | cons d ds ih=>rw[List.zipWith_cons_cons,ih];rfl
theorem iT:∀ n:Nat,bz (List.replicate n (D.bl true))=some (List.replicate n true)
 | 0=>rfl
 | n+1=>by
  rw[List.replicate_succ,List.replicate_succ]
  show (bz _).map _=_
  rw[iT n]
  rfl
theorem all_true (o:Bool)(n:Nat):cH .all [.lst o (List.replicate n (D.bl true))]=.ok (.bl true):=by
 show (match bz (List.replicate n (D.bl true)) with|some bs=>.ok (.bl (bs.all id))|none=>Bu:Res D)=_
 rw[iT]
 simp
theorem rR {f:Nat}{fn:Fn}(hT:T f=some fn)(F5:fn.io=none)(h1:fn.np=2)(h2:fn.G.N.length=2)(h3:fn.body=uJ f):∀ (n k:Nat) (d:D),pl n d=true->ae T (n+k) f [d,d]=.ok (.bl true):=by
 intro n
 induction n with
 | zero=>intro k d h;cases d<;>cases h
 | succ n ih=>
  intro k d h
  have fm:∀ ds:List D,C7 n ds=true->aR (bB (ae T (n+k)) (.tp [(.nm 0),(.nm 1)]) [] (.call f [(.v 0),(.v 1)]) [none,none]) (dv ds ds)=.ok (List.replicate ds.length (D.bl true)):=by
   intro ds hp
   rw[eR]
   refine(Ev.cz (fun a:D=>D.tup [a,a]) (fun _=>D.bl true) id ds fun x hx=>?_).trans (by rw[List.map_id,List.map_const'])
   have CA:=gJ hp x hx
   have hc:=ih k x CA
   have he:=pU n x CA
   have e2:BA [x,x]=[x,x]:=by show [er x,er x]=_;rw[he]
   simp -implicitDefEqProofs (disch:=omega) only[BL,Nat.reduceBEq,Nat.reduceSub,Nat.reduceAdd,reduceIte,Ev.aD,hc,e2,he,id]
  rw[show n+1+k=(n+k)+1 by omega,Ev.go hT F5 h1 h2 h3 rfl]
  unfold uJ
  cases d with
  | By=>simp -implicitDefEqProofs (disch:=omega) only[BL,Nat.reduceBEq,Nat.reduceSub,Nat.reduceAdd,reduceIte]
  | bl b=>simp -implicitDefEqProofs (disch:=omega) only[BL,Nat.reduceBEq,Nat.reduceSub,Nat.reduceAdd,reduceIte]
  | int i=>simp -implicitDefEqProofs (disch:=omega) only[BL,Nat.reduceBEq,Nat.reduceSub,Nat.reduceAdd,reduceIte]
  | str x=>simp -implicitDefEqProofs (disch:=omega) only[BL,Nat.reduceBEq,Nat.reduceSub,Nat.reduceAdd,reduceIte]
  | tup ds=>
   have h':=Bool.and_eq_true_iff.mp (show (C7 n ds&&decide (ds.length < 1000))=true from h)
   have hl:ds.length < 1000:=of_decide_eq_true h'.2
   have hz:(dv ds ds).length=ds.length:=by rw[eR,List.length_map]
   have e:=fm ds h'.1
   have ea:=all_true true ds.length
   unfold pW
   simp -implicitDefEqProofs (disch:=omega) only[BL,Nat.reduceBEq,Nat.reduceSub,Nat.reduceAdd,reduceIte,e,ea,hz]
  | lst o ds=>
   have h0:=Bool.and_eq_true_iff.mp (show (!o&&(C7 n ds&&decide (ds.length < 1000)))=true from h)
   have h':=Bool.and_eq_true_iff.mp h0.2
   have hl:ds.length < 1000:=of_decide_eq_true h'.2
   have hz:(dv ds ds).length=ds.length:=by rw[eR,List.length_map]
   have e:=fm ds h'.1
   have ea:=all_true true ds.length
   unfold pW
   simp -implicitDefEqProofs (disch:=omega) only[BL,Nat.reduceBEq,Nat.reduceSub,Nat.reduceAdd,reduceIte,e,ea,hz]
  | Bw _ _ _=>cases h
  | exc _=>cases h
noncomputable def kI (f:Nat)(x:Str):Gm:={N:=[x],kd:=[.local],gl:=[f],df:=false}
noncomputable def uK (f:Nat)(x:Str):List IS:=
 [(.BM (.Cp (.v 0) .list) [(.ret (.comp (kI f x) [] (.nm 0) (.val (.v 0)) [] (.call f [(.v 0)])))] []),(.BM (.Cp (.v 0) .tuple) [(.ret (.bi .tuple [(.comp (kI f x) [] (.nm 0) (.val (.v 0)) [] (.call f [(.v 0)]))]))] []),(.ret (.v 0))]
theorem Cj:∀ ds:List D,BA (BA ds)=BA ds:=by
 intro ds
 rw[aZ,aZ,List.map_map]
 exact List.map_congr_left fun d _=>si d
theorem kJ {g:D->Res (Option D)}:∀ (xs:List D),(∀ x∈xs,∃ y,g x=.ok (some y)/\er y=er x)->∃ ys,aR g xs=.ok ys/\BA ys=BA xs/\ys.length=xs.length
 | [],_=>⟨[],rfl,rfl,rfl⟩
 | x::xs,h=>by
  obtain⟨y,h1,h2⟩:=h x (by simp)
  obtain⟨ys,h3,h4,h5⟩:=kJ xs fun z hz=>h z (List.mem_cons_of_mem _ hz)
  refine⟨y::ys,?_,by show er y::BA ys=er x::BA xs;rw[h2,h4],by rw[List.length_cons,List.length_cons,h5]⟩
  show Bn (g x) _=_
  rw[h1]
  show Bn (aR g xs) _=_
  rw[h3]
  rfl
theorem rS {f:Nat}{fn:Fn}{x:Str}(hT:T f=some fn)(F5:fn.io=none)(h1:fn.np=1)(h2:fn.G.N.length=1)(h3:fn.body=uK f x):∀ (n k:Nat) (d:D),pl n d=true->∃ d',ae T (n+k) f [d]=.ok d'/\er d'=d:=by
 intro n
 induction n with
 | zero=>intro k d h;cases d<;>cases h
 | succ n ih=>
  intro k d h
  have fm:∀ ds:List D,C7 n ds=true->∃ ys,aR (bB (ae T (n+k)) (.nm 0) [] (.call f [(.v 0)]) [none]) ds=.ok ys/\BA ys=ds/\ys.length=ds.length:=by
   intro ds hp
   obtain⟨ys,h1,h2,h3⟩:=kJ (g:=bB (ae T (n+k)) (.nm 0) [] (.call f [(.v 0)]) [none]) ds fun x hx=>by
    have CA:=gJ hp x hx
    obtain⟨y,hc,hy⟩:=ih k x CA
    have he:=pU n x CA
    have e2:BA [x]=[x]:=by show [er x]=_;rw[he]
    refine⟨y,?_,hy.trans he.symm⟩
    simp -implicitDefEqProofs (disch:=omega) only[BL,Nat.reduceBEq,Nat.reduceSub,Nat.reduceAdd,reduceIte,Ev.aD,hc,e2,he]
   exact⟨ys,h1,h2.trans (pV hp),h3⟩
  rw[show n+1+k=(n+k)+1 by omega,Ev.go hT F5 h1 h2 h3 rfl]
  unfold uK
  cases d with
  | By=>exact⟨.By,by simp -implicitDefEqProofs (disch:=omega) only[BL,Nat.reduceBEq,Nat.reduceSub,Nat.reduceAdd,reduceIte],rfl⟩
  | bl b=>exact⟨.bl b,by simp -implicitDefEqProofs (disch:=omega) only[BL,Nat.reduceBEq,Nat.reduceSub,Nat.reduceAdd,reduceIte],rfl⟩
  | int i=>exact⟨.int i,by simp -implicitDefEqProofs (disch:=omega) only[BL,Nat.reduceBEq,Nat.reduceSub,Nat.reduceAdd,reduceIte],rfl⟩
  | str z=>exact⟨.str z,by simp -implicitDefEqProofs (disch:=omega) only[BL,Nat.reduceBEq,Nat.reduceSub,Nat.reduceAdd,reduceIte],rfl⟩
  | tup ds=>
   have h':=Bool.and_eq_true_iff.mp (show (C7 n ds&&decide (ds.length < 1000))=true from h)
   have hl:ds.length < 1000:=of_decide_eq_true h'.2
   obtain⟨ys,e,hy,Sy⟩:=fm ds h'.1
   unfold kI
   cases lf:ai ys with
   | true=>
    refine⟨.tup ys,?_,by rw[er,hy]⟩
    simp -implicitDefEqProofs (disch:=omega) only[BL,Nat.reduceBEq,Nat.reduceSub,Nat.reduceAdd,reduceIte,e,lf]
   | false=>
    refine⟨.tup (BA ys),?_,by rw[er,Cj,hy]⟩
    simp -implicitDefEqProofs (disch:=omega) only[BL,Nat.reduceBEq,Nat.reduceSub,Nat.reduceAdd,reduceIte,e,lf]
  | lst o ds=>
   have h0:=Bool.and_eq_true_iff.mp (show (!o&&(C7 n ds&&decide (ds.length < 1000)))=true from h)
   have h':=Bool.and_eq_true_iff.mp h0.2
   have ho:o=false:=by simpa using h0.1
   subst ho
   have hl:ds.length < 1000:=of_decide_eq_true h'.2
   obtain⟨ys,e,hy,Sy⟩:=fm ds h'.1
   unfold kI
   cases lf:ai ys with
   | true=>
    refine⟨.lst true ys,?_,by rw[er,hy]⟩
    simp -implicitDefEqProofs (disch:=omega) only[BL,Nat.reduceBEq,Nat.reduceSub,Nat.reduceAdd,reduceIte,e,lf]
   | false=>
    refine⟨.lst true (BA ys),?_,by rw[er,Cj,hy]⟩
    simp -implicitDefEqProofs (disch:=omega) only[BL,Nat.reduceBEq,Nat.reduceSub,Nat.reduceAdd,reduceIte,e,lf]
  | Bw _ _ _=>cases h
  | exc _=>cases h
end Fr
end L2
namespace Law
open PySem PySem.Spec L2 L2.Fr
theorem same (n k:Nat){d:D}(h:pl n d=true):ae T (n+k) 54 [d,d]=.ok (.bl true):=rR (fn:=Na) rfl rfl rfl rfl rfl n k d h
theorem copy (n k:Nat){d:D}(h:pl n d=true):∃ d',ae T (n+k) 55 [d]=.ok d'/\er d'=d:=rS (fn:=Nb) (x:="_law_part") rfl rfl rfl rfl rfl n k d h
open PyProof.Rows
theorem pX:Str.ofString "" = BQ []:=by decide +kernel
noncomputable def tS:List IS:=[(.asg (.nm 3) (.bin .add (.v 3) (.idx (.v 2) (.call 49 [(.v 0),(.bin .add (.bin .add (.v 1) (.c (.int 2))) (.v 4)),(.c (.int 26))]))))]
theorem rT (n:Nat)(ns:List Int){k:Int}(h0:0<=k)(h1:k<=1900):∃ cs:List Nat,ae T (n+2) 51 [.lst false (ns.map .int),.int k]=.ok (.str (BQ cs))/\Sl cs:=by
 have d0:=aW n ns k 12 h0 (by omega) (by decide)
 have a0:=cA ns k (m:=12) (by decide)
 have a1:=cB ns k (m:=12) (by decide)
 generalize dr ns k 12=r at *
 obtain⟨τ',e,cs,y4,rfl,hl,hx⟩:=Ev.gI (its:=bu 0 r) (τ:=[some (.lst false (ns.map .int)),some (.int k),some (.str "abcdefghijklmnopqrstuvwxyz"),some (.str (BQ [])),none,none]) (body:=Ev.turn (ae T (n+1)) (.nm 4) tS)
  (fun i τ=>∃ (cs:List Nat) (x4:Option D),τ=[some (.lst false (ns.map .int)),some (.int k),some (.str "abcdefghijklmnopqrstuvwxyz"),some (.str (BQ cs)),x4,none]/\cs.length=i/\∀ c∈cs,low c)
  ⟨[],none,rfl,rfl,fun c hc=>by simp at hc⟩ (by
   rintro i x τ hx ⟨cs,x4,rfl,hl,Nk⟩
   have hi:i < r.toNat:=by
    have:=(List.getElem?_eq_some_iff.mp hx).1
    rw[bt] at this
    omega
   unfold bu at hx
   rw[List.getElem?_map,List.getElem?_range (by omega)] at hx
   have CA:D.int (0+(i:Nat))=x:=Option.some.inj hx
   subst CA
   have d1:=aW n ns (k+2+(0+(i:Int))) 26 (by omega) (by omega) (by decide)
   have b0:=cA ns (k+2+(0+(i:Int))) (m:=26) (by decide)
   have b1:=cB ns (k+2+(0+(i:Int))) (m:=26) (by decide)
   generalize dr ns (k+2+(0+(i:Int))) 26=q at *
   refine⟨[some (.lst false (ns.map .int)),some (.int k),some (.str "abcdefghijklmnopqrstuvwxyz"),some (.str (BQ (cs++[97+q.toNat]))),some (.int (0+(i:Nat))),none],?_,_,_,rfl,by rw[List.length_append,hl];rfl,fun c hc=>?_⟩
   ·have sa:=b9 (a:=cs) (b:=[97+q.toNat]) (by rw[hl,List.length_singleton];omega)
    have ab:=cO b0 b1
    rw[dh] at ab
    unfold tS
    simp -implicitDefEqProofs (disch:=omega) only[BL,Nat.reduceBEq,Nat.reduceSub,Nat.reduceAdd,reduceIte,Ev.aD,d1,ab,sa]
   ·rcases List.mem_append.mp hc with hc|hc
    ·exact Nk c hc
    ·rw[List.mem_singleton.mp hc];constructor<;>omega)
 rw[bt] at hl
 have d1:=aW n ns (k+1) ((cs.length:Int)+1) (by omega) (by omega) (by omega)
 have b0:=cA ns (k+1) (m:=(cs.length:Int)+1) (by omega)
 have b1:=cB ns (k+1) (m:=(cs.length:Int)+1) (by omega)
 generalize dr ns (k+1) ((cs.length:Int)+1)=t at *
 have d2:=aW n ns (k+14) 26 (by omega) (by omega) (by decide)
 have c0:=cA ns (k+14) (m:=26) (by decide)
 have c1:=cB ns (k+14) (m:=26) (by decide)
 generalize dr ns (k+14) 26=q at *
 have ab:=cO c0 c1
 rw[dh] at ab
 have s1:=iR (cs:=cs) (j:=t) b0 (by omega)
 have s2:=eQ (cs:=cs) (i:=t) b0 (by omega)
 have l1:(cs.take t.toNat).length<=12:=by rw[List.length_take];omega
 have l2:(cs.drop t.toNat).length<=12:=by rw[List.length_drop];omega
 have p1:=b9 (a:=cs.take t.toNat) (b:=[97+q.toNat]) (by rw[List.length_singleton];omega)
 have p2:=b9 (a:=cs.take t.toNat++[97+q.toNat]) (b:=cs.drop t.toNat) (by rw[List.length_append,List.length_singleton];omega)
 refine⟨cs.take t.toNat++[97+q.toNat]++cs.drop t.toNat,?_,?_,?_,fun c hc=>?_⟩
 ·unfold tS at e
  have sl:=bP cs
  rw[Ev.go (show T 51=some IC from rfl) (show IC.io=none from rfl) (show IC.np=2 from rfl) (show IC.G.N.length=6 from rfl) (show IC.body=M9 from rfl) rfl];unfold M9
  simp -implicitDefEqProofs (disch:=omega) only[BL,Nat.reduceBEq,Nat.reduceSub,Nat.reduceAdd,reduceIte,pX,d0,e,sl,d1,d2,ab,s1,s2,p1,p2]
 ·rw[List.length_append,List.length_append,List.length_singleton];omega
 ·have:(cs.take t.toNat).length+(cs.drop t.toNat).length=cs.length:=by rw[<- List.length_append,List.take_append_drop]
  rw[List.length_append,List.length_append,List.length_singleton];omega
 ·rcases List.mem_append.mp hc with hc|hc
  ·rcases List.mem_append.mp hc with hc|hc
   ·exact hx c (List.mem_of_mem_take hc)
   ·rw[List.mem_singleton.mp hc];constructor<;>omega
  ·exact hx c (List.mem_of_mem_drop hc)
theorem pY (n:Nat)(ns:List Int){k:Int}(h0:0<=k)(h1:k<=100):∃ m:Int,ae T (n+2) 53 [.lst false (ns.map .int),.int k]=.ok (.int m)/\0<=m/\m<=1000000000:=by
 have d0:=aW n ns k 6 h0 (by omega) (by decide)
 have a0:=cA ns k (m:=6) (by decide)
 have a1:=cB ns k (m:=6) (by decide)
 generalize dr ns k 6=r at *
 have d1:=aW n ns (k+1) 31600 (by omega) (by omega) (by decide)
 have b0:=cA ns (k+1) (m:=31600) (by decide)
 have b1:=cB ns (k+1) (m:=31600) (by decide)
 generalize dr ns (k+1) 31600=s at *
 have d2:=aW n ns (k+2) 31600 (by omega) (by omega) (by decide)
 have c0:=cA ns (k+2) (m:=31600) (by decide)
 have c1:=cB ns (k+2) (m:=31600) (by decide)
 generalize dr ns (k+2) 31600=t at *
 have pg:∀ x:Res D,Bv (decide ((0:Int)<=9/\(9:Int)<=1000000/\Int.natAbs 10 < 2 ^ 64)) x=x:=fun _=>rfl
 have i0:∀ (o:Bool) (P Q:D),aK (.lst o [P,Q]) (.int 0)=.ok P:=fun _ _ _=>rfl
 have i1:∀ (o:Bool) (P Q:D),aK (.lst o [P,Q]) (.int 1)=.ok Q:=fun _ _ _=>rfl
 by_cases h:r < 2
 ·have hd:decide (r < 2)=true:=decide_eq_true h
  rcases (show r=0∨r=1 by omega) with rfl|rfl
  ·refine⟨0,?_,by decide,by decide⟩
   rw[Ev.go (show T 53=some Eh from rfl) (show Eh.io=none from rfl) (show Eh.np=2 from rfl) (show Eh.G.N.length=3 from rfl) (show Eh.body=IE from rfl) rfl];unfold IE
   simp -implicitDefEqProofs (disch:=omega) only[BL,Nat.reduceBEq,Nat.reduceSub,Nat.reduceAdd,reduceIte,d0,hd,pg,i0,i1]
  ·refine⟨10 ^ Int.toNat 9,?_,by decide,by decide⟩
   rw[Ev.go (show T 53=some Eh from rfl) (show Eh.io=none from rfl) (show Eh.np=2 from rfl) (show Eh.G.N.length=3 from rfl) (show Eh.body=IE from rfl) rfl];unfold IE
   simp -implicitDefEqProofs (disch:=omega) only[BL,Nat.reduceBEq,Nat.reduceSub,Nat.reduceAdd,reduceIte,d0,hd,pg,i0,i1]
 ·have hd:decide (r < 2)=false:=decide_eq_false h
  refine⟨s*31600+t,?_,by omega,by omega⟩
  rw[Ev.go (show T 53=some Eh from rfl) (show Eh.io=none from rfl) (show Eh.np=2 from rfl) (show Eh.G.N.length=3 from rfl) (show Eh.body=IE from rfl) rfl];unfold IE
  simp -implicitDefEqProofs (disch:=omega) only[BL,Nat.reduceBEq,Nat.reduceSub,Nat.reduceAdd,reduceIte,d0,hd,d1,d2]
theorem kK {a b:List Nat}(h:BQ a=BQ b):a=b:=by
 have:=congrArg (fun s:Str=>s.cps.toList) h
 simpa[BQ] using this
theorem kL (c:Nat):∀ (k:Nat) (acc:Array Nat),(List.replicate k (one c).cps).foldl (fun x1 x2=>x1++x2) acc=acc++(List.replicate k c).toArray
 | 0,acc=>by simp
 | k+1,acc=>by
  rw[List.replicate_succ,List.foldl_cons,kL c k,List.replicate_succ]
  show acc++#[c]++(List.replicate k c).toArray=acc++(c::List.replicate k c).toArray
  rw[Array.append_assoc]
  exact congrArg (acc++·) (List.append_toArray [c] (List.replicate k c))
theorem gK (c:Nat){j:Int}(h:1<=j):Txt.mul (one c) j=BQ (List.replicate j.toNat c):=by
 unfold Txt.mul
 split
 ·omega
 ·split
  ·rename_i h1 h2
   rw[kF] at h2
   have:j=1:=by simpa using h2
   rw[this];rfl
  ·unfold BQ
   rw[kL]
   simp
theorem kM {cs:List Nat}(h:∀ c∈cs,c < 1000)(hl:cs.length<=90):(reprText (BQ cs)).length<=1000:=by
 have h1:=StrLaws.reprText_len (BQ cs) (fun c hc=>by have:=h c (by simpa[BQ] using hc);omega)
 rw[bP] at h1
 omega
noncomputable def tN:List IS:=[(.asg (.nm 5) (.bin .add (.v 5) (.idx (.v 3) (.call 49 [(.v 0),(.bin .add (.bin .add (.v 1) (.c (.int 40))) (.v 6)),(.c (.int 26))]))))]
noncomputable def j6:List Int:=(List.range (6 - 0:Int).toNat).map fun k=>(0:Int)+((k:Nat):Int)
theorem pZ {x:Int}(h:x∈j6):0<=x/\x < 6:=by
 obtain⟨k,hk,rfl⟩:=List.mem_map.mp h
 have:=List.mem_range.mp hk
 omega
theorem uL {f:Int->Str}(hf:∀ x y,0<=x->x < 6->0<=y->y < 6->f x=f y->x=y):(j6.map f).Nodup:=by
 have e:j6=[0,1,2,3,4,5]:=by decide
 rw[e]
 have ne:∀ x y:Int,0<=x->x < 6->0<=y->y < 6->x≠y->f x≠f y:=fun x y a b c d n q=>n (hf x y a b c d q)
 simp only[List.map_cons,List.map_nil,List.nodup_cons,List.mem_cons,List.not_mem_nil,or_false,not_or,not_false_eq_true,and_true,List.nodup_nil]
 refine⟨⟨?_,?_,?_,?_,?_⟩,⟨?_,?_,?_,?_⟩,⟨?_,?_,?_⟩,⟨?_,?_⟩,?_⟩<;>exact ne _ _ (by decide) (by decide) (by decide) (by decide) (by decide)
theorem p3 (n:Nat)(ns:List Int):∃ fs:List Str,ae T (n+2) 50 [.lst false (ns.map .int),.int 0,.int 6]=.ok (.lst true (fs.map .str))/\fs.length=6/\fs.Nodup/\∀ f∈fs,(reprText f).length<=1000:=by
 have d0:=aW n ns 0 26 (by decide) (by decide) (by decide)
 have a0:=cA ns 0 (m:=26) (by decide)
 have a1:=cB ns 0 (m:=26) (by decide)
 generalize dr ns 0 26=st at *
 have d1:=aW n ns (0+1) 5 (by decide) (by decide) (by decide)
 generalize dr ns (0+1) 5=q at *
 have ab:=cO a0 a1
 have rn:bu 0 6=j6.map .int:=Ev.pO 0 6
 have ln:(j6.map D.int).length=6:=by decide
 cases hq:(q == 0) with
 | true=>
  have fm:aR (bB (ae T (n+1)) (.nm 2) [] (.bin .mul (.idx (.v 0) (.v 1)) (.bin .add (.c (.int 1)) (.v 2))) [some (.str "abcdefghijklmnopqrstuvwxyz"),some (.int st),none]) (j6.map .int)=.ok ((j6.map fun j=>Txt.mul (one (97+st.toNat)) (1+j)).map .str):=by
   refine Ev.cz .int (fun j=>Txt.mul (one (97+st.toNat)) (1+j)) .str _ fun j hj=>?_
   have:=pZ hj
   have ol:=kF (97+st.toNat)
   have gd:decide (-16000<=1+j/\1+j<=16000/\(one (97+st.toNat)).length<=1000)=true:=decide_eq_true (by rw[ol];omega)
   simp -implicitDefEqProofs (disch:=omega) only[BL,Nat.reduceBEq,Nat.reduceSub,Nat.reduceAdd,reduceIte,ab,gd]
  refine⟨j6.map fun j=>Txt.mul (one (97+st.toNat)) (1+j),?_,by rw[List.length_map];decide,uL fun x y x0 x1 y0 y1 e=>?_,fun f hf=>?_⟩
  ·rw[Ev.go (show T 50=some FF from rfl) (show FF.io=none from rfl) (show FF.np=3 from rfl) (show FF.G.N.length=9 from rfl) (show FF.body=KH from rfl) rfl];unfold KH
   generalize j6.map (fun j=>Txt.mul (one (97+st.toNat)) (1+j))=L at *
   simp -implicitDefEqProofs (disch:=omega) only[BL,Nat.reduceBEq,Nat.reduceSub,Nat.reduceAdd,reduceIte,d0,d1,hq,rn,ln,fm]
  ·rw[gK _ (by omega),gK _ (by omega)] at e
   have:=congrArg List.length (kK e)
   rw[List.length_replicate,List.length_replicate] at this
   omega
  ·obtain⟨j,hj,rfl⟩:=List.mem_map.mp hf
   have:=pZ hj
   rw[gK _ (by omega)]
   exact kM (fun c hc=>by rw[(List.mem_replicate.mp hc).2];omega) (by rw[List.length_replicate];omega)
 | false=>
  have d2:=aW n ns (0+2) 8 (by decide) (by decide) (by decide)
  have b0:=cA ns (0+2) (m:=8) (by decide)
  have b1:=cB ns (0+2) (m:=8) (by decide)
  generalize dr ns (0+2) 8=r at *
  obtain⟨τ',e,cs,y4,rfl,hl,LN⟩:=Ev.gI (its:=bu 0 r) (τ:=[some (.lst false (ns.map .int)),some (.int 0),some (.int 6),some (.str "abcdefghijklmnopqrstuvwxyz"),some (.int st),some (.str (BQ [])),none,none,none]) (body:=Ev.turn (ae T (n+1)) (.nm 6) tN)
   (fun i τ=>∃ (cs:List Nat) (x4:Option D),τ=[some (.lst false (ns.map .int)),some (.int 0),some (.int 6),some (.str "abcdefghijklmnopqrstuvwxyz"),some (.int st),some (.str (BQ cs)),x4,none,none]/\cs.length=i/\∀ c∈cs,low c)
   ⟨[],none,rfl,rfl,fun c hc=>by simp at hc⟩ (by
    rintro i x τ hx ⟨cs,x4,rfl,hl,Nk⟩
    have hi:i < r.toNat:=by
     have:=(List.getElem?_eq_some_iff.mp hx).1
     rw[bt] at this
     omega
    unfold bu at hx
    rw[List.getElem?_map,List.getElem?_range (by omega)] at hx
    have CA:D.int (0+(i:Nat))=x:=Option.some.inj hx
    subst CA
    have d1:=aW n ns (0+40+(0+(i:Int))) 26 (by omega) (by omega) (by decide)
    have b0:=cA ns (0+40+(0+(i:Int))) (m:=26) (by decide)
    have b1:=cB ns (0+40+(0+(i:Int))) (m:=26) (by decide)
    generalize dr ns (0+40+(0+(i:Int))) 26=q at *
    refine⟨[some (.lst false (ns.map .int)),some (.int 0),some (.int 6),some (.str "abcdefghijklmnopqrstuvwxyz"),some (.int st),some (.str (BQ (cs++[97+q.toNat]))),some (.int (0+(i:Nat))),none,none],?_,_,_,rfl,by rw[List.length_append,hl];rfl,fun c hc=>by
     rcases List.mem_append.mp hc with hc|hc
     ·exact Nk c hc
     ·rw[List.mem_singleton.mp hc];constructor<;>omega⟩
    have sa:=b9 (a:=cs) (b:=[97+q.toNat]) (by rw[hl,List.length_singleton];omega)
    have ab:=cO b0 b1
    rw[dh] at ab
    unfold tN
    simp -implicitDefEqProofs (disch:=omega) only[BL,Nat.reduceBEq,Nat.reduceSub,Nat.reduceAdd,reduceIte,Ev.aD,d1,ab,sa])
  rw[bt] at hl
  unfold tN at e
  have d3:=aW n ns (0+3) ((cs.length:Int)+1) (by decide) (by decide) (by omega)
  have g0:=cA ns (0+3) (m:=(cs.length:Int)+1) (by omega)
  have g1:=cB ns (0+3) (m:=(cs.length:Int)+1) (by omega)
  generalize dr ns (0+3) ((cs.length:Int)+1)=t at *
  have d4:=aW n ns (0+1) 4 (by decide) (by decide) (by decide)
  have f0:=cA ns (0+1) (m:=4) (by decide)
  have f1:=cB ns (0+1) (m:=4) (by decide)
  generalize dr ns (0+1) 4=u at *
  obtain⟨sp,DZ,Sz⟩:∃ sp:Int,(∀ o,aK (.lst o [.int 1,.int 7,.int 25,.int 11]) (.int u)=.ok (.int sp))/\(sp=1∨sp=7∨sp=25∨sp=11):=by
   rcases (show u=0∨u=1∨u=2∨u=3 by omega) with rfl|rfl|rfl|rfl
   ·exact⟨1,fun _=>rfl,by omega⟩
   ·exact⟨7,fun _=>rfl,by omega⟩
   ·exact⟨25,fun _=>rfl,by omega⟩
   ·exact⟨11,fun _=>rfl,by omega⟩
  have s1:=iR (cs:=cs) (j:=t) g0 (by omega)
  have s2:=eQ (cs:=cs) (i:=t) g0 (by omega)
  have l1:(cs.take t.toNat).length<=12:=by rw[List.length_take];omega
  have l2:(cs.drop t.toNat).length<=12:=by rw[List.length_drop];omega
  have sl:=bP cs
  have fm:aR (bB (ae T (n+1)) (.nm 5) [] (.bin .add (.bin .add (.sl (.v 0) none (some (.v 1))) (.idx (.v 2) (.bin .mod (.bin .add (.v 3) (.bin .mul (.v 4) (.v 5))) (.c (.int 26))))) (.sl (.v 0) (some (.v 1)) none)) [some (.str (BQ cs)),some (.int t),some (.str "abcdefghijklmnopqrstuvwxyz"),some (.int st),some (.int sp),none]) (j6.map .int)=.ok ((j6.map fun j=>BQ (cs.take t.toNat++[97+((st+sp*j) % 26).toNat]++cs.drop t.toNat)).map .str):=by
   refine Ev.cz .int (fun j=>BQ (cs.take t.toNat++[97+((st+sp*j) % 26).toNat]++cs.drop t.toNat)) .str _ fun j hj=>?_
   have:=pZ hj
   have c0:=Int.emod_nonneg (st+sp*j) (show (26:Int)≠0 by decide)
   have c1:=Int.emod_lt_of_pos (st+sp*j) (show (0:Int) < 26 by decide)
   have ab:=cO c0 c1
   rw[dh] at ab
   have p1:=b9 (a:=cs.take t.toNat) (b:=[97+((st+sp*j) % 26).toNat]) (by rw[List.length_singleton];omega)
   have p2:=b9 (a:=cs.take t.toNat++[97+((st+sp*j) % 26).toNat]) (b:=cs.drop t.toNat) (by rw[List.length_append,List.length_singleton];omega)
   simp -implicitDefEqProofs (disch:=omega) only[BL,Nat.reduceBEq,Nat.reduceSub,Nat.reduceAdd,reduceIte,s1,s2,sl,ab,p1,p2]
  refine⟨j6.map fun j=>BQ (cs.take t.toNat++[97+((st+sp*j) % 26).toNat]++cs.drop t.toNat),?_,by rw[List.length_map];decide,uL fun x y x0 x1 y0 y1 e=>?_,fun f hf=>?_⟩
  ·rw[Ev.go (show T 50=some FF from rfl) (show FF.io=none from rfl) (show FF.np=3 from rfl) (show FF.G.N.length=9 from rfl) (show FF.body=KH from rfl) rfl];unfold KH
   generalize j6.map (fun j=>BQ (cs.take t.toNat++[97+((st+sp*j) % 26).toNat]++cs.drop t.toNat))=L at *
   simp -implicitDefEqProofs (disch:=omega) only[BL,Nat.reduceBEq,Nat.reduceSub,Nat.reduceAdd,reduceIte,pX,d0,d1,hq,d2,e,sl,d3,d4,DZ,rn,ln,fm]
  ·have h1:=List.append_cancel_right (kK e)
   have h2:=List.append_cancel_left h1
   have h3:97+((st+sp*x) % 26).toNat=97+((st+sp*y) % 26).toNat:=List.head_eq_of_cons_eq h2
   rcases Sz with rfl|rfl|rfl|rfl<;>omega
  ·obtain⟨j,hj,rfl⟩:=List.mem_map.mp hf
   have c0:=Int.emod_nonneg (st+sp*j) (show (26:Int)≠0 by decide)
   have c1:=Int.emod_lt_of_pos (st+sp*j) (show (0:Int) < 26 by decide)
   refine kM (fun c hc=>?_) (by rw[List.length_append,List.length_append,List.length_singleton];omega)
   rcases List.mem_append.mp hc with hc|hc
   ·rcases List.mem_append.mp hc with hc|hc
    ·have:=LN c (List.mem_of_mem_take hc);unfold low at this;omega
    ·rw[List.mem_singleton.mp hc];omega
   ·have:=LN c (List.mem_of_mem_drop hc);unfold low at this;omega
theorem jx {α:Type}{g:D->Res (Option D)}(Fd:α->D)(p:α->Bool)(out:α->D):∀ xs:List α,(∀ x∈xs,g (Fd x)=.ok (if p x=true then some (out x) else none))->aR g (xs.map Fd)=.ok ((xs.filter p).map out)
 | [],_=>rfl
 | x::xs,h=>by
  have ih:=jx Fd p out xs fun y hy=>h y (List.mem_cons_of_mem _ hy)
  rw[List.map_cons,List.filter_cons]
  show Bn (g (Fd x)) _=_
  rw[h x (.head _)]
  cases p x with
  | true=>
   show Bn (aR _ _) _=_
   rw[ih]
   rfl
  | false=>exact ih
structure Ho where
 nm:Str
 cs:List Nat
 p:Int
 ns:Option (List Str)
noncomputable def nD (o:Bool):Option (List Str)->D
 | none=>.By
 | some l=>.lst o (l.map .str)
noncomputable def Ho.d (o:Bool)(h:Ho):D:=.tup [.str h.nm,.str (BQ h.cs),.int h.p,nD o h.ns]
structure Good (h:Ho):Prop where
 sl:Sl h.cs
 ns:∀ l,h.ns=some l->l.length<=5
noncomputable def en (p:Nat×Str):D:=.tup [.int (p.1:Nat),.str p.2]
theorem wZ (fs:List Str):ej (fs.map .str)=((List.range fs.length).zip fs).map en:=by
 unfold ej
 rw[List.length_map,List.zipWith_map_right,List.zip,List.map_zipWith]
 rfl
theorem w4 {fs:List Str}{p:Nat×Str}(h:p∈(List.range fs.length).zip fs):p.1 < fs.length/\p.2∈fs:=⟨List.mem_range.mp (List.of_mem_zip h).1,(List.of_mem_zip h).2⟩
theorem rV (n:Nat)(ns:List Int){k:Int}(h0:0<=k)(h1:k<=1800)(nm:Str){fs:List Str}(hf:fs.length<=5){m:Int}(m0:0<=m)(m1:m<=1000000000) :
  ∃ (h:Ho) (o:Bool),ae T (n+3) 57 [.lst false (ns.map .int),.int k,.str nm,.lst false (fs.map .str),.int m]=.ok (h.d o)/\h.nm=nm/\Good h:=by
 obtain⟨cs,e1,hs⟩:=rT n ns h0 (by omega)
 have e2:=fU (n+1) cs hs.2.1 m m0 m1
 generalize FC cs m=pp at *
 have fm:aR (bB (ae T (n+2)) (.tp [(.nm 2),(.nm 3)]) [(.cmp .gt (.call 49 [(.v 0),(.bin .add (.bin .add (.v 1) (.c (.int 15))) (.v 2)),(.c (.int 3))]) (.c (.int 0)))] (.v 3) [some (.lst false (ns.map .int)),some (.int k),none,none]) (((List.range fs.length).zip fs).map en)=.ok ((((List.range fs.length).zip fs).filter fun p=>decide (0 < dr ns (k+15+(p.1:Nat)) 3)).map fun p=>.str p.2):=by
  refine jx en _ _ _ fun p hp=>?_
  have hi:=(w4 hp).1
  have d1:=aW (n+1) ns (k+15+(p.1:Nat)) 3 (by omega) (by omega) (by decide)
  unfold en
  cases hd:decide (0 < dr ns (k+15+(p.1:Nat)) 3)<;>simp -implicitDefEqProofs (disch:=omega) only[BL,Nat.reduceBEq,Nat.reduceSub,Nat.reduceAdd,reduceIte,Ev.aD,d1,hd]
 have hlen:((((List.range fs.length).zip fs).filter fun p=>decide (0 < dr ns (k+15+(p.1:Nat)) 3)).map (fun p=>p.2)).length<=5:=by
  rw[List.length_map]
  refine Nat.le_trans (List.length_filter_le _ _) ?_
  rw[List.length_zip,List.length_range]
  omega
 have Nl:(((List.range fs.length).zip fs).filter fun p=>decide (0 < dr ns (k+15+(p.1:Nat)) 3)).map (fun p=>D.str p.2)=((((List.range fs.length).zip fs).filter fun p=>decide (0 < dr ns (k+15+(p.1:Nat)) 3)).map (fun p=>p.2)).map .str:=by
  rw[List.map_map];rfl
 rw[Nl] at fm
 generalize (((List.range fs.length).zip fs).filter fun p=>decide (0 < dr ns (k+15+(p.1:Nat)) 3)).map (fun p=>p.2)=l at *
 have IK:(((List.range fs.length).zip fs).map en).length<=5:=by rw[List.length_map,List.length_zip];omega
 have eq:=wZ fs
 generalize ((List.range fs.length).zip fs).map en=Z0 at *
 have d2:=aW (n+1) ns (k+21) 2 (by omega) (by omega) (by decide)
 have d3:=aW (n+1) ns (k+22) 5 (by omega) (by omega) (by decide)
 have d4:=aW (n+1) ns (k+23) 6 (by omega) (by omega) (by decide)
 have f0:=cA ns (k+23) (m:=6) (by decide)
 have f1:=cB ns (k+23) (m:=6) (by decide)
 generalize dr ns (k+23) 6=u at *
 have lf:=Ev.lR l
 have lr:(l.map D.str).reverse=l.reverse.map .str:=by rw[List.map_reverse]
 have Nm:=Ev.lR l.reverse
 obtain⟨q,hq⟩:∃ q:Int,∀ o,aK (.lst o [.int pp,.int pp,.int (pp+1),.int 0,.int 10007,.int (pp / 2)]) (.int u)=.ok (.int q):=by
  rcases (show u=0∨u=1∨u=2∨u=3∨u=4∨u=5 by omega) with rfl|rfl|rfl|rfl|rfl|rfl<;>exact⟨_,fun _=>rfl⟩
 have lm:(l.map D.str).length=l.length:=List.length_map _
 have nl:∀ a:IR,aS (.C3 a)=false:=fun _=>rfl
 have vl:∀ a:IR,vars (.C3 a)=vars a:=fun _=>rfl
 cases b3:(dr ns (k+22) 5 == 0) with
 | true=>
  refine⟨⟨nm,cs,q,none⟩,true,?_,rfl,hs,fun l z=>by cases z⟩
  unfold Ho.d nD
  rw[Ev.go (show T 57=some Ei from rfl) (show Ei.io=none from rfl) (show Ei.np=5 from rfl) (show Ei.G.N.length=8 from rfl) (show Ei.body=IG from rfl) rfl];unfold IG
  cases b2:(dr ns (k+21) 2 == 0)<;>simp -implicitDefEqProofs (disch:=omega) only[BL,Nat.reduceBEq,Nat.reduceSub,Nat.reduceAdd,reduceIte,e1,e2,eq,fm,IK,d2,b2,d3,b3,d4,hq,lf,lr,Nm,lm,nl,vl]
 | false=>
  cases b2:(dr ns (k+21) 2 == 0) with
  | true=>
   refine⟨⟨nm,cs,q,some l.reverse⟩,false,?_,rfl,hs,fun l' z=>by cases z;rw[List.length_reverse];exact hlen⟩
   unfold Ho.d nD
   rw[Ev.go (show T 57=some Ei from rfl) (show Ei.io=none from rfl) (show Ei.np=5 from rfl) (show Ei.G.N.length=8 from rfl) (show Ei.body=IG from rfl) rfl];unfold IG
   simp -implicitDefEqProofs (disch:=omega) only[BL,Nat.reduceBEq,Nat.reduceSub,Nat.reduceAdd,reduceIte,e1,e2,eq,fm,IK,d2,b2,d3,b3,d4,hq,lf,lr,Nm,lm,nl,vl]
  | false=>
   refine⟨⟨nm,cs,q,some l⟩,true,?_,rfl,hs,fun l' z=>by cases z;exact hlen⟩
   unfold Ho.d nD
   rw[Ev.go (show T 57=some Ei from rfl) (show Ei.io=none from rfl) (show Ei.np=5 from rfl) (show Ei.G.N.length=8 from rfl) (show Ei.body=IG from rfl) rfl];unfold IG
   simp -implicitDefEqProofs (disch:=omega) only[BL,Nat.reduceBEq,Nat.reduceSub,Nat.reduceAdd,reduceIte,e1,e2,eq,fm,IK,d2,b2,d3,b3,d4,hq,lf,lr,Nm,lm,nl,vl]
noncomputable def C8:D:=.tup [.str "ab",.str "off",.lst false [.tup [.lst false [],.tup [.str "face",.str "on"]]],.tup [.lst false [],.lst false [.tup [.int 0,.int 10007]]]]
noncomputable def cI:D:=.tup [C8,.lst false [],.bl false]
noncomputable def DY (f:Str):D:=.tup [.str f,cI]
noncomputable def B4 (hs:List Ho)(fs:List Str):D:=.tup [.lst false [],.lst false (hs.map (Ho.d false)),.lst false (fs.map DY)]
noncomputable def CN (m:Int):D:=.tup [.int m,.lst false []]
theorem h0 (hs:List Ho)(fs:List Str):aK (B4 hs fs) (.int 0)=.ok (.lst false []):=rfl
theorem h1 (hs:List Ho)(fs:List Str):aK (B4 hs fs) (.int 1)=.ok (.lst false (hs.map (Ho.d false))):=rfl
theorem h2 (hs:List Ho)(fs:List Str):aK (B4 hs fs) (.int 2)=.ok (.lst false (fs.map DY)):=rfl
theorem kN (fs:List Str):BA (fs.map DY)=fs.map DY:=by
 rw[aZ,List.map_map];rfl
theorem Az (h:Ho):er (h.d false)=h.d false:=by
 obtain⟨a,b,c,d⟩:=h
 cases d with
 | none=>rfl
 | some l=>
  show D.tup [_,_,_,.lst false (BA (l.map .str))]=_
  rw[Ev.dE];rfl
theorem dF (hs:List Ho):BA (hs.map (Ho.d false))=hs.map (Ho.d false):=by
 rw[aZ,List.map_map]
 exact List.map_congr_left fun h _=>Az h
theorem bH (hs:List Ho)(fs:List Str):er (B4 hs fs)=B4 hs fs:=by
 show D.tup [.lst false [],.lst false (BA (hs.map (Ho.d false))),.lst false (BA (fs.map DY))]=_
 rw[dF,kN];rfl
theorem kO (m:Int):er (CN m)=CN m:=rfl
theorem v0 (m:Int):aK (CN m) (.int 0)=.ok (.int m):=rfl
theorem v1 (m:Int):aK (CN m) (.int 1)=.ok (.lst false []):=rfl
noncomputable def tE:List IS:=[(.BM (.cmp .eq (.v 2) (.v 1)) [(.ret (.v 3))] [])]
theorem w8 (cl:Nat->List D->Res D)(f x:Str)(a b c:Option D):Ev.turn cl (.tp [(.nm 2),(.nm 3)]) tE (DY f) [a,some (.str x),b,c]=if (f == x)=true then .ok (.rt cI) else .ok (.nx [a,some (.str x),some (.str f),some cI]):=by
 unfold tE DY
 generalize cI=E
 cases h:(f == x)<;>simp -implicitDefEqProofs (disch:=omega) only[BL,Nat.reduceBEq,Nat.reduceSub,Nat.reduceAdd,reduceIte,Ev.aD,h]
theorem jy (cl:Nat->List D->Res D)(x:Str)(a:Option D):∀ (fs:List Str) (b c:Option D),
  (x∈fs->forM (Ev.turn cl (.tp [(.nm 2),(.nm 3)]) tE) (fs.map DY) [a,some (.str x),b,c]=.ok (.rt cI))/\
  (x∉fs->∃ b' c',forM (Ev.turn cl (.tp [(.nm 2),(.nm 3)]) tE) (fs.map DY) [a,some (.str x),b,c]=.ok (.nx [a,some (.str x),b',c']))
 | [],b,c=>⟨fun h=>by simp at h,fun _=>⟨b,c,rfl⟩⟩
 | f::fs,b,c=>by
  rw[List.map_cons,Ev.cg,w8]
  cases h:(f == x) with
  | true=>
   have e:f=x:=by simpa using h
   exact⟨fun _=>rfl,fun n=>absurd (by rw[e];exact .head _) n⟩
  | false=>
   have e:f≠x:=by simpa using h
   have ih:=jy cl x a fs (some (.str f)) (some cI)
   refine⟨fun hm=>?_,fun hm=>?_⟩
   ·exact ih.1 ((List.mem_cons.mp hm).resolve_left fun q=>e q.symm)
   ·exact ih.2 fun q=>hm (.tail _ q)
theorem p4 (n:Nat)(hs:List Ho){fs:List Str}{x:Str}(h:x∈fs):ae T (n+1) 43 [B4 hs fs,.str x]=.ok cI:=by
 have e:=(jy (ae T n) x (some (B4 hs fs)) fs none none).1 h
 unfold tE at e
 have q2:=h2 hs fs
 have q3:=bH hs fs
 have q4:=kN fs
 rw[Ev.go (show T 43=some FD from rfl) (show FD.io=none from rfl) (show FD.np=2 from rfl) (show FD.G.N.length=4 from rfl) (show FD.body=KD from rfl) rfl];unfold KD
 generalize B4 hs fs=H at *
 generalize fs.map DY=F at *
 generalize cI=E at *
 simp -implicitDefEqProofs (disch:=omega) only[BL,Nat.reduceBEq,Nat.reduceSub,Nat.reduceAdd,reduceIte,q2,q3,q4,e]
theorem p5 (n:Nat)(hs:List Ho){fs:List Str}{x:Str}(h:x∉fs)(hr:(reprText x).length<=1000):ae T (n+1) 43 [B4 hs fs,.str x]=.error (.exc "NoSwitch"):=by
 obtain⟨b,c,e⟩:=(jy (ae T n) x (some (B4 hs fs)) fs none none).2 h
 unfold tE at e
 have q2:=h2 hs fs
 have q3:=bH hs fs
 have q4:=kN fs
 have ln:(Str.ofString "there is no switch ").length=19:=by decide +kernel
 have em:((none:Option Str).getD Str.empty).length=0:=rfl
 rw[Ev.go (show T 43=some FD from rfl) (show FD.io=none from rfl) (show FD.np=2 from rfl) (show FD.G.N.length=4 from rfl) (show FD.body=KD from rfl) rfl];unfold KD
 generalize B4 hs fs=H at *
 generalize fs.map DY=F at *
 simp -implicitDefEqProofs (disch:=omega) only[BL,Nat.reduceBEq,Nat.reduceSub,Nat.reduceAdd,reduceIte,q2,q3,q4,e,ln,em]
noncomputable def KS (x:Str):Option (List Str)->Bool
 | none=>true
 | some l=>l.any (· == x)
noncomputable def IL (x:Str)(m:Int)(h:Ho):Bool:=KS x h.ns&&decide (FC h.cs m < h.p)
theorem uM (w:Str):∀ ws:List Str,CK (.str w) (ws.map .str)=.ok (ws.any (· == w))
 | []=>rfl
 | x::ws=>by
  show Bn (.ok (x == w)) (fun a=>Bn (CK (.str w) (ws.map .str)) fun b=>.ok (a||b))=_
  rw[uM w ws]
  rfl
theorem AB (o:Bool)(w:Str)(ws:List Str):C9 .EY (.str w) (.lst o (ws.map .str))=.ok (ws.any (· == w)):=uM w ws
noncomputable def tH:List IS:=[(.BM (.BV (.E0 (.cmp .EZ (.v 6) (.c .By)) (.cmp .EY (.v 2) (.v 6))) (.cmp .lt (.call 35 [(.v 4),(.idx (.v 1) (.c (.int 0)))]) (.v 5))) [(.ret (.v 3))] [])]
theorem w9 (n:Nat)(x:Str){m:Int}(m0:0<=m)(m1:m<=1000000000){h:Ho}(g:Good h)(a b c d e:Option D) :
  Ev.turn (ae T (n+4)) (.tp [(.nm 3),(.nm 4),(.nm 5),(.nm 6)]) tH (h.d false) [a,some (CN m),some (.str x),b,c,d,e]=if IL x m h=true then .ok (.rt (.str h.nm)) else .ok (.nx [a,some (CN m),some (.str x),some (.str h.nm),some (.str (BQ h.cs)),some (.int h.p),some (nD false h.ns)]):=by
 have e1:=iS n g.sl m m0 m1
 have q:=v0 m
 unfold IL tH Ho.d
 generalize CN m=V at *
 cases hd:decide (FC h.cs m < h.p)<;>cases hn:h.ns with
 | none=>unfold nD KS;simp -implicitDefEqProofs (disch:=omega) only[BL,Nat.reduceBEq,Nat.reduceSub,Nat.reduceAdd,reduceIte,Ev.aD,e1,q,hd]
 | some l=>
  unfold nD KS
  have il:=AB false x l
  cases hi:l.any (· == x)<;>rw[hi] at il<;>simp -implicitDefEqProofs (disch:=omega) only[BL,Nat.reduceBEq,Nat.reduceSub,Nat.reduceAdd,reduceIte,Ev.aD,e1,q,hd,il,hi]
noncomputable def fst (x:Str)(m:Int)(hs:List Ho):Option Ho:=hs.find? (IL x m)
theorem jz (n:Nat)(x:Str){m:Int}(m0:0<=m)(m1:m<=1000000000)(a:Option D):∀ (hs:List Ho),(∀ h∈hs,Good h)->∀ (b c d e:Option D),
  (∀ h,fst x m hs=some h->forM (Ev.turn (ae T (n+4)) (.tp [(.nm 3),(.nm 4),(.nm 5),(.nm 6)]) tH) (hs.map (Ho.d false)) [a,some (CN m),some (.str x),b,c,d,e]=.ok (.rt (.str h.nm)))/\
  (fst x m hs=none->∃ b' c' d' e',forM (Ev.turn (ae T (n+4)) (.tp [(.nm 3),(.nm 4),(.nm 5),(.nm 6)]) tH) (hs.map (Ho.d false)) [a,some (CN m),some (.str x),b,c,d,e]=.ok (.nx [a,some (CN m),some (.str x),b',c',d',e']))
 | [],_,b,c,d,e=>⟨fun h z=>(by cases z),fun _=>⟨b,c,d,e,rfl⟩⟩
 | h::hs,g,b,c,d,e=>by
  unfold fst
  rw[List.map_cons,Ev.cg,w9 n x m0 m1 (g h (.head _)),List.find?_cons]
  cases q:IL x m h with
  | true=>exact⟨fun h' z=>(by cases z;rfl),fun z=>(by cases z)⟩
  | false=>exact jz n x m0 m1 a hs (fun h' hh=>g h' (.tail _ hh)) _ _ _ _
theorem jA (n:Nat){hs:List Ho}(fs:List Str)(g:∀ h∈hs,Good h)(x:Str){m:Int}(m0:0<=m)(m1:m<=1000000000){h:Ho}(e:fst x m hs=some h):ae T (n+5) 44 [B4 hs fs,CN m,.str x]=.ok (.str h.nm):=by
 have e1:=(jz n x m0 m1 (some (B4 hs fs)) hs g none none none none).1 h e
 unfold tH at e1
 have q1:=h1 hs fs
 have q3:=bH hs fs
 have q4:=dF hs
 rw[Ev.go (show T 44=some FE from rfl) (show FE.io=none from rfl) (show FE.np=3 from rfl) (show FE.G.N.length=7 from rfl) (show FE.body=KG from rfl) rfl];unfold KG
 generalize B4 hs fs=H at *
 generalize hs.map (Ho.d false)=F at *
 generalize CN m=V at *
 simp -implicitDefEqProofs (disch:=omega) only[BL,Nat.reduceBEq,Nat.reduceSub,Nat.reduceAdd,reduceIte,q1,q3,q4,e1]
theorem jB (n:Nat){hs:List Ho}(fs:List Str)(g:∀ h∈hs,Good h)(x:Str){m:Int}(m0:0<=m)(m1:m<=1000000000)(e:fst x m hs=none):ae T (n+5) 44 [B4 hs fs,CN m,.str x]=.ok .By:=by
 obtain⟨b,c,d,e',e1⟩:=(jz n x m0 m1 (some (B4 hs fs)) hs g none none none none).2 e
 unfold tH at e1
 have q1:=h1 hs fs
 have q3:=bH hs fs
 have q4:=dF hs
 rw[Ev.go (show T 44=some FE from rfl) (show FE.io=none from rfl) (show FE.np=3 from rfl) (show FE.G.N.length=7 from rfl) (show FE.body=KG from rfl) rfl];unfold KG
 generalize B4 hs fs=H at *
 generalize hs.map (Ho.d false)=F at *
 generalize CN m=V at *
 simp -implicitDefEqProofs (disch:=omega) only[BL,Nat.reduceBEq,Nat.reduceSub,Nat.reduceAdd,reduceIte,q1,q3,q4,e1]
theorem xa:Str.ofString "ab" = BQ [97,98]:=by decide +kernel
theorem AD:Sl [97,98]:=⟨by decide,by decide,fun c hc=>by
 simp only[List.mem_cons,List.not_mem_nil,or_false] at hc
 unfold low
 omega⟩
theorem rW (n:Nat)(g m:D):ae T (n+1) 29 [g,.lst false [],m]=.ok (.bl true):=by
 rw[Ev.go (show T 29=some Ij from rfl) (show Ij.io=none from rfl) (show Ij.np=3 from rfl) (show Ij.G.N.length=4 from rfl) (show Ij.body=MV from rfl) rfl];unfold MV
 simp -implicitDefEqProofs (disch:=omega) only[BL,Nat.reduceBEq,Nat.reduceSub,Nat.reduceAdd,reduceIte]
theorem rX (n:Nat):ae T (n+2) 40 [.lst false [],C8,.lst false []]=.ok (.lst true [.int 0]):=by
 have e:=rW n (.lst false []) (.lst false [])
 have x0:∀ (P Q:D),aK (.tup [P,Q]) (.int 0)=.ok P:=fun _ _=>rfl
 have x2:aK C8 (.int 2)=.ok (.lst false [.tup [.lst false [],.tup [.str "face",.str "on"]]]):=rfl
 have en:ej [.tup [.lst false [],.tup [.str "face",.str "on"]]]=[.tup [.int 0,.tup [.lst false [],.tup [.str "face",.str "on"]]]]:=rfl
 have fm:aR (bB (ae T (n+1)) (.tp [(.nm 2),(.nm 3)]) [(.call 29 [(.v 0),(.idx (.v 3) (.c (.int 0))),(.v 1)])] (.v 2) [some (.lst false []),some (.lst false []),none,none]) [.tup [.int 0,.tup [.lst false [],.tup [.str "face",.str "on"]]]]=.ok [.int 0]:=by
  refine jx (α:=Int) (fun z=>.tup [.int z,.tup [.lst false [],.tup [.str "face",.str "on"]]]) (fun _=>true) .int [0] fun z _=>?_
  simp -implicitDefEqProofs (disch:=omega) only[BL,Nat.reduceBEq,Nat.reduceSub,Nat.reduceAdd,reduceIte,Ev.aD,e,x0]
 rw[Ev.go (show T 40=some Iq from rfl) (show Iq.io=none from rfl) (show Iq.np=3 from rfl) (show Iq.G.N.length=3 from rfl) (show Iq.body=M1 from rfl) rfl];unfold M1
 generalize C8=S at *
 simp -implicitDefEqProofs (disch:=omega) only[BL,Nat.reduceBEq,Nat.reduceSub,Nat.reduceAdd,reduceIte,x2,en,fm]
theorem among (n:Nat)(z:Int):ae T (n+2) 41 [C8,.int 5,.lst false [.int 0],.int z]=.ok (.tup [.str "on",.int 0]):=by
 have o:∀ a:D,ae T (n+1) 39 [.tup [.str "face",.str "on"],a,.int 5,.int z]=.ok (.str "on"):=by
  intro a
  have x0:∀ (P Q:D),aK (.tup [P,Q]) (.int 0)=.ok P:=fun _ _=>rfl
  have x1:∀ (P Q:D),aK (.tup [P,Q]) (.int 1)=.ok Q:=fun _ _=>rfl
  rw[Ev.go (show T 39=some Ip from rfl) (show Ip.io=none from rfl) (show Ip.np=4 from rfl) (show Ip.G.N.length=4 from rfl) (show Ip.body=M0 from rfl) rfl];unfold M0
  simp -implicitDefEqProofs (disch:=omega) only[BL,Nat.reduceBEq,Nat.reduceSub,Nat.reduceAdd,reduceIte,x0,x1]
 have x2:aK C8 (.int 2)=.ok (.lst false [.tup [.lst false [],.tup [.str "face",.str "on"]]]):=rfl
 have x3:aK C8 (.int 3)=.ok (.tup [.lst false [],.lst false [.tup [.int 0,.int 10007]]]):=rfl
 have x4:aK (.lst false [.tup [.lst false [],.tup [.str "face",.str "on"]]]) (.int 0)=.ok (.tup [.lst false [],.tup [.str "face",.str "on"]]):=rfl
 have x5:∀ P:D,aK (.tup [P,.tup [.str "face",.str "on"]]) (.int 1)=.ok (.tup [.str "face",.str "on"]):=fun _=>rfl
 have es:er C8=C8:=rfl
 rw[Ev.go (show T 41=some Ir from rfl) (show Ir.io=none from rfl) (show Ir.np=4 from rfl) (show Ir.G.N.length=6 from rfl) (show Ir.body=M3 from rfl) rfl];unfold M3
 generalize C8=S at *
 simp -implicitDefEqProofs (disch:=omega) only[BL,Nat.reduceBEq,Nat.reduceSub,Nat.reduceAdd,reduceIte,Ev.cg,Ev.aD,x2,x3,x4,x5,o,es]
theorem lS (n:Nat){m:Int}(m0:0<=m)(m1:m<=1000000000):ae T (n+5) 42 [.lst false [],C8,.int 5,CN m]=.ok (.tup [.str "on",.int 0]):=by
 have e1:=rX (n+2)
 have e2:=iS n AD m m0 m1
 have e3:=among (n+2) (FC [97,98] m)
 have x0:aK C8 (.int 0)=.ok (.str (BQ [97,98])):=by rw[<- xa];rfl
 have es:er C8=C8:=rfl
 have ev:=kO m
 have w0:=v0 m
 have w1:=v1 m
 rw[Ev.go (show T 42=some Iu from rfl) (show Iu.io=none from rfl) (show Iu.np=4 from rfl) (show Iu.G.N.length=5 from rfl) (show Iu.body=M4 from rfl) rfl];unfold M4
 generalize C8=S at *
 generalize CN m=V at *
 generalize BQ [97,98]=Q at *
 simp -implicitDefEqProofs (disch:=omega) only[BL,Nat.reduceBEq,Nat.reduceSub,Nat.reduceAdd,reduceIte,w0,w1,x0,es,ev,e1,e2,e3]
noncomputable def bx (x:Str)(m:Int)(hs:List Ho):D:=match fst x m hs with
 | some h=>.tup [.str "off",.tup [.str "held",.str h.nm]]
 | none=>.tup [.str "on",.tup [.str "rule",.int 0]]
theorem p6 (x:Str)(m:Int)(hs:List Ho):ao (bx x m hs)=true:=by
 unfold bx
 split<;>rfl
theorem p7 (x:Str)(m:Int)(hs:List Ho):er (bx x m hs)=bx x m hs:=by
 unfold bx
 split<;>rfl
theorem AE (n:Nat)(H V d:D):ae T (n+1) 45 [H,.int 5,V,.lst false [],d]=.ok .By:=by
 rw[Ev.go (show T 45=some Iw from rfl) (show Iw.io=none from rfl) (show Iw.np=5 from rfl) (show Iw.G.N.length=7 from rfl) (show Iw.body=M5 from rfl) rfl];unfold M5
 simp -implicitDefEqProofs (disch:=omega) only[BL,Nat.reduceBEq,Nat.reduceSub,Nat.reduceAdd,reduceIte]
theorem p8 (n:Nat){hs:List Ho}{fs:List Str}(g:∀ h∈hs,Good h){x:Str}(hx:x∈fs){m:Int}(m0:0<=m)(m1:m<=1000000000):ae T (n+6) 46 [B4 hs fs,.int 5,CN m,.str x,.Bw false [] []]=.ok (bx x m hs):=by
 have e1:=p4 (n+4) hs hx
 have q0:=h0 hs fs
 have q3:=bH hs fs
 have ev:=kO m
 have es:er C8=C8:=rfl
 have ee:er cI=cI:=rfl
 have t0:aK cI (.int 0)=.ok C8:=rfl
 have t1:aK cI (.int 1)=.ok (.lst false []):=rfl
 have t2:aK cI (.int 2)=.ok (.bl false):=rfl
 have s1:aK C8 (.int 1)=.ok (.str "off"):=rfl
 have s2:aK C8 (.int 2)=.ok (.lst false [.tup [.lst false [],.tup [.str "face",.str "on"]]]):=rfl
 have le:ao cI=false:=rfl
 have ed:∀ o,er (.Bw o [] [])=.Bw false [] []:=fun _=>rfl
 have SA:((0:Int) == ((1:Nat):Int))=false:=rfl
 have kp:∀ τ:Ev,aA (.idx (.v 5) (.c (.int 0))) C8 τ=(C8,BI [5] τ):=fun _=>rfl
 have ls:ao C8=false:=rfl
 have y0:∀ (P Q:D),aK (.tup [P,Q]) (.int 0)=.ok P:=fun _ _=>rfl
 have y1:∀ (P Q:D),aK (.tup [P,Q]) (.int 1)=.ok Q:=fun _ _=>rfl
 cases hf:fst x m hs with
 | some h=>
  have e2:=jA n fs g x m0 m1 hf
  have ea:bx x m hs=.tup [.str "off",.tup [.str "held",.str h.nm]]:=by unfold bx;rw[hf]
  rw[ea]
  rw[Ev.go (show T 46=some Eg from rfl) (show Eg.io=none from rfl) (show Eg.np=5 from rfl) (show Eg.G.N.length=10 from rfl) (show Eg.body=Iy from rfl) rfl];unfold Iy
  generalize B4 hs fs=H at *
  generalize CN m=V at *
  generalize cI=E at *
  generalize C8=S at *
  simp -implicitDefEqProofs (disch:=omega) only[BL,Nat.reduceBEq,Nat.reduceSub,Nat.reduceAdd,reduceIte,ed,e1,q0,q3,ev,es,ee,t0,t1,t2,s1,s2,le,ls,kp,e2]
 | none=>
  have e2:=jB n fs g x m0 m1 hf
  have ea:bx x m hs=.tup [.str "on",.tup [.str "rule",.int 0]]:=by unfold bx;rw[hf]
  have e3:=AE (n+4) (B4 hs fs) (CN m) (.Bw false [] [])
  have e4:=lS n m0 m1
  rw[ea]
  rw[Ev.go (show T 46=some Eg from rfl) (show Eg.io=none from rfl) (show Eg.np=5 from rfl) (show Eg.G.N.length=10 from rfl) (show Eg.body=Iy from rfl) rfl];unfold Iy
  generalize B4 hs fs=H at *
  generalize CN m=V at *
  generalize cI=E at *
  generalize C8=S at *
  simp -implicitDefEqProofs (disch:=omega) only[BL,Nat.reduceBEq,Nat.reduceSub,Nat.reduceAdd,reduceIte,ed,e1,q0,q3,ev,es,ee,t0,t1,t2,s1,s2,le,ls,kp,e2,e3,e4,y0,y1,SA]
theorem iU (n:Nat)(hs:List Ho){fs:List Str}{x:Str}(hx:x∉fs)(hr:(reprText x).length<=1000)(V:D)(hv:er V=V):ae T (n+2) 46 [B4 hs fs,.int 5,V,.str x,.Bw false [] []]=.error (.exc "NoSwitch"):=by
 have e1:=p5 n hs hx hr
 have q3:=bH hs fs
 rw[Ev.go (show T 46=some Eg from rfl) (show Eg.io=none from rfl) (show Eg.np=5 from rfl) (show Eg.G.N.length=10 from rfl) (show Eg.body=Iy from rfl) rfl];unfold Iy
 generalize B4 hs fs=H at *
 simp -implicitDefEqProofs (disch:=omega) only[BL,Nat.reduceBEq,Nat.reduceSub,Nat.reduceAdd,reduceIte,e1,q3]
theorem rY (n:Nat){hs:List Ho}{fs:List Str}(g:∀ h∈hs,Good h){x:Str}(hx:x∈fs){m:Int}(m0:0<=m)(m1:m<=1000000000):ae T (n+7) 47 [B4 hs fs,.int 5,CN m,.str x,.Bw false [] []]=.ok (.tup [bx x m hs,.Bw false [.inr x] [bx x m hs]]):=by
 have e1:=p8 n g hx m0 m1
 have q3:=bH hs fs
 have ev:=kO m
 have lf:=p6 x m hs
 have ea:=p7 x m hs
 have ed:∀ o,er (.Bw o [] [])=.Bw false [] []:=fun _=>rfl
 have lk:(true != (look [] [] (Sum.inr x)).isSome)=true:=rfl
 have ss:∀ (cl:Nat->List D->Res D) (a b c d:Option D) (A:D),ao A=true->Ev.kq cl 4 (.v 3) [a,b,c,some (.str x),some (.Bw true [] [])] A (some (.Bw true [] []))=.ok (.nx [a,b,c,some (.str x),some (.Bw true [.inr x] [A])]):=by
  intro cl a b c d A hA
  exact Ev.gG (ks:=[]) (ds:=[]) rfl (by rw[hA];rfl)
 have dg:∀ A:D,hU (.Bw true [.inr x] [A]) (.str x)=.ok A:=by
  intro A
  show (match (if (Sum.inr x:Key)=Sum.inr x then some A else none) with|some d=>.ok d|none=>Bu:Res D)=_
  rw[if_pos rfl]
 have io:∀ (A:D) (a b c d:Option D),ao A=true->Jc 4 (A,[a,b,c,d,some (.Bw true [.inr x] [A])])=.ok (.tup [A,.Bw false [.inr x] [A]]):=by
  intro A a b c d hA
  show Bv (ai [A]) _=_
  rw[show ai [A]=true by show (ao A&&true)=true;rw[hA];rfl]
  rfl
 rw[Ev.Rk (show T 47=some Iz from rfl) (show Iz.io=some (.C2 (.v 4) (.v 3)) from rfl) (show Iz.np=5 from rfl) (show Iz.G.N.length=5 from rfl) (show Iz.body=M6 from rfl) rfl]
 unfold M6
 generalize B4 hs fs=H at *
 generalize CN m=V at *
 generalize bx x m hs=A at *
 have SD:=fun cl a b c=>ss cl a b c none A lf
 have SE:=fun a b c d=>io A a b c d lf
 have kd:∀ (e:IR) (τ:Ev),aA e A τ=(A,τ):=fun e τ=>by unfold aA;rw[lf];rfl
 simp -implicitDefEqProofs (disch:=omega) only[BL,Nat.reduceBEq,Nat.reduceSub,Nat.reduceAdd,reduceIte,e1,q3,ev,ed,lf,ea,lA,yb,Ev.pG,lk,SD,dg,SE,kd]
theorem lT (n:Nat){hs:List Ho}{fs:List Str}(g:∀ h∈hs,Good h){x:Str}(hx:x∈fs){m:Int}(m0:0<=m)(m1:m<=1000000000):ae T (n+8) 48 [B4 hs fs,.int 5,CN m,.str x]=.ok (bx x m hs):=by
 have e1:=rY n g hx m0 m1
 have q3:=bH hs fs
 have ev:=kO m
 have lf:ai [bx x m hs]=true:=by show (ao _&&true)=true;rw[p6];rfl
 rw[Ev.go (show T 48=some IA from rfl) (show IA.io=none from rfl) (show IA.np=4 from rfl) (show IA.G.N.length=4 from rfl) (show IA.body=M7 from rfl) rfl];unfold M7
 generalize B4 hs fs=H at *
 generalize CN m=V at *
 generalize bx x m hs=A at *
 simp -implicitDefEqProofs (disch:=omega) only[BL,Nat.reduceBEq,Nat.reduceSub,Nat.reduceAdd,reduceIte,e1,q3,ev,lf]
theorem rZ (n:Nat)(hs:List Ho){fs:List Str}{x:Str}(hx:x∉fs)(hr:(reprText x).length<=1000)(V:D)(hv:er V=V):ae T (n+3) 59 [B4 hs fs,.int 5,V,.str x,.Bw false [] []]=.error (.exc "NoSwitch"):=by
 have e1:=iU n hs hx hr V hv
 have q3:=bH hs fs
 have ed:∀ o,er (.Bw o [] [])=.Bw false [] []:=fun _=>rfl
 have lk:(true != (look [] [] (Sum.inr x)).isSome)=true:=rfl
 rw[Ev.go (show T 59=some IH from rfl) (show IH.io=none from rfl) (show IH.np=5 from rfl) (show IH.G.N.length=5 from rfl) (show IH.body=Nc from rfl) rfl];unfold Nc
 generalize B4 hs fs=H at *
 simp -implicitDefEqProofs (disch:=omega) only[BL,Nat.reduceBEq,Nat.reduceSub,Nat.reduceAdd,reduceIte,e1,q3,hv,ed,lk]
theorem lU (n:Nat)(hs:List Ho){fs:List Str}{x:Str}(hx:x∉fs)(hr:(reprText x).length<=1000)(V:D)(hv:er V=V):ae T (n+4) 60 [B4 hs fs,.int 5,V,.str x]=.error (.exc "NoSwitch"):=by
 have e1:=rZ n hs hx hr V hv
 have q3:=bH hs fs
 have ed:∀ o,er (.Bw o [] [])=.Bw false [] []:=fun _=>rfl
 rw[Ev.go (show T 60=some II from rfl) (show II.io=none from rfl) (show II.np=4 from rfl) (show II.G.N.length=4 from rfl) (show II.body=Nd from rfl) rfl];unfold Nd
 generalize B4 hs fs=H at *
 simp -implicitDefEqProofs (disch:=omega) only[BL,Nat.reduceBEq,Nat.reduceSub,Nat.reduceAdd,reduceIte,e1,q3,hv,ed]
theorem AF {cl:Nat->List D->Res D}{body hb:List IS}{n i:Nat}{cs:List Str}{c:Str}{τ τ':Ev}(h:aH cl body τ=.error (.exc c))(hc:cs.contains c=true)
  (hh:aH cl hb ((List.replicate τ.length none).set i (some (.exc c)))=.ok (.nx τ')):Cz cl (.DO body n cs i hb) τ=.ok (.nx (τ'.set i none)):=by
 rw[Cz,h]
 show Bv (cs.contains c) _=_
 rw[hc,hh]
 rfl
noncomputable def hB:List IS:=[(.asg (.nm 3) (.lst [(.D8 (.v 4) [61] [(Str.ofString "NoSwitch",true),(Str.ofString "NoSalt",false)]),(.D8 (.v 4) [63] [(Str.ofString "NoSwitch",true),(Str.ofString "NoSalt",true)]),(.D8 (.v 4) [64] [(Str.ofString "NoSwitch",false),(Str.ofString "NoSalt",false)]),(.D8 (.v 4) [65] [(Str.ofString "NoSwitch",false),(Str.ofString "NoSalt",false)])])),(.asg (.nm 3) (.bin .add (.v 3) (.lst [(.D8 (.v 4) [66] [(Str.ofString "NoSwitch",false),(Str.ofString "NoSalt",false)]),(.D8 (.v 4) [67] [(Str.ofString "NoSwitch",false),(Str.ofString "NoSalt",false)])])))]
noncomputable def Lv:D:=.lst true [.bl true,.bl true,.bl false,.bl false,.bl false,.bl false]
theorem jC (n:Nat)(hs:List Ho){fs:List Str}{x:Str}(hx:x∉fs)(hr:(reprText x).length<=1000)(V:D)(hv:er V=V):ae T (n+5) 56 [B4 hs fs,V,.str x]=.ok (.bl true):=by
 have e1:=lU n hs hx hr V hv
 have q3:=bH hs fs
 rw[Ev.go (show T 56=some IF from rfl) (show IF.io=none from rfl) (show IF.np=3 from rfl) (show IF.G.N.length=5 from rfl) (show IF.body=[(.asg (.nm 3) (.lst [])),(.DO [(.exp (.call 60 [(.v 0),(.c (.int 5)),(.v 1),(.v 2)]))] 68 ["NoSwitch","NoSalt"] 4 hB),(.ret (.cmp .eq (.v 3) (.bin .add (.lst [(.c (.bl true)),(.c (.bl true))]) (.bin .mul (.lst [(.c (.bl false))]) (.c (.int 4))))))] from rfl) rfl]
 generalize B4 hs fs=H at *
 have SF:aH (ae T (n+4)) [(.exp (.call 60 [(.v 0),(.c (.int 5)),(.v 1),(.v 2)]))] [some H,some V,some (.str x),some (.lst true []),none]=.error (.exc "NoSwitch"):=by
  simp -implicitDefEqProofs (disch:=omega) only[BL,Nat.reduceBEq,Nat.reduceSub,Nat.reduceAdd,reduceIte,e1,q3,hv]
 have et:Cz (ae T (n+4)) (.DO [(.exp (.call 60 [(.v 0),(.c (.int 5)),(.v 1),(.v 2)]))] 68 ["NoSwitch","NoSalt"] 4 hB) [some H,some V,some (.str x),some (.lst true []),none]=.ok (.nx [none,none,none,some Lv,none]):=
  AF (c:="NoSwitch") (τ':=[none,none,none,some Lv,some (.exc "NoSwitch")]) SF rfl rfl
 have m6:∀ o:Bool,C4 .mul (.lst o [.bl false]) (.int 4)=.ok (.lst true [.bl false,.bl false,.bl false,.bl false]):=fun _=>rfl
 have f:∀ o:Bool,Cm 40 Lv (.lst o [.bl true,.bl true,.bl false,.bl false,.bl false,.bl false])=.ok true:=fun _=>rfl
 generalize Lv=m at *
 generalize hB=hb at *
 simp -implicitDefEqProofs (disch:=omega) only[BL,Nat.reduceBEq,Nat.reduceSub,Nat.reduceAdd,reduceIte,et,m6,f]
noncomputable def tI:List IS:=[(.asg (.nm 7) (.bin .add (.idx (.v 1) (.bin .mod (.v 6) (.c (.int 26)))) (.idx (.v 1) (.bin .fdiv (.v 6) (.c (.int 26)))))),(.asg (.nm 8) (.call 57 [(.v 0),(.bin .add (.c (.int 60)) (.bin .mul (.c (.int 24)) (.v 6))),(.v 7),(.v 2),(.v 4)])),(.ins 5 (.call 49 [(.v 0),(.bin .add (.c (.int 12)) (.bin .mod (.v 6) (.c (.int 30)))),(.bin .add (.v 6) (.c (.int 1)))]) (.v 8))]
theorem AG (o:Bool)(h:Ho):er (h.d o)=h.d false:=by
 obtain⟨a,b,c,d⟩:=h
 cases d with
 | none=>rfl
 | some l=>
  show D.tup [_,_,_,.lst false (BA (l.map .str))]=_
  rw[Ev.dE];rfl
theorem xb (ns:List Int){fs:List Str}(hf:fs.length<=5){m:Int}(m0:0<=m)(m1:m<=1000000000){hs:List Ho}(g:∀ h∈hs,Good h){j:Int}(j0:0<=j)(j1:j < 60)(hl:(hs.length:Int)=j)(o:Bool)(s3 x6 x7 x8:Option D) :
  ∃ (Gg:List Ho) (o':Bool) (y7 y8:Option D),Ev.turn (ae T 12) (.nm 6) tI (.int j) [some (.lst false (ns.map .int)),some (.str "abcdefghijklmnopqrstuvwxyz"),some (.lst o (fs.map .str)),s3,some (.int m),some (.lst true (hs.map (Ho.d false))),x6,x7,x8,none,none,none,none,none,none,none,none,none]=.ok (.nx [some (.lst false (ns.map .int)),some (.str "abcdefghijklmnopqrstuvwxyz"),some (.lst o' (fs.map .str)),s3,some (.int m),some (.lst true (Gg.map (Ho.d false))),some (.int j),y7,y8,none,none,none,none,none,none,none,none,none])/\Gg.length=hs.length+1/\∀ h∈Gg,Good h:=by
 have a0:=Int.emod_nonneg j (show (26:Int)≠0 by decide)
 have a1:=Int.emod_lt_of_pos j (show (0:Int) < 26 by decide)
 have Nn:=cO a0 a1
 have Np:=cO (i:=j / 26) (by omega) (by omega)
 rw[dh] at Nn Np
 have sa:=b9 (a:=[97+(j % 26).toNat]) (b:=[97+(j / 26).toNat]) (by rw[List.length_singleton,List.length_singleton];decide)
 generalize BQ ([97+(j % 26).toNat]++[97+(j / 26).toNat])=nm at *
 obtain⟨h,ho,e1,_,gh⟩:=rV 9 ns (k:=60+24*j) (by omega) (by omega) nm hf m0 m1
 have c0:=Int.emod_nonneg j (show (30:Int)≠0 by decide)
 have c1:=Int.emod_lt_of_pos j (show (0:Int) < 30 by decide)
 have d1:=aW 11 ns (12+j % 30) (j+1) (by omega) (by omega) (by omega)
 have b0:=cA ns (12+j % 30) (m:=j+1) (by omega)
 have b1:=cB ns (12+j % 30) (m:=j+1) (by omega)
 generalize dr ns (12+j % 30) (j+1)=q at *
 have eh:=AG ho h
 have lm:(hs.map (Ho.d false)).length=hs.length:=List.length_map _
 have gd:decide (0<=q/\q.toNat<=hs.length)=true:=decide_eq_true (by omega)
 have hm:(hs.take q.toNat++h::hs.drop q.toNat).map (Ho.d false)=(hs.map (Ho.d false)).take q.toNat++h.d false::(hs.map (Ho.d false)).drop q.toNat:=by
  rw[List.map_append,List.map_cons,List.map_take,List.map_drop]
 have hlen:(hs.take q.toNat++h::hs.drop q.toNat).length=hs.length+1:=by
  have:(hs.take q.toNat).length+(hs.drop q.toNat).length=hs.length:=by rw[<- List.length_append,List.take_append_drop]
  rw[List.length_append,List.length_cons];omega
 have hg:∀ z∈hs.take q.toNat++h::hs.drop q.toNat,Good z:=by
  intro z hz
  rcases List.mem_append.mp hz with hz|hz
  ·exact g z (List.mem_of_mem_take hz)
  ·rcases List.mem_cons.mp hz with rfl|hz
   ·exact gh
   ·exact g z (List.mem_of_mem_drop hz)
 cases hb:ao (h.d ho) with
 | true=>
  refine⟨hs.take q.toNat++h::hs.drop q.toNat,o,some (.str nm),some (h.d false),?_,hlen,hg⟩
  rw[hm]
  unfold tI
  generalize hs.map (Ho.d false)=HH at *
  generalize h.d ho=hd at *
  generalize h.d false=LA at *
  simp -implicitDefEqProofs (disch:=omega) only[BL,Nat.reduceBEq,Nat.reduceSub,Nat.reduceAdd,reduceIte,Ev.aD,Nn,Np,sa,e1,d1,eh,hb,gd,lm]
 | false=>
  refine⟨hs.take q.toNat++h::hs.drop q.toNat,false,some (.str nm),some (h.d false),?_,hlen,hg⟩
  rw[hm]
  unfold tI
  generalize hs.map (Ho.d false)=HH at *
  generalize h.d ho=hd at *
  generalize h.d false=LA at *
  simp -implicitDefEqProofs (disch:=omega) only[BL,Nat.reduceBEq,Nat.reduceSub,Nat.reduceAdd,reduceIte,Ev.aD,Nn,Np,sa,e1,d1,eh,hb,gd,lm]
noncomputable def xc:D:=.tup [.tup [.str "ab",.str "off",.lst true [.tup [.lst true [],.tup [.str "face",.str "on"]]],.tup [.lst true [],.lst true [.tup [.int 0,.int 10007]]]],.lst true [],.bl false]
noncomputable def Eo (f:Str):D:=.tup [.str f,xc]
theorem xg (fs:List Str):BA (fs.map Eo)=fs.map DY:=by
 rw[aZ,List.map_map];rfl
noncomputable def tW:List IS:=[(.app 9 (.tup [(.v 7),(.tup [(.tup [(.c (.str "ab")),(.c (.str "off")),(.lst [(.tup [(.lst []),(.tup [(.c (.str "face")),(.c (.str "on"))])])]),(.tup [(.lst []),(.lst [(.tup [(.c (.int 0)),(.c (.int 10007))])])])]),(.lst []),(.c (.bl false))])]))]
theorem p9 (cl:Nat->List D->Res D)(a0 a1 a2 a3 a4 a5 a6 a8 CG FG IM FH Ej Ek El Em:Option D):∀ (fs acc:List Str) (x7:Option D),acc.length+fs.length<=1000->
  ∃ y7,forM (Ev.turn cl (.nm 7) tW) (fs.map .str) [a0,a1,a2,a3,a4,a5,a6,x7,a8,some (.lst true (acc.map Eo)),CG,FG,IM,FH,Ej,Ek,El,Em]=.ok (.nx [a0,a1,a2,a3,a4,a5,a6,y7,a8,some (.lst true ((acc++fs).map Eo)),CG,FG,IM,FH,Ej,Ek,El,Em])
 | [],acc,x7,_=>⟨x7,by rw[List.append_nil];rfl⟩
 | f::fs,acc,x7,hl=>by
  rw[List.length_cons] at hl
  have ih:=p9 cl a0 a1 a2 a3 a4 a5 a6 a8 CG FG IM FH Ej Ek El Em fs (acc++[f]) (some (.str f)) (by rw[List.length_append,List.length_singleton];omega)
  rw[List.append_assoc,List.singleton_append] at ih
  obtain⟨y7,e⟩:=ih
  refine⟨y7,?_⟩
  rw[List.map_cons,Ev.cg]
  have lm:(acc.map Eo).length=acc.length:=List.length_map _
  have t:Ev.turn cl (.nm 7) tW (.str f) [a0,a1,a2,a3,a4,a5,a6,x7,a8,some (.lst true (acc.map Eo)),CG,FG,IM,FH,Ej,Ek,El,Em]=.ok (.nx [a0,a1,a2,a3,a4,a5,a6,some (.str f),a8,some (.lst true ((acc++[f]).map Eo)),CG,FG,IM,FH,Ej,Ek,El,Em]):=by
   rw[List.map_append,List.map_cons,List.map_nil]
   unfold tW
   rw[show Eo f=.tup [.str f,xc] from rfl]
   unfold xc
   generalize acc.map Eo=AA at *
   simp -implicitDefEqProofs (disch:=omega) only[BL,Nat.reduceBEq,Nat.reduceSub,Nat.reduceAdd,reduceIte,Ev.aD,lm]
  rw[t]
  exact e
theorem gL {α:Type}{n:Nat}{e:α->D}:∀ (xs:List α),(∀ x∈xs,pl n (e x)=true)->C7 n (xs.map e)=true
 | [],_=>rfl
 | x::xs,h=>by
  show (pl n (e x)&&C7 n (xs.map e))=true
  rw[h x (.head _),gL xs fun y hy=>h y (.tail _ hy)]
  rfl
theorem AH {h:Ho}(g:Good h):pl 7 (h.d false)=true:=by
 obtain⟨a,b,c,d⟩:=h
 cases d with
 | none=>rfl
 | some l=>
  have h1:C7 5 (l.map .str)=true:=gL l fun _ _=>rfl
  have h2:decide ((l.map D.str).length < 1000)=true:=decide_eq_true (by rw[List.length_map];have:=g.ns l rfl;omega)
  show ((true&&(true&&(true&&((C7 5 (l.map D.str)&&decide ((l.map D.str).length < 1000))&&true))))&&true)=true
  rw[h1,h2]
  rfl
theorem qa {hs:List Ho}(g:∀ h∈hs,Good h)(hl:hs.length<=100){fs:List Str}(hf:fs.length<=100):pl 9 (B4 hs fs)=true:=by
 have h1:C7 7 (hs.map (Ho.d false))=true:=gL hs fun h hh=>AH (g h hh)
 have h2:C7 7 (fs.map DY)=true:=gL fs fun _ _=>rfl
 have d1:decide ((hs.map (Ho.d false)).length < 1000)=true:=decide_eq_true (by rw[List.length_map];omega)
 have d2:decide ((fs.map DY).length < 1000)=true:=decide_eq_true (by rw[List.length_map];omega)
 show ((true&&((C7 7 (hs.map (Ho.d false))&&decide ((hs.map (Ho.d false)).length < 1000))&&((C7 7 (fs.map DY)&&decide ((fs.map DY).length < 1000))&&true)))&&true)=true
 rw[h1,h2,d1,d2]
 rfl
noncomputable def uN (h:Ho):D:=.tup [.str "off",.tup [.str "held",.str h.nm]]
noncomputable def Nq:D:=.tup [.str "on",.tup [.str "rule",.int 0]]
noncomputable def Jx (x:Str)(w:Int)(D0:D)(h:Ho):D:=if IL x w h=true then uN h else D0
theorem kP (x:Str)(w:Int):∀ hs:List Ho,hs.reverse.foldl (Jx x w) Nq=bx x w hs
 | []=>rfl
 | h::hs=>by
  rw[List.reverse_cons,List.foldl_append,kP x w hs]
  show Jx x w (bx x w hs) h=_
  unfold Jx bx fst
  rw[List.find?_cons]
  cases IL x w h<;>rfl
noncomputable def tR:List IS:=[(.BM (.BV (.E0 (.cmp .EZ (.v 17) (.c .By)) (.cmp .EY (.v 7) (.v 17))) (.cmp .lt (.call 52 [(.v 15),(.v 12)]) (.v 16))) [(.asg (.nm 13) (.tup [(.c (.str "off")),(.tup [(.c (.str "held")),(.v 14)])]))] [])]
theorem xh (n:Nat)(x:Str){w:Int}(w0:0<=w)(w1:w<=1000000000){h:Ho}(g:Good h)(D0:D)(a0 a1 a2 a3 a4 a5 a6 a8 a9 CG FG Ej Ek El Em:Option D) :
  Ev.turn (ae T (n+1)) (.tp [(.nm 14),(.nm 15),(.nm 16),(.nm 17)]) tR (h.d false) [a0,a1,a2,a3,a4,a5,a6,some (.str x),a8,a9,CG,FG,some (.int w),some D0,Ej,Ek,El,Em]=.ok (.nx [a0,a1,a2,a3,a4,a5,a6,some (.str x),a8,a9,CG,FG,some (.int w),some (Jx x w D0 h),some (.str h.nm),some (.str (BQ h.cs)),some (.int h.p),some (nD false h.ns)]):=by
 have e1:=fU n h.cs g.sl.2.1 w w0 w1
 unfold Jx IL tR Ho.d uN
 cases hd:decide (FC h.cs w < h.p)<;>cases hn:h.ns with
 | none=>unfold nD KS;simp -implicitDefEqProofs (disch:=omega) only[BL,Nat.reduceBEq,Nat.reduceSub,Nat.reduceAdd,reduceIte,Ev.aD,e1,hd]
 | some l=>
  unfold nD KS
  have il:=AB false x l
  cases hi:l.any (· == x)<;>rw[hi] at il<;>simp -implicitDefEqProofs (disch:=omega) only[BL,Nat.reduceBEq,Nat.reduceSub,Nat.reduceAdd,reduceIte,Ev.aD,e1,hd,il,hi]
theorem qb (n:Nat)(x:Str){w:Int}(w0:0<=w)(w1:w<=1000000000)(a0 a1 a2 a3 a4 a5 a6 a8 a9 CG FG:Option D):∀ (hs:List Ho),(∀ h∈hs,Good h)->∀ (D0:D) (Ej Ek El Em:Option D),
  ∃ EN EO ER ES,forM (Ev.turn (ae T (n+1)) (.tp [(.nm 14),(.nm 15),(.nm 16),(.nm 17)]) tR) (hs.map (Ho.d false)) [a0,a1,a2,a3,a4,a5,a6,some (.str x),a8,a9,CG,FG,some (.int w),some D0,Ej,Ek,El,Em]=.ok (.nx [a0,a1,a2,a3,a4,a5,a6,some (.str x),a8,a9,CG,FG,some (.int w),some (hs.foldl (Jx x w) D0),EN,EO,ER,ES])
 | [],_,D0,a,b,c,d=>⟨a,b,c,d,rfl⟩
 | h::hs,g,D0,a,b,c,d=>by
  rw[List.map_cons,Ev.cg,xh n x w0 w1 (g h (.head _)),List.foldl_cons]
  exact qb n x w0 w1 a0 a1 a2 a3 a4 a5 a6 a8 a9 CG FG hs (fun z hz=>g z (.tail _ hz)) _ _ _ _ _
noncomputable def tA:List IS:=[(.asg (.nm 13) (.tup [(.c (.str "on")),(.tup [(.c (.str "rule")),(.c (.int 0))])])),(.BP (.tp [(.nm 14),(.nm 15),(.nm 16),(.nm 17)]) (.rev (.v 5)) tR),(.BM (.Ce (.call 54 [(.call 48 [(.v 11),(.c (.int 5)),(.tup [(.v 12),(.lst [])]),(.v 7)]),(.v 13)])) [(.ret (.c (.bl false)))] [])]
theorem xi (x:Str)(w:Int)(hs:List Ho):pl 3 (bx x w hs)=true:=by
 unfold bx
 split<;>rfl
theorem xj {hs:List Ho}{fs:List Str}(g:∀ h∈hs,Good h){x:Str}(hx:x∈fs){w:Int}(w0:0<=w)(w1:w<=1000000000){H:D}(eH:er H=B4 hs fs)(a0 a1 a2 a3 a4 a6 a7 a8 a9 CG FH Ej Ek El Em:Option D) :
  ∃ Gb EN EO ER ES,Ev.turn (ae T 12) (.nm 7) tA (.str x) [a0,a1,a2,a3,a4,some (.lst false (hs.map (Ho.d false))),a6,a7,a8,a9,CG,some H,some (.int w),FH,Ej,Ek,El,Em]=.ok (.nx [a0,a1,a2,a3,a4,some (.lst false (hs.map (Ho.d false))),a6,some (.str x),a8,a9,CG,some H,some (.int w),Gb,EN,EO,ER,ES]):=by
 obtain⟨EN,EO,ER,ES,e1⟩:=qb 11 x w0 w1 a0 a1 a2 a3 a4 (some (.lst false (hs.map (Ho.d false)))) a6 a8 a9 CG (some H) hs.reverse (fun h hh=>g h (List.mem_reverse.mp hh)) Nq Ej Ek El Em
 rw[kP] at e1
 have e2:ae T 12 48 [B4 hs fs,.int 5,CN w,.str x]=_:=lT 4 g hx w0 w1
 unfold CN at e2
 have e3:ae T 12 54 [bx x w hs,bx x w hs]=_:=same 3 9 (xi x w hs)
 have ea:=p7 x w hs
 have r1:=dF hs
 have r2:=dF hs.reverse
 have rv:(hs.map (Ho.d false)).reverse=hs.reverse.map (Ho.d false):=List.map_reverse.symm
 unfold Nq at e1
 refine⟨some (bx x w hs),EN,EO,ER,ES,?_⟩
 unfold tA
 generalize bx x w hs=A at *
 generalize B4 hs fs=HD at *
 generalize hs.reverse.map (Ho.d false)=R1 at *
 generalize hs.map (Ho.d false)=R0 at *
 generalize tR=tr at *
 simp -implicitDefEqProofs (disch:=omega) only[BL,Nat.reduceBEq,Nat.reduceSub,Nat.reduceAdd,reduceIte,Ev.aD,e1,e2,e3,ea,r1,r2,rv,eH]
theorem qc {hs:List Ho}{fs:List Str}(g:∀ h∈hs,Good h){w:Int}(w0:0<=w)(w1:w<=1000000000){H:D}(eH:er H=B4 hs fs)(a0 a1 a2 a3 a4 a6 a8 a9 CG:Option D):∀ (xs:List Str),(∀ x∈xs,x∈fs)->∀ (a7 FH Ej Ek El Em:Option D),
  ∃ b7 Gb EN EO ER ES,forM (Ev.turn (ae T 12) (.nm 7) tA) (xs.map .str) [a0,a1,a2,a3,a4,some (.lst false (hs.map (Ho.d false))),a6,a7,a8,a9,CG,some H,some (.int w),FH,Ej,Ek,El,Em]=.ok (.nx [a0,a1,a2,a3,a4,some (.lst false (hs.map (Ho.d false))),a6,b7,a8,a9,CG,some H,some (.int w),Gb,EN,EO,ER,ES])
 | [],_,a7,a,b,c,d,e=>⟨a7,a,b,c,d,e,rfl⟩
 | x::xs,hx,a7,a,b,c,d,e=>by
  obtain⟨Gb,EN,EO,ER,ES,t⟩:=xj g (hx x (.head _)) w0 w1 eH a0 a1 a2 a3 a4 a6 a7 a8 a9 CG a b c d e
  rw[List.map_cons,Ev.cg,t]
  exact qc g w0 w1 eH a0 a1 a2 a3 a4 a6 a8 a9 CG xs (fun y hy=>hx y (.tail _ hy)) _ _ _ _ _ _
noncomputable def tB:List IS:=[(.BP (.nm 7) (.val (.v 2)) tA),(.BM (.Ce (.call 56 [(.v 11),(.tup [(.v 12),(.lst [])]),(.v 3)])) [(.ret (.c (.bl false)))] [])]
theorem qd {hs:List Ho}{fs:List Str}(g:∀ h∈hs,Good h){nn:Str}(hn:nn∉fs)(hr:(reprText nn).length<=1000){w:Int}(w0:0<=w)(w1:w<=1000000000){H:D}(eH:er H=B4 hs fs)(o:Bool)(a0 a1 a4 a6 a7 a8 a9 CG IM FH Ej Ek El Em:Option D) :
  ∃ b7 Gb EN EO ER ES,Ev.turn (ae T 12) (.nm 12) tB (.int w) [a0,a1,some (.lst o (fs.map .str)),some (.str nn),a4,some (.lst false (hs.map (Ho.d false))),a6,a7,a8,a9,CG,some H,IM,FH,Ej,Ek,El,Em]=.ok (.nx [a0,a1,some (.lst false (fs.map .str)),some (.str nn),a4,some (.lst false (hs.map (Ho.d false))),a6,b7,a8,a9,CG,some H,some (.int w),Gb,EN,EO,ER,ES]):=by
 obtain⟨b7,Gb,EN,EO,ER,ES,e1⟩:=qc g w0 w1 eH a0 a1 (some (.lst false (fs.map .str))) (some (.str nn)) a4 a6 a8 a9 CG fs (fun x hx=>hx) a7 FH Ej Ek El Em
 have e2:ae T 12 56 [B4 hs fs,CN w,.str nn]=_:=jC 7 hs hn hr (CN w) rfl
 unfold CN at e2
 refine⟨b7,Gb,EN,EO,ER,ES,?_⟩
 unfold tB
 have es:=Ev.dE fs
 generalize B4 hs fs=HD at *
 generalize hs.map (Ho.d false)=R0 at *
 generalize tA=ta at *
 generalize fs.map D.str=FS at *
 simp -implicitDefEqProofs (disch:=omega) only[BL,Nat.reduceBEq,Nat.reduceSub,Nat.reduceAdd,reduceIte,Ev.aD,e1,e2,es,eH]
theorem r6 {fs:List Str}{r:Int}(h:0<=r):gc (.lst true (fs.map .str)) none (some r)=.ok (.lst true ((fs.take r.toNat).map .str)):=by
 rw[Ev.wU,Ev.wV _ h,List.map_take]
theorem xk (ns:List Int){fs:List Str}(hf:fs.length<=5){m:Int}(m0:0<=m)(m1:m<=1000000000){c:Int}(c0:0<=c)(c1:c<=60)(o:Bool)(s3:Option D) :
  ∃ (hs:List Ho) (o':Bool) (y6 y7 y8:Option D),forM (Ev.turn (ae T 12) (.nm 6) tI) (bu 0 c) [some (.lst false (ns.map .int)),some (.str "abcdefghijklmnopqrstuvwxyz"),some (.lst o (fs.map .str)),s3,some (.int m),some (.lst true []),none,none,none,none,none,none,none,none,none,none,none,none]=.ok (.nx [some (.lst false (ns.map .int)),some (.str "abcdefghijklmnopqrstuvwxyz"),some (.lst o' (fs.map .str)),s3,some (.int m),some (.lst true (hs.map (Ho.d false))),y6,y7,y8,none,none,none,none,none,none,none,none,none])/\hs.length<=60/\∀ h∈hs,Good h:=by
 obtain⟨τ',e,hs,o',y6,y7,y8,rfl,hl,g⟩:=Ev.gI (its:=bu 0 c) (τ:=[some (.lst false (ns.map .int)),some (.str "abcdefghijklmnopqrstuvwxyz"),some (.lst o (fs.map .str)),s3,some (.int m),some (.lst true []),none,none,none,none,none,none,none,none,none,none,none,none]) (body:=Ev.turn (ae T 12) (.nm 6) tI)
  (fun i τ=>∃ (hs:List Ho) (o':Bool) (y6 y7 y8:Option D),τ=[some (.lst false (ns.map .int)),some (.str "abcdefghijklmnopqrstuvwxyz"),some (.lst o' (fs.map .str)),s3,some (.int m),some (.lst true (hs.map (Ho.d false))),y6,y7,y8,none,none,none,none,none,none,none,none,none]/\hs.length=i/\∀ h∈hs,Good h)
  ⟨[],o,none,none,none,rfl,rfl,fun h hh=>by simp at hh⟩ (by
   rintro i x τ hx ⟨hs,o',y6,y7,y8,rfl,hl,g⟩
   have hi:i < c.toNat:=by
    have:=(List.getElem?_eq_some_iff.mp hx).1
    rw[bt] at this
    omega
   unfold bu at hx
   rw[List.getElem?_map,List.getElem?_range (by omega)] at hx
   have CA:D.int (0+(i:Nat))=x:=Option.some.inj hx
   subst CA
   obtain⟨Gg,o2,z7,z8,e,JW,g'⟩:=xb ns hf m0 m1 g (j:=0+(i:Int)) (by omega) (by omega) (by omega) o' s3 y6 y7 y8
   exact⟨_,e,Gg,o2,_,z7,z8,rfl,by rw[JW,hl],g'⟩)
 refine⟨hs,o',y6,y7,y8,e,?_,g⟩
 rw[hl,bt];omega
theorem xl {hs:List Ho}{fs:List Str}(g:∀ h∈hs,Good h){nn:Str}(hn:nn∉fs)(hr:(reprText nn).length<=1000){w v:Int}(w0:0<=w)(w1:w<=1000000000)(v0:0<=v)(v1:v<=1000000000){H:D}(eH:er H=B4 hs fs)(o:Bool)(a0 a1 a4 a6 a7 a8 a9 CG:Option D) :
  ∃ b2 b7 Pf Gb EN EO ER ES,forM (Ev.turn (ae T 12) (.nm 12) tB) [.int w,.int v] [a0,a1,some (.lst o (fs.map .str)),some (.str nn),a4,some (.lst false (hs.map (Ho.d false))),a6,a7,a8,a9,CG,some H,none,none,none,none,none,none]=.ok (.nx [a0,a1,b2,some (.str nn),a4,some (.lst false (hs.map (Ho.d false))),a6,b7,a8,a9,CG,some H,Pf,Gb,EN,EO,ER,ES]):=by
 obtain⟨c7,SG,SH,SI,SJ,SK,e1⟩:=qd g hn hr w0 w1 eH o a0 a1 a4 a6 a7 a8 a9 CG none none none none none none
 obtain⟨d7,SM,SN,SO,SQ,SR,e2⟩:=qd g hn hr v0 v1 eH false a0 a1 a4 a6 c7 a8 a9 CG (some (.int w)) SG SH SI SJ SK
 refine⟨some (.lst false (fs.map .str)),d7,some (.int v),SM,SN,SO,SQ,SR,?_⟩
 rw[Ev.cg,e1]
 show forM _ _ _=_
 rw[Ev.cg,e2]
 rfl
theorem xn:∀ ns:List Int,ae T 13 58 [.lst false (ns.map .int)]=.ok (.bl true):=by
 intro ns
 obtain⟨Es,e1,l6,nd,rp⟩:=p3 10 ns
 have d5:=aW 11 ns 5 5 (by decide) (by decide) (by decide)
 have p0:=cA ns 5 (m:=5) (by decide)
 have p1:=cB ns 5 (m:=5) (by decide)
 generalize dr ns 5 5=r at *
 have ct:=r6 (fs:=Es) (r:=1+r) (by omega)
 have i5:(Es.map D.str).length=6:=by rw[List.length_map,l6]
 have g5:aK (.lst true (Es.map .str)) (.int 5)=.ok (.str (Es.getD 5 (Str.ofString ""))):=by
  rw[Ev.OT,Ev.jv (.str (Str.ofString "")) (by decide) (by rw[i5];decide)]
  show Except.ok ((Es.map D.str).getD 5 _)=_
  rw[List.getD_eq_getElem?_getD,List.getD_eq_getElem?_getD,List.getElem?_map]
  cases Es[5]?<;>rfl
 have h5:5 < Es.length:=by omega
 have gg:Es.getD 5 (Str.ofString "")=Es[5]:=by rw[List.getD_eq_getElem?_getD,List.getElem?_eq_getElem h5];rfl
 have hr:(reprText (Es.getD 5 (Str.ofString ""))).length<=1000:=rp _ (by rw[gg];exact List.getElem_mem h5)
 have hn:Es.getD 5 (Str.ofString "")∉Es.take (1+r).toNat:=by
  intro hm
  rw[gg] at hm
  obtain⟨i,hi,e⟩:=List.mem_iff_getElem.mp hm
  rw[List.length_take] at hi
  rw[List.getElem_take] at e
  exact List.pairwise_iff_getElem.mp nd i 5 (by omega) h5 (by omega) e
 generalize Es.getD 5 (Str.ofString "")=nn at *
 have hf:(Es.take (1+r).toNat).length<=5:=by rw[List.length_take];omega
 generalize Es.take (1+r).toNat=fs at *
 obtain⟨m,e2,m0,m1⟩:=pY 10 ns (k:=6) (by decide) (by decide)
 obtain⟨v,e3,v0,v1⟩:=pY 10 ns (k:=42) (by decide) (by decide)
 have dA:=aW 11 ns 11 8 (by decide) (by decide) (by decide)
 have q0:=cA ns 11 (m:=8) (by decide)
 have q1:=cB ns 11 (m:=8) (by decide)
 generalize dr ns 11 8=u at *
 obtain⟨t,ht,tc⟩:∃ t:Int,(∀ o,aK (.lst o [.int 4,.int 61]) (.int (u / 7))=.ok (.int t))/\(t=4∨t=61):=by
  rcases (show u / 7=0∨u / 7=1 by omega) with h|h<;>rw[h]
  ·exact⟨4,fun _=>rfl,by omega⟩
  ·exact⟨61,fun _=>rfl,by omega⟩
 have dB:=aW 11 ns 10 t (by decide) (by decide) (by omega)
 have s0:=cA ns 10 (m:=t) (by omega)
 have s1:=cB ns 10 (m:=t) (by omega)
 generalize dr ns 10 t=c at *
 obtain⟨hs,o',y6,y7,y8,e4,hl,g⟩:=xk ns hf m0 m1 (c:=c) s0 (by omega) true (some (.str nn))
 obtain⟨z7,e5⟩:=p9 (ae T 12) (some (.lst false (ns.map .int))) (some (.str "abcdefghijklmnopqrstuvwxyz")) (some (.lst false (fs.map .str))) (some (.str nn)) (some (.int m)) (some (.lst true (hs.map (Ho.d false)))) y6 y8 none none none none none none none none fs [] y7 (by simp;omega)
 obtain⟨H,e6,eH⟩:=copy 9 3 (qa g (by omega) (fs:=fs) (by omega))
 obtain⟨b2,b7,Pf,Gb,EN,EO,ER,ES,e7⟩:=xl g hn hr m0 m1 v0 v1 eH false (some (.lst false (ns.map .int))) (some (.str "abcdefghijklmnopqrstuvwxyz")) (some (.int m)) y6 z7 y8 (some (.lst false (fs.map DY))) (some (.tup [.lst false [],.lst false (hs.map (Ho.d false)),.lst false (fs.map DY)]))
 have e8:ae T 12 54 [B4 hs fs,B4 hs fs]=_:=same 9 3 (qa g (by omega) (fs:=fs) (by omega))
 have e6:ae T 12 55 [B4 hs fs]=.ok H:=e6
 have lH:ao H=false:=by
  cases hb:ao H with
  | false=>rfl
  | true=>
   have:H=B4 hs fs:=(hG hb).symm.trans eH
   rw[this] at hb
   cases hb
 have ie:BA (ns.map D.int)=ns.map D.int:=Ev.ju ns
 have fe:=Ev.dE fs
 have fl:=Ev.lR fs
 have he:=dF hs
 have we:=xg fs
 have SS:=kN fs
 rw[List.map_nil,List.nil_append] at e5
 rw[Ev.go (show T 58=some Hl from rfl) (show Hl.io=none from rfl) (show Hl.np=1 from rfl) (show Hl.G.N.length=18 from rfl) (show Hl.body=[(.asg (.nm 1) (.c (.str "abcdefghijklmnopqrstuvwxyz"))),(.asg (.nm 2) (.call 50 [(.v 0),(.c (.int 0)),(.c (.int 6))])),(.asg (.nm 3) (.idx (.v 2) (.c (.int 5)))),(.asg (.nm 2) (.sl (.v 2) none (some (.bin .add (.c (.int 1)) (.call 49 [(.v 0),(.c (.int 5)),(.c (.int 5))]))))),(.asg (.nm 4) (.call 53 [(.v 0),(.c (.int 6))])),(.asg (.nm 5) (.lst [])),(.BP (.nm 6) (.Cf (.call 49 [(.v 0),(.c (.int 10)),(.idx (.lst [(.c (.int 4)),(.c (.int 61))]) (.bin .fdiv (.call 49 [(.v 0),(.c (.int 11)),(.c (.int 8))]) (.c (.int 7))))])) tI),(.asg (.nm 9) (.lst [])),(.BP (.nm 7) (.val (.v 2)) tW),(.asg (.nm 10) (.tup [(.lst []),(.v 5),(.v 9)])),(.asg (.nm 11) (.call 55 [(.v 10)])),(.BP (.nm 12) (.val (.lst [(.v 4),(.call 53 [(.v 0),(.c (.int 42))])])) tB),(.ret (.call 54 [(.v 11),(.v 10)]))] from rfl) rfl]
 unfold B4 at e6 e8 eH
 generalize hs.map (Ho.d false)=HS at *
 generalize fs.map DY=FI at *
 generalize fs.map Eo=FO at *
 generalize fs.map D.str=FS at *
 generalize Es.map D.str=F6 at *
 generalize ns.map D.int=NS at *
 generalize tI=ti at *
 generalize tW=tw at *
 generalize tB=tb at *
 simp -implicitDefEqProofs (disch:=omega) only[BL,Nat.reduceBEq,Nat.reduceSub,Nat.reduceAdd,reduceIte,ie,fe,fl,he,we,SS,e1,g5,d5,ct,e2,e3,dA,ht,dB,e4,e5,e6,lH,eH,e7,e8]
theorem holds (ns:List Int)(h:ns.length<=63):ae T (12+1) wX [.lst false (ns.map .int)]=.ok (.bl true):=xn ns
end Law
namespace PySem.W.Fast
theorem tw16056291138788071773:True:=⟨⟩
theorem tw14997117186383902256:True:=⟨⟩
theorem tw11283047365626304805:True:=⟨⟩
theorem tw6009134196354247548:True:=⟨⟩
theorem tw9654786870550185724:True:=⟨⟩
theorem tw8144452118092875438:True:=⟨⟩
theorem tw10549408317292209185:True:=⟨⟩
theorem tw4359846189968952521:True:=⟨⟩
theorem tw15060633298991927836:True:=⟨⟩
theorem tw4350660282002385046:True:=⟨⟩
theorem tw9786162966355010715:True:=⟨⟩
theorem tw11531795994269461084:True:=⟨⟩
theorem tw5020484219976429141:True:=⟨⟩
theorem tw427606447840166276:True:=⟨⟩
theorem tw44911340373783972:True:=⟨⟩
theorem tw8220881223813453105:True:=⟨⟩
theorem tw14272539915304674843:True:=⟨⟩
theorem tw6799312126565179216:True:=⟨⟩
theorem tw10833397616127078934:True:=⟨⟩
theorem tw9556894830034307530:True:=⟨⟩
theorem tw13947703559796903617:True:=⟨⟩
theorem tw11797665629500325225:True:=⟨⟩
theorem tw15267757270174131728:True:=⟨⟩
theorem tw16719085037504799335:True:=⟨⟩
theorem tw4142543022553870375:True:=⟨⟩
theorem tw6942686094784314497:True:=⟨⟩
theorem tw13301795715536970865:True:=⟨⟩
theorem tw16966560482295796617:True:=⟨⟩
theorem tw1815912177870110426:True:=⟨⟩
theorem tw7184233673377467872:True:=⟨⟩
theorem tw9515401524376227345:True:=⟨⟩
theorem tw15953394512620398160:True:=⟨⟩
theorem tw8670266032677922364:True:=⟨⟩
theorem tw17205437389627289137:True:=⟨⟩
theorem tw13171465389835341263:True:=⟨⟩
theorem tw13603740904956703125:True:=⟨⟩
theorem tw13421691689228582232:True:=⟨⟩
theorem tw7644923326798145345:True:=⟨⟩
theorem tw8201796316798808089:True:=⟨⟩
theorem tw14508520421418345220:True:=⟨⟩
theorem tw2879715928742205382:True:=⟨⟩
theorem tw14615151110888157788:True:=⟨⟩
theorem tw15823617220246343724:True:=⟨⟩
theorem tw12695986183369678842:True:=⟨⟩
theorem tw7377855949077641057:True:=⟨⟩
theorem tw12526958334870707092:True:=⟨⟩
theorem tw100030234057418226:True:=⟨⟩
theorem tw5307469412124766274:True:=⟨⟩
theorem tw4654274270141957326:True:=⟨⟩
theorem tw7528684840537083205:True:=⟨⟩
theorem tw12283698061129348817:True:=⟨⟩
theorem tw17453399689289089961:True:=⟨⟩
theorem tw6186467986585819087:True:=⟨⟩
theorem tw2106198471770144254:True:=⟨⟩
theorem tw16997273121056531421:True:=⟨⟩
theorem tw7503958600598666962:True:=⟨⟩
theorem tw12446692579379016102:True:=⟨⟩
theorem tw13287650387424958524:True:=⟨⟩
theorem tw11218910421414332481:True:=⟨⟩
theorem tw7785823459221323675:True:=⟨⟩
theorem tw7256475443334396952:True:=⟨⟩
theorem tw9439334000232746166:True:=⟨⟩
theorem tw8181590280241644475:True:=⟨⟩
theorem tw5961846267884859798:True:=⟨⟩
theorem tw14118499006256196836:True:=⟨⟩
theorem tw13411755945913292527:True:=⟨⟩
theorem tw10945598637512398633:True:=⟨⟩
theorem tw16225264903448591327:True:=⟨⟩
theorem tw14016134368915474695:True:=⟨⟩
theorem tw5179927934187299060:True:=⟨⟩
theorem tw5770600060290851762:True:=⟨⟩
theorem tw18018844720994477489:True:=⟨⟩
theorem tw14382401688201977700:True:=⟨⟩
theorem tw12849715677080749108:True:=⟨⟩
theorem tw11722784607225382642:True:=⟨⟩
theorem tw1268170939711533287:True:=⟨⟩
theorem tw2761755352793505958:True:=⟨⟩
theorem tw10463536062402575945:True:=⟨⟩
theorem tw2480452000017157484:True:=⟨⟩
theorem tw13725460254161621123:True:=⟨⟩
theorem tw6657105510611114432:True:=⟨⟩
theorem tw14404870172241716325:True:=⟨⟩
theorem tw2709146921467138045:True:=⟨⟩
theorem tw14502420971018927726:True:=⟨⟩
theorem tw11482133096463646587:True:=⟨⟩
theorem tw863262425731708106:True:=⟨⟩
theorem tw7085434984056759252:True:=⟨⟩
theorem tw16619291605153848411:True:=⟨⟩
theorem tw15741878800485248906:True:=⟨⟩
theorem tw8675883997983444503:True:=⟨⟩
theorem tw6284149442235190979:True:=⟨⟩
theorem tw16362243878103866590:True:=⟨⟩
theorem tw16124457768053957453:True:=⟨⟩
theorem tw1280920884199189214:True:=⟨⟩
theorem tw16617191816818074297:True:=⟨⟩
theorem tw11297102770703034006:True:=⟨⟩
theorem tw6217217306246918810:True:=⟨⟩
theorem tw676164791896481912:True:=⟨⟩
theorem tw11354056111410046874:True:=⟨⟩
theorem tw3960562594154109108:True:=⟨⟩
theorem tw12271480257272417799:True:=⟨⟩
theorem tw3477105949277255015:True:=⟨⟩
theorem tw10112871239514549639:True:=⟨⟩
theorem tw775543887376580238:True:=⟨⟩
theorem tw2161379230076935624:True:=⟨⟩
theorem tw1955691286421797053:True:=⟨⟩
theorem tw3217780723161729620:True:=⟨⟩
theorem tw6730207540216871257:True:=⟨⟩
theorem tw5265506107418970577:True:=⟨⟩
theorem tw14477950467971417467:True:=⟨⟩
theorem tw15189280699864162:True:=⟨⟩
theorem tw179545865991306181:True:=⟨⟩
theorem tw2183112721121590004:True:=⟨⟩
theorem tw3260324978449309442:True:=⟨⟩
theorem tw9618420511034444514:True:=⟨⟩
theorem tw7291048777444322406:True:=⟨⟩
theorem tw12188339415217497830:True:=⟨⟩
theorem tw12266060282343670981:True:=⟨⟩
theorem tw9749228300290329586:True:=⟨⟩
theorem tw7065982645313104295:True:=⟨⟩
theorem tw13890726354226049589:True:=⟨⟩
theorem tw11120212399371742760:True:=⟨⟩
theorem tw12988954037377282524:True:=⟨⟩
theorem tw14658375917071935659:True:=⟨⟩
theorem tw8913351363728188633:True:=⟨⟩
theorem tw11443129163271571640:True:=⟨⟩
theorem tw5227710969581011618:True:=⟨⟩
theorem tw10963443145478575627:True:=⟨⟩
theorem tw17526425331329782639:True:=⟨⟩
theorem tw3657878134827656208:True:=⟨⟩
theorem tw11191251107055996847:True:=⟨⟩
theorem tw18077193700952535735:True:=⟨⟩
theorem tw13273910495613312882:True:=⟨⟩
theorem tw3939264779818388542:True:=⟨⟩
theorem tw6619150247880773244:True:=⟨⟩
theorem tw17509748835600534374:True:=⟨⟩
theorem tw13200819303702354321:True:=⟨⟩
theorem tw13582557273278421731:True:=⟨⟩
theorem tw2654398616680180340:True:=⟨⟩
theorem tw15009244526908395695:True:=⟨⟩
theorem tw5001320036710249808:True:=⟨⟩
theorem tw4734393959283487643:True:=⟨⟩
theorem tw1656572787386946716:True:=⟨⟩
theorem tw4171934030009724397:True:=⟨⟩
theorem tw11101440875131423975:True:=⟨⟩
theorem tw334572979980004651:True:=⟨⟩
theorem tw2376989275686388439:True:=⟨⟩
theorem tw4049340993016178752:True:=⟨⟩
theorem tw7420774179920045325:True:=⟨⟩
theorem tw16078413843645404981:True:=⟨⟩
theorem tw11402640127844263263:True:=⟨⟩
theorem tw16918574796634055204:True:=⟨⟩
theorem tw14048789608786866905:True:=⟨⟩
theorem tw13367474297229582607:True:=⟨⟩
theorem tw8785392542370650080:True:=⟨⟩
theorem tw14552886016641390543:True:=⟨⟩
theorem tw4199715496113830760:True:=⟨⟩
theorem tw17533540616568423813:True:=⟨⟩
theorem tw2411474824349856862:True:=⟨⟩
theorem tw12079231027250690849:True:=⟨⟩
theorem tw7934374057080292514:True:=⟨⟩
theorem tw15876636838836491591:True:=⟨⟩
theorem tw15432344150020761091:True:=⟨⟩
theorem tw5354943476622813712:True:=⟨⟩
theorem tw13885627972095368895:True:=⟨⟩
theorem tw1951180640408061250:True:=⟨⟩
theorem tw2301550781137979134:True:=⟨⟩
theorem tw14549710507481416876:True:=⟨⟩
theorem tw1759704509848955924:True:=⟨⟩
theorem tw12412238536536546215:True:=⟨⟩
theorem tw16353780279916963406:True:=⟨⟩
theorem tw4505753156657745950:True:=⟨⟩
theorem tw4190272370090159322:True:=⟨⟩
theorem tw547688873442410887:True:=⟨⟩
theorem tw10478978978874381550:True:=⟨⟩
theorem tw16128236626085476517:True:=⟨⟩
theorem tw10189379946736738861:True:=⟨⟩
theorem tw13226608397110762398:True:=⟨⟩
theorem tw3110599164620985859:True:=⟨⟩
theorem tw13768574943218143914:True:=⟨⟩
theorem tw5561621506156129515:True:=⟨⟩
theorem tw11319582679910965976:True:=⟨⟩
theorem tw719782603075230030:True:=⟨⟩
theorem tw10216097567158947197:True:=⟨⟩
theorem tw7463695312835932506:True:=⟨⟩
theorem tw6734637691506502299:True:=⟨⟩
theorem tw10744286051014442230:True:=⟨⟩
theorem tw17704819946720682846:True:=⟨⟩
theorem tw17385711196075710098:True:=⟨⟩
theorem tw2033539481478178053:True:=⟨⟩
theorem tw12425098110329531716:True:=⟨⟩
theorem tw5045746469032502006:True:=⟨⟩
theorem tw17394057750375966150:True:=⟨⟩
theorem tw7403812798363320902:True:=⟨⟩
theorem tw18194445037259239551:True:=⟨⟩
theorem tw2118813566868753284:True:=⟨⟩
theorem tw13412615168288586497:True:=⟨⟩
theorem tw17139055130131349258:True:=⟨⟩
theorem tw6922590231271793036:True:=⟨⟩
theorem tw2308290808858762282:True:=⟨⟩
theorem tw8372620948372033228:True:=⟨⟩
theorem tw4630229524942276944:True:=⟨⟩
theorem tw16794731470536317986:True:=⟨⟩
theorem tw14986452118335899292:True:=⟨⟩
theorem tw18212336491594418765:True:=⟨⟩
theorem tw1552130843973270682:True:=⟨⟩
theorem tw12039357662558219265:True:=⟨⟩
theorem tw16700774542584626654:True:=⟨⟩
theorem tw14019431305852792685:True:=⟨⟩
theorem tw7400847359903276526:True:=⟨⟩
theorem tw6528678725145059280:True:=⟨⟩
theorem tw16298514602767889751:True:=⟨⟩
theorem tw7794105543150112119:True:=⟨⟩
theorem tw14818382172069815387:True:=⟨⟩
theorem tw6385819339765147604:True:=⟨⟩
theorem tw8633669256442289372:True:=⟨⟩
theorem tw3501149345110930406:True:=⟨⟩
theorem tw9378673076194137458:True:=⟨⟩
theorem tw13903462326816211704:True:=⟨⟩
theorem tw2996301556914188616:True:=⟨⟩
theorem tw4344460235156625663:True:=⟨⟩
theorem tw1438555939682203426:True:=⟨⟩
theorem tw17769778528906352785:True:=⟨⟩
theorem tw4503691820225618925:True:=⟨⟩
theorem tw9912024912878158917:True:=⟨⟩
theorem tw2783856362501563878:True:=⟨⟩
theorem tw14735733644392817454:True:=⟨⟩
theorem tw2362484751924129898:True:=⟨⟩
theorem tw17527176073690126283:True:=⟨⟩
theorem tw2399747580454807199:True:=⟨⟩
theorem tw157600261393542151:True:=⟨⟩
theorem tw13606471398333916959:True:=⟨⟩
theorem tw14107161155607831671:True:=⟨⟩
theorem tw17631805043253876803:True:=⟨⟩
theorem tw18231591686813875318:True:=⟨⟩
theorem tw3738870320044720743:True:=⟨⟩
theorem tw8254925692719551091:True:=⟨⟩
theorem tw13313918019296930134:True:=⟨⟩
theorem tw7677353108694002570:True:=⟨⟩
theorem tw13060751845780509346:True:=⟨⟩
theorem tw17694103690583765004:True:=⟨⟩
theorem tw10473479045768020903:True:=⟨⟩
theorem tw18046588280795670741:True:=⟨⟩
theorem tw5249300577051599240:True:=⟨⟩
theorem tw764634682553914017:True:=⟨⟩
theorem tw16398405655162929337:True:=⟨⟩
theorem tw4632877786403991729:True:=⟨⟩
theorem tw11521420400034705500:True:=⟨⟩
theorem tw3067541795111734226:True:=⟨⟩
theorem tw5095296963527837372:True:=⟨⟩
theorem tw4618199718241714800:True:=⟨⟩
theorem tw14157931726593498587:True:=⟨⟩
theorem tw12422521174705056717:True:=⟨⟩
theorem tw8792048692232727848:True:=⟨⟩
theorem tw9674084677783651634:True:=⟨⟩
theorem tw13306435795729578923:True:=⟨⟩
theorem tw6818114514462598429:True:=⟨⟩
theorem tw7952655598014215365:True:=⟨⟩
theorem tw6297587742025949080:True:=⟨⟩
theorem tw14945147897314984377:True:=⟨⟩
theorem tw11789929969049018049:True:=⟨⟩
theorem tw8624407476826913817:True:=⟨⟩
theorem tw17258118900408758607:True:=⟨⟩
theorem tw10794469181589369249:True:=⟨⟩
theorem tw14409888058027099404:True:=⟨⟩
theorem tw6911380899172305433:True:=⟨⟩
theorem tw511822514818138841:True:=⟨⟩
theorem tw13565254208075753371:True:=⟨⟩
theorem tw5243097264076940622:True:=⟨⟩
theorem tw1430003823548249677:True:=⟨⟩
theorem tw1545605427887855553:True:=⟨⟩
theorem tw10551716663277452853:True:=⟨⟩
theorem tw14011950896209713386:True:=⟨⟩
theorem tw319971440564864962:True:=⟨⟩
theorem tw5160044161790717071:True:=⟨⟩
theorem tw7619545654913793066:True:=⟨⟩
theorem tw8814014668177241783:True:=⟨⟩
theorem tw1596800666528933966:True:=⟨⟩
theorem tw18247461427405501124:True:=⟨⟩
theorem tw17476204163161205574:True:=⟨⟩
theorem tw11581011241438794804:True:=⟨⟩
theorem tw15418870981383198959:True:=⟨⟩
theorem tw10652332609573227570:True:=⟨⟩
theorem tw15638471226446344312:True:=⟨⟩
theorem tw6037402771470408605:True:=⟨⟩
theorem tw7885325479509794306:True:=⟨⟩
theorem tw7992048525394157287:True:=⟨⟩
theorem tw8345252030605902542:True:=⟨⟩
theorem tw1295485444142445749:True:=⟨⟩
theorem tw7208973078907960771:True:=⟨⟩
theorem tw2969807135766052481:True:=⟨⟩
theorem tw2927736147622203493:True:=⟨⟩
theorem tw9355970418339031637:True:=⟨⟩
theorem tw13651959303041562810:True:=⟨⟩
theorem tw1623325309977401311:True:=⟨⟩
theorem tw1560697432328680398:True:=⟨⟩
theorem tw10730736103984373568:True:=⟨⟩
theorem tw13477963294813349952:True:=⟨⟩
theorem tw15467469755362510935:True:=⟨⟩
theorem tw14090521064371456679:True:=⟨⟩
theorem tw14456737833239638754:True:=⟨⟩
theorem tw15971118693290907449:True:=⟨⟩
theorem tw13603497390878694323:True:=⟨⟩
theorem tw4284453165198908222:True:=⟨⟩
theorem tw7973333576782583583:True:=⟨⟩
theorem tw11978713648542051926:True:=⟨⟩
theorem tw10001954528749811026:True:=⟨⟩
theorem tw17037558127665637915:True:=⟨⟩
theorem tw5144808418486080001:True:=⟨⟩
theorem tw11381283820063597897:True:=⟨⟩
theorem tw2090767931237689725:True:=⟨⟩
theorem tw5074718857804308033:True:=⟨⟩
theorem tw6474315180383178911:True:=⟨⟩
theorem tw9492202740076337836:True:=⟨⟩
theorem tw7914026988554221499:True:=⟨⟩
theorem tw10491034963158531863:True:=⟨⟩
theorem tw11284228518459983705:True:=⟨⟩
theorem tw17735190148237645619:True:=⟨⟩
theorem tw4839687039071282846:True:=⟨⟩
theorem tw4888045058460122433:True:=⟨⟩
theorem tw8046848626585621697:True:=⟨⟩
end PySem.W.Fast
open PySem PySem.W PyProof.Rows
set_option maxRecDepth 100000 in
set_option maxHeartbeats 0 in
theorem PySem.Challenge.cw_flagroll_k40_holdouts_holds : PySem.Challenge.rw_flagroll_k40_holdouts.Holds := by
  w_on; o_law; k_head; (case hw => w_witness2)
  k_fill
  refine L2.nP (l := PySem.Challenge.rw_flagroll_k40_holdouts) (T := Law.T) (n := 12) (f := Law.wX) (x := Law.rO) rfl rfl ⟨fun _ => rfl, by decide, by decide⟩ (fun w h Y => PySem.W.kIn_of Y) ?F Law.holds
  case F =>
    intro w mg fa h KX G hmg
    refine' Law.all_mk KX G hmg (Law.dfo Law.c24 rfl (fun _ _ _ _ _ _ => Law.ln1 fun _ => rfl) KX G ?a24 ?l24 ?e24 ?k24) (Law.dfo Law.c25 rfl (fun _ _ _ _ _ _ => Law.ln4 fun _ _ _ _ => rfl) KX G ?a25 ?l25 ?e25 ?k25) (Law.dfo Law.c26 rfl (fun _ _ _ _ _ _ => Law.ln2 fun _ _ => rfl) KX G ?a26 ?l26 ?e26 ?k26) (Law.dfo Law.c27 rfl (fun _ _ _ _ _ _ => Law.ln3 fun _ _ _ => rfl) KX G ?a27 ?l27 ?e27 ?k27) (Law.dfo Law.c28 rfl (fun _ _ _ _ _ _ => Law.ln3 fun _ _ _ => rfl) KX G ?a28 ?l28 ?e28 ?k28) (Law.dfo Law.c29 rfl (fun _ _ _ _ _ _ => Law.ln3 fun _ _ _ => rfl) KX G ?a29 ?l29 ?e29 ?k29) (Law.dfo Law.c30 rfl (fun _ _ _ _ _ _ => Law.ln3 fun _ _ _ => rfl) KX G ?a30 ?l30 ?e30 ?k30) (Law.dfo Law.c31 rfl (fun _ _ _ _ _ _ => Law.ln3 fun _ _ _ => rfl) KX G ?a31 ?l31 ?e31 ?k31) (Law.dfo Law.c32 rfl (fun _ _ _ _ _ _ => Law.ln1 fun _ => rfl) KX G ?a32 ?l32 ?e32 ?k32) (Law.dfo Law.c33 rfl (fun _ _ _ _ _ _ => Law.ln3 fun _ _ _ => rfl) KX G ?a33 ?l33 ?e33 ?k33) (Law.dfo Law.c34 rfl (fun _ _ _ _ _ _ => Law.ln1 fun _ => rfl) KX G ?a34 ?l34 ?e34 ?k34) (Law.dfo Law.c35 rfl (fun _ _ _ _ _ _ => Law.ln2 fun _ _ => rfl) KX G ?a35 ?l35 ?e35 ?k35) (Law.dfo Law.c36 rfl (fun _ _ _ _ _ _ => Law.ln2 fun _ _ => rfl) KX G ?a36 ?l36 ?e36 ?k36) (Law.dfo Law.c37 rfl (fun _ _ _ _ _ _ => Law.ln2 fun _ _ => rfl) KX G ?a37 ?l37 ?e37 ?k37) (Law.dfo Law.c38 rfl (fun _ _ _ _ _ _ => Law.ln2 fun _ _ => rfl) KX G ?a38 ?l38 ?e38 ?k38) (Law.dfo Law.c39 rfl (fun _ _ _ _ _ _ => Law.ln4 fun _ _ _ _ => rfl) KX G ?a39 ?l39 ?e39 ?k39) (Law.dfo Law.c40 rfl (fun _ _ _ _ _ _ => Law.ln3 fun _ _ _ => rfl) KX G ?a40 ?l40 ?e40 ?k40) (Law.dfo Law.c41 rfl (fun _ _ _ _ _ _ => Law.ln4 fun _ _ _ _ => rfl) KX G ?a41 ?l41 ?e41 ?k41) (Law.dfo Law.c42 rfl (fun _ _ _ _ _ _ => Law.ln4 fun _ _ _ _ => rfl) KX G ?a42 ?l42 ?e42 ?k42) (Law.dfo Law.c43 rfl (fun _ _ _ _ _ _ => Law.ln2 fun _ _ => rfl) KX G ?a43 ?l43 ?e43 ?k43) (Law.dfo Law.c44 rfl (fun _ _ _ _ _ _ => Law.ln3 fun _ _ _ => rfl) KX G ?a44 ?l44 ?e44 ?k44) (Law.dfo Law.c45 rfl (fun _ _ _ _ _ _ => Law.ln5 fun _ _ _ _ _ => rfl) KX G ?a45 ?l45 ?e45 ?k45) (Law.dfo Law.c46 rfl (fun _ _ _ _ _ _ => Law.ln5 fun _ _ _ _ _ => rfl) KX G ?a46 ?l46 ?e46 ?k46) (Law.Bm Law.c47 rfl (fun _ _ _ _ _ _ => Law.ln5 fun _ _ _ _ _ => rfl) KX G ?a47 ?l47 ?e47 ?k47) (Law.dfo Law.c48 rfl (fun _ _ _ _ _ _ => Law.ln4 fun _ _ _ _ => rfl) KX G ?a48 ?l48 ?e48 ?k48) (Law.dfo Law.c49 rfl (fun _ _ _ _ _ _ => Law.ln3 fun _ _ _ => rfl) KX G ?a49 ?l49 ?e49 ?k49) (Law.dfo Law.c50 rfl (fun _ _ _ _ _ _ => Law.ln3 fun _ _ _ => rfl) KX G ?a50 ?l50 ?e50 ?k50) (Law.dfo Law.c51 rfl (fun _ _ _ _ _ _ => Law.ln2 fun _ _ => rfl) KX G ?a51 ?l51 ?e51 ?k51) (Law.dfo Law.c52 rfl (fun _ _ _ _ _ _ => Law.ln2 fun _ _ => rfl) KX G ?a52 ?l52 ?e52 ?k52) (Law.dfo Law.c53 rfl (fun _ _ _ _ _ _ => Law.ln2 fun _ _ => rfl) KX G ?a53 ?l53 ?e53 ?k53) (Law.dfo Law.c54 rfl (fun _ _ _ _ _ _ => Law.ln2 fun _ _ => rfl) KX G ?a54 ?l54 ?e54 ?k54) (Law.dfo Law.c55 rfl (fun _ _ _ _ _ _ => Law.ln1 fun _ => rfl) KX G ?a55 ?l55 ?e55 ?k55) (Law.dfo Law.c56 rfl (fun _ _ _ _ _ _ => Law.ln3 fun _ _ _ => rfl) KX G ?a56 ?l56 ?e56 ?k56) (Law.dfo Law.c57 rfl (fun _ _ _ _ _ _ => Law.ln5 fun _ _ _ _ _ => rfl) KX G ?a57 ?l57 ?e57 ?k57) (Law.dfo Law.c59 rfl (fun _ _ _ _ _ _ => Law.ln5 fun _ _ _ _ _ => rfl) KX G ?a59 ?l59 ?e59 ?k59) (Law.dfo Law.c60 rfl (fun _ _ _ _ _ _ => Law.ln4 fun _ _ _ _ => rfl) KX G ?a60 ?l60 ?e60 ?k60) ?a58 ?l58 ?e58 ?k58 ?q21 ?q22 ?q23 ?u61 ?u62 ?u64 ?u65 ?u66 ?u67 ?u68 ?u63 ?vn61 ?vg61 ?vo61 ?vc61 ?vb61 ?vj61 ?vi61 ?vx61 ?y61_61 ?y61_63 ?y61_64 ?y61_65 ?y61_66 ?y61_67 ?m61_68 ?vn62 ?vg62 ?vo62 ?vc62 ?vb62 ?vj62 ?vi62 ?vx62 ?y62_61 ?y62_63 ?y62_64 ?y62_65 ?y62_66 ?y62_67 ?m62_68 ?z0 ?z1 ?z2 ?z3 ?z4 ?z5 ?z6 ?z7 ?z8 ?z9 ?z10 ?z11 ?z12 ?z13 ?z14 ?z15 ?z16 ?z17 ?z18 ?z19 ?z20
    (case a24 => k_is)
    (case l24 => k_is)
    (case e24 => k_is)
    (case k24 => k_is)
    (case a25 => k_is)
    (case l25 => k_is)
    (case e25 => k_is)
    (case k25 => k_is)
    (case a26 => k_is)
    (case l26 => k_is)
    (case e26 => k_is)
    (case k26 => k_is)
    (case a27 => k_is)
    (case l27 => k_is)
    (case e27 => k_is)
    (case k27 => k_is)
    (case a28 => k_is)
    (case l28 => k_is)
    (case e28 => k_is)
    (case k28 => k_is)
    (case a29 => k_is)
    (case l29 => k_is)
    (case e29 => k_is)
    (case k29 => k_is)
    (case a30 => k_is)
    (case l30 => k_is)
    (case e30 => k_is)
    (case k30 => k_is)
    (case a31 => k_is)
    (case l31 => k_is)
    (case e31 => k_is)
    (case k31 => k_is)
    (case a32 => k_is)
    (case l32 => k_is)
    (case e32 => k_is)
    (case k32 => k_is)
    (case a33 => k_is)
    (case l33 => k_is)
    (case e33 => k_is)
    (case k33 => k_is)
    (case a34 => k_is)
    (case l34 => k_is)
    (case e34 => k_is)
    (case k34 => k_is)
    (case a35 => k_is)
    (case l35 => k_is)
    (case e35 => k_is)
    (case k35 => k_is)
    (case a36 => k_is)
    (case l36 => k_is)
    (case e36 => k_is)
    (case k36 => k_is)
    (case a37 => k_is)
    (case l37 => k_is)
    (case e37 => k_is)
    (case k37 => k_is)
    (case a38 => k_is)
    (case l38 => k_is)
    (case e38 => k_is)
    (case k38 => k_is)
    (case a39 => k_is)
    (case l39 => k_is)
    (case e39 => k_is)
    (case k39 => k_is)
    (case a40 => k_is)
    (case l40 => k_is)
    (case e40 => k_is)
    (case k40 => k_is)
    (case a41 => k_is)
    (case l41 => k_is)
    (case e41 => k_is)
    (case k41 => k_is)
    (case a42 => k_is)
    (case l42 => k_is)
    (case e42 => k_is)
    (case k42 => k_is)
    (case a43 => k_is)
    (case l43 => k_is)
    (case e43 => k_is)
    (case k43 => k_is)
    (case a44 => k_is)
    (case l44 => k_is)
    (case e44 => k_is)
    (case k44 => k_is)
    (case a45 => k_is)
    (case l45 => k_is)
    (case e45 => k_is)
    (case k45 => k_is)
    (case a46 => k_is)
    (case l46 => k_is)
    (case e46 => k_is)
    (case k46 => k_is)
    (case a47 => k_is)
    (case l47 => k_is)
    (case e47 => k_is)
    (case k47 => k_is)
    (case a48 => k_is)
    (case l48 => k_is)
    (case e48 => k_is)
    (case k48 => k_is)
    (case a49 => k_is)
    (case l49 => k_is)
    (case e49 => k_is)
    (case k49 => k_is)
    (case a50 => k_is)
    (case l50 => k_is)
    (case e50 => k_is)
    (case k50 => k_is)
    (case a51 => k_is)
    (case l51 => k_is)
    (case e51 => k_is)
    (case k51 => k_is)
    (case a52 => k_is)
    (case l52 => k_is)
    (case e52 => k_is)
    (case k52 => k_is)
    (case a53 => k_is)
    (case l53 => k_is)
    (case e53 => k_is)
    (case k53 => k_is)
    (case a54 => k_is)
    (case l54 => k_is)
    (case e54 => k_is)
    (case k54 => k_is)
    (case a55 => k_is)
    (case l55 => k_is)
    (case e55 => k_is)
    (case k55 => k_is)
    (case a56 => k_is)
    (case l56 => k_is)
    (case e56 => k_is)
    (case k56 => k_is)
    (case a57 => k_is)
    (case l57 => k_is)
    (case e57 => k_is)
    (case k57 => k_is)
    (case a59 => k_is)
    (case l59 => k_is)
    (case e59 => k_is)
    (case k59 => k_is)
    (case a60 => k_is)
    (case l60 => k_is)
    (case e60 => k_is)
    (case k60 => k_is)
    (case a58 => k_is)
    (case l58 => k_is)
    (case e58 => k_is)
    (case k58 => k_is)
    (case q21 => k_is)
    (case q22 => k_is)
    (case q23 => k_is)
    (case u61 => k_is)
    (case u62 => k_is)
    (case u64 => k_is)
    (case u65 => k_is)
    (case u66 => k_is)
    (case u67 => k_is)
    (case u68 => k_is)
    (case u63 => k_is)
    (case vn61 => kernel_rfl)
    (case vg61 => kernel_rfl)
    (case vo61 => kernel_rfl)
    (case vc61 => kernel_rfl)
    (case vb61 => kernel_rfl)
    (case vj61 => kernel_rfl)
    (case vi61 => kernel_rfl)
    (case vx61 => kernel_rfl)
    (case y61_61 => kernel_rfl)
    (case y61_63 => kernel_rfl)
    (case y61_64 => kernel_rfl)
    (case y61_65 => kernel_rfl)
    (case y61_66 => kernel_rfl)
    (case y61_67 => kernel_rfl)
    (case m61_68 => kernel_rfl)
    (case vn62 => kernel_rfl)
    (case vg62 => kernel_rfl)
    (case vo62 => kernel_rfl)
    (case vc62 => kernel_rfl)
    (case vb62 => kernel_rfl)
    (case vj62 => kernel_rfl)
    (case vi62 => kernel_rfl)
    (case vx62 => kernel_rfl)
    (case y62_61 => kernel_rfl)
    (case y62_63 => kernel_rfl)
    (case y62_64 => kernel_rfl)
    (case y62_65 => kernel_rfl)
    (case y62_66 => kernel_rfl)
    (case y62_67 => kernel_rfl)
    (case m62_68 => kernel_rfl)
    (case z0 => k_is)
    (case z1 => k_is)
    (case z2 => k_is)
    (case z3 => k_is)
    (case z4 => k_is)
    (case z5 => k_is)
    (case z6 => k_is)
    (case z7 => k_is)
    (case z8 => k_is)
    (case z9 => k_is)
    (case z10 => k_is)
    (case z11 => k_is)
    (case z12 => k_is)
    (case z13 => k_is)
    (case z14 => k_is)
    (case z15 => k_is)
    (case z16 => k_is)
    (case z17 => k_is)
    (case z18 => k_is)
    (case z19 => k_is)
    (case z20 => k_is)
#print axioms PySem.Challenge.cw_flagroll_k40_holdouts_holds
