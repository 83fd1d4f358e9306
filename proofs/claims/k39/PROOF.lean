import PyProof.Rows.All
import Wide.All
import OpenK.AllK
import Wide.FinOn
import Lean
import PyProof.EqAt
import PyProof.EqKinds
import PyProof.TupleCall
import PyProof.NeKinds
import KE.KRevIter
import KE.KSortTup
import Wide.Txt2
import PyProof.FString4
import KE.KIntText
import PyProof.ZipIter
import PyProof.TupleIter
import PyProof.WalksMore
import PyProof.Rows.SortShell
import KE.KDictSum
import PyProof.Rows.SortStr
import PyProof.Rows.SetFrom
import PyProof.DictUpdate
import KE.KDictOf
import PyProof.AttrMissSeq
import KE.KDictList
import KE.KDictIter
import PyProof.Rows.SortWalk
import PyProof.EnumMake
import PyProof.EnumFor
import PyProof.Rows.EnumRows
import KE.KIsAll
import PyProof.ExcArgsOwn
import PyProof.ExcAttrAll.ValueError
import OpenK.KDescr
import PyProof.StationsW
import OpenK.KOwn
import KE.KTryMore
import OpenK.KRaise
import PyProof.RulesDel
import PyProof.RulesAs
import PyProof.Rows.Catch
import PySem.Challenge.RW_flagroll_k39_needs
set_option maxHeartbeats 8000000
set_option Elab.async false
set_option linter.all false
set_option maxRecDepth 100000
namespace L2
open PySem PySem.Spec PyProof.Rows
noncomputable abbrev Key:=Sum Int Str
noncomputable def eS:Key->Value->Bool
 | .inl k,v=>Value.isInt k v
 | .inr x,v=>Value.isStrOf x v
noncomputable def Ae (w:World):Key->Int
 | .inl k=>hashInt k
 | .inr x=>hashStr w x
theorem aK:∀ {k:Key}{v:Value},eS k v=true->(∃ i t,k=Sum.inl i/\v=Value.int i t)∨(∃ x t,k=Sum.inr x/\v=Value.str x t)
 | .inl i,v,h=>by
  obtain⟨t,e⟩:=Value.isInt_shape (k:=i) (v:=v) h
  exact .inl ⟨i,t,rfl,e⟩
 | .inr x,v,h=>by
  obtain⟨t,e⟩:=Value.isStrOf_shape (x:=x) (v:=v) h
  exact .inr ⟨x,t,rfl,e⟩
theorem kI (i:Int)(t:Tok):eS (.inl i) (.int i t)=true:=by simp[eS,Value.isInt]
theorem kJ (x:Str)(t:Tok):eS (.inr x) (.str x t)=true:=by simp[eS,Value.isStrOf]
theorem uB (a b:Int):decide ((Sum.inl a:Key)=Sum.inl b)=(a == b):=by
 by_cases e:a=b
 ·subst e;simp
 ·have h:¬ (Sum.inl a:Key)=Sum.inl b:=fun q=>e (Sum.inl.inj q)
  rw[decide_eq_false h]
  exact(beq_eq_false_iff_ne.mpr e).symm
theorem uC (a b:Str):decide ((Sum.inr a:Key)=Sum.inr b)=decide (a=b):=by
 by_cases e:a=b
 ·subst e;simp
 ·have h:¬ (Sum.inr a:Key)=Sum.inr b:=fun q=>e (Sum.inr.inj q)
  rw[decide_eq_false h,decide_eq_false e]
theorem uD (a:Int)(b:Str):decide ((Sum.inl a:Key)=Sum.inr b)=false:=decide_eq_false (fun q=>nomatch q)
theorem uE (a:Str)(b:Int):decide ((Sum.inr a:Key)=Sum.inl b)=false:=decide_eq_false (fun q=>nomatch q)
noncomputable def aN (prog:Program)(w:World):PySem.KeyKind prog w Key where
 is:=eS
 hash:=Ae w
 inj:=fun v a b ha hb=>by
  rcases aK ha with ⟨i,t,rfl,rfl⟩|⟨x,t,rfl,rfl⟩
  ·rcases aK hb with ⟨j,u,rfl,e⟩|⟨y,u,rfl,e⟩
   ·injection e with e1 _;rw[e1]
   ·exact nomatch e
  ·rcases aK hb with ⟨j,u,rfl,e⟩|⟨y,u,rfl,e⟩
   ·exact nomatch e
   ·injection e with e1 _;rw[e1]
 byValue:=fun k v h=>by
  rcases aK h with ⟨i,t,rfl,rfl⟩|⟨x,t,rfl,rfl⟩<;>rfl
 pyHash:=fun hv h=>by
  rcases aK hv with ⟨i,t,rfl,rfl⟩|⟨x,t,rfl,rfl⟩
  ·exact wpAny_pyHash_int h
  ·exact wpAny_pyHash_str h
 eqBool:=fun hu hv h=>by
  rcases aK hu with ⟨i,t,rfl,rfl⟩|⟨x,t,rfl,rfl⟩
  ·rcases aK hv with ⟨j,u,rfl,rfl⟩|⟨y,u,rfl,rfl⟩
   ·rw[uB] at h;exact wpAny_eqBool_int h
   ·rw[uD] at h;exact SeqAt.EqAt.int_str i t y u _ _ _ _ h
  ·rcases aK hv with ⟨j,u,rfl,rfl⟩|⟨y,u,rfl,rfl⟩
   ·rw[uE] at h;exact SeqAt.EqAt.str_int x t j u _ _ _ _ h
   ·rw[uC] at h;exact wpAny_eqBool_str h
 «strs»:=fun k x t v h=>by
  rcases aK h with ⟨i,u,rfl,e⟩|⟨y,u,rfl,e⟩
  ·exact nomatch e
  ·injection e with e1 _
   subst e1
   cases v<;>rfl
theorem gH (prog:Program)(w:World)(i:Int)(t:Tok):(aN prog w).is (.inl i) (.int i t)=true:=kI i t
theorem gI (prog:Program)(w:World)(x:Str)(t:Tok):(aN prog w).is (.inr x) (.str x t)=true:=kJ x t
inductive V where
 | A8|bl (b:Bool)|int (i:Int)|str (x:Str)|GB (b:Array UInt8)|KN (b:UInt64)|ref (a:Addr)|ty (n:String)
 deriving DecidableEq
noncomputable def RelV:V->Value->Prop
 | .A8,u=>u=Value.none
 | .bl b,u=>u=Value.bool b
 | .int i,u=>∃ t,u=Value.int i t
 | .str x,u=>∃ t,u=Value.str x t
 | .GB b,u=>∃ t,u=Value.bytes b t
 | .KN b,u=>∃ t,u=Value.float b t
 | .ref a,u=>u=Value.ref a
 | .ty n,u=>u=Value.type n
abbrev Vals:List V->List Value->Prop:=Paired RelV
theorem Vals.length {xs:List V}{us:List Value}(r:Vals xs us):xs.length=us.length:=Paired.length r
theorem Vals.get:∀ {xs:List V}{us:List Value}{i:Nat}{x:V},Vals xs us->xs[i]? = some x->∃ u,us[i]? = some u/\RelV x u
 | _,_,_,_,.nil,e=>by simp at e
 | _,_,0,_,.cons r _,e=>by simp at e;subst e;exact⟨_,rfl,r⟩
 | _,_,i+1,x,.cons _ t,e=>by
  obtain⟨u,h1,h2⟩:=Vals.get (i:=i) (x:=x) t (by simpa using e)
  exact⟨u,by simpa using h1,h2⟩
theorem Vals.append:∀ {xs ys:List V}{us ws:List Value},Vals xs us->Vals ys ws->Vals (xs++ys) (us++ws)
 | _,_,_,_,.nil,s=>s
 | _,_,_,_,.cons r t,s=>.cons r (Vals.append t s)
theorem Vals.take:∀ {xs:List V}{us:List Value} (n:Nat),Vals xs us->Vals (xs.take n) (us.take n)
 | _,_,0,_=>.nil
 | _,_,_+1,.nil=>.nil
 | _,_,n+1,.cons r t=>.cons r (Vals.take n t)
theorem Vals.drop:∀ {xs:List V}{us:List Value} (n:Nat),Vals xs us->Vals (xs.drop n) (us.drop n)
 | _,_,0,r=>r
 | _,_,_+1,.nil=>.nil
 | _,_,n+1,.cons _ t=>Vals.drop n t
noncomputable def eN:Option V->Option Value->Prop
 | some v,some u=>RelV v u
 | none,none=>True
 | _,_=>False
def KV {κ:Type}:List (κ×V)->List (κ×Value)->Prop:=Paired fun (p:κ×V) (q:κ×Value)=>p.1=q.1/\RelV p.2 q.2
noncomputable def kV:Key->V
 | .inl i=>.int i
 | .inr x=>.str x
inductive HO where
 | lst (xs:List V)
 | tup (xs:List V)
 | dK (kvs:List (Key×V))|dT (kvs:List (List Key×V))
 | set (S:Int->Bool) (n:Nat)
 | ins (C dx:Addr) (fs:List (Str×V))
 | own (x:Addr)
 | xd (fs:List (Str×V))
 | met (f x:Addr)
 | EI (lo hi:Int)
 | Bb (o:Obj) (u:HO)
 | F6 (ps:Array Value)
 | ext (φ:Heap->Prop)
noncomputable abbrev Hp:=Addr->Option HO
noncomputable def upd (H:Hp)(a:Addr)(o:HO):Hp:=fun b=>if b=a then some o else H b
theorem aw {H:Hp}{a:Addr}{o:HO}:upd H a o a=some o:=by unfold upd;rw[if_pos rfl]
theorem ak {H:Hp}{a b:Addr}{o:HO}(h:b≠a):upd H a o b=H b:=by unfold upd;rw[if_neg h]
theorem wR {H:Hp}{a b:Addr}{o u:HO}(h:H a=some o)(h':H b=some u)(d:o≠u):a≠b:=by
 intro e;subst e;rw[h] at h';exact d (Option.some.inj h')
theorem aC {H:Hp}{a b:Addr}{o:HO}(h:H a=some o)(h':H b=none):a≠b:=by
 intro e;subst e;rw[h] at h';cases h'
section
variable (P:Program)(w:World)
noncomputable def aM (H:Hp)(h:Heap)(a:Addr):HO->Prop
 | .lst xs=>xs.length<=sizeLine/\∃ (its:List Value) (n:Nat),Vals xs its/\h.get? a=some {cls:=.type "list",data:=.seq its.toArray n}
 | .tup xs=>xs.length<=sizeLine/\∃ its:List Value,Vals xs its/\IsTup h a its.toArray
 | .dK kvs=>kvs.length<=sizeLine/\(a == sysModules)=false/\∃ vs,KV kvs vs/\h.DictOf (aN P w) a vs
 | .dT kvs=>kvs.length<=sizeLine/\(a == sysModules)=false/\∃ xs:List (List Key×Addr×Value),
   Paired (fun (p:List Key×V) (q:List Key×Addr×Value)=>p.1=q.1/\H q.2.1=some (.tup (p.1.map kV))/\RelV p.2 q.2.2) kvs xs/\
   ∃ o es ep,h.get? a=some o/\o.ExactDict/\o.data=.dict es ep/\es.toList=xs.map (entryOfKey (tupleKind (aN P w)))/\(xs.map (·.1)).Nodup
 | .set S n=>h.SetOf (intKind P w) a S n
 | .ins C dx fs=>H dx=some (.own a)/\fs.length<=1000/\dx≠a/\h.get? a=some (PySem.W.instObj C dx)/\
   ∃ mA,h.Ns1 dx mA/\(∀ f,eN (fs.lookup f) (mA f))/\PySem.Within mA (fs.map (·.1))
 | .own _=>∃ o,h.get? a=some o
 | .xd fs=>∃ mA,h.Ns1 a mA/\∀ f,eN (fs.lookup f) (mA f)
 | .EI lo hi=>∃ t u v,h.get? a=some {cls:=.type "range",data:=.fields #[.int lo t,.int hi u,.int 1 v]}
 | .Bb o u=>h.get? a=some o/\aM H h a u
 | .F6 ps=>h.get? a=some {cls:=.none,data:=.fields ps}
 | .met f x=>h.get? a=some (PySem.W.methodObj (.ref f) (.ref x))
 | .ext φ=>φ h/\(∃ o,h.get? a=some o)/\∀ h1 h2:Heap,φ h1->(∀ o,h1.get? a=some o->h2.get? a=some o)->φ h2
def Bw (H:Hp)(h:Heap):Prop:=∀ a o,H a=some o->aM P w H h a o
end
section
variable {P:Program}{w:World}{H H':Hp}{h h':Heap}{a:Addr}{o:HO}
theorem aM.lt (x:aM P w H h a o):a < h.objs.size:=by
 cases o with
 | lst xs=>obtain⟨_,_,_,_,e⟩:=x;exact Heap.lt_size e
 | tup xs=>obtain⟨_,_,_,p⟩:=x;exact p.lt
 | dK kvs=>obtain⟨_,_,_,_,o,_,_,e,_⟩:=x;exact Heap.lt_size e
 | dT kvs=>obtain⟨_,_,_,_,o,_,_,e,_⟩:=x;exact Heap.lt_size e
 | set S n=>obtain⟨o,_,_,_,e,_⟩:=x;exact Heap.lt_size e
 | ins C dx fs=>obtain⟨_,_,_,e,_⟩:=x;exact Heap.lt_size e
 | own y=>obtain⟨_,e⟩:=x;exact Heap.lt_size e
 | xd fs=>obtain⟨_,⟨_,_,_,e,_⟩,_⟩:=x;exact Heap.lt_size e
 | EI lo hi=>obtain⟨_,_,_,e⟩:=x;exact Heap.lt_size e
 | Bb ob u=>obtain⟨e,_⟩:=x;exact Heap.lt_size e
 | F6 ps=>exact Heap.lt_size (show h.get? a=some _ from x)
 | met f y=>exact Heap.lt_size (show h.get? a=some _ from x)
 | ext φ=>obtain⟨_,⟨_,e⟩,_⟩:=x;exact Heap.lt_size e
theorem Paired.GC {α β:Type}{F G:α->β->Prop}:∀ {l₁:List α}{l₂:List β},Paired F l₁ l₂->(∀ a b,F a b->G a b)->Paired G l₁ l₂
 | _,_,.nil,_=>.nil
 | _,_,.cons r t,f=>.cons (f _ _ r) (Paired.GC t f)
theorem aM.CD (x:aM P w H h a o)(k:∀ b u,(b=a∨H b=some (.own a))->h.get? b=some u->h'.get? b=some u)
  (ho:∀ b,H b=some (.own a)->H' b=some (.own a)) (ht:∀ b xs,H b=some (.tup xs)->H' b=some (.tup xs)):aM P w H' h' a o:=by
 induction o with
 | lst xs=>obtain⟨z,its,n,r,e⟩:=x;exact⟨z,its,n,r,k _ _ (.inl rfl) e⟩
 | tup xs=>obtain⟨z,its,r,ob,e,c⟩:=x;exact⟨z,its,r,ob,k _ _ (.inl rfl) e,c⟩
 | dK kvs=>obtain⟨z,y,vs,r,ob,es,ep,e,c⟩:=x;exact⟨z,y,vs,r,ob,es,ep,k _ _ (.inl rfl) e,c⟩
 | dT kvs=>
  obtain⟨z,y,xs,r,ob,es,ep,e,c⟩:=x
  exact⟨z,y,xs,Paired.GC r fun p q z=>⟨z.1,ht _ _ z.2.1,z.2.2⟩,ob,es,ep,k _ _ (.inl rfl) e,c⟩
 | set S n=>obtain⟨ob,es,ep,t,e,c⟩:=x;exact⟨ob,es,ep,t,k _ _ (.inl rfl) e,c⟩
 | ins C dx fs=>
  obtain⟨d,z,ne,e,mA,⟨od,es,ep,e2,c⟩,r⟩:=x
  exact⟨ho _ d,z,ne,k _ _ (.inl rfl) e,mA,⟨od,es,ep,k _ _ (.inr d) e2,c⟩,r⟩
 | own y=>obtain⟨ob,e⟩:=x;exact⟨ob,k _ _ (.inl rfl) e⟩
 | xd fs=>obtain⟨mA,⟨od,es,ep,e,c⟩,r⟩:=x;exact⟨mA,⟨od,es,ep,k _ _ (.inl rfl) e,c⟩,r⟩
 | EI lo hi=>obtain⟨t,u,v,e⟩:=x;exact⟨t,u,v,k _ _ (.inl rfl) e⟩
 | Bb ob u ih=>obtain⟨e,q⟩:=x;exact⟨k _ _ (.inl rfl) e,ih q⟩
 | F6 ps=>
  have e:h.get? a=some {cls:=.none,data:=.fields ps}:=x
  show h'.get? a=some {cls:=.none,data:=.fields ps}
  exact k a _ (.inl rfl) e
 | met f y=>
  have e:h.get? a=some (PySem.W.methodObj (.ref f) (.ref y)):=x
  show h'.get? a=some (PySem.W.methodObj (.ref f) (.ref y))
  exact k a _ (.inl rfl) e
 | ext φ=>obtain⟨p,⟨o,e⟩,st⟩:=x;exact⟨st _ _ p fun o q=>k _ _ (.inl rfl) q,⟨o,k _ _ (.inl rfl) e⟩,st⟩
theorem Bw.lt (x:Bw P w H h)(e:H a=some o):a < h.objs.size:=(x a o e).lt
theorem Bw.fresh (x:Bw P w H h)(e:h.objs.size<=a):H a=none:=by
 cases q:H a with
 | none=>rfl
 | some u=>exact absurd (Nat.lt_of_lt_of_le (x.lt q) e) (Nat.lt_irrefl _)
theorem Bw.kept (x:Bw P w H h)(k:∀ b u,h.get? b=some u->h'.get? b=some u):Bw P w H h':=fun a o e=>
 (x a o e).CD (fun b u _ q=>k b u q) (fun _ q=>q) fun _ _ q=>q
theorem Bw.laid (x:Bw P w H h)(k:∀ b u,h.get? b=some u->h'.get? b=some u)(hp:h.objs.size<=a)(new:aM P w (upd H a o) h' a o):Bw P w (upd H a o) h':=fun b u e=>by
 have hn:=x.fresh hp
 by_cases hb:b=a
 ·subst hb;rw[aw] at e;cases e;exact new
 ·rw[ak hb] at e
  exact(x b u e).CD (fun c v _ q=>k c v q) (fun c q=>by rw[ak (aC q hn)];exact q) fun c xs q=>by rw[ak (aC q hn)];exact q
end
def Rd (H:Hp)(a:Addr)(u:HO):Prop:=H a=some u∨∃ o,H a=some (.Bb o u)
theorem Rd.ok {P:Program}{w:World}{H:Hp}{h:Heap}{a:Addr}{u:HO}(r:Rd H a u)(x:Bw P w H h):aM P w H h a u:=by
 rcases r with r|⟨o,r⟩
 ·exact x a u r
 ·obtain⟨_,q⟩:=x a _ r
  exact q
noncomputable def IJ:Option HO->Prop
 | some (.lst _)=>True
 | some (.dK _)=>True
 | some (.dT _)=>True
 | some (.set _ _)=>True
 | some (.ins _ _ _)=>True
 | some (.ext _)=>True
 | _=>False
section
variable {P:Program}{w:World}{H:Hp}{h h':Heap}{x e:Addr}{o':HO}
theorem Bw.write (ok:Bw P w H h)(mu:IJ (H x))(he:e=x∨H e=some (.own x))(k:∀ b u,b≠e->h.get? b=some u->h'.get? b=some u)(HW:∃ u,h'.get? e=some u)
  (new:aM P w (upd H x o') h' x o'):Bw P w (upd H x o') h':=fun b u q=>by
 have qw:∀ c y,H c=some (.own y)->c≠x:=fun c y r z=>by subst z;rw[r] at mu;exact mu
 have KO:∀ c xs,H c=some (.tup xs)->c≠x:=fun c xs r z=>by subst z;rw[r] at mu;exact mu
 by_cases hb:b=x
 ·subst hb;rw[aw] at q;cases q;exact new
 ·rw[ak hb] at q
  by_cases GD:b=e
  ·have q':H b=some (.own x):=by
    rcases he with z|z
    ·exact absurd (GD.trans z) hb
    ·rw[GD];exact z
   rw[q] at q';cases q'
   obtain⟨v,hv⟩:=HW
   exact⟨v,by rw[GD];exact hv⟩
  ·refine(ok b u q).CD (fun c v hc r=>k c v ?_ r) (fun c r=>by rw[ak (qw c b r)];exact r) fun c xs r=>by rw[ak (KO c xs r)];exact r
   rcases hc with rfl|hc
   ·exact GD
   ·rintro rfl
    rcases he with z|z
    ·exact qw c b hc z
    ·rw[hc] at z;cases z;exact hb rfl
end
structure Un (fs ex:List Addr)(H H':Hp)(h h':Heap):Prop where
 keep:∀ b o,h.get? b=some o->H b=none->b∉fs->b∉ex->h'.get? b=some o
 slot:∀ b o,h.get? b=some o->H b=none->b∈fs->b∉ex->∃ sl,h'.get? b=some {o with slots:=sl}
 free:∀ b o,h.get? b=some o->H b=none->b∉ex->H' b=none
 there:∀ b o,h.get? b=some o->b∉ex->∃ o',h'.get? b=some o'
 Ck:∀ b xs,H b=some (.tup xs)->H' b=some (.tup xs)
 BY:∀ b o u,H b=some (.Bb o u)->H' b=some (.Bb o u)
 Dd:∀ b ps,H b=some (.F6 ps)->∃ more,H' b=some (.F6 (ps++more))
section
variable {fs Ro ex My:List Addr}{H H1 H2:Hp}{h h1 h2 h':Heap}{a x e:Addr}{o:HO}
theorem Un.any (u:Un fs ex H H1 h h1){b:Addr}{ob:Obj}(q:h.get? b=some ob)(n:H b=none)(hx:b∉ex):∃ sl,h1.get? b=some {ob with slots:=sl}:=by
 by_cases hb:b∈fs
 ·exact u.slot b ob q n hb hx
 ·exact⟨ob.slots,u.keep b ob q n hb hx⟩
theorem Un.kept (k:∀ b u,h.get? b=some u->h'.get? b=some u):Un fs ex H H h h':=
 ⟨fun b ob q _ _ _=>k b ob q,fun b ob q _ _ _=>⟨ob.slots,k b ob q⟩,fun _ _ _ n _=>n,fun b ob q _=>⟨ob,k b ob q⟩,fun _ _ q=>q,fun _ _ _ q=>q,fun _ ps q=>⟨#[],by rw[q];simp⟩⟩
theorem Un.refl:Un fs ex H H h h:=Un.kept fun _ _ q=>q
theorem Un.laid (k:∀ b u,h.get? b=some u->h'.get? b=some u)(hp:h.objs.size<=a)(hn:H a=none):Un fs ex H (upd H a o) h h' where
 keep:=fun b u q _ _ _=>k b u q
 slot:=fun b u q _ _ _=>⟨u.slots,k b u q⟩
 free:=fun b u q n _=>by rw[ak (Nat.ne_of_lt (Nat.lt_of_lt_of_le (Heap.lt_size q) hp))];exact n
 there:=fun b u q _=>⟨u,k b u q⟩
 Ck:=fun b xs q=>by rw[ak (aC q hn)];exact q
 BY:=fun b u xs q=>by rw[ak (aC q hn)];exact q
 Dd:=fun b ps q=>⟨#[],by rw[ak (aC q hn),q];simp⟩
theorem Un.write (mu:IJ (H x))(he:e=x∨H e=some (.own x))(k:∀ b u,b≠e->h.get? b=some u->h'.get? b=some u)(HW:∃ u,h'.get? e=some u):Un fs ex H (upd H x o) h h':=by
 have hx:∀ b,H b=none->b≠x:=fun b n z=>by subst z;rw[n] at mu;exact mu
 have hb:∀ b,H b=none->b≠e:=fun b n z=>by
  subst z
  rcases he with r|r
  ·exact hx b n r
  ·rw[n] at r;cases r
 have hm:∀ b u,H b=some u->¬ IJ (some u)->b≠x:=fun b u q nm z=>by subst z;rw[q] at mu;exact nm mu
 refine⟨fun b u q n _ _=>k b u (hb b n) q,fun b u q n _ _=>⟨u.slots,k b u (hb b n) q⟩,fun b u q n _=>by rw[ak (hx b n)];exact n,fun b u q _=>?_,
  fun b xs q=>by rw[ak (hm b _ q fun z=>z)];exact q,fun b u xs q=>by rw[ak (hm b _ q fun z=>z)];exact q,fun b ps q=>⟨#[],by rw[ak (hm b _ q fun z=>z),q];simp⟩⟩
 by_cases GD:b=e
 ·subst GD;exact HW
 ·exact⟨u,k b u GD q⟩
end
noncomputable def GF (h:Heap)(H:Hp):List Addr:=(List.range h.objs.size).filter fun a=>(H a).isSome
noncomputable def fP (h:Heap)(H:Hp):Heap:=PySem.W.hideAll h (GF h H)
theorem kK (h:Heap)(H:Hp):(fP h H).objs.size=h.objs.size:=PySem.W.hideAll_size _ _
theorem lG {h:Heap}{H:Hp}{b:Addr}{o:Obj}(e:h.get? b=some o)(n:H b=none):(fP h H).get? b=some o:=
 PySem.W.hideAll_get _ e fun hm=>by
  have q:(H b).isSome=true:=(List.mem_filter.mp hm).2
  rw[n] at q;simp at q
theorem pS {h:Heap}{H:Hp}{b:Addr}{o:Obj}(e:(fP h H).get? b=some o):h.get? b=some o/\H b=none:=by
 have e':h.get? b=some o:=PySem.W.of_hideAll (GF h H) e
 refine⟨e',?_⟩
 cases q:H b with
 | none=>rfl
 | some x=>
  have hm:b∈GF h H:=List.mem_filter.mpr ⟨List.mem_range.mpr (Heap.lt_size e'),by simp[q]⟩
  have z:(fP h H).get? b=none:=PySem.W.hideAll_none (GF h H) hm
  rw[z] at e;cases e
structure Mod (K:PySem.W.Frag)(mg:Str->Option Value)(base:Heap):Prop where
 HX:K.In base
 glob:base.Ns mainGlobals mg
 blt:∃ mb,base.Ns builtinsNs mb/\∀ x:Str,x≠"__name__"->mb x=bootBuiltins x
 nolimit:base.NoLimit
structure Cx where
 prog:Program
 w:World
 K:PySem.W.Frag
 mg:Str->Option Value
 base:Heap
 A:Around
 N:List Str
 BA:Shared
 De:Hp
 env:Env
 outer:List Env
 stack:List Env
 ex:List Addr
 fn:Str->Bool
 calm:Bool
 pn:List (Addr×Obj)
 xe:Value->Shared->Prop
noncomputable def BZ (l:List Env):List Addr:=l.filterMap (·.frame)
noncomputable abbrev Cx.fs (X:Cx):List Addr:=BZ X.outer
def IK (sc:Scope)(x:Str):Prop:=sc.names.lookup x=some .local∨sc.names.lookup x=some .cell∨sc.names.lookup x=some .free
def Loc (sc:Scope)(x:Str):Prop:=sc.names.lookup x=some .local∨sc.names.lookup x=some .cell
def Look (env:Env)(h:Heap)(m:Str->Option Value)(x:Str)(u:Value):Prop:=
 (env.kindOf x=some .local/\m x=some u)∨((env.kindOf x=some .cell∨env.kindOf x=some .free)/\∃ c,env.cells.lookup x=some c/\h.IsCell c (some u))
structure Cx.Ok (X:Cx):Prop where
 mod:Mod X.K X.mg X.base
 kind:X.env.scope.kind=.function
 glob:X.env.globals=mainGlobals
 blt:X.env.builtins=builtinsNs
 above:X.BA.heap.objs.size<=X.env.locals
 inj:∀ x y c,X.env.cells.lookup x=some c->X.env.cells.lookup y=some c->x=y
 has:∀ x,(X.env.kindOf x=some .cell∨X.env.kindOf x=some .free)->∃ c,X.env.cells.lookup x=some c
 J1:∀ x c,X.fn x=true->X.env.cells.lookup x=some c->X.BA.heap.objs.size<=c
 hd:X.calm=true->X.A.handled=none
 frames:X.A.frames=some X.stack
 A5:X.stack=X.outer∨(X.stack=X.env::X.outer/\X.env.frame=some X.env.locals)
 KP:∀ b∈X.ex,b≠X.env.locals/\∀ x c,X.env.cells.lookup x=some c->c≠b
 bs:∀ b o,X.base.get? b=some o->X.BA.heap.get? b=some o/\X.De b=none
 Fh:X.base.objs.size<=X.BA.heap.objs.size
 Ft:∀ b o,X.base.get? b=some o->b∉X.ex
 Fu:∀ b∈X.ex,b∉X.fs
 Ce:X.BA.heap.FunFrames X.base X.outer
 D9:∀ b∈X.fs,X.De b=none
structure Inv (X:Cx)(pins:List (Addr×Obj))(σ:List (Option V))(H:Hp)(s:Shared):Prop where
 ok:X.Ok
 os:s.os=X.BA.os
 bare:AllBare s.gens
 base:Un X.fs X.ex X.De H X.BA.heap s.heap
 loc:∃ m,s.heap.Ns X.env.locals m/\∀ (i:Nat) (x:Str) (v:V),X.N[i]? = some x->σ[i]? = some (some v)->IK X.env.scope x->∃ u,RelV v u/\Look X.env s.heap m x u
 cell:∀ x c,X.env.cells.lookup x=some c->∃ v,s.heap.IsCell c v
 free:H X.env.locals=none
 Cm:∀ x c,X.env.cells.lookup x=some c->H c=none
 pin:∀ p∈X.pn++pins,s.heap.get? p.1=some p.2/\H p.1=none/\p.1≠X.env.locals/\p.1∉X.fs/\∀ v,p.2.data≠.cell v
 Be:Bw X.prog X.w H s.heap
 len:σ.length=X.N.length
section
variable {X:Cx}{pins:List (Addr×Obj)}{σ:List (Option V)}{H H':Hp}{s:Shared}{h':Heap}
theorem Cx.Ok.KQ (ok:X.Ok){b:Addr}{o:Obj}(e:X.base.get? b=some o):b∉X.fs:=fun hb=>by
 have:=(ok.Ce.mem hb).1
 rw[e] at this;cases this
theorem Inv.bs (I:Inv X pins σ H s):∀ b o,X.base.get? b=some o->s.heap.get? b=some o/\H b=none:=fun b o e=>
 ⟨I.base.keep b o (I.ok.bs b o e).1 (I.ok.bs b o e).2 (I.ok.KQ e) (I.ok.Ft b o e),I.base.free b o (I.ok.bs b o e).1 (I.ok.bs b o e).2 (I.ok.Ft b o e)⟩
theorem Inv.bk (I:Inv X pins σ H s):∀ b o,X.base.get? b=some o->s.heap.get? b=some o:=fun b o e=>(I.bs b o e).1
theorem Inv.mod (I:Inv X pins σ H s):Mod X.K X.mg X.base:=I.ok.mod
theorem Inv.Df (I:Inv X pins σ H s):X.K.In s.heap:=I.ok.mod.HX.keeps I.bk
theorem Inv.lt (I:Inv X pins σ H s):X.env.locals < s.heap.objs.size:=let ⟨_,hn,_⟩:=I.loc;hn.lt
theorem Inv.sz (I:Inv X pins σ H s):X.BA.heap.objs.size<=s.heap.objs.size:=Nat.le_trans I.ok.above (Nat.le_of_lt I.lt)
theorem Inv.KR (I:Inv X pins σ H s){a:Addr}(h:s.heap.objs.size<=a):a∉X.fs:=fun hb=>by
 obtain⟨_,o,ho,_⟩:=I.ok.Ce.mem hb
 exact absurd (Nat.lt_of_lt_of_le (Heap.lt_size ho) (Nat.le_trans I.sz h)) (Nat.lt_irrefl _)
theorem Inv.GG (I:Inv X pins σ H s):∀ x c,X.env.cells.lookup x=some c->c≠X.env.locals:=fun x c e z=>by
 obtain⟨v,o,ho,hd⟩:=I.cell x c e
 obtain⟨m,⟨o',es,ep,C3,N',_⟩,_⟩:=I.loc
 rw[z,C3] at ho;cases ho;rw[N'] at hd;cases hd
theorem Inv.Ce (I:Inv X pins σ H s):s.heap.FunFrames X.base X.outer:=by
 have all:∀ (l:List Env),(∀ b∈BZ l,b∈X.fs)->X.BA.heap.FunFrames X.base l->s.heap.FunFrames X.base l:=by
  intro l
  induction l with
  | nil=>intro _ _;trivial
  | cons env r ih=>
   intro hs hl
   obtain⟨hk,⟨L,o,hf,hn,ho,hd⟩,hr⟩:=hl
   have hL:L∈X.fs:=hs L (by unfold BZ;rw[List.filterMap_cons,hf];exact List.mem_cons_self)
   obtain⟨sl,e⟩:=I.base.slot L o ho (I.ok.D9 L hL) hL fun z=>I.ok.Fu L z hL
   exact⟨hk,⟨L,_,hf,hn,e,hd⟩,ih (fun b hb=>hs b (by unfold BZ;rw[List.filterMap_cons,hf];exact List.mem_cons_of_mem _ hb)) hr⟩
 exact all X.outer (fun _ hb=>hb) I.ok.Ce
theorem Inv.stack (I:Inv X pins σ H s):s.heap.FunFrames X.base X.stack:=by
 rcases I.ok.A5 with e|⟨e,hf⟩
 ·rw[e];exact I.Ce
 ·rw[e]
  obtain⟨m,hn,_⟩:=I.loc
  refine .cons (by rw[I.ok.kind];decide) hf hn ?_ I.Ce
  exact Heap.get?_none_of_le (Nat.le_trans I.ok.Fh I.ok.above)
theorem Inv.DT (I:Inv X pins σ H s):∀ b∈BZ X.stack,b∈X.env.locals::X.fs:=fun b hb=>by
 rcases I.ok.A5 with e|⟨e,hf⟩
 ·rw[e] at hb;exact List.mem_cons_of_mem _ hb
 ·rw[e] at hb
  unfold BZ at hb
  rw[List.filterMap_cons,hf] at hb
  exact hb
theorem Inv.Dg (I:Inv X pins σ H s):∀ b∈BZ X.stack,H b=none:=fun b hb=>by
 rcases List.mem_cons.mp (I.DT b hb) with e|hb
 ·rw[e];exact I.free
 ·obtain⟨_,o,ho,_⟩:=I.ok.Ce.mem hb
  exact I.base.free b o ho (I.ok.D9 b hb) fun z=>I.ok.Fu b z hb
theorem Inv.step {g':Array GenState}{t':Nat}{d':Drawn}{ch:List Addr}(I:Inv X pins σ H s)
  (EJ:∀ b∈ch,(b∈X.ex∨X.BA.heap.objs.size<=b)/\b≠X.env.locals/\(∀ x c,X.env.cells.lookup x=some c->c≠b)/\∀ p∈X.pn++pins,p.1≠b)
  (keep:∀ b o,b≠X.env.locals->b∉X.fs->b∉ch->s.heap.get? b=some o->H b=none->h'.get? b=some o)
  (slot:∀ b o,b≠X.env.locals->b∈X.fs->b∉ch->s.heap.get? b=some o->H b=none->∃ sl,h'.get? b=some {o with slots:=sl}) (free:∀ b o,b∉ch->s.heap.get? b=some o->H b=none->H' b=none)
  (there:∀ b o,b∉ch->s.heap.get? b=some o->∃ o',h'.get? b=some o')
  (Ck:∀ b xs,H b=some (.tup xs)->H' b=some (.tup xs)) (BY:∀ b o u,H b=some (.Bb o u)->H' b=some (.Bb o u)) (Dd:∀ b ps,H b=some (.F6 ps)->∃ more,H' b=some (.F6 (ps++more)))
  (ns:∀ m,s.heap.Ns X.env.locals m->h'.Ns X.env.locals m) (Be:Bw X.prog X.w H' h') (hg:AllBare g') :
  Inv X pins σ H' {s with heap:=h',gens:=g',drawn:=d',toks:=t'}:=by
 have Mz:∀ b o,X.BA.heap.get? b=some o->b≠X.env.locals:=fun b o e=>Nat.ne_of_lt (Nat.lt_of_lt_of_le (Heap.lt_size e) I.ok.above)
 have J2:∀ b o,X.BA.heap.get? b=some o->b∉X.ex->b∉ch:=fun b o e hx hb=>by
  rcases (EJ b hb).1 with z|z
  ·exact hx z
  ·exact absurd (Nat.lt_of_lt_of_le (Heap.lt_size e) z) (Nat.lt_irrefl _)
 have cellK:∀ x c,X.env.cells.lookup x=some c->∀ v,s.heap.IsCell c v->h'.IsCell c v:=fun x c e v ⟨o,ho,hd⟩=>by
  have IL:c∉ch:=fun z=>(EJ c z).2.2.1 x c e rfl
  by_cases hc:c∈X.fs
  ·obtain⟨sl,q⟩:=slot c o (I.GG x c e) hc IL ho (I.Cm x c e)
   exact⟨_,q,hd⟩
  ·exact⟨o,keep c o (I.GG x c e) hc IL ho (I.Cm x c e),hd⟩
 refine⟨I.ok,I.os,hg,⟨fun b o e n hb hx=>?_,fun b o e n hb hx=>?_,fun b o e n hx=>?_,fun b o e hx=>?_,fun b xs e=>Ck b xs (I.base.Ck b xs e),fun b o xs e=>BY b o xs (I.base.BY b o xs e),fun b ps e=>?_⟩,?_,fun x c e=>?_,?_,fun x c e=>?_,fun p hp=>?_,Be,I.len⟩
 ·exact keep b o (Mz b o e) hb (J2 b o e hx) (I.base.keep b o e n hb hx) (I.base.free b o e n hx)
 ·obtain⟨sl,e1⟩:=I.base.slot b o e n hb hx
  obtain⟨IM,e2⟩:=slot b _ (Mz b o e) hb (J2 b o e hx) e1 (I.base.free b o e n hx)
  exact⟨IM,e2⟩
 ·obtain⟨o',e1⟩:=I.base.there b o e hx
  exact free b o' (J2 b o e hx) e1 (I.base.free b o e n hx)
 ·obtain⟨o',e1⟩:=I.base.there b o e hx
  exact there b o' (J2 b o e hx) e1
 ·obtain⟨m1,e1⟩:=I.base.Dd b ps e
  obtain⟨m2,e2⟩:=Dd b _ e1
  exact⟨m1++m2,by rw[e2,Array.append_assoc]⟩
 ·obtain⟨m,hn,hl⟩:=I.loc
  refine⟨m,ns m hn,fun i x v e1 e2 e3=>?_⟩
  obtain⟨u,r,l⟩:=hl i x v e1 e2 e3
  refine⟨u,r,?_⟩
  rcases l with l|⟨k,c,e,z⟩
  ·exact .inl l
  ·exact .inr ⟨k,c,e,cellK x c e _ z⟩
 ·obtain⟨v,z⟩:=I.cell x c e
  exact⟨v,cellK x c e v z⟩
 ·obtain⟨m,⟨o,_,_,ho,_⟩,_⟩:=I.loc
  exact free _ o (fun z=>(EJ _ z).2.1 rfl) ho I.free
 ·obtain⟨v,o,ho,hd⟩:=I.cell x c e
  exact free c o (fun z=>(EJ c z).2.2.1 x c e rfl) ho (I.Cm x c e)
 ·obtain⟨e,n,ne,nf,d⟩:=I.pin p hp
  have IL:p.1∉ch:=fun z=>(EJ p.1 z).2.2.2 p hp rfl
  exact⟨keep p.1 p.2 ne nf IL e n,free p.1 p.2 IL e n,ne,nf,d⟩
theorem Inv.un {t':Nat}(I:Inv X pins σ H s)(u:Un X.fs [] H H' s.heap h')(Be:Bw X.prog X.w H' h'):Inv X pins σ H' {s with heap:=h',toks:=t'}:=by
 obtain⟨m,⟨o,es,ep,ho,r⟩,_⟩:=id I.loc
 obtain⟨sl,hL⟩:=u.any ho I.free (by simp)
 exact I.step (g':=s.gens) (d':=s.drawn) (ch:=[]) (fun _ z=>nomatch z) (fun b o _ hb _ e n=>u.keep b o e n hb (by simp)) (fun b o _ hb _ e n=>u.slot b o e n hb (by simp)) (fun b o _ e n=>u.free b o e n (by simp)) (fun b o _ e=>u.there b o e (by simp)) u.Ck u.BY u.Dd (fun m' hm=>by
  obtain⟨o',C4,KS,C3,r'⟩:=hm
  rw[ho] at C3;cases C3
  exact⟨_,C4,KS,hL,r'⟩) Be I.bare
theorem Inv.call {g':Array GenState}{t':Nat}{d':Drawn}{ch:List Addr}(I:Inv X pins σ H s)(u:Un (BZ X.stack) ch H H' s.heap h')(Be:Bw X.prog X.w H' h')(hg:AllBare g')
  (EJ:∀ b∈ch,(b∈X.ex∨X.BA.heap.objs.size<=b)/\b≠X.env.locals/\(∀ x c,X.env.cells.lookup x=some c->c≠b)/\∀ p∈X.pn++pins,p.1≠b) :
  Inv X pins σ H' {s with heap:=h',gens:=g',drawn:=d',toks:=t'}:=by
 obtain⟨m,⟨o,es,ep,ho,r⟩,_⟩:=id I.loc
 obtain⟨sl,hL⟩:=u.any ho I.free fun z=>(EJ _ z).2.1 rfl
 exact I.step (ch:=ch) EJ (fun b o hL hb hc e n=>u.keep b o e n (fun z=>(List.mem_cons.mp (I.DT b z)).elim hL hb) hc) (fun b o _ _ hc e n=>u.any e n hc) (fun b o hc e n=>u.free b o e n hc) (fun b o hc e=>u.there b o e hc) u.Ck u.BY u.Dd (fun m' hm=>by
  obtain⟨o',C4,KS,C3,r'⟩:=hm
  rw[ho] at C3;cases C3
  exact⟨_,C4,KS,hL,r'⟩) Be hg
theorem Inv.turned {t':Nat}{it:Addr}(I:Inv X pins σ H s)(k:∀ b o,b≠it->s.heap.get? b=some o->h'.get? b=some o)(hn:H it=none)(hL:it≠X.env.locals)
  (h1:it∈X.ex∨X.BA.heap.objs.size<=it) (h2:∀ x c,X.env.cells.lookup x=some c->c≠it) (h3:∀ p∈X.pn++pins,p.1≠it):Inv X pins σ H {s with heap:=h',toks:=t'}:=by
 have F7:∀ b u,H b=some u->b≠it:=fun b u e z=>by rw[z,hn] at e;cases e
 refine I.step (g':=s.gens) (d':=s.drawn) (ch:=[it]) (fun b hb=>?_) (fun b o _ _ hc e _=>k b o (fun z=>hc (by simp[z])) e) (fun b o _ _ hc e _=>⟨o.slots,k b o (fun z=>hc (by simp[z])) e⟩) (fun _ _ _ _ n=>n)
  (fun b o hc e=>⟨o,k b o (fun z=>hc (by simp[z])) e⟩) (fun _ _ e=>e) (fun _ _ _ e=>e) (fun b ps e=>⟨#[],by rw[e];simp⟩) (fun m hm=>?_) (fun b u e=>?_) I.bare
 ·have e:b=it:=by simpa using hb
  subst e
  exact⟨h1,hL,h2,h3⟩
 ·obtain⟨o,es,ep,ho,r⟩:=hm
  exact⟨o,es,ep,k _ o (Ne.symm hL) ho,r⟩
 ·refine(I.Be b u e).CD (fun c v hc q=>k c v ?_ q) (fun _ q=>q) fun _ _ q=>q
  rcases hc with z|z
  ·rw[z];exact F7 b u e
  ·exact F7 c _ z
theorem Inv.tok (I:Inv X pins σ H s)(t:Nat):Inv X pins σ H {s with toks:=t}:=I.un (h':=s.heap) (t':=t) Un.refl I.Be
theorem Inv.kept {t':Nat}(I:Inv X pins σ H s)(k:∀ b u,s.heap.get? b=some u->h'.get? b=some u):Inv X pins σ H {s with heap:=h',toks:=t'}:=I.un (Un.kept k) (I.Be.kept k)
theorem Inv.laid {a:Addr}{o:HO}{t':Nat}(I:Inv X pins σ H s)(k:∀ b u,s.heap.get? b=some u->h'.get? b=some u)(hp:s.heap.objs.size<=a)(new:aM X.prog X.w (upd H a o) h' a o) :
  Inv X pins σ (upd H a o) {s with heap:=h',toks:=t'}:=I.un (Un.laid k hp (I.Be.fresh hp)) (I.Be.laid k hp new)
theorem Inv.write {x e:Addr}{o:HO}{t':Nat}(I:Inv X pins σ H s)(mu:IJ (H x))(he:e=x∨H e=some (.own x))(k:∀ b u,b≠e->s.heap.get? b=some u->h'.get? b=some u)(HW:∃ u,h'.get? e=some u)
  (new:aM X.prog X.w (upd H x o) h' x o):Inv X pins σ (upd H x o) {s with heap:=h',toks:=t'}:=I.un (Un.write mu he k HW) (I.Be.write mu he k HW new)
theorem Inv.Ea {F8:List (Addr×Obj)}(I:Inv X pins σ H s)(h:∀ p∈F8,s.heap.get? p.1=some p.2/\H p.1=none/\p.1≠X.env.locals/\p.1∉X.fs/\∀ v,p.2.data≠.cell v):Inv X F8 σ H s:=
 ⟨I.ok,I.os,I.bare,I.base,I.loc,I.cell,I.free,I.Cm,fun p hp=>(List.mem_append.mp hp).elim (fun z=>I.pin p (List.mem_append_left _ z)) (h p),I.Be,I.len⟩
theorem gJ {N:List Str}(hN:N.Nodup){i j:Nat}{x:Str}(a:N[i]? = some x)(b:N[j]? = some x):i=j:=by
 obtain⟨h1,e1⟩:=List.getElem?_eq_some_iff.mp a
 obtain⟨h2,e2⟩:=List.getElem?_eq_some_iff.mp b
 exact(List.getElem_inj hN).mp (e1.trans e2.symm)
theorem eT {M:Model}{A:Around}{E:Value->Shared->Prop}{i:Nat}{x:Str}{v:V}{u:Value}{Q:Unit->Shared->Prop}(I:Inv X pins σ H s)(hN:X.N.Nodup)(hi:X.N[i]? = some x)(hx:Loc X.env.scope x)(r:RelV v u)
  (h:∀ s',Inv X pins (σ.set i (some v)) H s'->(∃ a,Heap.SameBut a s.heap s'.heap/\(a=X.env.locals∨X.env.cells.lookup x=some a))->Q () s') (hf:X.fn x=true∨X.env.scope.names.lookup x=some .local:=by first|exact .inl rfl|exact .inr rfl|assumption):wpAny M A (storeName X.env x u) Q E s:=by
 obtain⟨m,hn,hl⟩:=id I.loc
 have GH:(X.env.scope.kind == .class||(X.env.scope.kind == .module&&X.env.locals != X.env.globals))=false:=by rw[I.ok.kind];rfl
 have IP:i < σ.length:=by rw[I.len];exact(List.getElem?_eq_some_iff.mp hi).1
 have GG:=I.GG
 have tracked:∀ {a:Addr}{h':Heap},(∃ o,s.heap.get? a=some o/\H a=none)->Heap.SameBut a s.heap h'->Bw X.prog X.w H h':=fun {a h'} ha hs b ob e=>by
  obtain⟨_,_,Eb⟩:=ha
  refine(I.Be b ob e).CD (fun c w' hc q=>(hs.2 c ?_).trans q) (fun _ q=>q) fun _ _ q=>q
  rintro rfl
  rcases hc with rfl|hc
  ·rw[Eb] at e;cases e
  ·rw[Eb] at hc;cases hc
 rcases hx with hk|hk
 ·refine wpAny_storeName_local hk hn (fun h' DU hs=>?_) GH
  obtain⟨oL,_,_,Oa,_⟩:=id hn
  refine h _ ⟨I.ok,I.os,I.bare,⟨fun b o e n hb hx=>?_,fun b o e n hb hx=>?_,I.base.free,fun b o e hx=>?_,I.base.Ck,I.base.BY,I.base.Dd⟩,⟨_,DU,fun j y v' e1 e2 e3=>?_⟩,fun y c e=>?_,I.free,I.Cm,fun p hp=>?_,tracked ⟨oL,Oa,I.free⟩ hs,by simpa using I.len⟩ ⟨_,hs,.inl rfl⟩
  ·exact(hs.2 b (Nat.ne_of_lt (Nat.lt_of_lt_of_le (Heap.lt_size e) I.ok.above))).trans (I.base.keep b o e n hb hx)
  ·obtain⟨sl,e1⟩:=I.base.slot b o e n hb hx
   exact⟨sl,(hs.2 b (Nat.ne_of_lt (Nat.lt_of_lt_of_le (Heap.lt_size e) I.ok.above))).trans e1⟩
  ·obtain⟨o',e1⟩:=I.base.there b o e hx
   exact⟨o',(hs.2 b (Nat.ne_of_lt (Nat.lt_of_lt_of_le (Heap.lt_size e) I.ok.above))).trans e1⟩
  ·by_cases hj:j=i
   ·subst hj
    rw[hi] at e1;cases e1
    rw[List.getElem?_set_self IP] at e2
    cases e2
    exact⟨u,r,.inl ⟨hk,by simp⟩⟩
   ·rw[List.getElem?_set_ne (Ne.symm hj)] at e2
    obtain⟨u',r',q⟩:=hl j y v' e1 e2 e3
    refine⟨u',r',?_⟩
    rcases q with ⟨k,e⟩|⟨k,c,e,z⟩
    ·refine .inl ⟨k,?_⟩
     have:y≠x:=fun e=>hj (gJ hN e1 (e ▸ hi))
     simp[this,e]
    ·exact .inr ⟨k,c,e,z.sameBut hs (GG y c e)⟩
  ·obtain⟨w',z⟩:=I.cell y c e
   exact⟨w',z.sameBut hs (GG y c e)⟩
  ·obtain⟨e,n,ne,nf,d⟩:=I.pin p hp
   exact⟨(hs.2 p.1 ne).trans e,n,ne,nf,d⟩
 ·have GI:X.fn x=true:=by
   rcases hf with z|z
   ·exact z
   ·rw[z] at hk;cases hk
  obtain⟨c,hc⟩:=I.ok.has x (.inl hk)
  obtain⟨w',z⟩:=I.cell x c hc
  refine wpAny_storeName_cell I.ok.kind hk hc z (fun h' HY hs=>?_)
  obtain⟨oc,MA,KU⟩:=id z
  refine h {s with heap:=h'} ⟨I.ok,I.os,I.bare,⟨fun b o e n hb hx=>?_,fun b o e n hb hx=>?_,I.base.free,fun b o e hx=>?_,I.base.Ck,I.base.BY,I.base.Dd⟩,⟨m,hn.sameBut hs (Ne.symm (GG x c hc)),fun j y v' e1 e2 e3=>?_⟩,fun y c' e=>?_,I.free,I.Cm,fun p hp=>?_,tracked ⟨oc,MA,I.Cm x c hc⟩ hs,by simpa using I.len⟩ ⟨c,hs,.inr hc⟩
  ·exact(hs.2 b (Nat.ne_of_lt (Nat.lt_of_lt_of_le (Heap.lt_size e) (I.ok.J1 x c GI hc)))).trans (I.base.keep b o e n hb hx)
  ·obtain⟨sl,e1⟩:=I.base.slot b o e n hb hx
   exact⟨sl,(hs.2 b (Nat.ne_of_lt (Nat.lt_of_lt_of_le (Heap.lt_size e) (I.ok.J1 x c GI hc)))).trans e1⟩
  ·obtain⟨o',e1⟩:=I.base.there b o e hx
   exact⟨o',(hs.2 b (Nat.ne_of_lt (Nat.lt_of_lt_of_le (Heap.lt_size e) (I.ok.J1 x c GI hc)))).trans e1⟩
  ·by_cases hj:j=i
   ·subst hj
    rw[hi] at e1;cases e1
    rw[List.getElem?_set_self IP] at e2
    cases e2
    exact⟨u,r,.inr ⟨.inl hk,c,hc,HY⟩⟩
   ·rw[List.getElem?_set_ne (Ne.symm hj)] at e2
    obtain⟨u',r',q⟩:=hl j y v' e1 e2 e3
    refine⟨u',r',?_⟩
    rcases q with q|⟨k,c',e,z'⟩
    ·exact .inl q
    ·refine .inr ⟨k,c',e,z'.sameBut hs ?_⟩
     rintro rfl
     exact hj (gJ hN e1 (I.ok.inj _ _ _ e hc ▸ hi))
  ·by_cases MB:c'=c
   ·subst MB;exact⟨_,HY⟩
   ·obtain⟨w2,z2⟩:=I.cell y c' e
    exact⟨w2,z2.sameBut hs MB⟩
  ·obtain⟨e,n,ne,nf,d⟩:=I.pin p hp
   refine⟨(hs.2 p.1 ?_).trans e,n,ne,nf,d⟩
   intro q
   rw[q,MA] at e
   have q':oc=p.2:=Option.some.inj e
   exact d w' (by rw[<- q'];exact KU)
theorem gK {M:Model}{A:Around}{E:Value->Shared->Prop}{i:Nat}{x:Str}{v:V}{u:Value}{Q:Unit->Shared->Prop}(I:Inv X pins σ H s)(hN:X.N.Nodup)(hi:X.N[i]? = some x)(hx:Loc X.env.scope x)(r:RelV v u)
  (h:∀ s',Inv X pins (σ.set i (some v)) H s'->Q () s') (hf:X.fn x=true∨X.env.scope.names.lookup x=some .local:=by first|exact .inl rfl|exact .inr rfl|assumption):wpAny M A (storeName X.env x u) Q E s:=
 eT I hN hi hx r (fun s' I' _=>h s' I') hf
theorem Inv.F9 {s':Shared}{ch:List Addr}(I:Inv X pins σ H s)(ho:s'.os=s.os)(u:Un (BZ X.stack) ch H H' s.heap s'.heap)(Be:Bw X.prog X.w H' s'.heap)(hg:AllBare s'.gens)
  (EJ:∀ b∈ch,(b∈X.ex∨X.BA.heap.objs.size<=b)/\b≠X.env.locals/\(∀ x c,X.env.cells.lookup x=some c->c≠b)/\∀ p∈X.pn++pins,p.1≠b):Inv X pins σ H' s':=by
 obtain⟨h',g',d',t',o'⟩:=s'
 have e:o'=s.os:=ho
 subst e
 exact I.call (g':=g') (t':=t') (d':=d') u Be hg EJ
end
noncomputable abbrev XK:=Value->Option Addr->Hp->Prop
noncomputable abbrev St:=List (Option V)
noncomputable abbrev VK:=V->Hp->Prop
noncomputable abbrev TE:=St->Hp->VK->Prop
noncomputable abbrev TT:=St->Hp->(Bool->Hp->Prop)->Prop
noncomputable abbrev TA:=St->Hp->(List V->Hp->Prop)->Prop
structure Ends where
 nx:St->Hp->Prop
 rt:VK
 bk:St->Hp->Prop:=fun _ _=>False
 ct:St->Hp->Prop:=fun _ _=>False
noncomputable abbrev TS:=Ends->St->Hp->Prop
def EP (X:Cx)(pins:List (Addr×Obj))(σ:St)(Q:VK)(u:Value)(s':Shared):Prop:=∃ v H',Inv X pins σ H' s'/\RelV v u/\Q v H'
def TP (X:Cx)(pins:List (Addr×Obj))(σ:St)(Q:Bool->Hp->Prop)(b:Bool)(s':Shared):Prop:=∃ H',Inv X pins σ H' s'/\Q b H'
def AP (X:Cx)(pins:List (Addr×Obj))(σ:St)(Q:List V->Hp->Prop)(us:List Value)(s':Shared):Prop:=∃ vs H',Inv X pins σ H' s'/\Vals vs us/\Q vs H'
def SP (X:Cx)(pins:List (Addr×Obj))(D:Ends)(f:Flow)(s':Shared):Prop:=
 match f with
 | .next=>∃ Bc H',Inv X pins Bc H' s'/\D.nx Bc H'
 | .brk=>∃ Bc H',Inv X pins Bc H' s'/\D.bk Bc H'
 | .cont=>∃ Bc H',Inv X pins Bc H' s'/\D.ct Bc H'
 | .ret u=>∃ v Bc H',Inv X pins Bc H' s'/\RelV v u/\D.rt v H'
def PE (X:Cx)(e:Expr)(t:TE):Prop:=
 ∀ (pins:List (Addr×Obj)) (s:Shared) (σ:St) (H:Hp) (Q:VK),Inv X pins σ H s->t σ H Q->wpAny (model X.prog X.w) X.A (eval e X.env) (EP X pins σ Q) X.xe s
def PT (X:Cx)(e:Expr)(t:TT):Prop:=
 ∀ (pins:List (Addr×Obj)) (s:Shared) (σ:St) (H:Hp) (Q:Bool->Hp->Prop),Inv X pins σ H s->t σ H Q->wpAny (model X.prog X.w) X.A (isTrue e X.env (eval e X.env)) (TP X pins σ Q) X.xe s
def PW (X:Cx)(e:Expr)(t:TT):Prop:=
 ∀ (whole:Sem Value) (pins:List (Addr×Obj)) (s:Shared) (σ:St) (H:Hp) (Q:Bool->Hp->Prop),Inv X pins σ H s->t σ H Q->wpAny (model X.prog X.w) X.A (isTrue e X.env whole) (TP X pins σ Q) X.xe s
theorem PW.pt {X:Cx}{e:Expr}{t:TT}(h:PW X e t):PT X e t:=h _
def PA (X:Cx)(es:List Expr)(t:TA):Prop:=
 ∀ (pos:Pos) (pins:List (Addr×Obj)) (s:Shared) (σ:St) (H:Hp) (Q:List V->Hp->Prop),Inv X pins σ H s->t σ H Q->wpAny (model X.prog X.w) X.A (spliced (backTo pos (starEach es X.env))) (AP X pins σ Q) X.xe s
def PS (X:Cx)(st:Stmt)(t:TS):Prop:=
 ∀ (pins:List (Addr×Obj)) (s:Shared) (σ:St) (H:Hp) (D:Ends),Inv X pins σ H s->t D σ H->wpAny (model X.prog X.w) X.A (exec st X.env) (SP X pins D) X.xe s
def DD (X:Cx)(st:List Stmt)(t:TS):Prop:=
 ∀ (pins:List (Addr×Obj)) (s:Shared) (σ:St) (H:Hp) (D:Ends),Inv X pins σ H s->t D σ H->wpAny (model X.prog X.w) X.A (execs st X.env) (SP X pins D) X.xe s
theorem Bg {α:Type}{t:Sem α}{Q Q':α->Shared->Prop}{M:Model}{A:Around}{E:Value->Shared->Prop}{s:Shared}(h:wpAny M A t Q E s)(hQ:∀ a s,Q a s->Q' a s):wpAny M A t Q' E s:=wpAny_mono h hQ fun _ _ x=>x
section
variable {X:Cx}
def pT (i:Nat):TE:=fun σ H Q=>∃ v,σ[i]? = some (some v)/\Q v H
def tC (v:V):TE:=fun _ H Q=>Q v H
theorem lI {i:Nat}{x:Str}{pos:Pos}(hN:X.N[i]? = some x)(hv:IK X.env.scope x)(hd:(x == ("__debug__" : Str))=false:=by decide) (ES:(x == ("__classdict__" : Str))=false:=by decide):PE X (.Name x pos) (pT i):=by
 intro pins s σ H Q I h
 obtain⟨v,e,h⟩:=h
 obtain⟨m,hn,hl⟩:=I.loc
 obtain⟨u,r,l⟩:=hl i x v hN e hv
 have fin:EP X pins σ Q u s:=⟨v,H,I,r,h⟩
 rcases l with ⟨hk,hm⟩|⟨hk,c,hc,Ga⟩
 ·exact wpAny_Name (wpAny_loadName_local I.ok.kind hk hn hm fin) hd
 ·rcases hk with hk|hk
  ·exact wpAny_Name (wpAny_loadName_cell I.ok.kind hk hc Ga fin) hd
  ·exact wpAny_Name (wpAny_loadName_free I.ok.kind hk hc Ga fin ES) hd
theorem uF {i j pos}:PE X (.Constant (.int i) j pos) (tC (.int i)):=fun _ _ _ H _ I h=>wpAny_Constant_int ⟨.int i,H,I.tok _,⟨_,rfl⟩,h⟩
theorem wU {b j pos}:PE X (.Constant (.bool b) j pos) (tC (.bl b)):=fun _ _ _ H _ I h=>Constant_bool ⟨.bl b,H,I,rfl,h⟩
theorem uG {j pos}:PE X (.Constant .none j pos) (tC .A8):=fun _ _ _ H _ I h=>Constant_none ⟨.A8,H,I,rfl,h⟩
theorem uH {x j pos}:PE X (.Constant (.str x) j pos) (tC (.str x)):=fun _ _ _ H _ I h=>Calls.Constant_str ⟨.str x,H,I.tok _,⟨_,rfl⟩,h⟩
def Gl (X:Cx)(x:Str):Prop:=X.env.kindOf x=some .globalImplicit
theorem cM {E:Value->Shared->Prop}{pins:List (Addr×Obj)}{s:Shared}{σ:St}{H:Hp}{x:Str}{u:Value}{pos:Pos}{Q:Value->Shared->Prop}(I:Inv X pins σ H s)(hg:Gl X x)(hm:X.mg x=some u)(h:Q u s)
  (hd:(x == ("__debug__" : Str))=false:=by decide):wpAny (model X.prog X.w) X.A (eval (.Name x pos) X.env) Q E s:=
 Calls.Name_function_global I.ok.kind hg (Calls.loadGlobal_global (by rw[I.ok.glob];exact I.mod.glob.keeps I.bk) hm h) hd
theorem cE {E:Value->Shared->Prop}{pins:List (Addr×Obj)}{s:Shared}{σ:St}{H:Hp}{x:Str}{u:Value}{pos:Pos}{Q:Value->Shared->Prop}(I:Inv X pins σ H s)(hg:Gl X x)(hm:X.mg x=none)(hv:bootBuiltins x=some u)(h:Q u s)
  (hn:x≠"__name__":=by decide) (hd:(x == ("__debug__" : Str))=false:=by decide):wpAny (model X.prog X.w) X.A (eval (.Name x pos) X.env) Q E s:=by
 obtain⟨mb,h1,h2⟩:=I.mod.blt
 exact Calls.Name_function_global I.ok.kind hg (Calls.loadGlobal_builtin (by rw[I.ok.glob];exact I.mod.glob.keeps I.bk) hm (by rw[I.ok.blt];exact h1.keeps I.bk) ((h2 x hn).trans hv) h) hd
theorem pU {x:Str}{v:V}{u:Value}{pos:Pos}(hg:Gl X x)(hm:X.mg x=some u)(r:RelV v u)(hd:(x == ("__debug__" : Str))=false:=by decide):PE X (.Name x pos) (tC v):=
 fun _ _ _ H _ I h=>cM I hg hm ⟨v,H,I,r,h⟩ hd
theorem pV {x:Str}{v:V}{u:Value}{pos:Pos}(hg:Gl X x)(hm:X.mg x=none)(hv:bootBuiltins x=some u)(r:RelV v u)(hn:x≠"__name__":=by decide) (hd:(x == ("__debug__" : Str))=false:=by decide):PE X (.Name x pos) (tC v):=
 fun _ _ _ H _ I h=>cE I hg hm hv ⟨v,H,I,r,h⟩ hn hd
variable {a b:Expr}{ta tb:TE}{pos:Pos}
def PC (X:Cx)(op:CmpOp)(a b:Expr)(t:TE):Prop:=
 ∀ (pins:List (Addr×Obj)) (s:Shared) (σ:St) (H:Hp) (Q:VK),Inv X pins σ H s->t σ H Q->
  wpAny (model X.prog X.w) X.A (eval a X.env) (fun v Bf=>wpAny (model X.prog X.w) X.A (eval b X.env) (fun u DE=>wpAny (model X.prog X.w) X.A (compareOp op v u) (EP X pins σ Q) X.xe DE) X.xe Bf) X.xe s
def tB (t:TE):TT:=fun σ H Q=>t σ H fun x H1=>∃ c,x=.bl c/\Q c H1
theorem lJ {op:CmpOp}{t:TE}(h:PC X op a b t)(h1:behindInMarks op b=false:=by first|exact ET _ (by decide) (by decide)|rfl):PE X (.Compare a [op] [b] pos) t:=fun pins s σ H Q I hw=>wpAny_Compare1 (h pins s σ H Q I hw) h1
theorem lK {op:CmpOp}{t:TE}(h:PC X op a b t)(h1:behindInMarks op b=false:=by first|exact ET _ (by decide) (by decide)|rfl):PT X (.Compare a [op] [b] pos) (tB t):=by
 intro pins s σ H Q I hw
 refine wpAny_isTrue_Compare1 (Bg (h pins s σ H _ I hw) fun v s1 h1=>Bg h1 fun u s2 h2=>Bg h2 fun c s3 ⟨x,H1,I1,r1,q1⟩=>?_) h1
 obtain⟨d,rfl,q⟩:=q1
 cases r1
 exact wpAny_truthy_bool ⟨H1,I1,q⟩
variable {tA J3:TT}{rest:List Expr}
def wV (t u:TT):TT:=fun σ H Q=>t σ H fun c H1=>if c=true then u σ H1 Q else Q false H1
def Ob (t u:TT):TT:=fun σ H Q=>t σ H fun c H1=>if c=true then Q true H1 else u σ H1 Q
def Af (t:TT):TT:=fun σ H Q=>t σ H fun c H1=>Q (!c) H1
theorem pW (ha:PT X a tA):PW X (.BoolOp .And [a] pos) tA:=by
 intro wh pins s σ H Q I h
 refine isTrue_and (Bg (ha pins s σ H Q I h) fun c s1 e=>?_)
 cases c with
 | true=>exact isTrue_and_nil e
 | false=>exact e
theorem uI (ha:PT X a tA):PW X (.BoolOp .Or [a] pos) tA:=by
 intro wh pins s σ H Q I h
 refine isTrue_or (Bg (ha pins s σ H Q I h) fun c s1 e=>?_)
 cases c with
 | false=>exact isTrue_or_nil e
 | true=>exact e
theorem uJ (ha:PT X a tA)(hb:PW X (.BoolOp .And (b::rest) pos) J3):PW X (.BoolOp .And (a::b::rest) pos) (wV tA J3):=by
 intro wh pins s σ H Q I h
 refine isTrue_and (Bg (ha pins s σ H _ I h) fun c s1 ⟨H1,I1,q1⟩=>?_)
 cases c with
 | true=>exact hb wh pins s1 σ H1 Q I1 q1
 | false=>exact⟨H1,I1,q1⟩
theorem wW (ha:PT X a tA)(hb:PW X (.BoolOp .Or (b::rest) pos) J3):PW X (.BoolOp .Or (a::b::rest) pos) (Ob tA J3):=by
 intro wh pins s σ H Q I h
 refine isTrue_or (Bg (ha pins s σ H _ I h) fun c s1 ⟨H1,I1,q1⟩=>?_)
 cases c with
 | true=>exact⟨H1,I1,q1⟩
 | false=>exact hb wh pins s1 σ H1 Q I1 q1
theorem uK (ha:PT X a tA):PT X (.UnaryOp .Not a pos) (Af tA):=by
 intro pins s σ H Q I h
 exact isTrue_not (ha pins s σ H (fun c H1=>Q (!c) H1) I h)
theorem lL {op}{t:TE}(h:PE X a t):PE X (.BoolOp op [a] pos) t:=fun pins s σ H Q I hw=>BoolOp_one (h pins s σ H Q I hw)
def Oc (t:TT)(ta tb:TE):TE:=fun σ H Q=>t σ H fun c H1=>if c=true then ta σ H1 Q else tb σ H1 Q
theorem gL {c:Expr}(hc:PT X c tA)(ha:PE X a ta)(hb:PE X b tb):PE X (.IfExp c a b pos) (Oc tA ta tb):=by
 intro pins s σ H Q I h
 refine wpAny_IfExp (Bg (hc pins s σ H _ I h) fun d s1 ⟨H1,I1,q1⟩=>?_)
 cases d with
 | true=>exact ha pins s1 σ H1 Q I1 q1
 | false=>exact hb pins s1 σ H1 Q I1 q1
end
def BS (K:PySem.W.Frag)(H:Hp)(a:Addr)(xs:List V):Prop:=
 Rd H a (.lst xs)∨
  ∃ (o:Obj) (its:Array Value) (n:Nat),K.lookup a=some o/\o.cls=.type "list"/\o.dict=none/\o.data=.seq its n/\its.size<=sizeLine/\Vals xs its.toList
def Cv (K:PySem.W.Frag)(H:Hp)(a:Addr)(xs:List V):Prop:=
 Rd H a (.tup xs)∨
  ∃ (o:Obj) (its:Array Value) (n:Nat),K.lookup a=some o/\o.cls=.type "tuple"/\o.data=.seq its n/\its.size<=sizeLine/\Vals xs its.toList
noncomputable def Ag:Value->Option V
 | .none=>some .A8
 | .bool b=>some (.bl b)
 | .int i _=>some (.int i)
 | .str x _=>some (.str x)
 | .bytes b _=>some (.GB b)
 | .float b _=>some (.KN b)
 | .ref a=>some (.ref a)
 | .type n=>some (.ty n)
 | _=>none
theorem RelV.abs {x:V}{u:Value}(r:RelV x u):Ag u=some x:=by
 cases x with
 | A8=>cases r;rfl
 | bl _=>cases r;rfl
 | int _=>obtain⟨t,rfl⟩:=r;rfl
 | str _=>obtain⟨t,rfl⟩:=r;rfl
 | GB _=>obtain⟨t,rfl⟩:=r;rfl
 | KN _=>obtain⟨t,rfl⟩:=r;rfl
 | ref _=>cases r;rfl
 | ty _=>cases r;rfl
theorem RelV.inj {x y:V}{u:Value}(r:RelV x u)(q:RelV y u):x=y:=Option.some.inj (r.abs.symm.trans q.abs)
theorem Vals.inj:∀ {xs ys:List V}{us:List Value},Vals xs us->Vals ys us->xs=ys
 | _,_,_,.nil,.nil=>rfl
 | _,_,_,.cons r t,.cons r' t'=>by rw[r.inj r',Vals.inj t t']
section
variable {X:Cx}{pins:List (Addr×Obj)}{σ:St}{H:Hp}{s:Shared}{a:Addr}{xs ys:List V}
theorem Cv.of {K:PySem.W.Frag}(h:H a=some (.tup xs)):Cv K H a xs:=.inl (.inl h)
theorem Inv.list (I:Inv X pins σ H s)(h:BS X.K H a xs):∃ its:List Value,Vals xs its/\PlainL s.heap a its.toArray/\xs.length<=sizeLine:=by
 rcases h with h|⟨o,its,n,hk,hc,hd,hs,hz,r⟩
 ·obtain⟨z,its,n,r,e⟩:=h.ok I.Be
  exact⟨its,r,⟨_,n,e,rfl,rfl,rfl⟩,z⟩
 ·refine⟨its.toList,r,⟨o,n,I.Df a o hk,hc,hd,by simpa using hs⟩,?_⟩
  have e:=r.length
  simp only[Array.length_toList] at e
  omega
theorem Inv.tuple (I:Inv X pins σ H s)(h:Cv X.K H a xs):∃ its:List Value,Vals xs its/\IsTup s.heap a its.toArray/\xs.length<=sizeLine:=by
 rcases h with h|⟨o,its,n,hk,hc,hs,hz,r⟩
 ·obtain⟨z,its,r,p⟩:=h.ok I.Be
  exact⟨its,r,p,z⟩
 ·refine⟨its.toList,r,⟨o,I.Df a o hk,hc,n,by simpa using hs⟩,?_⟩
  have e:=r.length
  simp only[Array.length_toList] at e
  omega
theorem Inv.Bx (I:Inv X pins σ H s)(h:BS X.K H a xs)(h':BS X.K H a ys):xs=ys:=by
 obtain⟨its,r,⟨o,n,e,_,_,d⟩,_⟩:=I.list h
 obtain⟨its',r',⟨o',n',e',_,_,d'⟩,_⟩:=I.list h'
 rw[e] at e';cases e'
 rw[d] at d'
 injection d' with d1 _
 have:its=its':=by simpa using congrArg Array.toList d1
 subst this
 exact r.inj r'
theorem Inv.Cz (I:Inv X pins σ H s)(h:Cv X.K H a xs)(h':Cv X.K H a ys):xs=ys:=by
 obtain⟨its,r,⟨o,e,_,n,d⟩,_⟩:=I.tuple h
 obtain⟨its',r',⟨o',e',_,n',d'⟩,_⟩:=I.tuple h'
 rw[e] at e';cases e'
 rw[d] at d'
 injection d' with d1 _
 have:its=its':=by simpa using congrArg Array.toList d1
 subst this
 exact r.inj r'
end
section
variable {X:Cx}{st:Stmt}{rest:List Stmt}{t u:TS}{e:Expr}{te:TE}{pos:Pos}
def lM:TS:=fun D σ H=>D.nx σ H
def Ah (t u:TS):TS:=fun D σ H=>t {D with nx:=u D} σ H
theorem jy:DD X [] lM:=fun _ _ σ H _ I h=>wpAny_execs_nil ⟨σ,H,I,h⟩
theorem gM (h1:PS X st t)(h2:DD X rest u):DD X (st::rest) (Ah t u):=by
 intro pins s σ H D I h
 refine wpAny_execs_cons (Bg (h1 pins s σ H {D with nx:=u D} I h) fun f s1 q=>?_)
 cases f with
 | next=>
  obtain⟨Bc,H',I',q⟩:=q
  exact h2 pins s1 Bc H' D I' q
 | ret v=>exact q
 | brk=>exact q
 | cont=>exact q
def uL:TS:=fun D σ H=>D.bk σ H
def wX:TS:=fun D σ H=>D.ct σ H
theorem pX:PS X (.Pass pos) lM:=fun _ _ σ H _ I h=>wpAny_Pass ⟨σ,H,I,h⟩
theorem lN:PS X (.Break pos) uL:=fun _ _ σ H _ I h=>wpAny_Break ⟨σ,H,I,h⟩
theorem gN:PS X (.Continue pos) wX:=fun _ _ σ H _ I h=>wpAny_Continue ⟨σ,H,I,h⟩
theorem Inv.quiet {pins:List (Addr×Obj)}{σ:St}{H:Hp}{s:Shared}(I:Inv X pins σ H s):interactive X.env=false:=by simp[interactive,I.ok.kind]
theorem uM {x j pos pos'}:PS X (.Expr (.Constant (.str x) j pos) pos') lM:=fun _ s σ H _ I h=>wpAny_Expr (Calls.Constant_str (show SP X _ _ .next {s with toks:=s.toks+1} from ⟨σ,H,I.tok _,h⟩)) I.quiet
def wY (te:TE):TS:=fun D σ H=>te σ H fun _ H1=>D.nx σ H1
theorem fQ (he:PE X e te)(hs:swapsWith e none pos.line X.env=pure false:=by rfl):PS X (.Expr e pos) (wY te):=by
 intro pins s σ H D I h
 exact wpAny_Expr_any (Bg (he pins s σ H _ I h) fun v s1 ⟨x,H1,I1,r1,q1⟩=>⟨σ,H1,I1,q1⟩) I.quiet hs
def Ai (te:TE):TS:=fun D σ H=>te σ H D.rt
theorem iV (he:PE X e te):PS X (.Return (some e) pos) (Ai te):=by
 intro pins s σ H D I h
 exact wpAny_Return_some (Bg (he pins s σ H _ I h) fun v s1 ⟨x,H1,I1,r1,q1⟩=>⟨x,σ,H1,I1,r1,q1⟩)
def wZ:TS:=fun D _ H=>D.rt .A8 H
theorem pY:PS X (.Return none pos) wZ:=fun _ _ σ H _ I h=>wpAny_Return_none ⟨.A8,σ,H,I,rfl,h⟩
def Aj (c:TT)(t u:TS):TS:=fun D σ H=>c σ H fun b H1=>if b=true then t D σ H1 else u D σ H1
theorem rJ {c:Expr}{a b:List Stmt}{tc:TT}(hc:PT X c tc)(ha:DD X a t)(hb:DD X b u):PS X (.If c a b pos) (Aj tc t u):=by
 intro pins s σ H D I h
 refine wpAny_If (Bg (hc pins s σ H _ I h) fun d s1 ⟨H1,I1,q1⟩=>?_)
 cases d with
 | true=>exact ha pins s1 σ H1 D I1 q1
 | false=>exact hb pins s1 σ H1 D I1 q1
def uN:TS:=fun _ _ _=>False
theorem lO:PS X st uN:=fun _ _ _ _ _ _ h=>h.elim
end
noncomputable abbrev TG:=V->St->Hp->(St->Hp->Prop)->Prop
noncomputable abbrev Gb:=List V->St->Hp->(St->Hp->Prop)->Prop
def PG (X:Cx)(target:Expr)(t:TG):Prop:=
 ∀ (pins:List (Addr×Obj)) (s:Shared) (σ:St) (H:Hp) (v:V) (u:Value) (Q:St->Hp->Prop),Inv X pins σ H s->RelV v u->t v σ H Q->
  wpAny (model X.prog X.w) X.A (assign target X.env u) (fun _ s'=>∃ Bc H',Inv X pins Bc H' s'/\Q Bc H') X.xe s
def IQ (X:Cx)(ts:List Expr)(t:Gb):Prop:=
 ∀ (pins:List (Addr×Obj)) (s:Shared) (σ:St) (H:Hp) (vs:List V) (us:List Value) (Q:St->Hp->Prop),Inv X pins σ H s->Vals vs us->t vs σ H Q->
  wpAny (model X.prog X.w) X.A (assignInOrder ((assignEach ts X.env).map (·.2)) us) (fun _ s'=>∃ Bc H',Inv X pins Bc H' s'/\Q Bc H') X.xe s
section
variable {X:Cx}{pos:Pos}
def lP (i:Nat):TG:=fun v σ H Q=>Q (σ.set i (some v)) H
theorem pZ {i:Nat}{x:Str}(hN:X.N.Nodup)(hi:X.N[i]? = some x)(hx:Loc X.env.scope x)(hf:X.fn x=true∨X.env.scope.names.lookup x=some .local:=by first|exact .inl rfl|exact .inr rfl|assumption):PG X (.Name x pos) (lP i):=by
 intro pins s σ H v u Q I r h
 exact wpAny_assign_Name (gK I hN hi hx r (fun s' I'=>⟨_,H,I',h⟩) hf)
def w4:Gb:=fun vs σ H Q=>vs=[]/\Q σ H
def rK (t:TG)(u:Gb):Gb:=fun vs σ H Q=>∃ v r,vs=v::r/\t v σ H fun Bc H'=>u r Bc H' Q
theorem p3:IQ X [] w4:=by
 intro pins s σ H vs us Q I r h
 obtain⟨e,h⟩:=h
 subst e
 cases r
 exact assignInOrder_nil ⟨σ,H,I,h⟩
theorem lQ {e:Expr}{es:List Expr}{t:TG}{u:Gb}(h1:PG X e t)(h2:IQ X es u)
  (hs:(assignEach (e::es) X.env).map (·.2)=assign e X.env::(assignEach es X.env).map (·.2):=by rfl):IQ X (e::es) (rK t u):=by
 intro pins s σ H vs us Q I r h
 obtain⟨v,vr,e1,h⟩:=h
 subst e1
 cases r with
 | cons r rr=>
  rw[hs]
  refine assignInOrder_cons (Bg (h1 pins s σ H _ _ _ I r h) fun _ s1 ⟨MC,H1,I1,q1⟩=>?_)
  exact h2 pins s1 MC H1 _ _ Q I1 rr q1
def uO (te:TE)(g:TG):TS:=fun D σ H=>te σ H fun x H1=>g x σ H1 D.nx
theorem uP {tg e:Expr}{te:TE}{g:TG}(he:PE X e te)(hg:PG X tg g)(hs:swapsWithSole [tg] e pos.line X.env=pure false:=by rfl)(hw:swappedStores [tg] e X.env=pure none:=by rfl)
  (h1:(assignEach [tg] X.env).map (·.2)=[assign tg X.env]:=by rfl):PS X (.Assign [tg] e pos) (uO te g):=by
 intro pins s σ H D I h
 refine wpAny_Assign_stores (Bg (he pins s σ H _ I h) fun v s1 ⟨x,H1,I1,r1,q1⟩=>?_) hs hw
 rw[h1]
 exact Bg (hg pins s1 σ H1 x v _ I1 r1 q1) fun _ s2 q=>q
theorem lR {i:Nat}{x:Str}{e:Expr}{te:TE}{pos':Pos}(hN:X.N.Nodup)(hi:X.N[i]? = some x)(hx:Loc X.env.scope x)(he:PE X e te)(hs:swapsWith e (some (.Name x pos')) pos.line X.env=pure false:=by rfl)(hf:X.fn x=true∨X.env.scope.names.lookup x=some .local:=by first|exact .inl rfl|exact .inr rfl|assumption) :
  PS X (.Assign [.Name x pos'] e pos) (uO te (lP i)):=by
 intro pins s σ H D I h
 refine wpAny_Assign_Name (Bg (he pins s σ H _ I h) fun v s1 ⟨y,H1,I1,r1,q1⟩=>?_) hs
 exact gK I1 hN hi hx r1 (fun s2 I2=>⟨_,H1,I2,q1⟩) hf
end
structure It where
 go:Nat->Hp->Prop
 Fv:Nat->Hp->V->Hp->Prop
 stop:Nat->Hp->Prop
def cw (X:Cx)(pins:List (Addr×Obj))(H:Hp)(b:Addr):Prop:=
 H b=none/\b≠X.env.locals/\b∉X.fs/\(b∈X.ex∨X.BA.heap.objs.size<=b)/\(∀ x c,X.env.cells.lookup x=some c->c≠b)/\∀ p∈X.pn++pins,p.1≠b
theorem Inv.DF {X:Cx}{pins:List (Addr×Obj)}{σ:St}{H H':Hp}{s:Shared}{b:Addr}(I:Inv X pins σ H s)(hb:s.heap.objs.size<=b)(hn:H' b=none):cw X pins H' b:=by
 refine⟨hn,Nat.ne_of_gt (Nat.lt_of_lt_of_le I.lt hb),I.KR hb,.inr (Nat.le_trans I.sz hb),fun x c e z=>?_,fun p hp z=>?_⟩
 ·obtain⟨v,q⟩:=I.cell x c e
  exact absurd (Nat.lt_of_lt_of_le q.lt (by rw[z];exact hb)) (Nat.lt_irrefl _)
 ·exact absurd (Nat.lt_of_lt_of_le (Heap.lt_size (I.pin p hp).1) (by rw[z];exact hb)) (Nat.lt_irrefl _)
structure Turn (P:Program)(w:World)(K:PySem.W.Frag)(tg:Expr)(J:It)(fp:List Addr)(it:Addr)(tn:Nat->Heap->Prop):Prop where
 mem:it∈fp
 obj:∀ i h,tn i h->∀ b∈fp,∃ o,h.get? b=some o/\∀ v,o.data≠.cell v
 keep:∀ i h h',tn i h->(∀ b∈fp,∀ o,h.get? b=some o->h'.get? b=some o)->tn i h'
 item:∀ (X:Cx),X.prog=P->X.w=w->X.K=K->X.calm=true->∀ (i:Nat) (pins:List (Addr×Obj)) (s:Shared) (σ:St) (H:Hp) (E:Value->Shared->Prop),Inv X pins σ H s->(∀ b∈fp,cw X pins H b)->tn i s.heap->J.go i H->
  wpAny (model P w) X.A (pyNext (.ref it)) (fun r s1=>∃ u,r=some u/\
   wpAny (model P w) X.A (letOwnedTupleGo tg (.ref it) u) (fun _ s2=>∃ x H',Inv X pins σ H' s2/\RelV x u/\J.Fv i H x H'/\tn (i+1) s2.heap/\∀ b∈fp,H' b=none) E s1) E s
 done:∀ (X:Cx),X.prog=P->X.w=w->X.K=K->X.calm=true->∀ (i:Nat) (pins:List (Addr×Obj)) (s:Shared) (σ:St) (H:Hp) (E:Value->Shared->Prop),Inv X pins σ H s->(∀ b∈fp,cw X pins H b)->tn i s.heap->J.stop i H->
  wpAny (model P w) X.A (pyNext (.ref it)) (fun r s1=>r=none/\Inv X pins σ H s1) E s
 self:∀ (A:Around) (i:Nat) (s:Shared) (Q:Value->Shared->Prop) (E:Value->Shared->Prop),tn i s.heap->Q (.ref it) s->wpAny (model P w) A (pyIter (.ref it)) Q E s
noncomputable abbrev TI:=St->Hp->(It->Hp->Prop)->Prop
def Ia (X:Cx)(pins:List (Addr×Obj))(σ:St)(tg:Expr)(R:It->Hp->Prop)(J4:Value)(s2:Shared):Prop:=
 ∃ (it:Addr) (fp:List Addr) (tn:Nat->Heap->Prop) (J:It) (H':Hp),J4=.ref it/\Inv X pins σ H' s2/\Turn X.prog X.w X.K tg J fp it tn/\tn 0 s2.heap/\(∀ b∈fp,cw X pins H' b)/\R J H'
def PI (X:Cx)(tg iter:Expr)(wi:TI):Prop:=
 ∀ (pins:List (Addr×Obj)) (s:Shared) (σ:St) (H:Hp) (R:It->Hp->Prop),Inv X pins σ H s->wi σ H R->
  wpAny (model X.prog X.w) X.A (eval iter X.env) (fun v s1=>wpAny (model X.prog X.w) X.A (pyIter v) (Ia X pins σ tg R) X.xe s1) X.xe s
theorem gO {M : Model}{A : Around}{E : Value -> Shared -> Prop}{s : Shared}{tg : Expr}{it : Addr}{u : Value}{o : Obj}{n : String}{vs : Array Value}{Q : Unit -> Shared -> Prop}(ho : s.heap.get? it = some o)(hc : o.cls = .type n)(hd : o.data = .fields vs)
    (hn : ["enumerate", "zip", "dict_itemiterator", "dict_reverseitemiterator", "odict_iterator", "itertools.zip_longest", "itertools.pairwise"].contains n = false) (hQ : Q () s) : wpAny M A (letOwnedTupleGo tg (.ref it) u) Q E s := by
  unfold letOwnedTupleGo
  cases tg <;> first
    | exact wpAny_pure hQ
    | (cases u <;> first
        | exact wpAny_pure hQ
        | (refine wpAny_bind (wpAny_load ho ?_)
           rw [hc, hd]
           show wpAny M A (if (["enumerate", "zip", "dict_itemiterator", "dict_reverseitemiterator", "odict_iterator", "itertools.zip_longest", "itertools.pairwise"].contains n&&vs[0]? == some (rawInt _)) = true then _ else _) Q E s
           rw [if_neg (by intro h; rw [hn, Bool.false_and] at h; cases h)]
           exact wpAny_pure hQ))
noncomputable def J5 (K:PySem.W.Frag)(a:Addr):It:=
 ⟨fun i H=>∃ xs x,BS K H a xs/\xs[i]? = some x,fun i H x H'=>H'=H/\∀ xs,BS K H a xs->xs[i]? = some x,fun i H=>∃ xs,BS K H a xs/\xs.length<=i⟩
noncomputable def KW (K:PySem.W.Frag)(a:Addr):It:=
 ⟨fun i H=>∃ xs x,Cv K H a xs/\xs[i]? = some x,fun i H x H'=>H'=H/\∀ xs,Cv K H a xs->xs[i]? = some x,fun i H=>∃ xs,Cv K H a xs/\xs.length<=i⟩
noncomputable def IU (lo:Int)(n:Nat):It:=⟨fun i _=>i < n,fun i H x H'=>H'=H/\x=.int (lo+i),fun i _=>n<=i⟩
theorem kL {P:Program}{w:World}{K:PySem.W.Frag}{tg:Expr}(a it:Addr):Turn P w K tg (J5 K a) [it] it (fun i h=>h.IsListIter it a i) where
 mem:=by simp
 obj:=fun i h st b hb=>by
  have e:b=it:=by simpa using hb
  subst e
  obtain⟨o,e,c,d⟩:=st
  exact⟨o,e,fun v z=>by rw[d] at z;cases z⟩
 keep:=fun i h h' st k=>st.at fun o e=>k it (by simp) o e
 item:=by
  intro X hP hw hK hc i pins s σ H E I hf st hg
  subst hP hw hK
  obtain⟨xs,x,hq,hx⟩:=hg
  obtain⟨its,rv,p,hz⟩:=I.list hq
  obtain⟨u,hu,ru⟩:=rv.get hx
  obtain⟨f0,f1,f2,f3,f4,f5⟩:=hf it (by simp)
  refine wpAny_pyNext_list_item st p.isList (x:=u) (by simpa using hu) fun h' DV sb=>?_
  have I1:Inv X pins σ H {s with heap:=h'}:=I.turned (t':=s.toks) (fun b o hb e=>(sb.2 b hb).trans e) f0 f1 f3 f4 f5
  obtain⟨o,e,c,d⟩:=id DV
  exact⟨u,rfl,gO (s:={s with heap:=h'}) e c d (by decide) ⟨x,H,I1,ru,⟨rfl,fun ys hy=>by rw[I.Bx hy hq];exact hx⟩,DV,fun b hb=>(hf b hb).1⟩⟩
 done:=by
  intro X hP hw hK hc i pins s σ H E I hf st hg
  subst hP hw hK
  obtain⟨xs,hq,hx⟩:=hg
  obtain⟨its,rv,p,hz⟩:=I.list hq
  obtain⟨f0,f1,f2,f3,f4,f5⟩:=hf it (by simp)
  have hl:=rv.length
  exact wpAny_pyNext_list_end (I.ok.hd hc) st p.isList (by simp;omega) fun h' eb=>⟨rfl,I.turned (t':=s.toks) (fun b o hb e=>eb b o hb e) f0 f1 f3 f4 f5⟩
 self:=fun _ _ _ _ _ st h=>wpAny_pyIter_listiter st h
theorem iW {P:Program}{w:World}{K:PySem.W.Frag}{tg:Expr}(a it:Addr):Turn P w K tg (KW K a) [it] it (fun i h=>h.IsTupleIter it a i) where
 mem:=by simp
 obj:=fun i h st b hb=>by
  have e:b=it:=by simpa using hb
  subst e
  obtain⟨o,e,c,d⟩:=st
  exact⟨o,e,fun v z=>by rw[d] at z;cases z⟩
 keep:=fun i h h' st k=>st.at fun o e=>k it (by simp) o e
 item:=by
  intro X hP hw hK hc i pins s σ H E I hf st hg
  subst hP hw hK
  obtain⟨xs,x,hq,hx⟩:=hg
  obtain⟨its,rv,p,hz⟩:=I.tuple hq
  obtain⟨u,hu,ru⟩:=rv.get hx
  obtain⟨f0,f1,f2,f3,f4,f5⟩:=hf it (by simp)
  refine wpAny_pyNext_tuple_item st (show s.heap.IsTuple a its.toArray from p) (x:=u) (by simpa using hu) fun h' DV sb=>?_
  have I1:Inv X pins σ H {s with heap:=h'}:=I.turned (t':=s.toks) (fun b o hb e=>(sb.2 b hb).trans e) f0 f1 f3 f4 f5
  obtain⟨o,e,c,d⟩:=id DV
  exact⟨u,rfl,gO (s:={s with heap:=h'}) e c d (by decide) ⟨x,H,I1,ru,⟨rfl,fun ys hy=>by rw[I.Cz hy hq];exact hx⟩,DV,fun b hb=>(hf b hb).1⟩⟩
 done:=by
  intro X hP hw hK hc i pins s σ H E I hf st hg
  subst hP hw hK
  obtain⟨xs,hq,hx⟩:=hg
  obtain⟨its,rv,p,hz⟩:=I.tuple hq
  obtain⟨f0,f1,f2,f3,f4,f5⟩:=hf it (by simp)
  have hl:=rv.length
  exact wpAny_pyNext_tuple_end (I.ok.hd hc) st (show s.heap.IsTuple a its.toArray from p) (by simp;omega) fun h' eb=>⟨rfl,I.turned (t':=s.toks) (fun b o hb e=>eb b o hb e) f0 f1 f3 f4 f5⟩
 self:=fun _ _ _ _ _ st h=>wpAny_pyIter_tupleiter st h
theorem iX {P:Program}{w:World}{K:PySem.W.Frag}{tg:Expr}(it:Addr)(lo:Int)(n:Nat):Turn P w K tg (IU lo n) [it] it (fun i h=>IsRangeIter h it (lo+(i:Nat)*1) ((n:Int) - (i:Nat)) 1) where
 mem:=by simp
 obj:=fun i h st b hb=>by
  have e:b=it:=by simpa using hb
  subst e
  exact⟨_,st,fun v z=>by
   have z':Data.fields _=Data.cell v:=z
   cases z'⟩
 keep:=fun i h h' st k=>k it (by simp) _ st
 item:=by
  intro X hP hw hK hc i pins s σ H E I hf st hg
  subst hP hw hK
  obtain⟨f0,f1,f2,f3,f4,f5⟩:=hf it (by simp)
  have W:=Walks.range (prog:=X.prog) (w:=X.w) (I.ok.hd hc) it lo 1 n
  refine W.item i s _ _ hg st fun v h' tk hv DV kk=>?_
  obtain⟨t,rfl⟩:=hv
  have I1:Inv X pins σ H {s with heap:=h',toks:=tk}:=I.turned (fun b o hb e=>kk b o (by simpa using hb) e) f0 f1 f3 f4 f5
  refine⟨_,rfl,gO (s:={s with heap:=h',toks:=tk}) (n:="range_iterator") DV rfl rfl (by decide) ⟨.int (lo+i),H,I1,⟨t,?_⟩,⟨rfl,rfl⟩,DV,fun b hb=>(hf b hb).1⟩⟩
  rw[Int.mul_one]
 done:=by
  intro X hP hw hK hc i pins s σ H E I hf st hg
  subst hP hw hK
  obtain⟨f0,f1,f2,f3,f4,f5⟩:=hf it (by simp)
  exact wpAny_pyNext_range_end (I.ok.hd hc) st (by have:n<=i:=hg;omega) fun h' eb=>⟨rfl,I.turned (t':=s.toks) (fun b o hb e=>eb b o hb e) f0 f1 f3 f4 f5⟩
 self:=fun _ _ _ _ _ st h=>wpAny_pyIter_rangeiter st h
section
variable {X:Cx}{tg:Expr}
theorem lS {pins:List (Addr×Obj)}{σ:St}{H:Hp}{s:Shared}{R:It->Hp->Prop}{E:Value->Shared->Prop}{lo hi:Int}{t u v:Tok}{tk:Nat}(I:Inv X pins σ H s)(h1 : -(2 ^ 62)<=lo)(h2:lo < 2 ^ 62)(h3 : -(2 ^ 62)<=hi)(h4:hi < 2 ^ 62)
  (q:R (IU lo (hi - lo).toNat) H):wpAny (model X.prog X.w) X.A (pyIter (.ref s.heap.objs.size)) (Ia X pins σ tg R) E {s with heap:=s.heap.push {cls:=.type "range",data:=.fields #[.int lo t,.int hi u,.int 1 v]},toks:=tk}:=by
 refine wpAny_pyIter_range (IsRange.new ..) (small_one h1 h2 h3 h4) ?_
 have I1:Inv X pins σ H {s with heap:=s.heap.push {cls:=.type "range",data:=.fields #[.int lo t,.int hi u,.int 1 v]},toks:=tk}:=I.kept fun b o e=>Heap.get?_push_of_some _ e
 refine⟨(s.heap.push {cls:=.type "range",data:=.fields #[.int lo t,.int hi u,.int 1 v]}).objs.size,[(s.heap.push {cls:=.type "range",data:=.fields #[.int lo t,.int hi u,.int 1 v]}).objs.size],_,_,H,rfl,
  I1.kept (t':=tk) fun b o e=>Heap.get?_push_of_some _ e,iX _ lo (hi - lo).toNat,?_,fun b hb=>?_,q⟩
 ·have e1:lo+((0:Nat):Int)*1=lo:=by simp
  have e2:(((hi - lo).toNat:Nat):Int) - ((0:Nat):Int)=Builtin.Range.rangeSize lo hi 1:=by rw[rangeSize_one];split<;>omega
  show IsRangeIter _ _ (lo+((0:Nat):Int)*1) ((((hi - lo).toNat:Nat):Int) - ((0:Nat):Int)) 1
  rw[e1,e2]
  exact Heap.get?_push_size _ rfl
 ·have e:b=(s.heap.push {cls:=.type "range",data:=.fields #[.int lo t,.int hi u,.int 1 v]}).objs.size:=by simpa using hb
  subst e
  exact I1.DF (Nat.le_refl _) (I1.Be.fresh (Nat.le_refl _))
def w8 (ta:TA):TI:=fun σ H R=>ta σ H fun vs H1=>∃ j:Int,vs=[.int j]/\-(2 ^ 62)<=j/\j < 2 ^ 62/\R (IU 0 j.toNat) H1
theorem eU {a:Expr}{ta:TA}{p pos:Pos}(hg:Gl X "range") (hm:X.mg "range" = none) (ha:PA X [a] ta) (hs:starEach [a] X.env=[(false,eval a X.env)]:=by rfl):PI X tg (.Call (.Name "range" p) [a] [] pos) (w8 ta):=by
 intro pins s σ H R I h
 refine Call_ (cE I hg hm boot_range (PyProof.Rows.callWith_type1 (Bg (ha pos pins s σ H _ I h) fun us s1 ⟨vs,H1,I1,r1,q1⟩=>?_) hs rfl))
 obtain⟨j,e,q1,q2,q⟩:=q1
 subst e
 cases r1 with
 | cons r rr=>
  cases rr
  obtain⟨t,rfl⟩:=r
  exact call_range_1 (lS I1 (by omega) (by omega) q1 q2 (by simpa using q))
def Ak (wi:TI)(g:TG)(tb:TS):TS:=fun D σ H=>wi σ H fun J H1=>∃ W:Nat->Nat->St->Hp->Prop,(∃ m,W 0 m σ H1)/\∀ i m σ H,W i m σ H->
 (J.stop i H/\D.nx σ H)∨(J.go i H/\∃ N:St->Hp->Prop,(∀ Bc H',N Bc H'->∃ m',m' < m/\W (i+1) m' Bc H')/\∀ x H',J.Fv i H x H'->g x σ H' fun DG H2=>tb {D with nx:=N,ct:=N,bk:=D.nx} DG H2)
noncomputable def dg (fp:List Addr)(h:Heap):List (Addr×Obj):=fp.filterMap fun b=>(h.get? b).map fun o=>(b,o)
theorem bW {fp:List Addr}{h:Heap}{b:Addr}{o:Obj}(hb:b∈fp)(e:h.get? b=some o):(b,o)∈dg fp h:=List.mem_filterMap.mpr ⟨b,hb,by rw[e];rfl⟩
theorem kM {fp:List Addr}{h:Heap}{p:Addr×Obj}(hp:p∈dg fp h):p.1∈fp/\h.get? p.1=some p.2:=by
 obtain⟨b,hb,e⟩:=List.mem_filterMap.mp hp
 cases q:h.get? b with
 | none=>rw[q] at e;cases e
 | some o=>
  rw[q] at e
  have e':(b,o)=p:=Option.some.inj e
  subst e'
  exact⟨hb,q⟩
theorem Inv.pinned {pins:List (Addr×Obj)}{σ:St}{H:Hp}{s:Shared}{fp:List Addr}(I:Inv X pins σ H s)(hf:∀ b∈fp,cw X pins H b)(ho:∀ b∈fp,∃ o,s.heap.get? b=some o/\∀ v,o.data≠.cell v):Inv X (pins++dg fp s.heap) σ H s:=
 I.Ea fun p hp=>(List.mem_append.mp hp).elim (fun z=>I.pin p (List.mem_append_right _ z)) fun z=>by
  obtain⟨hb,e⟩:=kM z
  obtain⟨f0,f1,f2,_⟩:=hf p.1 hb
  obtain⟨o,e',d⟩:=ho p.1 hb
  rw[e] at e';cases e'
  exact⟨e,f0,f1,f2,d⟩
theorem Inv.Co {pins pl:List (Addr×Obj)}{σ:St}{H:Hp}{s:Shared}(I:Inv X (pins++pl) σ H s):Inv X pins σ H s:=I.Ea fun p hp=>I.pin p (List.mem_append_right _ (List.mem_append_left _ hp))
theorem lT {iter:Expr}{body:List Stmt}{wi:TI}{g:TG}{tb:TS}{pos:Pos}(hp:PassesOwn (model X.prog X.w) X.A X.env X.xe)(hc:X.calm=true)(hi:PI X tg iter wi)(hg:PG X tg g)(hb:DD X body tb)
  (hs:∀ x,foldedSetIterable iter X.env x=pure x:=by intro _;rfl):PS X (.For tg iter body [] pos) (Ak wi g tb):=by
 intro pins s σ H D I h
 refine wpAny_For (Bg (hi pins s σ H _ I h) fun v s1 h1=>Bg h1 fun J4 s2 h2=>?_) hs
 obtain⟨it,fp,tn,J,H2,e,I2,T,Gd,f2,W,⟨m0,w0⟩,turn⟩:=h2
 subst e
 -- KY stays true of GJ GK objects through GJ loop
 have DW:∀ {H':Hp},(∀ b∈fp,H' b=none)->∀ b∈fp,cw X pins H' b:=fun hn b hb=>⟨hn b hb,(f2 b hb).2⟩
 refine codeAny_forLoop_any (fun n s'=>∃ i Bc H',Inv X pins Bc H' s'/\tn i s'.heap/\(∀ b∈fp,H' b=none)/\W i n Bc H') ?_ m0 ⟨0,σ,H2,I2,Gd,fun b hb=>(f2 b hb).1,w0⟩
 rintro n s3 ⟨i,IV,H3,I3,MD,ME,w3⟩
 rcases turn i n IV H3 w3 with ⟨stop,qn⟩|⟨go,N,hN,step⟩
 ·refine wpAny_passesOwn hp (Bg (T.done X rfl rfl rfl hc i pins s3 IV H3 X.xe I3 (DW ME) MD stop) fun r s4 ⟨hr,I4⟩=>?_)
  subst hr
  exact wpAny_execs_nil ⟨IV,H3,I4,qn⟩
 ·refine wpAny_passesOwn hp (Bg (T.item X rfl rfl rfl hc i pins s3 IV H3 X.xe I3 (DW ME) MD go) fun r s4 ⟨u,hr,h4⟩=>?_)
  subst hr
  refine wpAny_passesOwn hp (Bg h4 fun _ s5 ⟨x,H5,I5,r5,y5,IW,KZ⟩=>?_)
  have Od:=I5.pinned (DW KZ) (T.obj _ _ IW)
  refine wpAny_passesOwn hp (Bg (hg _ s5 IV H5 x u _ Od r5 (step x H5 y5)) fun _ s6 ⟨GL,H6,I6,q6⟩=>?_)
  refine wpAny_passesOwn hp (Bg (hb _ s6 GL H6 _ I6 q6) fun f s7 q7=>?_)
  have again:∀ {EU:St}{H7:Hp},Inv X (pins++dg fp s5.heap) EU H7 s7->N EU H7->∃ m,m < n/\∃ i Bc H',Inv X pins Bc H' s7/\tn i s7.heap/\(∀ b∈fp,H' b=none)/\W i m Bc H':=fun {EU H7} I7 n7=>by
   obtain⟨m',hm,w7⟩:=hN EU H7 n7
   refine⟨m',hm,i+1,EU,H7,I7.Co,T.keep _ _ _ IW fun b hb o e=>(I7.pin (b,o) (List.mem_append_right _ (List.mem_append_right _ (bW hb e)))).1,fun b hb=>?_,w7⟩
   obtain⟨o,e,d⟩:=T.obj _ _ IW b hb
   exact(I7.pin (b,o) (List.mem_append_right _ (List.mem_append_right _ (bW hb e)))).2.1
  cases f with
  | next=>obtain⟨EU,H7,I7,n7⟩:=q7;exact again I7 n7
  | cont=>obtain⟨EU,H7,I7,n7⟩:=q7;exact again I7 n7
  | brk=>obtain⟨EU,H7,I7,q7⟩:=q7;exact⟨EU,H7,I7.Co,q7⟩
  | ret v=>obtain⟨x7,EU,H7,I7,r7,q7⟩:=q7;exact⟨x7,EU,H7,I7.Co,r7,q7⟩
end
noncomputable abbrev R2:=V->V->Hp->VK->Prop
def C5 (X:Cx)(f:Value->Value->Sem Value)(r:R2):Prop:=
 ∀ (pins:List (Addr×Obj)) (s:Shared) (σ:St) (H:Hp) (x y:V) (v u:Value) (Q:VK),Inv X pins σ H s->RelV x v->RelV y u->r x y H Q->
  wpAny (model X.prog X.w) X.A (f v u) (EP X pins σ Q) X.xe s
def bP (X:Cx)(f:Value)(r:List V->Hp->VK->Prop):Prop:=
 ∀ (pins:List (Addr×Obj)) (s:Shared) (σ:St) (H:Hp) (xs:List V) (us:List Value) (Q:VK),Inv X pins σ H s->Vals xs us->r xs H Q->
  wpAny (model X.prog X.w) X.A (call f us) (EP X pins σ Q) X.xe s
def Al (X:Cx)(r:V->Hp->(Bool->Hp->Prop)->Prop):Prop:=
 ∀ (pins:List (Addr×Obj)) (s:Shared) (σ:St) (H:Hp) (x:V) (v:Value) (Q:Bool->Hp->Prop),Inv X pins σ H s->RelV x v->r x H Q->
  wpAny (model X.prog X.w) X.A (truthy v) (TP X pins σ Q) X.xe s
def J6 (r:R2)(ta tb:TE):TE:=fun σ H Q=>ta σ H fun x H1=>tb σ H1 fun y H2=>r x y H2 Q
noncomputable def rI (C:Int->Int->Prop)(g:Int->Int->V):R2:=fun x y H Q=>∃ i j,x=.int i/\y=.int j/\C i j/\Q (g i j) H
noncomputable def K0 (g:Int->Int->V):R2:=fun x y H Q=>∃ i j,x=.int i/\y=.int j/\Q (g i j) H
section
variable {X:Cx}{a b c:Expr}{ta tb tc:TE}{pos:Pos}
theorem uQ (ha:PE X a ta)(hb:PE X b tb){pins:List (Addr×Obj)}{s:Shared}{σ:St}{H:Hp}{R:V->V->Hp->Prop}(I:Inv X pins σ H s)
  (h:ta σ H fun x H1=>tb σ H1 fun y H2=>R x y H2) {Q:Value->Shared->Prop}{f:Value->Value->Sem Value}
  (hf:∀ v u s2 x y H2,Inv X pins σ H2 s2->RelV x v->RelV y u->R x y H2->wpAny (model X.prog X.w) X.A (f v u) Q X.xe s2) :
  wpAny (model X.prog X.w) X.A (eval a X.env) (fun v Bf=>wpAny (model X.prog X.w) X.A (eval b X.env) (fun u DE=>wpAny (model X.prog X.w) X.A (f v u) Q X.xe DE) X.xe Bf) X.xe s:=by
 refine Bg (ha pins s σ H _ I h) fun v s1 ⟨x,H1,I1,r1,q1⟩=>?_
 refine Bg (hb pins s1 σ H1 _ I1 q1) fun u s2 ⟨y,H2,I2,r2,q2⟩=>?_
 exact hf v u s2 x y H2 I2 r1 r2 q2
theorem lU {op:Operator}{r:R2}(ho:C5 X (binaryOp op) r)(ha:PE X a ta)(hb:PE X b tb):PE X (.BinOp a op b pos) (J6 r ta tb):=by
 intro pins s σ H Q I h
 exact wpAny_BinOp (uQ ha hb I h fun v u s2 x y H2 I2 rx ry q=>ho pins s2 σ H2 x y v u Q I2 rx ry q)
theorem J7 {f:Value->Value->Sem Value}{C:Int->Int->Prop}{g:Int->Int->Int}
  (rule:∀ (i j:Int) (t u:Tok) (s:Shared) (Q:Value->Shared->Prop) (E:Value->Shared->Prop),C i j->Q (.int (g i j) s.toks) {s with toks:=s.toks+1}->wpAny (model X.prog X.w) X.A (f (.int i t) (.int j u)) Q E s) :
  C5 X f (rI C fun i j=>.int (g i j)):=by
 intro pins s σ H x y v u Q I rx ry h
 obtain⟨i,j,rfl,rfl,hc,q⟩:=h
 obtain⟨t,rfl⟩:=rx
 obtain⟨t',rfl⟩:=ry
 exact rule i j t t' s _ _ hc ⟨.int (g i j),H,I.tok _,⟨_,rfl⟩,q⟩
theorem w9 {f:Value->Value->Sem Value}{g:Int->Int->Int}
  (rule:∀ (i j:Int) (t u:Tok) (s:Shared) (Q:Value->Shared->Prop) (E:Value->Shared->Prop),Q (.int (g i j) s.toks) {s with toks:=s.toks+1}->wpAny (model X.prog X.w) X.A (f (.int i t) (.int j u)) Q E s) :
  C5 X f (K0 fun i j=>.int (g i j)):=by
 intro pins s σ H x y v u Q I rx ry h
 obtain⟨i,j,rfl,rfl,q⟩:=h
 obtain⟨t,rfl⟩:=rx
 obtain⟨t',rfl⟩:=ry
 exact rule i j t t' s _ _ ⟨.int (g i j),H,I.tok _,⟨_,rfl⟩,q⟩
def Am (i j:Int):Prop:=0 < j/\j < 1073741824
def An (i j:Int):Prop:=0<=j/\j<=1000000/\i.natAbs < 2 ^ 64
def uR (i j:Int):Prop:=(-(2 ^ 64) < i/\i < 2 ^ 64)∨(-(2 ^ 64) < j/\j < 2 ^ 64)
theorem uR.ok {i j:Int}(h:uR i j):IntMulOk i j:=by
 rcases h with ⟨h1,h2⟩|⟨h1,h2⟩
 ·exact .of_left (intBits_le_64 h1 h2)
 ·exact .of_right (intBits_le_64 h1 h2)
theorem uS:C5 X (binaryOp .Add) (K0 fun i j=>.int (i+j)):=w9 fun _ _ _ _ _ _ _ q=>add_int q
theorem uT:C5 X (binaryOp .Sub) (K0 fun i j=>.int (i - j)):=w9 fun _ _ _ _ _ _ _ q=>sub_int q
theorem uU:C5 X (binaryOp .Mult) (rI uR fun i j=>.int (i*j)):=J7 fun _ _ _ _ _ _ _ hc q=>mul_int q hc.ok
theorem p5:C5 X (binaryOp .FloorDiv) (rI Am fun i j=>.int (i / j)):=J7 fun i j _ _ _ _ _ hc q=>by
 have h1:(0:Int) < j:=hc.1
 have h2:j < 1073741824:=hc.2
 exact floordiv_int (by omega) (by rw[Int.fdiv_eq_ediv_of_nonneg i (by omega)];exact q) (.inl (PyProof.noPylong_small (by omega)))
theorem uV:C5 X (binaryOp .Mod) (rI (fun _ j=>0 < j) fun i j=>.int (i % j)):=J7 fun i j _ _ _ _ _ hc q=>by
 have h1:(0:Int) < j:=hc
 exact mod_int' (by omega) (by rw[Int.fmod_eq_emod_of_nonneg i (by omega)];exact q)
theorem uW:C5 X (binaryOp .Pow) (rI An fun i j=>.int (i ^ j.toNat)):=J7 fun _ _ _ _ _ _ _ hc q=>pow_int_small hc.1 hc.2.1 hc.2.2 q
end
section
variable {X:Cx}{a b c:Expr}{ta tb tc:TE}{pos:Pos}
theorem uX (b:Expr){op:CmpOp}(h:op≠.In:=by decide)(h2:op≠.NotIn:=by decide):behindInMarks op b=false:=by
 have e1:(op == CmpOp.In)=false:=by cases op<;>first|rfl|exact absurd rfl h
 have e2:(op == CmpOp.NotIn)=false:=by cases op<;>first|rfl|exact absurd rfl h2
 cases b<;>simp[behindInMarks,e1,e2]
theorem p6 {op:CmpOp}{r:R2}(ho:C5 X (compareOp op) r)(ha:PE X a ta)(hb:PE X b tb)(hm:behindInMarks op b=false):PE X (.Compare a [op] [b] pos) (J6 r ta tb):=by
 intro pins s σ H Q I h
 exact wpAny_Compare1 (uQ ha hb I h fun v u s2 x y H2 I2 rx ry q=>ho pins s2 σ H2 x y v u Q I2 rx ry q) hm
def rL (t:TE):TT:=fun σ H Q=>t σ H fun x H'=>∃ k,x=.bl k/\Q k H'
theorem jz {op:CmpOp}{r:R2}(ho:C5 X (compareOp op) r)(ha:PE X a ta)(hb:PE X b tb)(hm:behindInMarks op b=false):PT X (.Compare a [op] [b] pos) (rL (J6 r ta tb)):=by
 intro pins s σ H Q I h
 refine wpAny_isTrue_Compare1 (Bg (ha pins s σ H _ I h) fun v s1 ⟨x,H1,I1,r1,q1⟩=>Bg (hb pins s1 σ H1 _ I1 q1) fun u s2 ⟨y,H2,I2,r2,q2⟩=>
  Bg (ho pins s2 σ H2 x y v u _ I2 r1 r2 q2) fun c s3 ⟨z,H3,I3,r3,k,e,q3⟩=>?_) hm
 subst e
 cases r3
 exact wpAny_truthy_bool ⟨H3,I3,q3⟩
def lV (r r':R2)(ta tb tc:TE):TE:=fun σ H Q=>ta σ H fun x H1=>tb σ H1 fun y H2=>r x y H2 fun z H3=>∃ k,z=.bl k/\
 (if k=true then tc σ H3 fun w' H4=>r' y w' H4 Q else Q (.bl false) H3)
theorem lW {op BH:CmpOp}{r r':R2}(ho:C5 X (compareOp op) r)(C3:C5 X (compareOp BH) r')(ha:PE X a ta)(hb:PE X b tb)(hc:PE X c tc)
  (hm:lastMarks [op,BH] [b,c]=false:=by with_unfolding_all rfl):PE X (.Compare a [op,BH] [b,c] pos) (lV r r' ta tb tc):=by
 intro pins s σ H Q I h
 refine Compare_chain (Bg (ha pins s σ H _ I h) fun v s1 ⟨x,H1,I1,r1,q1⟩=>chain_link (Bg (hb pins s1 σ H1 _ I1 q1) fun u s2 ⟨y,H2,I2,r2,q2⟩=>
  Bg (ho pins s2 σ H2 x y v u _ I2 r1 r2 q2) fun d s3 ⟨z,H3,I3,r3,k,e,q3⟩=>?_)) hm
 subst e
 cases r3
 refine wpAny_truthy_bool ?_
 cases k with
 | false=>exact ite_ff ⟨.bl false,H3,I3,rfl,q3⟩
 | true=>exact ite_tt (chain_last (Bg (hc pins s3 σ H3 _ I3 q3) fun w' s4 ⟨z',H4,I4,r4,q4⟩=>C3 pins s4 σ H4 y z' u w' Q I4 r2 r4 q4))
theorem lX {op BH:CmpOp}{r r':R2}(ho:C5 X (compareOp op) r)(C3:C5 X (compareOp BH) r')(ha:PE X a ta)(hb:PE X b tb)(hc:PE X c tc)
  (hm:lastMarks [op,BH] [b,c]=false:=by with_unfolding_all rfl):PT X (.Compare a [op,BH] [b,c] pos) (rL (lV r r' ta tb tc)):=by
 intro pins s σ H Q I h
 refine isTrue_chain (Bg (ha pins s σ H _ I h) fun v s1 ⟨x,H1,I1,r1,q1⟩=>test_link (Bg (hb pins s1 σ H1 _ I1 q1) fun u s2 ⟨y,H2,I2,r2,q2⟩=>
  Bg (ho pins s2 σ H2 x y v u _ I2 r1 r2 q2) fun d s3 ⟨z,H3,I3,r3,k,e,q3⟩=>?_)) hm
 subst e
 cases r3
 refine wpAny_truthy_bool ?_
 cases k with
 | false=>
  obtain⟨k',e',q'⟩:=q3
  cases e'
  exact ite_ff ⟨H3,I3,q'⟩
 | true=>
  refine ite_tt (test_last (Bg (hc pins s3 σ H3 _ I3 q3) fun w' s4 ⟨z',H4,I4,r4,q4⟩=>Bg (C3 pins s4 σ H4 y z' u w' _ I4 r2 r4 q4) fun d' s5 ⟨z2,H5,I5,r5,k2,e2,q5⟩=>?_))
  subst e2
  cases r5
  exact wpAny_truthy_bool ⟨H5,I5,q5⟩
def Ao (K:PySem.W.Frag)(x:V)(H:Hp)(k:Bool):Prop:=
 match x with
 | .A8=>k=false
 | .bl b=>k=b
 | .int i=>k=(i != 0)
 | .str y=>y.length<=sizeLine/\k=((y.length:Int) != 0)
 | .GB y=>y.size<=sizeLine/\k=((y.size:Int) != 0)
 | .ref p=>(∃ xs,BS K H p xs/\k = !xs.isEmpty)∨(∃ xs,Cv K H p xs/\k = !xs.isEmpty)∨∃ kvs,H p=some (.dK kvs)/\k = !kvs.isEmpty
 | _=>False
theorem iY {κ:Type}{kvs:List (κ×V)}{vs:List (κ×Value)}(r:KV kvs vs):(!vs.isEmpty) = !kvs.isEmpty:=by
 cases r<;>rfl
theorem dM {xs:List V}{its:List Value}(r:Vals xs its):(!its.toArray.isEmpty) = !xs.isEmpty:=by
 cases r<;>simp
theorem dN:(sizeLine:Nat) < 2 ^ 63:=by rw[sizeLine_eq];decide
theorem uY:Al X (fun x H Q=>∃ k,Ao X.K x H k/\Q k H):=by
 intro pins s σ H x v Q I rx h
 obtain⟨k,e,q⟩:=h
 have hl:=dN
 have hs:sizeLine=16777216:=sizeLine_eq
 cases x with
 | A8=>
  cases rx
  have e':k=false:=e
  subst e'
  exact truthy_none ⟨H,I,q⟩
 | bl b=>
  cases rx
  have e':k=b:=e
  subst e'
  exact wpAny_truthy_bool ⟨H,I,q⟩
 | int i=>
  obtain⟨t,rfl⟩:=rx
  have e':k=(i != 0):=e
  subst e'
  exact PySem.P.truthy_int ⟨H,I,q⟩
 | str y=>
  obtain⟨t,rfl⟩:=rx
  obtain⟨hy,e'⟩:y.length<=sizeLine/\k=((y.length:Int) != 0):=e
  subst e'
  exact PySem.P.truthy_str (by omega) ⟨H,I.tok _,q⟩
 | GB y=>
  obtain⟨t,rfl⟩:=rx
  obtain⟨hy,e'⟩:y.size<=sizeLine/\k=((y.size:Int) != 0):=e
  subst e'
  exact PySem.W.truthy_bytes (by omega) ⟨H,I.tok _,q⟩
 | ref p=>
  cases rx
  have e':(∃ xs,BS X.K H p xs/\k = !xs.isEmpty)∨(∃ xs,Cv X.K H p xs/\k = !xs.isEmpty)∨∃ kvs,H p=some (.dK kvs)/\k = !kvs.isEmpty:=e
  rcases e' with ⟨xs,hx,e'⟩|⟨xs,hx,e'⟩|⟨kvs,hx,e'⟩
  ·subst e'
   obtain⟨its,r,pl,hz⟩:=I.list hx
   have hlen:=r.length
   exact wpAny_truthy_list pl.isList (by simp only[List.size_toArray];omega) ⟨H,I.tok _,by rw[dM r];exact q⟩
  ·subst e'
   obtain⟨its,r,pl,hz⟩:=I.tuple hx
   have hlen:=r.length
   exact truthy_tuple pl (by simp only[List.size_toArray];omega) ⟨H,I.tok _,by rw[dM r];exact q⟩
  ·subst e'
   obtain⟨hz,hS,vs,r,m⟩:kvs.length<=sizeLine/\(p == sysModules)=false/\∃ vs,KV kvs vs/\s.heap.DictOf (aN X.prog X.w) p vs:=I.Be p _ hx
   have hlen:kvs.length=vs.length:=Paired.length r
   exact wpAny_truthy_dict hS m (by omega) ⟨H,I.tok _,by rw[iY r];exact q⟩
 | _=>exact(show False from e).elim
theorem iZ:C5 X (binaryOp .Add) (fun x y H Q=>∃ i j,x=.str i/\y=.str j/\i.length+j.length<=sizeLine/\Q (.str (i++j)) H):=by
 intro pins s σ H x y v u Q I rx ry h
 obtain⟨i,j,rfl,rfl,hz,q⟩:=h
 obtain⟨t,rfl⟩:=rx
 obtain⟨t',rfl⟩:=ry
 exact add_str (fun t' tk=>⟨.str (i++j),H,I.tok _,⟨_,rfl⟩,q⟩) hz
theorem vals1 {x:V}{us:List Value}(r:Vals [x] us):∃ u,us=[u]/\RelV x u:=by
 cases r with
 | cons r1 r2=>cases r2;exact⟨_,rfl,r1⟩
theorem vals2 {x y:V}{us:List Value}(r:Vals [x,y] us):∃ u w',us=[u,w']/\RelV x u/\RelV y w':=by
 cases r with
 | cons r1 r2=>
  cases r2 with
  | cons r3 r4=>cases r4;exact⟨_,_,rfl,r1,r3⟩
theorem kN (hc:X.calm=true):bP X (.builtin "max") (fun xs H Q=>∃ i j,xs=[.int i,.int j]/\Q (.int (if j > i then j else i)) H):=by
 intro pins s σ H xs us Q I r h
 obtain⟨i,j,rfl,q⟩:=h
 obtain⟨u,w',rfl,⟨t,rfl⟩,⟨t',rfl⟩⟩:=vals2 r
 refine max_two_ints (I.ok.hd hc) fun h' tk k=>⟨_,H,I.kept k,?_,q⟩
 by_cases hj:j > i
 ·rw[if_pos hj,if_pos hj];exact⟨_,rfl⟩
 ·rw[if_neg hj,if_neg hj];exact⟨_,rfl⟩
theorem kO (hc:X.calm=true):bP X (.builtin "min") (fun xs H Q=>∃ i j,xs=[.int i,.int j]/\Q (.int (if j < i then j else i)) H):=by
 intro pins s σ H xs us Q I r h
 obtain⟨i,j,rfl,q⟩:=h
 obtain⟨u,w',rfl,⟨t,rfl⟩,⟨t',rfl⟩⟩:=vals2 r
 refine min_two_ints (I.ok.hd hc) fun h' tk k=>⟨_,H,I.kept k,?_,q⟩
 by_cases hj:j < i
 ·rw[if_pos hj,if_pos hj];exact⟨_,rfl⟩
 ·rw[if_neg hj,if_neg hj];exact⟨_,rfl⟩
theorem lY:bP X (.builtin "ord") (fun xs H Q=>∃ x,xs=[.str x]/\x.length=1/\Q (.int (x.cps.getD 0 0:Nat)) H):=by
 intro pins s σ H xs us Q I r h
 obtain⟨x,rfl,hz,q⟩:=h
 obtain⟨u,rfl,t,rfl⟩:=vals1 r
 exact ord_of_one hz ⟨.int _,H,I.tok _,⟨_,rfl⟩,q⟩
def Ap (K:PySem.W.Frag)(x:V)(H:Hp)(n:Nat):Prop:=
 match x with
 | .str y=>y.length<=sizeLine/\n=y.length
 | .GB y=>y.size<=sizeLine/\n=y.size
 | .ref p=>(∃ xs,BS K H p xs/\n=xs.length)∨∃ xs,Cv K H p xs/\n=xs.length
 | _=>False
theorem dO:bP X (.builtin "len") (fun xs H Q=>∃ x n,xs=[x]/\Ap X.K x H n/\Q (.int n) H):=by
 intro pins s σ H xs us Q I r h
 obtain⟨x,n,rfl,e,q⟩:=h
 obtain⟨u,rfl,rx⟩:=vals1 r
 have hl:=dN
 have hs:sizeLine=16777216:=sizeLine_eq
 cases x with
 | str y=>
  obtain⟨t,rfl⟩:=rx
  obtain⟨hy,e'⟩:y.length<=sizeLine/\n=y.length:=e
  subst e'
  exact len_str (by omega) ⟨.int _,H,I.tok _,⟨_,rfl⟩,q⟩
 | GB y=>
  obtain⟨t,rfl⟩:=rx
  obtain⟨hy,e'⟩:y.size<=sizeLine/\n=y.size:=e
  subst e'
  exact PySem.W.len_bytes (by omega) ⟨.int _,H,I.tok _,⟨_,rfl⟩,q⟩
 | ref p=>
  cases rx
  have e':(∃ xs,BS X.K H p xs/\n=xs.length)∨∃ xs,Cv X.K H p xs/\n=xs.length:=e
  rcases e' with ⟨xs,hx,e'⟩|⟨xs,hx,e'⟩
  ·subst e'
   obtain⟨its,r',pl,hz⟩:=I.list hx
   have hlen:=r'.length
   exact Calls.call_len_list pl.isList (by simp only[List.size_toArray];omega) ⟨.int xs.length,H,I.tok _,⟨_,by simp only[List.size_toArray];rw[hlen]⟩,q⟩
  ·subst e'
   obtain⟨its,r',pl,hz⟩:=I.tuple hx
   have hlen:=r'.length
   exact len_tuple pl (by simp only[List.size_toArray];omega) ⟨.int xs.length,H,I.tok _,⟨_,by simp only[List.size_toArray];rw[hlen]⟩,q⟩
 | _=>exact(show False from e).elim
end
theorem eN.some_of {v:V}{o:Option Value}(r:eN (some v) o):∃ u,o=some u/\RelV v u:=by
 cases o with
 | none=>exact(show False from r).elim
 | some u=>exact⟨u,rfl,r⟩
structure B1 (k:Nat)(A:Around):Prop where
 hd:k < 1000->A.handled=none
 dp:A.depth+3*(k % 1000)+5 < recursionLimit
 un:A.units+16*(k % 1000)+200 < cLine
theorem B1.deeper {k:Nat}{A:Around}(r:B1 (k+1) A)(env:Env)(hk:k % 1000≠999):B1 k (A.deeper env):=
 ⟨fun z=>r.hd (by omega),by have:=r.dp;show A.depth+1+3*(k % 1000)+5 < _;omega,by have:=r.un;show A.units+3+16*(k % 1000)+200 < _;omega⟩
theorem B1.depth {k:Nat}{A:Around}(r:B1 k A):A.depth < recursionLimit:=by have:=r.dp;omega
def kP:TA:=fun _ H Q=>Q [] H
def cz (ta:TE)(tr:TA):TA:=fun σ H Q=>ta σ H fun x H1=>tr σ H1 fun xs H2=>Q (x::xs) H2
section
variable {X:Cx}{e:Expr}{es:List Expr}{te:TE}{t:TA}{pos:Pos}
theorem bx:PA X [] kP:=fun _ _ _ _ H Q I h=>Calls.spliced_nil ⟨[],H,I,.nil,h⟩
theorem aL (ha:PE X e te)(hr:PA X es t)(hs:starEach (e::es) X.env=(false,eval e X.env)::starEach es X.env:=by rfl):PA X (e::es) (cz te t):=by
 intro pos pins s σ H Q I h
 rw[hs]
 show wpAny _ _ (spliced ((false,eval e X.env)::backTo pos (starEach es X.env))) _ _ s
 refine Calls.spliced_cons (Bg (ha pins s σ H _ I h) fun u s1 ⟨x,H1,I1,r1,q1⟩=>?_)
 exact Bg (hr pos pins s1 σ H1 _ I1 q1) fun us s2 ⟨xs,H2,I2,r2,q2⟩=>⟨x::xs,H2,I2,.cons r1 r2,q2⟩
def Aq (t:TA):TE:=fun σ H Q=>t σ H fun xs H1=>xs.length<=sizeLine/\∀ p,H1 p=none->Q (.ref p) (upd H1 p (.tup xs))
def Ar (t:TA):TE:=fun σ H Q=>t σ H fun xs H1=>xs.length<=sizeLine/\∀ p,H1 p=none->Q (.ref p) (upd H1 p (.lst xs))
theorem lZ {x1}(h:PA X es t):PE X (.Tuple es x1 pos) (Aq t):=by
 intro pins s σ H Q I hq
 refine wpAny_Tuple_spliced (Bg (h pos pins s σ H _ I hq) fun us s1 ⟨xs,H1,I1,r,z,q⟩=>⟨by rw[<- r.length];exact z,?_⟩)
 have hf:H1 s1.heap.objs.size=none:=I1.Be.fresh (Nat.le_refl _)
 refine⟨.ref s1.heap.objs.size,upd H1 s1.heap.objs.size (.tup xs),I1.laid (t':=s1.toks) (fun b u e=>Heap.get?_push_of_some _ e) (Nat.le_refl _) ?_,rfl,q _ hf⟩
 exact⟨z,us,r,⟨_,Heap.get?_push_size _ rfl,rfl,_,rfl⟩⟩
theorem l0 (h:PA X es t):PE X (.List es pos) (Ar t):=by
 intro pins s σ H Q I hq
 refine wpAny_List_spliced (Bg (h pos pins s σ H _ I hq) fun us s1 ⟨xs,H1,I1,r,z,q⟩=>⟨by rw[<- r.length];exact z,?_⟩)
 have hf:H1 s1.heap.objs.size=none:=I1.Be.fresh (Nat.le_refl _)
 refine⟨.ref s1.heap.objs.size,upd H1 s1.heap.objs.size (.lst xs),I1.laid (t':=s1.toks) (fun b u e=>Heap.get?_push_of_some _ e) (Nat.le_refl _) ?_,rfl,q _ hf⟩
 exact⟨z,us,0,r,Heap.get?_push_size _ rfl⟩
end
noncomputable abbrev Sp:=List V->Hp->VK->XK->Prop
noncomputable abbrev Ci:=List Env->Hp->Shared->XK->Value->Shared->Prop
structure DX (P:Program)(w:World)(K:PySem.W.Frag)(mg:Str->Option Value)(base:Heap)(A:Around)(outer:List Env)(s:Shared)(H:Hp):Prop where
 frames:A.frames=some outer
 mod:Mod K mg base
 bs:∀ b o,base.get? b=some o->s.heap.get? b=some o/\H b=none
 Fh:base.objs.size<=s.heap.objs.size
 Ce:s.heap.FunFrames base outer
 D9:∀ b∈BZ outer,H b=none
 Be:Bw P w H s.heap
 bare:AllBare s.gens
def CE (outer:List Env)(P:Program)(w:World)(H:Hp)(s:Shared)(Q:VK)(u:Value)(s':Shared):Prop:=
 ∃ v H',s'.os=s.os/\AllBare s'.gens/\Un (BZ outer) [] H H' s.heap s'.heap/\Bw P w H' s'.heap/\RelV v u/\Q v H'
def CR (CX:Ci)(outer:List Env)(P:Program)(w:World)(H:Hp)(s:Shared)(Q:VK)(E:XK)(r:Result)(s':Shared):Prop:=
 match r with
 | .ok (.ret u)=>CE outer P w H s Q u s'
 | .ok _=>False
 | .error e=>CX outer H s E e s'
structure Cp (P:Program)(w:World)(K:PySem.W.Frag)(mg:Str->Option Value)(base:Heap)(CX:Ci)(k:Nat)(f:Addr)(fd:FuncData)(ps:List Str)(sp:Sp):Prop where
 len:∀ vs H Q E,sp vs H Q E->vs.length=ps.length
 run:∀ (A:Around) (outer:List Env) (s:Shared) (H:Hp) (args:Args) (us:List Value) (vs:List V) (Q:VK) (E:XK),B1 k A->DX P w K mg base A outer s H->BindsTo s fd args (ps.zip us)->Vals vs us->sp vs H Q E->
  codeAny (model P w) A (.call (.ref f) args) (CR CX outer P w H s Q E) s
section
variable {X:Cx}{pins:List (Addr×Obj)}{σ:St}{H:Hp}{s s':Shared}
theorem Inv.CT (I:Inv X pins σ H s):DX X.prog X.w X.K X.mg X.base X.A X.stack s H:=
 ⟨I.ok.frames,I.ok.mod,I.bs,Nat.le_trans I.ok.Fh I.sz,I.stack,I.Dg,I.Be,I.bare⟩
theorem Inv.after {Q:VK}{u:Value}(I:Inv X pins σ H s)(h:CE X.stack X.prog X.w H s Q u s'):EP X pins σ Q u s':=by
 obtain⟨v,H',os,bare,un,Be,r,q⟩:=h
 obtain⟨hh,g,d,t,Oe⟩:=s'
 obtain rfl:Oe=s.os:=os
 exact⟨v,H',I.call (h':=hh) (g':=g) (d':=d) (t':=t) (ch:=[]) un Be bare (fun b z=>absurd z (by simp)),r,q⟩
end
def Binds (K:PySem.W.Frag)(fd:FuncData)(ps:List Str)(ds:List Value):Prop:=
 ∀ (s:Shared) (us:List Value),K.In s.heap->(us++ds).length=ps.length->BindsTo s fd ⟨us,[]⟩ (ps.zip (us++ds))
theorem Binds.all {K:PySem.W.Frag}{fd:FuncData}{ps:List Str}(h:∀ us:List Value,us.length=ps.length->bindArgs fd ⟨us,[]⟩=pure (ps.zip us)):Binds K fd ps []:=fun s us _ hl=>by
 rw[List.append_nil] at hl ⊢
 exact .of_eq (h us hl)
def Passes (CX:Ci)(X:Cx)(E:XK):Prop:=∀ (pins:List (Addr×Obj)) (σ:St) (H:Hp) (s:Shared) (e:Value) (s':Shared),Inv X pins σ H s->CX X.stack H s E e s'->X.xe e s'
structure Dh (N P:List Str)(sc:Scope):Prop where
 kind:sc.kind=.function
 co:sc.isCoroutine=false
 gen:sc.isGenerator=false
 nd:N.Nodup
 pre:N.take P.length=P
 par:∀ x∈P,sc.names.lookup x=some .local∨sc.names.lookup x=some .cell
 GN:∀ y∈sc.names,y.2≠.free
theorem eW {kindOf:Str->Option NameKind}{x:Str}:∀ {binds:List (Str×Value)}{m:Str->Option Value},(∀ v,(x,v)∉binds)->bindL kindOf binds m x=m x
 | [],_,_=>rfl
 | (n,v)::r,m,h=>by
  unfold bindL
  rw[eW fun w hw=>h w (List.mem_cons_of_mem _ hw)]
  split
  ·have:x≠n:=by rintro rfl;exact h v List.mem_cons_self
   simp[this]
  ·rfl
theorem eX {kindOf:Str->Option NameKind}{x:Str}:∀ {binds:List (Str×Value)}{m:Str->Option Value},(∀ v,(x,v)∉binds)->bindC kindOf binds m x=m x
 | [],_,_=>rfl
 | (n,v)::r,m,h=>by
  unfold bindC
  rw[eX fun w hw=>h w (List.mem_cons_of_mem _ hw)]
  split
  ·rfl
  ·have:x≠n:=by rintro rfl;exact h v List.mem_cons_self
   simp[this]
theorem eY {kindOf:Str->Option NameKind}{x:Str}{v:Value}:∀ {P:List Str}{vs:List Value}{i:Nat}{m:Str->Option Value},P.Nodup->P[i]? = some x->vs[i]? = some v->kindOf x=some .local->
  bindL kindOf (P.zip vs) m x=some v
 | [],_,_,_,_,h,_,_=>by simp at h
 | _::_,[],_,_,_,_,h,_=>by simp at h
 | p::P,w::vs,0,m,nd,h1,h2,hk=>by
  simp at h1 h2;subst h1;subst h2
  show bindL kindOf ((p,w)::P.zip vs) m p=_
  unfold bindL
  rw[eW fun v hv=>(List.nodup_cons.mp nd).1 (List.of_mem_zip hv).1,if_pos hk]
  simp
 | p::P,w::vs,i+1,m,nd,h1,h2,hk=>by
  show bindL kindOf ((p,w)::P.zip vs) m x=_
  unfold bindL
  exact eY (i:=i) (List.nodup_cons.mp nd).2 (by simpa using h1) (by simpa using h2) hk
theorem eZ {kindOf:Str->Option NameKind}{x:Str}{v:Value}:∀ {P:List Str}{vs:List Value}{i:Nat}{m:Str->Option Value},P.Nodup->P[i]? = some x->vs[i]? = some v->kindOf x≠some .local->
  bindC kindOf (P.zip vs) m x=some v
 | [],_,_,_,_,h,_,_=>by simp at h
 | _::_,[],_,_,_,_,h,_=>by simp at h
 | p::P,w::vs,0,m,nd,h1,h2,hk=>by
  simp at h1 h2;subst h1;subst h2
  show bindC kindOf ((p,w)::P.zip vs) m p=_
  unfold bindC
  rw[eX fun v hv=>(List.nodup_cons.mp nd).1 (List.of_mem_zip hv).1,if_neg hk]
  simp
 | p::P,w::vs,i+1,m,nd,h1,h2,hk=>by
  show bindC kindOf ((p,w)::P.zip vs) m x=_
  unfold bindC
  exact eZ (i:=i) (List.nodup_cons.mp nd).2 (by simpa using h1) (by simpa using h2) hk
noncomputable def start (N:List Str)(vs:List V):St:=vs.map some++List.replicate (N.length - vs.length) none
noncomputable def bX (CX:Ci)(P:Program)(w:World)(K:PySem.W.Frag)(mg:Str->Option Value)(base:Heap)(N:List Str)(qual:Str)(scope:Scope)(f:Addr)(cd:Value)(A:Around)(outer:List Env)(s:Shared)(H:Hp)(E:XK):Cx where
 prog:=P
 w:=w
 K:=K
 mg:=mg
 base:=base
 A:=A.deeper (envOfC qual scope s.heap.objs.size f cd)
 N:=N
 BA:=s
 De:=H
 env:=envOfC qual scope s.heap.objs.size f cd
 outer:=outer
 stack:=envOfC qual scope s.heap.objs.size f cd::outer
 ex:=[]
 calm:=A.handled.isNone
 fn:=fun _=>true
 pn:=[]
 xe:=fun e s'=>wpAny (model P w) (A.deeper (envOfC qual scope s.heap.objs.size f cd)) (leaving (envOfC qual scope s.heap.objs.size f cd) e) (fun _ Fw=>CX outer H s E e Fw) (fun e' Fw=>CX outer H s E e' Fw) s'
theorem gP {sc:Scope}{n:Nat}{x:Str}(h:sc.names.lookup x=some .cell):∃ c,(cellsFrom n sc.names []).lookup x=some c:=by
 have q:=PySem.W.cellsFrom_some sc.names n [] (.inl h)
 exact Option.isSome_iff_exists.mp q
theorem kQ {CX:Ci}{P:Program}{w:World}{K:PySem.W.Frag}{mg:Str->Option Value}{base:Heap}{N ps:List Str}{qual:Str}{scope:Scope}{f:Addr}{cd:Value}{A:Around}{outer:List Env}{s s1:Shared}{H:Hp}{E:XK}{us:List Value}{vs:List V}
  (S:Dh N ps scope) (e0:DX P w K mg base A outer s H) (hl:vs.length=ps.length) (r:Vals vs us)
  (x:InCallC s s.heap.objs.size (bindL (envOfC qual scope s.heap.objs.size f cd).kindOf (ps.zip us) fun _=>none) (cellsFrom (s.heap.objs.size+1) scope.names []) (bindC (envOfC qual scope s.heap.objs.size f cd).kindOf (ps.zip us) fun _=>none) s1) :
  Inv (bX CX P w K mg base N qual scope f cd A outer s H E) [] (start N vs) H s1:=by
 have Fx:ps.length<=N.length:=by have:=congrArg List.length S.pre;rw[List.length_take] at this;omega
 obtain⟨h1,tk,rfl,hk⟩:=x.done
 have IX:∀ b:Addr,b∉(bX CX P w K mg base N qual scope f cd A outer s H E).ex:=fun b z=>absurd (show b∈([]:List Addr) from z) (by simp)
 refine⟨⟨e0.mod,S.kind,rfl,rfl,Nat.le_refl _,fun y z c h1 h2=>?_,fun y hy=>?_,fun y c _ h=>?_,fun h=>Option.isNone_iff_eq_none.mp h,Around.frames_deeper e0.frames,.inr ⟨rfl,rfl⟩,fun b z=>absurd z (IX b),e0.bs,e0.Fh,fun b _ _=>IX b,fun b z=>absurd z (IX b),e0.Ce,e0.D9⟩,
  rfl,e0.bare,Un.kept hk,⟨_,x.toInCall.ns,fun i y v h1 h2 h3=>?_⟩,fun y c h=>⟨_,x.cell y c h⟩,e0.Be.fresh (Nat.le_refl _),fun y c h=>?_,fun p hp=>absurd (show p∈([]:List (Addr×Obj)) from hp) (by simp),e0.Be.kept hk,?_⟩
 ·exact name_of_addr x.apart (PySem.mem_of_lookup h1) (PySem.mem_of_lookup h2)
 ·have hy:scope.names.lookup y=some .cell∨scope.names.lookup y=some .free:=hy
  rcases hy with hy|hy
  ·exact gP hy
  ·exact absurd rfl (S.GN _ (PySem.mem_of_lookup hy))
 ·exact Nat.le_of_lt (x.above y c (PySem.mem_of_lookup h))
 ·have hi:i < vs.length:=by
   unfold start at h2
   by_cases hi:i < vs.length
   ·exact hi
   ·rw[List.getElem?_append_right (by simpa using hi)] at h2
    rw[List.getElem?_replicate] at h2
    split at h2<;>cases h2
  have ha:vs[i]? = some v:=by
   unfold start at h2
   rw[List.getElem?_append_left (by simpa using hi),List.getElem?_map] at h2
   cases e:vs[i]? with
   | none=>rw[e] at h2;cases h2
   | some a=>rw[e] at h2;cases h2;rfl
  obtain⟨u,hu,rv⟩:=r.get ha
  have hp:ps[i]? = some y:=by
   rw[<- S.pre,List.getElem?_take_of_lt (by omega)];exact h1
  have MF:ps.Nodup:=by rw[<- S.pre];exact S.nd.sublist (List.take_sublist _ _)
  refine⟨u,rv,?_⟩
  rcases S.par y (List.mem_of_getElem? hp) with k|k
  ·exact .inl ⟨k,eY MF hp hu k⟩
  ·obtain⟨c,e⟩:=gP (n:=s.heap.objs.size+1) k
   refine .inr ⟨.inl k,c,e,?_⟩
   have q:=x.cell y c e
   rw[eZ MF hp hu (by show scope.names.lookup y≠_;rw[k];decide)] at q
   exact q
 ·exact e0.Be.fresh (Nat.le_of_lt (x.above y c (PySem.mem_of_lookup h)))
 ·unfold start
  show _=N.length
  rw[List.length_append,List.length_map,List.length_replicate]
  omega
theorem rM {CX:Ci}{P:Program}{w:World}{K:PySem.W.Frag}{mg:Str->Option Value}{base:Heap}{k:Nat}{f:Addr}{name qual:Str}{params:Arguments}{body:List Stmt}{scope:Scope}{dV kV doc pm CU ct oc:Value}{an od:Option Addr}
  {Fy:Array (Option Value)}{N ps:List Str}{sp:Sp} (lk:K.lookup f=some ⟨oc,od,.func (PySem.W.fnOf name qual params body scope dV kV doc pm an CU ct),Fy⟩) (ES:PySem.W.codeIn K CU qual=true) (S:Dh N ps scope)
  (Of:k % 1000≠999) (len:∀ vs H Q E,sp vs H Q E->vs.length=ps.length)
  (IY:∀ (A:Around) (outer:List Env) (s:Shared) (H:Hp) (vs:List V) (Q:VK) (E:XK),B1 k (A.deeper (envOfC qual scope s.heap.objs.size f CU))->sp vs H Q E->
   ∃ t,DD (bX CX P w K mg base N qual scope f CU A outer s H E) body t/\t {nx:=fun _ H'=>Q .A8 H',rt:=Q} (start N vs) H) :
  Cp P w K mg base CX (k+1) f (PySem.W.fnOf name qual params body scope dV kV doc pm an CU ct) ps sp:=by
 refine⟨len,fun A outer s H args us vs Q E hr e0 hb r DA=>?_⟩
 have hl:=len _ _ _ _ DA
 have KX:K.In s.heap:=e0.mod.HX.keeps fun b o e=>(e0.bs b o e).1
 have lim:s.heap.NoLimit:=e0.mod.nolimit.keeps fun b o e=>(e0.bs b o e).1
 have IZ:∀ y∈ps.zip us,scope.names.lookup y.1=some .local∨(scope.names.lookup y.1=some .cell/\((cellsFrom (s.heap.objs.size+1) scope.names []).lookup y.1).isSome=true):=fun ⟨n,v⟩ hy=>by
  rcases S.par n (List.of_mem_zip hy).1 with q|q
  ·exact .inl q
  ·exact .inr ⟨q,PySem.W.cellsFrom_some _ _ _ (.inl q)⟩
 refine codeAny_call_function hr.depth (KX _ _ lk) rfl S.co S.gen rfl (PySem.W.codeRec_of KX ES) (hb _ _ _ _ ?_)
 refine wpAny_newFunctionEnv_cells S.kind IZ fun env he s1 x=>?_
 subst he
 refine⟨lim.keeps x.toInCall.keep,codeAny_func ?_⟩
 obtain⟨t,ht,hq⟩:=IY A outer s H vs Q E (hr.deeper _ Of) DA
 have I:Inv (bX CX P w K mg base N qual scope f CU A outer s H E) [] (start N vs) H s1:=kQ S e0 hl r x
 refine wpAny_mono (ht [] s1 (start N vs) H _ I hq) (fun fl s' hs=>?_) fun e s' hs=>hs
 have fin:∀ {Bc:St}{H':Hp}{v:V}{u:Value},Inv (bX CX P w K mg base N qual scope f CU A outer s H E) [] Bc H' s'->RelV v u->Q v H'->CE outer P w H s Q u s':=
  fun {Bc H' v u} J rv q=>⟨v,H',J.os,J.bare,J.base,J.Be,rv,q⟩
 cases fl with
 | ret u=>
  obtain⟨v,Bc,H',J,rv,q⟩:=hs
  exact fin J rv q
 | next=>
  obtain⟨Bc,H',J,q⟩:=hs
  exact fin (v:=V.A8) (u:=Value.none) J rfl q
 | brk=>
  obtain⟨_,_,_,q⟩:=hs
  exact False.elim q
 | cont=>
  obtain⟨_,_,_,q⟩:=hs
  exact False.elim q
section
variable {X:Cx}{x:Str}{p pos:Pos}{e:Expr}{es:List Expr}{t:TA}{id T:String}{r:List V->Hp->VK->Prop}
def K1 (r:List V->Hp->VK->Prop)(t:TA):TE:=fun σ H Q=>t σ H fun vs H1=>r vs H1 Q
theorem gQ (hc:bP X (.builtin id) r)(hg:Gl X x)(hm:X.mg x=none)(hv:bootBuiltins x=some (.builtin id))(ha:PA X (e::es) t)(hn:x≠"__name__":=by decide) (K2:(x == ("__debug__" : Str))=false:=by decide)
  (he:starEach (e::es) X.env=(false,eval e X.env)::starEach es X.env:=by rfl) (Fx:(backTo pos (starEach es X.env)).any (·.1)=false:=by rfl):PE X (.Call (.Name x p) (e::es) [] pos) (K1 r t):=by
 intro pins s σ H Q I h
 refine wpAny_Call_Name_kw (cE I hg hm hv ?_ hn K2)
 exact PyProof.Rows.callWith_builtin1 (Bg (ha pos pins s σ H _ I h) fun us s1 ⟨vs,H1,I1,r1,q1⟩=>hc pins s1 σ H1 vs us Q I1 r1 q1) he Fx
theorem kR (hc:bP X (.type T) r)(hg:Gl X x)(hm:X.mg x=none)(hv:bootBuiltins x=some (.type T))(ha:PA X (e::es) t)(hn:x≠"__name__":=by decide) (K2:(x == ("__debug__" : Str))=false:=by decide)
  (he:starEach (e::es) X.env=(false,eval e X.env)::starEach es X.env:=by rfl) (Fx:(backTo pos (starEach es X.env)).any (·.1)=false:=by rfl):PE X (.Call (.Name x p) (e::es) [] pos) (K1 r t):=by
 intro pins s σ H Q I h
 refine wpAny_Call_Name_kw (cE I hg hm hv ?_ hn K2)
 exact PyProof.Rows.callWith_type1 (Bg (ha pos pins s σ H _ I h) fun us s1 ⟨vs,H1,I1,r1,q1⟩=>hc pins s1 σ H1 vs us Q I1 r1 q1) he Fx
end
end L2
namespace HT
open PySem PyProof.Rows
section
variable {prog:Program}{w:World}{A:Around}{E:Value->Shared->Prop}{s:Shared}
noncomputable def DB (n d:Nat):Option Int->Nat
 | none=>d
 | some v=>if v < 0 then (v+(n:Int)).toNat else min v.toNat n
end
end HT
namespace L2
open PySem PySem.Spec PyProof.Rows
noncomputable abbrev TO:=St->Hp->(Option Int->Hp->Prop)->Prop
def PO (X:Cx)(e:Option Expr)(t:TO):Prop:=
 ∀ (pins:List (Addr×Obj)) (s:Shared) (σ:St) (H:Hp) (Q:Option Int->Hp->Prop),Inv X pins σ H s->t σ H Q->
  wpAny (model X.prog X.w) X.A (evalPart e X.env) (fun u s'=>∃ o H',Inv X pins σ H' s'/\IsPart u o/\Q o H') X.xe s
noncomputable def p7:TO:=fun _ H Q=>Q none H
noncomputable def xa (t:TE):TO:=fun σ H Q=>t σ H fun x H1=>∃ i,x=.int i/\Q (some i) H1
section
variable {X:Cx}{e:Expr}{te:TE}{lo hi:Option Expr}{tl th:TO}{pos p2:Pos}
theorem p8:PO X none p7:=by
 intro pins s σ H Q I h
 rw[evalPart_none]
 exact wpAny_pure ⟨none,H,I,.none,h⟩
theorem p9 (h:PE X e te):PO X (some e) (xa te):=by
 intro pins s σ H Q I hw
 rw[evalPart_some]
 refine Bg (h pins s σ H _ I hw) fun u s1 ⟨x,H1,I1,r1,q1⟩=>?_
 obtain⟨i,rfl,q⟩:=q1
 obtain⟨t,rfl⟩:=r1
 exact⟨some i,H1,I1,.int i t,q⟩
def J8 (X:Cx)(r:V->Option Int->Option Int->Hp->VK->Prop):Prop:=
 ∀ (pins:List (Addr×Obj)) (s:Shared) (σ:St) (H:Hp) (x:V) (v vl vu:Value) (lo hi:Option Int) (sl:Addr) (Q:VK),Inv X pins σ H s->RelV x v->s.heap.IsSliceOf sl vl vu .none->IsPart vl lo->IsPart vu hi->r x lo hi H Q->
  ∃ T id,typeLookup (.type T) "__getitem__" = pure (some (.builtin id))/\s.TypeIs v T/\wpAny (model X.prog X.w) X.A (getItem v (.ref sl)) (EP X pins σ Q) X.xe s
def Og (r:V->Option Int->Option Int->Hp->VK->Prop)(te:TE)(tl th:TO):TE:=fun σ H Q=>te σ H fun x H1=>tl σ H1 fun l H2=>th σ H2 fun u H3=>r x l u H3 Q
theorem gR {r:V->Option Int->Option Int->Hp->VK->Prop}(hr:J8 X r)(he:PE X e te)(hl:PO X lo tl)(hu:PO X hi th):PE X (.Subscript e (.Slice lo hi none p2) pos) (Og r te tl th):=by
 intro pins s σ H Q I h
 refine Subscript_ (Bg (he pins s σ H _ I h) fun v s1 ⟨x,H1,I1,r1,q1⟩=>?_)
 refine wpAny_Slice (Bg (hl pins s1 σ H1 _ I1 q1) fun vl s2 ⟨l,H2,I2,pl,q2⟩=>Bg (hu pins s2 σ H2 _ I2 q2) fun vu s3 ⟨u,H3,I3,pu,q3⟩=>?_)
 rw[evalPart_none]
 refine wpAny_pure ?_
 have I4:Inv X pins σ H3 {s3 with heap:=s3.heap.push {cls:=.type "slice",data:=.fields #[vl,vu,.none]}}:=I3.kept (t':=s3.toks) fun b ob q=>Heap.get?_push_of_some _ q
 obtain⟨T,id,hT,ht,hg⟩:=hr pins {s3 with heap:=s3.heap.push {cls:=.type "slice",data:=.fields #[vl,vu,.none]}} σ H3 x v vl vu l u s3.heap.objs.size Q I4 r1 (Heap.IsSliceOf.new ..) pl pu q3
 show wpAny (model X.prog X.w) X.A (subscriptTail e (.Slice lo hi none p2) v (.ref s3.heap.objs.size)) (EP X pins σ Q) X.xe {s3 with heap:=s3.heap.push {cls:=.type "slice",data:=.fields #[vl,vu,.none]}}
 exact tail_any (ops:=[.ref s3.heap.objs.size,v]) ht hT hg (by with_unfolding_all rfl)
noncomputable def kS (xs:List V)(lo hi:Option Int):List V:=(xs.drop (HT.DB xs.length 0 lo)).take (HT.DB xs.length xs.length hi - HT.DB xs.length 0 lo)
theorem gS (xs:List V)(lo hi:Option Int):(kS xs lo hi).length<=xs.length:=by
 unfold kS
 rw[List.length_take,List.length_drop]
 omega
end
noncomputable def Ge (n:Nat)(i:Int):Option Nat:=if 0<=i then (if i < n then some i.toNat else none) else if -(n:Int)<=i then some (i+n).toNat else none
noncomputable def CL {α:Type}(xs:List α)(i:Int):Option α:=(Ge xs.length i).bind fun j=>xs[j]?
theorem qa {n:Nat}{i:Int}{j:Nat}(h:Ge n i=some j):seqIndex? i n=some j/\j < n/\-(n:Int)<=i/\i < n:=by
 unfold Ge at h
 by_cases h0:0<=i
 ·rw[if_pos h0] at h
  by_cases h1:i < n
  ·rw[if_pos h1] at h
   have e:i.toNat=j:=Option.some.inj h
   exact⟨by rw[seqIndex_of h0 h1,e],by omega,by omega,h1⟩
  ·rw[if_neg h1] at h;cases h
 ·rw[if_neg h0] at h
  by_cases h1 : -(n:Int)<=i
  ·rw[if_pos h1] at h
   have e:(i+n).toNat=j:=Option.some.inj h
   exact⟨by rw[seqIndex_neg (by omega) h1,e],by omega,h1,by omega⟩
  ·rw[if_neg h1] at h;cases h
theorem fR {α:Type}{xs:List α}{i:Int}{v:α}(h:CL xs i=some v):∃ j,seqIndex? i xs.length=some j/\xs[j]? = some v/\j < xs.length/\-(xs.length:Int)<=i/\i < xs.length:=by
 unfold CL at h
 cases e:Ge xs.length i with
 | none=>rw[e] at h;cases h
 | some j=>
  rw[e] at h
  obtain⟨h1,h2,h3,h4⟩:=qa e
  exact⟨j,h1,h,h2,h3,h4⟩
def qb (b:Expr):Prop:=∀ o i,subscripted b false o i=operate [o,i] (getItem o i)
def Fi (X:Cx)(r:R2):Prop:=
 ∀ (value slice:Expr) (pins:List (Addr×Obj)) (s:Shared) (σ:St) (H:Hp) (x y:V) (v u:Value) (Q:VK),Inv X pins σ H s->RelV x v->RelV y u->r x y H Q->
  subscripted slice false v u=operate [v,u] (getItem v u)->wpAny (model X.prog X.w) X.A (subscriptTail value slice v u) (EP X pins σ Q) X.xe s
def MG (X:Cx)(id:String)(r:V->List V->Hp->VK->Prop):Prop:=
 ∀ (pins:List (Addr×Obj)) (s:Shared) (σ:St) (H:Hp) (x:V) (xs:List V) (v:Value) (us:List Value) (Q:VK),Inv X pins σ H s->RelV x v->Vals xs us->r x xs H Q->
  wpAny (model X.prog X.w) X.A (call (.builtin id) (v::us)) (EP X pins σ Q) X.xe s
section
variable {X:Cx}{a b:Expr}{ta tb:TE}{pos:Pos}
theorem Fi.or {r r':R2}(h:Fi X r)(h':Fi X r'):Fi X (fun x y H Q=>r x y H Q∨r' x y H Q):=by
 intro value slice pins s σ H x y v u Q I rx ry q hs
 rcases q with q|q
 ·exact h value slice pins s σ H x y v u Q I rx ry q hs
 ·exact h' value slice pins s σ H x y v u Q I rx ry q hs
theorem rN {r:R2}(hr:Fi X r)(ha:PE X a ta)(hb:PE X b tb)(hs:qb b):PE X (.Subscript a b pos) (J6 r ta tb):=by
 intro pins s σ H Q I h
 exact Subscript_ (uQ ha hb I h fun v u s2 x y H2 I2 rx ry q=>hr a b pins s2 σ H2 x y v u Q I2 rx ry q (hs _ _))
noncomputable def xb (K:PySem.W.Frag):R2:=fun x y H Q=>∃ p xs i v,x=.ref p/\y=.int i/\BS K H p xs/\CL xs i=some v/\Q v H
noncomputable def xc (K:PySem.W.Frag):R2:=fun x y H Q=>∃ p xs i v,x=.ref p/\y=.int i/\Cv K H p xs/\CL xs i=some v/\Q v H
noncomputable def xg:R2:=fun x y H Q=>∃ z i c,x=.str z/\y=.int i/\z.length<=sizeLine/\CL z.cps.toList i=some c/\Q (.str ⟨#[c]⟩) H
theorem qc:Fi X (xb X.K):=by
 intro value slice pins s σ H x y v u Q I rx ry h hs
 obtain⟨p,xs,i,z,rfl,rfl,hq,he,q⟩:=h
 cases rx
 obtain⟨t,rfl⟩:=ry
 obtain⟨its,r,pl,hz⟩:=I.list hq
 obtain⟨j,h1,h2,h3,h4,h5⟩:=fR he
 obtain⟨w,ew,Fz⟩:=r.get h2
 have hl:=r.length
 have hn:=dN
 have fin:EP X pins σ Q w s:=⟨z,H,I,Fz,q⟩
 by_cases h0:0<=i
 ·have hj:i.toNat=j:=by
   rw[seqIndex_of h0 h5] at h1
   exact Option.some.inj h1
  exact item_listR pl.isList h0 (by omega) (by rw[hj];simpa using ew) fin hs
 ·have hj:(i+(its.toArray.size:Int)).toNat=j:=by
   rw[seqIndex_neg (by omega) h4] at h1
   rw[List.size_toArray,<- hl]
   exact Option.some.inj h1
  exact subscriptTail_builtinR (x:=w) pl.isList.typeIs slot_list_getitem.lookup
   (wpAny_getItem_list_neg (Q:=fun r s'=>r=w/\EP X pins σ Q r s') pl.isList (by omega) (by rw[List.size_toArray]<;>omega) (by omega) (by rw[hj];simpa using ew) ⟨rfl,fin⟩) hs
theorem uZ:Fi X (xc X.K):=by
 intro value slice pins s σ H x y v u Q I rx ry h hs
 obtain⟨p,xs,i,z,rfl,rfl,hq,he,q⟩:=h
 cases rx
 obtain⟨t,rfl⟩:=ry
 obtain⟨its,r,pl,hz⟩:=I.tuple hq
 obtain⟨j,h1,h2,h3,h4,h5⟩:=fR he
 obtain⟨w,ew,Fz⟩:=r.get h2
 have hl:=r.length
 have hn:=dN
 have fin:EP X pins σ Q w s:=⟨z,H,I,Fz,q⟩
 exact subscriptTail_builtinR (x:=w) pl.typeIs slot_tuple_getitem.lookup
  (getItem_tuple (j:=j) (Q:=fun r s'=>r=w/\EP X pins σ Q r s') pl (by omega) (by omega) (by rw[List.size_toArray,<- hl];exact h1) (by simpa using ew) ⟨rfl,fin⟩) hs
theorem u0:Fi X xg:=by
 intro value slice pins s σ H x y v u Q I rx ry h hs
 obtain⟨z,i,c,rfl,rfl,hz,he,q⟩:=h
 obtain⟨t,rfl⟩:=rx
 obtain⟨t',rfl⟩:=ry
 obtain⟨j,h1,h2,h3,h4,h5⟩:=fR he
 have hl:z.cps.toList.length=z.length:=by simp[Str.length]
 rw[hl] at h1 h4 h5
 have hn:=dN
 exact tail_any (typeIs_str s z t) slot_str_getitem.lookup (getItem_str (c:=c) (by
  have e1:decide (i < -(2 ^ 63:Int))=false:=decide_eq_false (by omega)
  have e2:decide (i >= 2 ^ 63)=false:=decide_eq_false (by omega)
  rw[e1,e2,Bool.or_false]) (by rw[h1];simpa using h2) ⟨.str ⟨#[c]⟩,H,I.tok _,⟨_,rfl⟩,q⟩) hs
noncomputable def Oh (K:PySem.W.Frag):R2:=fun x y H Q=>xb K x y H Q∨xc K x y H Q∨xg x y H Q
theorem u3:Fi X (Oh X.K):=qc.or (uZ.or u0)
theorem fS (lo hi:Option Int)(n:Nat):(sliceBounds lo hi none n).1=((HT.DB n 0 lo:Nat):Int)/\(sliceBounds lo hi none n).2.1=((HT.DB n n hi:Nat):Int)/\(sliceBounds lo hi none n).2.2=1:=by
 refine⟨?_,?_,rfl⟩
 ·cases lo with
  | none=>simp[sliceBounds,HT.DB]
  | some i=>
   simp only[sliceBounds,HT.DB,Option.getD_none,show (1:Int) > 0 by decide,if_true]
   by_cases h:i < 0
   ·simp only[h,if_true]<;>omega
   ·simp only[h,if_false]<;>omega
 ·cases hi with
  | none=>simp[sliceBounds,HT.DB]
  | some i=>
   simp only[sliceBounds,HT.DB,Option.getD_none,show (1:Int) > 0 by decide,if_true]
   by_cases h:i < 0
   ·simp only[h,if_true]<;>omega
   ·simp only[h,if_false]<;>omega
theorem eO (its:List Value)(lo hi:Option Int):slicePick its.toArray lo hi none=((its.drop (HT.DB its.length 0 lo)).take (HT.DB its.length its.length hi - HT.DB its.length 0 lo)).toArray:=by
 obtain⟨h1,h2,h3⟩:=fS lo hi its.toArray.size
 unfold slicePick
 rw[h1,h2,h3]
 simp only[sliceRange_one,pick_run,List.size_toArray]<;>rfl
def As (K:PySem.W.Frag):V->Option Int->Option Int->Hp->VK->Prop:=fun x lo hi H Q=>∃ a xs,x=.ref a/\BS K H a xs/\∀ p,H p=none->Q (.ref p) (upd H p (.lst (kS xs lo hi)))
theorem jA:J8 X (As X.K):=by
 intro pins s σ H x v vl vu lo hi sl Q I rx hs pl pu h
 obtain⟨a,xs,rfl,hx,q⟩:=h
 cases rx
 obtain⟨its,r,ht,hz⟩:=I.list hx
 have hlen:=r.length
 refine⟨"list",_,slot_list_getitem.lookup,ht.isList.typeIs,?_⟩
 refine wpAny_getItem_list_slice ht.isList hs pl pu .none (by simp) ?_ (by rw[List.size_toArray]<;>omega)
 rw[eO,<- hlen]
 refine⟨.ref s.heap.objs.size,_,I.laid (t':=s.toks) (o:=.lst (kS xs lo hi)) (fun b ob q=>Heap.get?_push_of_some _ q) (Nat.le_refl _) ?_,rfl,q _ (I.Be.fresh (Nat.le_refl _))⟩
 exact⟨Nat.le_trans (gS xs lo hi) hz,_,0,(r.drop (HT.DB xs.length 0 lo)).take (HT.DB xs.length xs.length hi - HT.DB xs.length 0 lo),Heap.get?_push_size _ rfl⟩
theorem eP:bP X (.type "tuple") (fun xs H Q=>∃ p ys,xs=[.ref p]/\((BS X.K H p ys/\∀ l,H l=none->Q (.ref l) (upd H l (.tup ys)))∨(Cv X.K H p ys/\Q (.ref p) H))):=by
 intro pins s σ H xs us Q I r h
 obtain⟨p,ys,rfl,h⟩:=h
 obtain⟨u,rfl,rx⟩:=vals1 r
 cases rx
 rcases h with ⟨hq,q⟩|⟨hq,q⟩
 ·obtain⟨its,r',pl,hz⟩:=I.list hq
  have hlen:=r'.length
  refine call_tuple_list pl.isList (fun h' kp=>?_) (by simp only[List.size_toArray]<;>omega)
  have I1:Inv X pins σ H {s with heap:=h'}:=I.kept (t':=s.toks) kp
  have I2:Inv X pins σ (upd H h'.objs.size (.tup ys)) {s with heap:=h'.push {cls:=.type "tuple",data:=.seq its.toArray}}:=
   I1.laid (t':=s.toks) (fun b o e=>Heap.get?_push_of_some _ e) (Nat.le_refl _) (show aM X.prog X.w _ _ _ (.tup ys) from ⟨hz,its,r',IsTup.new _ _⟩)
  exact⟨.ref h'.objs.size,_,I2,rfl,q _ (I1.Be.fresh (Nat.le_refl _))⟩
 ·obtain⟨its,r',pl,hz⟩:=I.tuple hq
  exact call_tuple_same pl ⟨.ref p,H,I,rfl,q⟩
def MH (K:PySem.W.Frag)(T:String)(x:V)(H:Hp):Prop:=match x with
 | .str _=>T = "str"
 | .int _=>T = "int"
 | .ref p=>(T = "list"/\∃ xs,BS K H p xs)∨(T = "tuple"/\∃ o,K.lookup p=some o/\o.cls=.type "tuple"/\o.dict=none)∨
   (T = "dict"/\((∃ kvs,H p=some (.dK kvs))∨∃ kvs,H p=some (.dT kvs)))∨(T = "set"/\∃ S n,H p=some (.set S n))
 | _=>False
theorem u4 {pins:List (Addr×Obj)}{σ:St}{H:Hp}{s:Shared}{T:String}{x:V}{v:Value}(I:Inv X pins σ H s)(r:RelV x v)(ty:MH X.K T x H) :
  s.TypeIs v T/\∀ a,v=.ref a->∃ ob,s.heap.get? a=some ob/\ob.dict=none:=by
 cases x with
 | str z=>
  obtain⟨t,rfl⟩:=r
  cases (show T = "str" from ty)
  exact⟨typeIs_str s z t,fun _ e=>nomatch e⟩
 | int i=>
  obtain⟨t,rfl⟩:=r
  cases (show T = "int" from ty)
  exact⟨typeIs_int s i t,fun _ e=>nomatch e⟩
 | ref p=>
  cases r
  rcases ty with ⟨rfl,xs,hq⟩|⟨rfl,o,hk,hc,hd⟩|⟨rfl,hk⟩|⟨rfl,S,n,hk⟩
  ·obtain⟨its,_,pl,_⟩:=I.list hq
   refine⟨pl.isList.typeIs,fun a e=>?_⟩
   cases e
   obtain⟨o,n,e,c,hd,_⟩:=pl
   exact⟨o,e,hd⟩
  ·refine⟨⟨o,I.Df p o hk,hc⟩,fun a e=>?_⟩
   cases e
   exact⟨o,I.Df _ o hk,hd⟩
  ·have z:∃ o,s.heap.get? p=some o/\o.ExactDict:=by
    rcases hk with ⟨kvs,hk⟩|⟨kvs,hk⟩
    ·obtain⟨_,_,_,_,o,_,_,e,ex,_⟩:=I.Be p _ hk
     exact⟨o,e,ex⟩
    ·obtain⟨_,_,_,_,o,_,_,e,ex,_⟩:=I.Be p _ hk
     exact⟨o,e,ex⟩
   obtain⟨o,e,ex⟩:=z
   refine⟨⟨o,e,ex.1⟩,fun a e2=>?_⟩
   cases e2
   exact⟨o,e,ex.2.1⟩
  ·obtain⟨o,_,_,_,e,ex,_⟩:=I.Be p _ hk
   refine⟨⟨o,e,ex.1⟩,fun a e2=>?_⟩
   cases e2
   exact⟨o,e,ex.2.1⟩
 | _=>exact False.elim ty
def MI (K:PySem.W.Frag)(T:String)(r:V->List V->Hp->VK->Prop)(to:TE)(t:TA):TE:=fun σ H Q=>to σ H fun x H1=>MH K T x H1/\t σ H1 fun xs H2=>r x xs H2 Q
variable {o e:Expr}{es:List Expr}{to:TE}{t:TA}{name:Str}{apos Bo:Pos}{T id:String}{r:V->List V->Hp->VK->Prop}
theorem gU (pa:PlainAttrs T)(slot:Slot T name id)(Ib:typeOf (.builtin id)=pure (.type "method_descriptor")) (hm:MG X id r) (ho:PE X o to) (ha:PA X (e::es) t)
  (DH:attributeBase o name X.env (eval o X.env)=eval o X.env:=by rfl)
  (Di:((backTo Bo (starEach (e::es) X.env)).all (fun x=>!x.1)&&(backToKw Bo (keywordEach [] X.env)).all (fun x=>x.1.isSome)
  &&decide ((e::es).length+([]:List Keyword).length+(if ([]:List Keyword).isEmpty then 0 else 1) < 30))=true:=by rfl)
  (I0:(apos.endLine == Bo.line)=true:=by rfl) (hs:starEach (e::es) X.env=(false,eval e X.env)::starEach es X.env:=by rfl) (GO:(backTo Bo (starEach es X.env)).any (·.1)=false:=by rfl) :
  PE X (.Call (.Attribute o name apos) (e::es) [] Bo) (MI X.K T r to t):=by
 intro pins s σ H Q I h
 refine wpAny_Call_method_late DH Di I0 rfl (Bg (ho pins s σ H _ I h) fun v s1 ⟨x,H1,I1,r1,ty,q1⟩=>?_)
 obtain⟨h1,h2⟩:=u4 I1 r1 ty
 refine⟨T,id,pa,slot,Ib,h1,h2,?_⟩
 have hA:=ha Bo pins s1 σ H1 _ I1 q1
 rw[hs] at hA ⊢
 refine Calls.callWith_builtin (by show (false||(backTo Bo (starEach es X.env)).any (·.1))=false;rw[GO]<;>rfl) (Calls.evalArgs_plain ?_)
 exact Bg hA fun us s2 ⟨vs,H2,I2,r2,q2⟩=>hm pins s2 σ H2 x vs v us Q I2 r1 r2 q2
end
def MJ (X:Cx)(id:String)(r:V->List V->Hp->VK->Prop):Prop:=
 ∀ (pins:List (Addr×Obj)) (s:Shared) (σ:St) (H:Hp) (x:V) (xs:List V) (v:Value) (us:List Value) (Q:VK),Inv X pins σ H s->RelV x v->Vals xs us->r x xs H Q->
  wpAny (model X.prog X.w) X.A (call (.builtin id) (v::us)) (EP X pins σ Q) X.xe s
theorem Vals.one:∀ {x:V}{us:List Value},Vals [x] us->∃ u,us=[u]/\RelV x u
 | _,_,.cons r .nil=>⟨_,rfl,r⟩
theorem Vals.rep {xs:List V}{us:List Value}(h:Vals xs us):∀ k:Nat,Vals (List.replicate k xs).flatten (List.replicate k us).flatten
 | 0=>.nil
 | k+1=>by
  rw[List.replicate_succ,List.replicate_succ,List.flatten_cons,List.flatten_cons]
  exact Vals.append h (Vals.rep h k)
theorem foldl_rep (its:List Value):∀ (k:Nat) (acc:List Value),
  List.foldl (fun x1 x2=>x1++x2) acc.toArray (List.replicate k its.toArray)=(acc++(List.replicate k its).flatten).toArray
 | 0,acc=>by simp
 | k+1,acc=>by
  have e:acc.toArray++its.toArray=(acc++its).toArray:=by simp
  have e2:(acc++its)++(List.replicate k its).flatten=acc++(List.replicate (k+1) its).flatten:=by
   rw[List.replicate_succ,List.flatten_cons,List.append_assoc]
  rw[<- e2,<- foldl_rep its k (acc++its),<- e,List.replicate_succ,List.foldl_cons]
section
variable {X:Cx}{pins:List (Addr×Obj)}{σ:St}{H:Hp}{s:Shared}{l b:Addr}{xs ys zs:List V}
theorem Inv.DY {its its':List Value}{n:Nat}{f:Array Value->Array Value}{t':Nat}(I:Inv X pins σ H s)(hH:H l=some (.lst xs))
  (e:s.heap.get? l=some {cls:=.type "list",data:=.seq its.toArray n}) (hf:f its.toArray=its'.toArray) (hv:Vals ys its') (hz:ys.length<=sizeLine) :
  Inv X pins σ (upd H l (.lst ys)) {s with heap:=s.heap.update l (Obj.mapSeq f),toks:=t'}:=by
 have q:=PySem.IsL.update e f
 rw[hf] at q
 refine I.write (x:=l) (e:=l) (by rw[hH];exact trivial) (.inl rfl) (fun b' u hb hu=>(Heap.get?_update_other s.heap (Obj.mapSeq f) (Ne.symm hb)).trans hu) ⟨_,q⟩ ?_
 exact⟨hz,its',_,hv,q⟩
theorem Inv.GP {its:List Value}{t':Nat}(I:Inv X pins σ H s)(hv:Vals ys its)(hz:ys.length<=sizeLine) :
  Inv X pins σ (upd H s.heap.objs.size (.lst ys)) {s with heap:=s.heap.push {cls:=.type "list",data:=.seq its.toArray},toks:=t'}:=
 I.laid (fun _ _ q=>Heap.get?_push_of_some _ q) (Nat.le_refl _) ⟨hz,its,0,hv,Heap.get?_push_size _ rfl⟩
theorem Inv.fresh (I:Inv X pins σ H s):H s.heap.objs.size=none:=I.Be.fresh (Nat.le_refl _)
theorem Inv.Ja (I:Inv X pins σ H s)(hH:H l=some (.lst xs)):xs.length<=sizeLine/\∃ (its:List Value) (n:Nat),Vals xs its/\xs.length=its.length/\s.heap.get? l=some {cls:=.type "list",data:=.seq its.toArray n}:=by
 obtain⟨z,its,n,r,e⟩:=I.Be l _ hH
 exact⟨z,its,n,r,r.length,e⟩
theorem l5 {n:Nat}(h:n<=sizeLine):Builtin.List.listTooLong n=false:=by
 unfold Builtin.List.listTooLong
 exact decide_eq_false (by omega)
end
section
variable {X:Cx}
def qd:V->List V->Hp->VK->Prop:=fun x vs H Q=>∃ l xs y,x=.ref l/\vs=[y]/\H l=some (.lst xs)/\xs.length < sizeLine/\Q .A8 (upd H l (.lst (xs++[y])))
theorem e9:MJ X "list.append" qd:=by
 intro pins s σ H x vs v us Q I rx rv h
 obtain⟨l,xs,y,rfl,rfl,hH,hz,q⟩:=h
 cases rx
 obtain⟨u,rfl,ru⟩:=rv.one
 obtain⟨z,its,n,r,hl,e⟩:=I.Ja hH
 refine call_meets F.slot_list_append ⟨_,e,rfl⟩ F.entry_list_append (F.args_list_append_2 _ _) (PySem.list_append l its.toArray n u (by rw[List.size_toArray];omega)) ⟨e,?_⟩
 refine⟨.A8,_,I.DY (its':=its++[u]) hH e (by simp) (r.append (.cons ru .nil)) ?_,rfl,q⟩
 rw[List.length_append,List.length_singleton]
 omega
theorem len_rep {α:Type}(xs:List α)(k:Nat):(List.replicate k xs).flatten.length=k*xs.length:=by
 induction k with
 | zero=>simp
 | succ k ih=>rw[List.replicate_succ,List.flatten_cons,List.length_append,ih,Nat.succ_mul,Nat.add_comm]
end
end L2
namespace Att
open PySem PySem.W PySem.Calls PyProof.Rows
theorem dD {P:Params}{h:Heap}:∀ (ns:List Int) (vs:List Value),WellAll P h vs (ns.map WData.int)->IntsAre vs ns:=by
 intro ns
 induction ns with
 | nil=>
  intro vs w
  rw[List.map_nil] at w
  cases w
  exact .nil
 | cons n ns ih=>
  intro vs w
  rw[List.map_cons] at w
  cases w with
  | cons a b=>
   cases a
   exact .cons _ _ (ih _ b)
theorem kU {l:OpenLaw}{n:Nat}(hn:l.most=some n){P:Params}{h:Heap}{args:List WData}{vals:List Value}
  (FA:l.row.toRowW.claim.pre args=true) (K3:WellAll P h vals args) :
  ∃ a vs ns,vals=[Value.ref a]/\args=[WData.list (ns.map WData.int)]/\h.get? a=some {cls:=.type "list",data:=.seq vs.toArray}/\IntsAre vs ns/\ns.length<=n:=by
 have Oi:WShape.hasAll [] args [.list .int]=true:=(pre_splitW FA).1
 have hc:l.pre.holds [] {args:=args} = true:=(pre_splitW FA).2
 obtain⟨d,r,rfl,h1,h2⟩:=hasAllW_cons Oi
 obtain rfl:=hasAllW_nil h2
 obtain⟨xs,rfl,h3⟩:=hasW_list h1
 obtain⟨ns,rfl⟩:=items_int h3
 have hlen:ns.length<=n:=by
  unfold OpenLaw.pre at hc
  have h4:(WTm.not (.lt (.lit (.int (n:Int))) (.len (.arg 0)))).holds [] {args:=[.list (ns.map .int)]} = true:=by
   have h4:=(holds_andW hc).1
   rw[hn] at h4
   exact h4
  have h5:=condW_of h4 (w_not (w_lt w_lit (w_len_list (w_arg rfl))))
  rw[List.length_map] at h5
  refine Nat.le_of_not_lt fun q=>?_
  have q':(n:Int) < ((ns.length:Nat):Int):=by omega
  first
   | (rw[decide_eq_true q'] at h5;exact absurd h5 (by decide))
   | (simp at h5;omega)
 cases K3 with
 | cons w1 w2=>
  cases w2
  cases w1 with
  | list ho DZ=>exact⟨_,_,ns,rfl,rfl,ho,dD ns _ DZ,hlen⟩
theorem kW (l:OpenLaw)(args:List WData):l.row.toRowW.claim.post args (.bool true) args=true:=
 postW_of (r:=l.row.toRowW) (X:=(true == true))
  (show WShape.has [] (.bool true) .bool=true by first|rfl|decide|simp[WShape.has,WShape.arms,WShape.armsAll])
  (show (WTm.eq .res (.lit (.bool true))).value [] {args:=args,res:=some (.bool true),after:=args} = some (.bool (true == true)) from w_eq_bool (w_res rfl) w_lit) rfl
theorem DI {l:OpenLaw}{n:Nat}{q:Program}{loose:List Str}{XP:(Str->Option Value)->Heap->Prop}{YP:World->Heap->Prop}{d:DefRec}
  (hn:l.most=some n) (Jb:d.params.defaults=[])
  (call:∀ (w:World) (BA Bf:Shared) (mg mb:Str->Option Value) (fa:Addr) (o:Obj) (pm cd doc:Value) (a:Addr) (vs:List Value) (ns:List Int),
   Ground q loose [] XP w BA mg mb Bf.heap->YP w Bf.heap->
   Bf.heap.get? fa=some o->o.data=.func (docDef d.name d.params d.body d.scope pm cd doc)->Bf.heap.CodeRec cd d.name->mg d.name=some (.ref fa)->
   Bf.heap.get? a=some {cls:=.type "list",data:=.seq vs.toArray}->IntsAre vs ns->ns.length<=n->Bf.gens = #[]->
   codeAny (model l.prog w) callerA (.call (.ref fa) ⟨[.ref a],[]⟩) (fun r s'=>r=.ok (.ret (.bool true))/\OldK Bf.heap s'.heap/\s'.os=Bf.os/\AllBare s'.gens) Bf) :
  WalkO q loose XP YP l.row.toRowW d [] (fun f vs=>PySem.call f vs):=by
 intro w BA Bf mg mb G Y fa o pm cd doc dV kV ho hd ES hD hmg hg args vals as FA Oj Rp K3 Rr
 obtain rfl:dV=.none:=Dflts.none hD Jb
 obtain rfl:kV=.none:=Dflts.noKw hD
 obtain⟨a,vs,ns,rfl,rfl,GQ,hints,hlen⟩:=kU hn FA K3
 refine enter_call (codeAny_mono (call w BA Bf mg mb fa o pm cd doc a vs ns G Y ho (fd_plain hd) ES hmg GQ hints hlen hg) fun r s' hq=>?_)
 obtain⟨rfl,h2,h3,h4⟩:=hq
 exact⟨.inl ⟨.bool true,.bool true,[],rfl,fun _=>rfl,.bool true,kW l _,fun _=>⟨List.Pairwise.nil,fun _ hm=>(nomatch hm)⟩⟩,h2,h3,h4⟩
end Att
namespace L2
open PySem PySem.Spec PyProof.Rows
def KL (K:PySem.W.Frag)(a:Addr)(xs:List V):Prop:=
 ∃ (its:List Value) (n:Nat),K.lookup a=some {cls:=.type "list",data:=.seq its.toArray n}/\its.length<=sizeLine/\Vals xs its
def Ls (K:PySem.W.Frag)(H:Hp)(a:Addr)(xs:List V):Prop:=Rd H a (.lst xs)∨KL K a xs
theorem ff:∀ {vs:List Value}{ns:List Int},IntsAre vs ns->Vals (ns.map V.int) vs
 | _,_,.nil=>.nil
 | _,_,.cons n t h=>.cons ⟨t,rfl⟩ (ff h)
def u5 (H:Hp):Prop:=∀ b,H b=none∨∃ o xs,H b=some (.Bb o (.lst xs))
theorem l6 {P:Program}{w:World}{K:PySem.W.Frag}{mg mb:Str->Option Value}{CX:Ci}{k:Nat}{fa a:Addr}{fd:FuncData}{x:Str}{sp:Sp}{Bf:Shared}{vs:List Value}{ns:List Int}
  (KX:K.In Bf.heap) (GR:Bf.heap.Ns mainGlobals mg) (hb:Bf.heap.Ns builtinsNs mb) (Ol:∀ x:Str,x≠"__name__"->mb x=bootBuiltins x) (K4:Bf.heap.NoLimit) (hg:Bf.gens = #[])
  (ha:Bf.heap.get? a=some {cls:=.type "list",data:=.seq vs.toArray}) (hi:IntsAre vs ns) (hl:ns.length<=sizeLine) (hr:B1 k callerA)
  (F:∀ base:Heap,K.In base->base.Ns mainGlobals mg->Cp P w K mg base CX k fa fd [x] sp) (Jc:∀ (s:Shared) (u:Value),BindsTo s fd ⟨[u],[]⟩ [(x,u)])
  (DA:∀ H:Hp,u5 H->Ls K H a (ns.map V.int)->sp [.ref a] H (fun v _=>v=.bl true) fun _ _ _=>False)
  (K5:∀ H e s',CX [] H Bf (fun _ _ _=>False) e s'->False) :
  codeAny (model P w) callerA (.call (.ref fa) ⟨[.ref a],[]⟩) (fun r s'=>r=.ok (.ret (.bool true))/\OldK Bf.heap s'.heap/\s'.os=Bf.os/\AllBare s'.gens) Bf:=by
 have rv:=ff hi
 have K6:=hi.length
 -- from an abstract heap in MK nothing but GJ GS may be tracked
 have core:∀ H:Hp,u5 H->Ls K H a (ns.map V.int)->Bw P w H Bf.heap->(∀ b,H b≠none->b=a)->(H a≠none->K.lookup a=none)->
   codeAny (model P w) callerA (.call (.ref fa) ⟨[.ref a],[]⟩) (fun r s'=>r=.ok (.ret (.bool true))/\OldK Bf.heap s'.heap/\s'.os=Bf.os/\AllBare s'.gens) Bf:=by
  intro H hO hS Be hA hK
  have Ec:∀ {b:Addr}{o:Obj},Bf.heap.get? b=some o->H b=none->(fP Bf.heap H).get? b=some o:=fun e n=>lG e n
  have IX:∀ {b:Addr}{o:Obj}{es:Array DictEntry}{ep:Nat},Bf.heap.get? b=some o->o.data=.dict es ep->H b=none:=fun {b o es ep} e d=>by
   cases q:H b with
   | none=>rfl
   | some u=>
    have e':b=a:=hA b (by rw[q];simp)
    subst e'
    rw[ha] at e;cases e
    have d':Data.seq vs.toArray _=Data.dict es ep:=d
    cases d'
  have J9:∀ {b:Addr}{m:Str->Option Value},Bf.heap.Ns b m->(fP Bf.heap H).Ns b m:=fun {b m} ⟨o,es,ep,e,d,r⟩=>⟨o,es,ep,Ec e (IX e d),d,r⟩
  have ML:K.In (fP Bf.heap H):=fun b o e=>Ec (KX b o e) (by
   cases q:H b with
   | none=>rfl
   | some u=>
    have e':b=a:=hA b (by rw[q];simp)
    subst e'
    rw[hK (by rw[q];simp)] at e;cases e)
  have hM:Mod K mg (fP Bf.heap H):=⟨ML,J9 GR,⟨mb,J9 hb,Ol⟩,let ⟨mc,h1,h2⟩:=K4;⟨mc,J9 h1,h2⟩⟩
  have e0:DX P w K mg (fP Bf.heap H) callerA [] Bf H:=⟨rfl,hM,fun b o e=>pS e,Nat.le_of_eq (kK _ _),trivial,fun b hb=>absurd (show b∈([]:List Addr) from hb) (by simp),Be,.of_eq hg⟩
  refine codeAny_mono ((F _ ML (J9 GR)).run callerA [] Bf H ⟨[.ref a],[]⟩ [.ref a] [.ref a] _ _ hr e0 (Jc Bf (.ref a)) (.cons rfl .nil) (DA H hO hS)) fun r s' h=>?_
  cases r with
  | error e=>exact(K5 H e s' h).elim
  | ok fl=>
   cases fl with
   | next=>exact False.elim h
   | brk=>exact False.elim h
   | cont=>exact False.elim h
   | ret u=>
    obtain⟨v,H',os,bare,un,K7,r',q⟩:=h
    have q':v=.bl true:=q
    subst q'
    obtain rfl:u=Value.bool true:=r'
    refine⟨rfl,OldK.of_keep fun b o e=>?_,os,bare⟩
    cases q:H b with
    | none=>exact un.keep b o e q (by intro z;exact absurd (show b∈([]:List Addr) from z) (by simp)) (by simp)
    | some u=>
     rcases hO b with z|⟨ob,xs,z⟩
     ·rw[q] at z;cases z
     ·have z2:=un.BY b ob _ z
      obtain⟨e1,_⟩:=Be b _ z
      obtain⟨e2,_⟩:=K7 b _ z2
      rw[e] at e1;cases e1
      exact e2
 cases hk:K.lookup a with
 | some o=>
  -- GJ GS is one of GJ Jd own objects
  have e:=KX a o hk
  rw[ha] at e
  cases e
  refine core (fun _=>none) (fun _=>.inl rfl) (.inr ⟨vs,_,hk,by rw[K6];exact hl,rv⟩) (fun b u z=>by have z':(none:Option HO)=some u:=z;cases z') (fun b z=>absurd rfl z) fun z=>absurd rfl z
 | none=>
  refine core (fun b=>if b=a then some (.Bb {cls:=.type "list",data:=.seq vs.toArray} (.lst (ns.map V.int))) else none) (fun b=>?_) (.inl (.inr ⟨{cls:=.type "list",data:=.seq vs.toArray},if_pos rfl⟩)) (fun b u z=>?_) (fun b z=>?_) fun _=>hk
  ·by_cases hb:b=a
   ·exact .inr ⟨_,_,if_pos hb⟩
   ·exact .inl (if_neg hb)
  ·by_cases hb:b=a
   ·have z':=(if_pos hb).symm.trans z
    cases z'
    subst hb
    exact⟨ha,by rw[List.length_map];exact hl,vs,_,rv,ha⟩
   ·have z':=(if_neg hb).symm.trans z
    cases z'
  ·by_cases hb:b=a
   ·exact hb
   ·exact absurd (if_neg hb) z
theorem qe {l:PySem.W.OpenLaw}{n k:Nat}{q:Program}{loose:List Str}{XP:(Str->Option Value)->Heap->Prop}{YP:World->Heap->Prop}{d:DefRec}{K:Params->PySem.W.Frag}{CX:World->Ci}{sp:World->Sp}{x:Str}
  (hn:l.most=some n) (J':n<=sizeLine) (Jb:d.params.defaults=[]) (hr:B1 k callerA)
  (hY:∀ (w:World) (h:Heap),YP w h->(K w.params).In h)
  (F:∀ (w:World) (mg:Str->Option Value) (fa:Addr) (h:Heap),(K w.params).In h->h.Ns mainGlobals mg->mg d.name=some (.ref fa)->
   ∃ fd:FuncData,(∀ (s:Shared) (u:Value),BindsTo s fd ⟨[u],[]⟩ [(x,u)])/\
    ∀ base:Heap,(K w.params).In base->base.Ns mainGlobals mg->Cp l.prog w (K w.params) mg base (CX w) k fa fd [x] (sp w))
  (DA:∀ (w:World) (H:Hp) (a:Addr) (ns:List Int),ns.length<=n->u5 H->Ls (K w.params) H a (ns.map V.int)->sp w [.ref a] H (fun v _=>v=.bl true) fun _ _ _=>False)
  (K5:∀ (w:World) (H:Hp) (s:Shared) (e:Value) (s':Shared),CX w [] H s (fun _ _ _=>False) e s'->False) :
  PySem.W.WalkO q loose XP YP l.row.toRowW d [] (fun f vs=>PySem.call f vs):=by
 refine Att.DI hn Jb fun w BA Bf mg mb fa o pm cd doc a vs ns G Y ho hd ES hmg GQ hints hlen hg=>?_
 have KX:=hY w _ Y
 obtain⟨fd,hb,hF⟩:=F w mg fa _ KX G.T.g hmg
 exact l6 KX G.T.g G.T.b G.T.builtins G.T.nolimit hg GQ hints (Nat.le_trans hlen J') hr hF hb (fun H hO hS=>DA w H a ns hlen hO hS) fun H e s'=>K5 w H Bf e s'
noncomputable def bu (s:Stmt):Arguments:=match s with
 | .FunctionDef _ a _ _ _ _ _ _ _ _=>a
 | _=>{posonlyargs:=[],args:=[],vararg:=none,kwonlyargs:=[],kw_defaults:=[],kwarg:=none,defaults:=[]}
noncomputable def aO (s:Stmt):List Stmt:=match s with
 | .FunctionDef _ _ b _ _ _ _ _ _ _=>b
 | _=>[]
noncomputable def ar (s:Stmt):Scope:=match s with
 | .FunctionDef _ _ _ _ _ _ sc _ _ _=>sc
 | _=>{kind:=.function,names:=[],isGenerator:=false,isCoroutine:=false}
structure Gf (K:PySem.W.Frag)(x qual:Str)(st:Stmt)(f:Addr)(fd:FuncData):Prop where
 ex:∃ (oc:Value) (od:Option Addr) (kV doc pm:Value) (an:Option Addr) (CU ct:Value) (Fy:Array (Option Value)),
  fd=PySem.W.fnOf x qual (bu st) (aO st) (ar st) .none kV doc pm an CU ct/\K.lookup f=some ⟨oc,od,.func fd,Fy⟩/\PySem.W.codeIn K CU qual=true
 kp:PySem.W.keepIn K (.ref f)=true
section
variable {P:Program}{w:World}{K:PySem.W.Frag}{mg:Str->Option Value}{base:Heap}
theorem Gf.binds {x qual:Str}{st:Stmt}{f:Addr}{fd:FuncData}{ps:List Str}(F:Gf K x qual st f fd)
  (h:∀ (kV doc pm:Value) (an:Option Addr) (CU ct:Value) (us:List Value),us.length=ps.length->bindArgs (PySem.W.fnOf x qual (bu st) (aO st) (ar st) .none kV doc pm an CU ct) ⟨us,[]⟩=pure (ps.zip us)):Binds K fd ps []:=by
 obtain⟨oc,od,kV,doc,pm,an,CU,ct,Fy,rfl,lk,ES⟩:=F.ex
 exact .all (h kV doc pm an CU ct)
theorem dP {x qual:Str}{st:Stmt}{f:Addr}{oc:Value}{od an:Option Addr}{Fy:Array (Option Value)}{kV doc pm CU ct:Value}(l:K.lookup f=some ⟨oc,od,.func (PySem.W.fnOf x qual (bu st) (aO st) (ar st) .none kV doc pm an CU ct),Fy⟩)
  (c:PySem.W.codeIn K CU qual=true) (k:PySem.W.keepIn K (.ref f)=true):Gf K x qual st f (PySem.W.fnOf x qual (bu st) (aO st) (ar st) .none kV doc pm an CU ct):=⟨⟨oc,od,kV,doc,pm,an,CU,ct,Fy,rfl,l,c⟩,k⟩
end
def aq (H H':Hp):Prop:=∀ b o,H b=some o->H' b=some o
theorem aq.refl (H:Hp):aq H H:=fun _ _ h=>h
theorem aq.trans {H H1 H2:Hp}(a:aq H H1)(b:aq H1 H2):aq H H2:=fun c o h=>b c o (a c o h)
theorem aq.free {H H':Hp}(e:aq H H'){l:Addr}(h:H' l=Option.none):H l=Option.none:=by
 cases q:H l with
 | none=>rfl
 | some o=>
  rw[e l o q] at h
  cases h
theorem aq.seq {K:PySem.W.Frag}{H H':Hp}{a:Addr}{xs:List V}(e:aq H H')(h:BS K H a xs):BS K H' a xs:=by
 rcases h with (h|⟨o,h⟩)|h
 ·exact .inl (.inl (e _ _ h))
 ·exact .inl (.inr ⟨o,e _ _ h⟩)
 ·exact .inr h
theorem ax {X:Cx}{e:Expr}{t t':TE}(h:PE X e t)(m:∀ σ H Q,t' σ H Q->t σ H Q):PE X e t':=fun pins s σ H Q I q=>h pins s σ H Q I (m σ H Q q)
theorem cF {X:Cx}{e:Expr}{t t':TT}(h:PT X e t)(m:∀ σ H Q,t' σ H Q->t σ H Q):PT X e t':=fun pins s σ H Q I q=>h pins s σ H Q I (m σ H Q q)
theorem fT {X:Cx}{e:List Expr}{t t':TA}(h:PA X e t)(m:∀ σ H Q,t' σ H Q->t σ H Q):PA X e t':=fun pos pins s σ H Q I q=>h pos pins s σ H Q I (m σ H Q q)
theorem aJ {X:Cx}{e:Stmt}{t t':TS}(h:PS X e t)(m:∀ D σ H,t' D σ H->t D σ H):PS X e t':=fun pins s σ H D I q=>h pins s σ H D I (m D σ H q)
theorem cN {X:Cx}{e:List Stmt}{t t':TS}(h:DD X e t)(m:∀ D σ H,t' D σ H->t D σ H):DD X e t':=fun pins s σ H D I q=>h pins s σ H D I (m D σ H q)
theorem dQ {X:Cx}{tg e:Expr}{t t':TI}(h:PI X tg e t)(m:∀ σ H Q,t' σ H Q->t σ H Q):PI X tg e t':=fun pins s σ H Q I q=>h pins s σ H Q I (m σ H Q q)
def Ed (X:Cx)(scope:Scope)(cl:List (Str×Addr))(N:List Str)(C:Addr)(s3:Shared)(H3:Hp)(fp:List Addr)(xe:Value->Shared->Prop:=fun _ _=>False):Cx:=
 {X with N:=N,BA:=s3,De:=H3,env:=compEnvC scope cl C X.env,outer:=X.stack,ex:=fp,fn:=fun _=>false,pn:=[],xe:=xe}
structure CA (X:Cx)(scope:Scope)(cl:List (Str×Addr))(Fr:List (Str×Nat))(Tg:List Str):Prop where
 Je:closureFor scope X.env=pure cl
 kind:scope.kind=.function
 Dj:∀ y∈scope.names,y.2≠.cell
 loc:∀ y∈scope.names,y.2=.local->scope.names.lookup y.1=some .local
 sub:∀ x c,cl.lookup x=some c->X.env.cells.lookup x=some c
 has:∀ x,((relabel scope X.env).names.lookup x=some .cell∨(relabel scope X.env).names.lookup x=some .free)->∃ c,cl.lookup x=some c
 out:∀ p∈Fr,X.N[p.2]? = some p.1/\(X.env.kindOf p.1=some .cell∨X.env.kindOf p.1=some .free)/\((relabel scope X.env).names.lookup p.1=some .cell∨(relabel scope X.env).names.lookup p.1=some .free)
noncomputable def stC (Fr:List (Str×Nat))(Tg:List Str)(σ:St):St:=Fr.map (fun p=>(σ[p.2]?).join)++List.replicate Tg.length none
section
variable {X:Cx}{scope:Scope}{cl:List (Str×Addr)}{Fr:List (Str×Nat)}{Tg:List Str}{pins:List (Addr×Obj)}{σ:St}{H3:Hp}{s3:Shared}{fp:List Addr}
theorem u6 (S:CA X scope cl Fr Tg)(I:Inv X pins σ H3 s3)(hf:∀ b∈fp,cw X pins H3 b)(K8:∀ b∈fp,b < s3.heap.objs.size)(N:List Str)(xe:Value->Shared->Prop):(Ed X scope cl N s3.heap.objs.size s3 H3 fp xe).Ok where
 mod:=I.ok.mod
 kind:=S.kind
 glob:=I.ok.glob
 blt:=I.ok.blt
 above:=Nat.le_refl _
 inj:=fun x y c h1 h2=>I.ok.inj x y c (S.sub x c h1) (S.sub y c h2)
 has:=fun x h=>S.has x h
 J1:=fun x c h _=>absurd (show false=true from h) (by decide)
 hd:=I.ok.hd
 frames:=I.ok.frames
 A5:=.inl rfl
 KP:=fun b hb=>⟨Nat.ne_of_lt (K8 b hb),fun x c e z=>(hf b hb).2.2.2.2.1 x c (S.sub x c e) z⟩
 bs:=I.bs
 Fh:=Nat.le_trans I.ok.Fh I.sz
 Ft:=fun b o e hb=>by
  rcases (hf b hb).2.2.2.1 with z|z
  ·exact I.ok.Ft b o e z
  ·exact absurd (Nat.lt_of_lt_of_le (Heap.lt_size e) (Nat.le_trans I.ok.Fh z)) (Nat.lt_irrefl _)
 Fu:=fun b hb z=>by
  rcases List.mem_cons.mp (I.DT b z) with z|z
  ·exact(hf b hb).2.1 z
  ·exact(hf b hb).2.2.1 z
 Ce:=I.stack
 D9:=I.Dg
theorem kX (S:CA X scope cl Fr Tg)(I:Inv X pins σ H3 s3)(hf:∀ b∈fp,cw X pins H3 b)(K8:∀ b∈fp,b < s3.heap.objs.size){h':Heap}{tk:Nat}
  (GR:h'.Ns s3.heap.objs.size (fun _=>none)) (hk:∀ b o,s3.heap.get? b=some o->h'.get? b=some o) (xe:Value->Shared->Prop) :
  Inv (Ed X scope cl (Fr.map (·.1)++Tg) s3.heap.objs.size s3 H3 fp xe) [] (stC Fr Tg σ) H3 {s3 with heap:=h',toks:=tk} where
 ok:=u6 S I hf K8 _ _
 os:=rfl
 bare:=I.bare
 base:=Un.kept hk
 loc:=by
  refine⟨_,GR,fun i x v e1 e2 e3=>?_⟩
  have hi:i < Fr.length:=by
   by_cases hi:i < Fr.length
   ·exact hi
   ·unfold stC at e2
    rw[List.getElem?_append_right (by simpa using hi),List.getElem?_replicate] at e2
    split at e2<;>cases e2
  have Ic:(Fr.map (·.1))[i]? = some x:=by
   rw[<- e1]
   exact(List.getElem?_append_left (by simpa using hi)).symm
  have BK:(Fr.map (fun p=>(σ[p.2]?).join))[i]? = some (some v):=by
   rw[<- e2]
   exact(List.getElem?_append_left (by simpa using hi)).symm
  rw[List.getElem?_map] at Ic BK
  obtain⟨p,hp,rfl⟩:=Option.map_eq_some_iff.mp Ic
  rw[hp] at BK
  have FC:(σ[p.2]?).join=some v:=Option.some.inj BK
  have e4:σ[p.2]? = some (some v):=by
   cases q:σ[p.2]? with
   | none=>rw[q] at FC;cases FC
   | some y=>rw[q] at FC;rw[show y=some v from FC]
  obtain⟨o1,o2,o3⟩:=S.out p (List.mem_of_getElem? hp)
  obtain⟨m,hn,hl⟩:=I.loc
  have hv:IK X.env.scope p.1:=by
   rcases o2 with o2|o2
   ·exact .inr (.inl o2)
   ·exact .inr (.inr o2)
  obtain⟨u,r,l⟩:=hl p.2 p.1 v o1 e4 hv
  refine⟨u,r,.inr ⟨o3,?_⟩⟩
  obtain⟨c,hc⟩:=S.has p.1 o3
  refine⟨c,hc,?_⟩
  have HY:=S.sub _ _ hc
  rcases l with ⟨k,_⟩|⟨_,c2,h2,z⟩
  ·rcases o2 with o2|o2<;>(rw[k] at o2;cases o2)
  ·rw[HY] at h2;cases h2
   obtain⟨o,ho,hd⟩:=z
   exact⟨o,hk _ _ ho,hd⟩
 cell:=fun x c e=>by
  obtain⟨v,o,ho,hd⟩:=I.cell x c (S.sub x c e)
  exact⟨v,o,hk _ _ ho,hd⟩
 free:=I.Be.fresh (Nat.le_refl _)
 Cm:=fun x c e=>I.Cm x c (S.sub x c e)
 pin:=fun p hp=>absurd (show p∈([]:List (Addr×Obj)) from hp) (by simp)
 Be:=I.Be.kept hk
 len:=by
  unfold stC
  show _=(Fr.map (·.1)++Tg).length
  simp
end
def FD (X:Cx)(ifs:List Expr)(t:TT):Prop:=
 ∀ (pins:List (Addr×Obj)) (s:Shared) (σ:St) (H:Hp) (Q:Bool->Hp->Prop),Inv X pins σ H s->t σ H Q->
  wpAny (model X.prog X.w) X.A (forIn ifs true fun c r=>if r=true then do let ok <- isTrue c X.env (eval c X.env);pure (ForInStep.yield ok) else pure (ForInStep.yield r)) (TP X pins σ Q) X.xe s
theorem dA {M:Model}{A:Around}{E:Value->Shared->Prop}{s:Shared}{env:Env}{Q:Bool->Shared->Prop}(h:Q false s):∀ ifs:List Expr,
  wpAny M A (forIn ifs false fun c r=>if r=true then do let ok <- isTrue c env (eval c env);pure (ForInStep.yield ok) else pure (ForInStep.yield r)) Q E s
 | []=>by
  rw[List.forIn_nil]
  exact wpAny_pure h
 | c::cs=>by
  rw[List.forIn_cons]
  rw[if_neg Bool.false_ne_true]
  exact wpAny_bind (wpAny_pure (dA h cs))
theorem qf {X:Cx}:FD X [] (fun _ H Q=>Q true H):=fun pins s σ H Q I q=>by
 rw[List.forIn_nil]
 exact wpAny_pure ⟨H,I,q⟩
theorem l7 {X:Cx}{c:Expr}{cs:List Expr}{t u:TT}(hc:PT X c t)(hr:FD X cs u):FD X (c::cs) (wV t u):=fun pins s σ H Q I q=>by
 rw[List.forIn_cons,if_pos rfl]
 refine wpAny_bind (wpAny_bind (Bg (hc pins s σ H _ I q) fun b s1 ⟨H1,I1,q1⟩=>wpAny_pure ?_))
 cases b with
 | true=>exact hr pins s1 σ H1 Q I1 q1
 | false=>exact dA ⟨H1,I1,q1⟩ cs
def l8 (wi:TI)(start:St->St)(g:TG)(tt:TT)(te:TE):TE:=fun σ H Q=>wi σ H fun J H1=>∀ D,H1 D=none->∃ W:Nat->Nat->St->Hp->Prop,(∃ m,W 0 m (start σ) (upd H1 D (.lst [])))/\
 ∀ i m Bc H',W i m Bc H'->(J.stop i H'/\Q (.ref D) H')∨(J.go i H'/\∀ x H2,J.Fv i H' x H2->g x Bc H2 fun DG H3=>tt DG H3 fun b H4=>
  if b=true then te DG H4 fun v H5=>∃ ys,H5 D=some (.lst ys)/\ys.length < sizeLine/\∃ m',m' < m/\W (i+1) m' DG (upd H5 D (.lst (ys++[v])))
  else ∃ m',m' < m/\W (i+1) m' DG H4)
section
variable {X:Cx}{scope:Scope}{cl:List (Str×Addr)}{Fr:List (Str×Nat)}{Tg:List Str}{elt tg iter:Expr}{ifs:List Expr}{wi:TI}{g:TG}{tt:TT}{te:TE}{pos:Pos}
theorem fU (scope:Scope)(pos:Pos)(it acc:Value)(env:Env) :
  compTurn (.ListComp elt [⟨tg,iter,ifs,0⟩] scope pos) 0 it acc env=(do
   standAt iter.pos
   match <- pyNext it with
   | none=>pure (.done .next)
   | some v=>
    letOwnedTupleGo tg it v
    assign tg env v
    let ok <- forIn ifs true fun c r=>if r=true then do let ok <- isTrue c env (eval c env);pure (ForInStep.yield ok) else pure (ForInStep.yield r)
    if ok=true then
     (do let _ <- call (.builtin "list.append") [acc,<- eval elt env])
    again (.compLoop (.ListComp elt [⟨tg,iter,ifs,0⟩] scope pos) 0 it acc env)):=by rfl
theorem dR {XE:Addr->Shared->Hp->List Addr->Value->Shared->Prop}(hc:X.calm=true)(S:CA X scope cl Fr Tg)
  (hg:∀ C s H fp,PG (Ed X scope cl (Fr.map (·.1)++Tg) C s H fp (XE C s H fp)) tg g) (ht:∀ C s H fp,FD (Ed X scope cl (Fr.map (·.1)++Tg) C s H fp (XE C s H fp)) ifs tt)
  (he:∀ C s H fp,PE (Ed X scope cl (Fr.map (·.1)++Tg) C s H fp (XE C s H fp)) elt te)
  {pins:List (Addr×Obj)}{σ:St}{H2:Hp}{s2:Shared}{it:Addr}{fp:List Addr}{tn:Nat->Heap->Prop}{J:It}{Q:VK} (I2:Inv X pins σ H2 s2) (T:Turn X.prog X.w X.K tg J fp it tn) (Gd:tn 0 s2.heap)
  (f2:∀ b∈fp,cw X pins H2 b)
  (q:∀ D,H2 D=none->∃ W:Nat->Nat->St->Hp->Prop,(∃ m,W 0 m (stC Fr Tg σ) (upd H2 D (.lst [])))/\
   ∀ i m Bc H',W i m Bc H'->(J.stop i H'/\Q (.ref D) H')∨(J.go i H'/\∀ x H2,J.Fv i H' x H2->g x Bc H2 fun DG H3=>tt DG H3 fun b H4=>
    if b=true then te DG H4 fun v H5=>∃ ys,H5 D=some (.lst ys)/\ys.length < sizeLine/\∃ m',m' < m/\W (i+1) m' DG (upd H5 D (.lst (ys++[v])))
    else ∃ m',m' < m/\W (i+1) m' DG H4))
  {E:Value->Shared->Prop}{RR:Value->Env->Result->Shared->Prop}
  (hR:∀ D C s' H',(∃ m,s'.heap.Ns C m)->Inv X pins σ H' s'->cw X pins H' C->Q (.ref D) H'->∀ V:Env,V.locals=C->V.frame=X.env.frame->RR (.ref D) V (.ok .next) s')
  (hX:∀ D C s3 H3,(∀ s5 FE H5,Inv (Ed X scope cl (Fr.map (·.1)++Tg) C s3 H3 fp (XE C s3 H3 fp)) [] FE H5 s5->(∃ m,s5.heap.Ns C m)/\Inv X pins σ H5 s5/\cw X pins H5 C)->∀ e s',XE C s3 H3 fp e s'->
   notedBy (model X.prog X.w) X.A (compEnvC scope cl C X.env) (fun x Fw=>∀ V:Env,V.locals=C->V.frame=X.env.frame->RR (.ref D) V (.error x) Fw) e s') :
  wpAny (model X.prog X.w) X.A (newList []) (fun acc FF=>wpAny (model X.prog X.w) X.A (newFunctionEnv scope X.env.globals cl [] X.env.qual none .none (some X.env)) (fun Jf K9=>
   codeAny (model X.prog X.w) X.A (.compStart (.ListComp elt [⟨tg,iter,ifs,0⟩] scope pos) 0 (.ref it) acc {Jf with scope:=relabel scope X.env}) (RR acc Jf) K9) E FF) E s2:=by
 have Om:∀ b∈fp,b < s2.heap.objs.size:=fun b hb=>by
  obtain⟨o,e,_⟩:=T.obj _ _ Gd b hb
  exact Heap.lt_size e
 -- GJ Gg
 refine wpAny_newObj_type ?_
 have I3:Inv X pins σ (upd H2 s2.heap.objs.size (.lst [])) {s2 with heap:=s2.heap.push {cls:=.type "list",data:=.seq ([]:List Value).toArray},toks:=s2.toks}:=I2.GP (ys:=[]) (its:=[]) .nil (Nat.zero_le _)
 generalize hD:s2.heap.objs.size=D at I3 ⊢
 have Oo:H2 D=none:=by rw[<- hD];exact I2.fresh
 generalize MM:({s2 with heap:=s2.heap.push {cls:=.type "list",data:=.seq ([]:List Value).toArray},toks:=s2.toks}:Shared)=s3 at I3
 have k3:∀ b o,s2.heap.get? b=some o->s3.heap.get? b=some o:=fun b o e=>by rw[<- MM];exact Heap.get?_push_of_some _ e
 have Oq:s3.heap.objs.size=D+1:=by rw[<- MM,<- hD];exact Heap.size_push ..
 have Jg:∀ b∈fp,b < D:=fun b hb=>by rw[<- hD];exact Om b hb
 have La:∀ b∈fp,b < s3.heap.objs.size:=fun b hb=>by rw[Oq];exact Nat.lt_succ_of_lt (Jg b hb)
 have f3:∀ b∈fp,cw X pins (upd H2 D (.lst [])) b:=fun b hb=>by
  obtain⟨a1,a2⟩:=f2 b hb
  refine⟨?_,a2⟩
  rw[ak (Nat.ne_of_lt (Jg b hb))]
  exact a1
 obtain⟨W,⟨m0,w0⟩,turn⟩:=q D Oo
 refine wpAny_newFunctionEnv S.Dj (by intro y hy;simp at hy) (fun h4 GR MN=>codeAny_mono (R:=fun r s'=>∀ V:Env,V.locals=s3.heap.objs.size->V.frame=X.env.frame->RR (.ref D) V r s') ?_ fun r s' z=>z _ rfl rfl) S.kind
 have k4:∀ b o,s3.heap.get? b=some o->h4.get? b=some o:=fun b o e=>
  MN.extBut b o (Nat.ne_of_lt (Heap.lt_size e)) (Heap.get?_push_of_some _ e)
 have MO:tn 0 h4:=T.keep _ _ _ Gd fun b hb o e=>k4 b o (k3 b o e)
 have I4:=kX (fp:=fp) (h':=h4) (tk:=s3.toks+([]:List (Str×Value)).length) S I3 f3 La (by simpa using GR) k4 (XE s3.heap.objs.size s3 (upd H2 D (.lst [])) fp)
 generalize hC:s3.heap.objs.size=C at I4 GR MN ⊢
 have Lb:=hX D C s3 (upd H2 D (.lst []))
 generalize hZ:XE C s3 (upd H2 D (.lst [])) fp=Z at I4 Lb
 generalize hY:Ed X scope cl (Fr.map (·.1)++Tg) C s3 (upd H2 D (.lst [])) fp Z=Y at I4 Lb
 have yP:Y.prog=X.prog:=by rw[<- hY];rfl
 have yw:Y.w=X.w:=by rw[<- hY];rfl
 have yK:Y.K=X.K:=by rw[<- hY];rfl
 have yA:Y.A=X.A:=by rw[<- hY];rfl
 have yc:Y.calm=true:=by rw[<- hY];exact hc
 have yx:Y.xe=Z:=by rw[<- hY];rfl
 have ye:Y.env=compEnvC scope cl C X.env:=by rw[<- hY];rfl
 have Jh:Y.ex=fp:=by rw[<- hY];rfl
 have Ot:Y.pn=[]:=by rw[<- hY];rfl
 have Ou:Y.fs=BZ X.stack:=by rw[<- hY];rfl
 have yH:Y.De=upd H2 D (.lst []):=by rw[<- hY];rfl
 have Gh:Y.BA=s3:=by rw[<- hY];rfl
 have Ov:PG Y tg g:=by rw[<- hY,<- hZ];exact hg _ _ _ _
 have EV:FD Y ifs tt:=by rw[<- hY,<- hZ];exact ht _ _ _ _
 have Ox:PE Y elt te:=by rw[<- hY,<- hZ];exact he _ _ _ _
 have DW:∀ {H':Hp},(∀ b∈fp,H' b=none)->∀ b∈fp,cw Y [] H' b:=fun hn b hb=>by
  have Lc:=I4.ok
  refine⟨hn b hb,(Lc.KP b (by rw[Jh];exact hb)).1,Lc.Fu b (by rw[Jh];exact hb),.inl (by rw[Jh];exact hb),(Lc.KP b (by rw[Jh];exact hb)).2,fun p hp=>absurd hp (by rw[Ot];simp)⟩
 have Oy:∀ b∈fp,(upd H2 D (.lst [])) b=none:=fun b hb=>(f3 b hb).1
 -- back to GJ frame
 have back:∀ (s5:Shared) (FE:St) (H5:Hp),Inv Y [] FE H5 s5->(∃ m,s5.heap.Ns C m)/\Inv X pins σ H5 s5/\cw X pins H5 C:=by
  intro s5 FE H5 I5
  have Ld:∃ m,s5.heap.Ns C m:=by
   obtain⟨m,hn,_⟩:=I5.loc
   rw[ye] at hn
   exact⟨m,hn⟩
  have Oz:Un (BZ X.stack) fp (upd H2 D (.lst [])) H5 s3.heap s5.heap:=by
   have u:=I5.base
   rw[Ou,Jh,yH,Gh] at u
   exact u
  have OA:s5.os=s3.os:=by have:=I5.os;rw[Gh] at this;exact this
  have Le:Bw X.prog X.w H5 s5.heap:=by have:=I5.Be;rw[yP,yw] at this;exact this
  have EJ:∀ b∈fp,(b∈X.ex∨X.BA.heap.objs.size<=b)/\b≠X.env.locals/\(∀ x c,X.env.cells.lookup x=some c->c≠b)/\∀ p∈X.pn++pins,p.1≠b:=fun b hb=>by
   obtain⟨_,a1,_,a3,a4,a5⟩:=f3 b hb
   exact⟨a3,a1,a4,a5⟩
  have Ji:H5 C=none:=by
   have:=I5.free
   rw[ye] at this
   exact this
  exact⟨Ld,I3.F9 OA Oz Le I5.bare EJ,I3.DF (Nat.le_of_eq hC) Ji⟩
 have nz:∀ {α:Type}{t:Sem α}{Q:α->Shared->Prop}{s:Shared},wpAny (model X.prog X.w) X.A t Q Z s->wpAny (model X.prog X.w) X.A t Q (notedBy (model X.prog X.w) X.A (compEnvC scope cl C X.env) fun x Fw=>∀ V:Env,V.locals=C->V.frame=X.env.frame->RR (.ref D) V (.error x) Fw) s:=fun h=>wpAny_mono h (fun _ _ z=>z) fun e s' z=>Lb back e s' z
 have loop:∀ (s5:Shared) (FE:St) (H5:Hp) (i m:Nat),Inv Y [] FE H5 s5->tn i s5.heap->(∀ b∈fp,H5 b=none)->W i m FE H5->
   codeAny (model X.prog X.w) X.A (.compLoop (.ListComp elt [⟨tg,iter,ifs,0⟩] scope pos) 0 (.ref it) (.ref D) (compEnvC scope cl C X.env)) (fun r s'=>∀ V:Env,V.locals=C->V.frame=X.env.frame->RR (.ref D) V r s') s5:=by
  intro s5 FE H5 i m I5 IW KZ w5
  refine codeAny_loop rfl (fun n s'=>∃ i Bc H',Inv Y [] Bc H' s'/\tn i s'.heap/\(∀ b∈fp,H' b=none)/\W i n Bc H') ?_ m ⟨i,FE,H5,I5,IW,KZ,w5⟩
  rintro n s6 ⟨i,GL,H6,I6,MP,MQ,w6⟩
  show wpAny _ X.A ((compTurn (.ListComp elt [⟨tg,iter,ifs,0⟩] scope pos) 0 (.ref it) (.ref D) (compEnvC scope cl C X.env)).onRaise (fun x=>do noteFrame x (compEnvC scope cl C X.env);theTreesLotGoes x)) _ _ s6
  refine wpAny_noted ?_
  rw[fU]
  refine wpAny_bind (wpAny_standAt (wpAny_bind ?_))
  have nx:∀ {α:Type}{t:Sem α}{Q:α->Shared->Prop}{E':Value->Shared->Prop}{s:Shared},wpAny (model X.prog X.w) X.A t Q (fun _ _=>False) s->wpAny (model X.prog X.w) X.A t Q E' s:=fun h=>wpAny_mono h (fun _ _ z=>z) fun _ _ z=>z.elim
  rcases turn i n GL H6 w6 with ⟨stop,qn⟩|⟨go,step⟩
  ·have h:=T.done Y yP yw yK yc i [] s6 GL H6 (fun _ _=>False) I6 (DW MQ) MP stop
   rw[yA] at h
   refine nx (Bg h fun r s7 ⟨hr,I7⟩=>?_)
   subst hr
   refine wpAny_pure ?_
   obtain⟨b1,b2,b3⟩:=back s7 GL H6 I7
   exact hR D C s7 H6 b1 b2 b3 qn
  ·have h:=T.item Y yP yw yK yc i [] s6 GL H6 (fun _ _=>False) I6 (DW MQ) MP go
   rw[yA] at h
   refine nx (Bg h fun r s7 ⟨u,hr,h7⟩=>?_)
   subst hr
   refine wpAny_bind (nx (Bg h7 fun _ s8 ⟨x,H8,I8,r8,y8,Lf,OB⟩=>?_))
   have OC:=I8.pinned (DW OB) (T.obj _ _ Lf)
   have h9:=Ov _ s8 GL H8 x u _ OC r8 (step x H8 y8)
   rw[yP,yw,yA,yx,ye] at h9
   refine wpAny_bind (nz (Bg h9 fun _ s9 ⟨Lg,H9,I9,q9⟩=>?_))
   have Gi:=EV _ s9 Lg H9 _ I9 q9
   rw[yP,yw,yA,yx,ye] at Gi
   refine wpAny_bind (nz (Bg Gi fun ok OD ⟨OE,MR,Ie⟩=>?_))
   have again:∀ {Bc:St}{H':Hp}{s':Shared},Inv Y ([]++dg fp s8.heap) Bc H' s'->(∃ m',m' < n/\W (i+1) m' Bc H')->∃ m,m < n/\∃ i Bc H',Inv Y [] Bc H' s'/\tn i s'.heap/\(∀ b∈fp,H' b=none)/\W i m Bc H':=fun {Bc H' s'} I' ⟨m',hm,w'⟩=>by
    refine⟨m',hm,i+1,Bc,H',I'.Co,T.keep _ _ _ Lf fun b hb o e=>(I'.pin (b,o) (List.mem_append_right _ (List.mem_append_right _ (bW hb e)))).1,fun b hb=>?_,w'⟩
    obtain⟨o,e,d⟩:=T.obj _ _ Lf b hb
    exact(I'.pin (b,o) (List.mem_append_right _ (List.mem_append_right _ (bW hb e)))).2.1
   cases ok with
   | false=>
    rw[if_neg Bool.false_ne_true] at Ie
    refine wpAny_bind (wpAny_pure (wpAny_pure ⟨rfl,again MR Ie⟩))
   | true=>
    rw[if_pos rfl] at Ie
    have Ig:=Ox _ OD Lg OE _ MR Ie
    rw[yP,yw,yA,yx,ye] at Ig
    refine wpAny_bind (wpAny_bind (nz (Bg Ig fun y OF ⟨v,MS,OG,OH,ys,ey,zy,OI⟩=>?_)))
    have Jj:=e9 (X:=Y) ([]++dg fp s8.heap) OF Lg MS (.ref D) [v] (.ref D) [y] (fun v' H'=>v'=.A8/\H'=upd MS D (.lst (ys++[v]))) OG rfl (.cons OH .nil) ⟨D,ys,v,rfl,rfl,ey,zy,rfl,rfl⟩
    rw[yP,yw,yA,yx] at Jj
    refine wpAny_bind (nz (Bg Jj fun z Rt ⟨Ru,Rv,OJ,Rw,Rx,Lh⟩=>?_))
    subst Lh
    exact wpAny_pure (wpAny_pure ⟨rfl,again OJ OI⟩)
 have start:=loop {s3 with heap:=h4,toks:=s3.toks+([]:List (Str×Value)).length} (stC Fr Tg σ) (upd H2 D (.lst [])) 0 m0 I4 MO Oy w0
 have e5:∀ (s':Shared),s' = {s3 with heap:=h4,toks:=s3.toks+([]:List (Str×Value)).length}->codeAny (model X.prog X.w) X.A (.compLoop (.ListComp elt [⟨tg,iter,ifs,0⟩] scope pos) 0 (.ref it) (.ref D) (compEnvC scope cl C X.env)) (fun r s'=>∀ V:Env,V.locals=C->V.frame=X.env.frame->RR (.ref D) V r s') s':=by
  rintro _ rfl
  exact start
 exact codeAny_compStart_list (e5 _ rfl) (T.self _ _ _ _ _ MO (e5 _ rfl))
theorem jB (hc:X.calm=true)(S:CA X scope cl Fr Tg)(hi:PI X tg iter wi)
  (hg:∀ C s H fp,PG (Ed X scope cl (Fr.map (·.1)++Tg) C s H fp) tg g) (ht:∀ C s H fp,FD (Ed X scope cl (Fr.map (·.1)++Tg) C s H fp) ifs tt)
  (he:∀ C s H fp,PE (Ed X scope cl (Fr.map (·.1)++Tg) C s H fp) elt te) (hs:∀ x,foldedSetIterable iter X.env x=pure x:=by intro _;rfl) :
  PE X (.ListComp elt [⟨tg,iter,ifs,0⟩] scope pos) (l8 wi (stC Fr Tg) g tt te):=by
 intro pins s σ H Q I h
 rw[eval_ListComp]
 refine wpAny_comprehension_free (use:=none) rfl hs S.Je S.kind S.loc (Bg (hi pins s σ H _ I h) fun xv s1 h1=>Bg h1 fun J4 s2 h2=>?_)
 obtain⟨it,fp,tn,J,H2,rfl,I2,T,Gd,f2,q⟩:=h2
 refine dR (XE:=fun _ _ _ _ _ _=>False) (RR:=fun acc V=>compPost (model X.prog X.w) X.A X.xe none (EP X pins σ Q) acc V.locals) hc S hg ht he I2 T Gd f2 q ?_ fun _ _ _ _ _ _ _ z=>z.elim
 intro D C s' H' ⟨m,hn⟩ I' F' q' V hV _
 subst hV
 obtain⟨f0,f1,f2,f3,f4,f5⟩:=F'
 exact⟨m,hn,fun h' sb=>⟨.ref D,H',I'.turned (t':=s'.toks) (fun b o hb e=>(sb.2 b hb).trans e) f0 f1 f3 f4 f5,rfl,q'⟩⟩
theorem qg {y:Str}{py spos:Pos}{i:Nat}(hc:X.calm=true)(hN:X.N.Nodup)(OK:X.N[i]? = some y)(hy:X.env.kindOf y=some .local)(S:CA X scope cl Fr Tg)(hi:PI X tg iter wi)
  (hg:∀ C s H fp,PG (Ed X scope cl (Fr.map (·.1)++Tg) C s H fp) tg g) (ht:∀ C s H fp,FD (Ed X scope cl (Fr.map (·.1)++Tg) C s H fp) ifs tt)
  (he:∀ C s H fp,PE (Ed X scope cl (Fr.map (·.1)++Tg) C s H fp) elt te)
  (Jk:swapsWith (.ListComp elt [⟨tg,iter,ifs,0⟩] scope pos) (some (.Name y py)) spos.line X.env=pure true) (hs:∀ x,foldedSetIterable iter X.env x=pure x:=by intro _;rfl) :
  PS X (.Assign [.Name y py] (.ListComp elt [⟨tg,iter,ifs,0⟩] scope pos) spos) (fun D σ H=>l8 wi (stC Fr Tg) g tt te σ H fun v H'=>D.nx (σ.set i (some v)) H'):=by
 intro pins s σ H D I h
 rw[exec_Assign_Name_used _ _ _ _ Jk]
 refine wpAny_bind (wpAny_standAt (wpAny_bind ?_))
 show wpAny _ X.A (do let _ <- comprehension (.ListComp elt [⟨tg,iter,ifs,0⟩] scope pos) scope X.env _ (newList []) false (eval iter X.env) (some (assign (.Name y py) X.env))) _ _ s
 refine wpAny_bind (Bg (wpAny_comprehension_free (use:=some (assign (.Name y py) X.env)) (Q:=fun _ s'=>SP X pins D .next s') rfl hs S.Je S.kind S.loc
  (Bg (hi pins s σ H _ I h) fun xv s1 h1=>Bg h1 fun J4 s2 h2=>?_)) fun _ s' hq=>wpAny_pure (wpAny_pure hq))
 obtain⟨it,fp,tn,J,H2,rfl,I2,T,Gd,f2,q⟩:=h2
 refine dR (Q:=fun v H'=>D.nx (σ.set i (some v)) H') (XE:=fun _ _ _ _ _ _=>False) (RR:=fun acc V=>compPost (model X.prog X.w) X.A X.xe (some (assign (.Name y py) X.env)) (fun _ s'=>SP X pins D .next s') acc V.locals) hc S hg ht he I2 T Gd f2 q ?_ fun _ _ _ _ _ _ _ z=>z.elim
 intro D' C s' H' ⟨m,hn⟩ I' F' q' V hV _
 subst hV
 obtain⟨f0,f1,f2,f3,f4,f5⟩:=F'
 show wpAny _ X.A (assign (.Name y py) X.env (.ref D')) _ _ _
 refine wpAny_assign_Name (eT I' hN OK (.inl hy) (show RelV (.ref D') (.ref D') from rfl) (fun Fw OL ⟨a,sb,ha⟩=>?_) (.inr hy))
 have OM:V.locals≠a:=by
  rcases ha with rfl|ha
  ·exact f1
  ·exact fun z=>f4 y a ha z.symm
 refine⟨m,hn.sameBut sb OM,fun h' ON=>⟨_,H',OL.turned (t':=Fw.toks) (fun b o hb e=>(ON.2 b hb).trans e) f0 f1 f3 f4 f5,q'⟩⟩
end
open PySem.SeqAt
section
variable {X:Cx}
theorem gV {x:Str}{n:Int}(h0 : -16000<=n)(h1:n<=16000)(hx:x.length<=1000):MulOk x n:=by
 refine⟨?_,fun hn _=>?_,fun hn _=>?_⟩
 ·rw[Bool.or_eq_false_iff]
  exact⟨decide_eq_false (by omega),decide_eq_false (by omega)⟩
 ·have:(1000:Int)<=(2 ^ 63 - 1) / n:=Int.le_ediv_of_mul_le (by omega) (by omega)
  omega
 ·have:x.length*n.toNat<=1000*16000:=Nat.mul_le_mul hx (by omega)
  unfold Builtin.Str.tooLong
  exact decide_eq_false (by rw[sizeLine_eq];omega)
theorem i0:C5 X (binaryOp .Mult) (fun x y H Q=>∃ i j,x=.str i/\y=.int j/\-16000<=j/\j<=16000/\i.length<=1000/\Q (.str (Txt.mul i j)) H):=by
 intro pins s σ H x y v u Q I rx ry h
 obtain⟨i,j,rfl,rfl,h0,h1,hz,q⟩:=h
 obtain⟨t,rfl⟩:=rx
 obtain⟨t',rfl⟩:=ry
 exact SB.mul (gV h0 h1 hz) fun t' tk=>⟨.str (Txt.mul i j),H,I.tok _,⟨_,rfl⟩,q⟩
noncomputable def dh (z:Str):List V:=z.cps.toList.map fun c=>.str ⟨#[c]⟩
theorem i3 {z:Str}{GU:Array Value}(FG:ItemsOf (SignAt z) GU z.cps.size):Vals (dh z) GU.toList:=by
 have hl:GU.toList.length=z.cps.toList.length:=by rw[Array.length_toList,Array.length_toList,FG.1]
 have key:∀ (cs:List Nat) (vs:List Value),vs.length=cs.length->(∀ (i:Nat) (v:Value),vs[i]? = some v->∃ c u,cs[i]? = some c/\v=Value.str ⟨#[c]⟩ u)->Vals (cs.map fun c=>V.str ⟨#[c]⟩) vs:=by
  intro cs
  induction cs with
  | nil=>
   intro vs hl _
   cases vs with
   | nil=>exact .nil
   | cons _ _=>cases hl
  | cons c cs ih=>
   intro vs hl hv
   cases vs with
   | nil=>cases hl
   | cons v vs=>
    obtain⟨c',u,e1,e2⟩:=hv 0 v rfl
    have Ic:c=c':=by simpa using e1
    subst Ic e2
    exact .cons ⟨u,rfl⟩ (ih vs (by simpa using hl) fun i w hw=>by simpa using hv (i+1) w (by simpa using hw))
 refine key _ _ hl fun i v hv=>?_
 obtain⟨c,u,e1,e2⟩:=FG.2 i v (by rw[<- Array.getElem?_toList];exact hv)
 exact⟨c,u,by rw[Array.getElem?_toList];exact e1,e2⟩
theorem dS (hc:X.calm=true):bP X (.type "tuple") (fun xs H Q=>∃ z:Str,xs=[.str z]/\z.length<=sizeLine/\∀ l,H l=none->Q (.ref l) (upd H l (.tup (dh z)))):=by
 intro pins s σ H xs us Q I r h
 obtain⟨z,rfl,hz,q⟩:=h
 obtain⟨u,rfl,t,rfl⟩:=vals1 r
 refine call_tuple_str (hsz:=hz) (show X.A.handled=none from I.ok.hd hc) z t (fun h' tk acc kp FG=>?_)
 have rv:=i3 FG
 have I1:Inv X pins σ H {s with heap:=h',toks:=tk}:=I.kept (t':=tk) kp
 exact⟨.ref _,_,I1.laid (t':=tk) (fun b o e=>Heap.get?_push_of_some _ e) (Nat.le_refl _) (show aM X.prog X.w _ _ _ (.tup (dh z)) from ⟨by unfold dh;simpa[Str.length] using hz,acc.toList,rv,by simpa using IsTup.new h' acc⟩),rfl,q _ (I1.Be.fresh (Nat.le_refl _))⟩
end
open PySem.W
section
variable {κ:Type} [DecidableEq κ]
noncomputable def dj (kvs:List (κ×V))(k:κ):Option V:=(kvs.find? fun kv=>decide (kv.1=k)).map (·.2)
noncomputable def putK (kvs:List (κ×V))(k:κ)(v:V):List (κ×V):=
 if (kvs.any fun kv=>decide (kv.1=k))=true then kvs.map (fun kv=>if kv.1=k then (kv.1,v) else kv) else kvs++[(k,v)]
theorem dU {p:κ×V}{r:List (κ×V)}{k:κ}(e:p.1=k):dj (p::r) k=some p.2:=by simp[dj,List.find?_cons,e]
theorem dW {p:κ×V}{r:List (κ×V)}{k:κ}(e:¬ p.1=k):dj (p::r) k=dj r k:=by simp[dj,List.find?_cons,e]
theorem gW (k:κ):∀ kvs:List (κ×V),(kvs.any fun kv=>decide (kv.1=k))=(dj kvs k).isSome
 | []=>rfl
 | p::r=>by
  rw[List.any_cons]
  by_cases e:p.1=k
  ·simp only[dU e,decide_eq_true e,Bool.true_or,Option.isSome_some]
  ·rw[dW e,decide_eq_false e,Bool.false_or];exact gW k r
theorem dB (kvs:List (κ×V))(k:κ)(v:V):(putK kvs k v).length<=kvs.length+1:=by
 unfold putK
 split
 ·rw[List.length_map];omega
 ·rw[List.length_append,List.length_cons,List.length_nil];omega
theorem eN.BL {o:Option V}{u:Option Value}(r:eN o u):o.isSome=u.isSome:=by
 cases o with
 | none=>cases u with
  | none=>rfl
  | some _=>exact(show False from r).elim
 | some _=>cases u with
  | none=>exact(show False from r).elim
  | some _=>rfl
theorem KV.val {kvs:List (κ×V)}{vs:List (κ×Value)}(r:KV kvs vs)(k:κ):eN (dj kvs k) (valueAt vs k):=by
 unfold KV at r
 induction r with
 | nil=>exact True.intro
 | @cons p q ps qs h t ih=>
  obtain⟨h1,h2⟩:=h
  by_cases e:p.1=k
  ·have e':q.1=k:=h1.symm.trans e
   have b:valueAt (q::qs) k=some q.2:=by simp[valueAt,List.find?_cons,e']
   rw[dU e,b];exact h2
  ·have e':¬ q.1=k:=fun z=>e (h1.trans z)
   have b:valueAt (q::qs) k=valueAt qs k:=by simp[valueAt,List.find?_cons,e']
   rw[dW e,b];exact ih
theorem KV.any {kvs:List (κ×V)}{vs:List (κ×Value)}(r:KV kvs vs)(k:κ):(kvs.any fun kv=>decide (kv.1=k))=vs.any fun kv=>decide (kv.1=k):=by
 unfold KV at r
 induction r with
 | nil=>rfl
 | cons h t ih=>rw[List.any_cons,List.any_cons,ih,h.1]
theorem KV.GV {kvs:List (κ×V)}{vs:List (κ×Value)}(r:KV kvs vs)(k:κ){y:V}{u:Value}(ry:RelV y u) :
  KV (kvs.map fun kv=>if kv.1=k then (kv.1,y) else kv) (vs.map fun kv=>if kv.1=k then (kv.1,u) else kv):=by
 unfold KV at r ⊢
 induction r with
 | nil=>exact .nil
 | @cons p q ps qs h t ih=>
  rw[List.map_cons,List.map_cons]
  refine .cons ?_ ih
  obtain⟨h1,h2⟩:=h
  by_cases e:p.1=k
  ·rw[if_pos e,if_pos (h1.symm.trans e)];exact⟨h1,ry⟩
  ·rw[if_neg e,if_neg (fun z=>e (h1.trans z))];exact⟨h1,h2⟩
theorem KV.put {kvs:List (κ×V)}{vs:List (κ×Value)}(r:KV kvs vs)(k:κ){y:V}{u:Value}(ry:RelV y u):KV (putK kvs k y) (stored vs k u):=by
 unfold putK stored
 rw[r.any k]
 by_cases e:(vs.any fun kv=>decide (kv.1=k))=true
 ·rw[if_pos e,if_pos e];exact r.GV k ry
 ·rw[if_neg e,if_neg e];exact Paired.snoc r ⟨rfl,ry⟩
theorem KV.length {kvs:List (κ×V)}{vs:List (κ×Value)}(r:KV kvs vs):kvs.length=vs.length:=Paired.length r
end
theorem gX {P:Program}{w:World}{k:Key}{u:Value}(r:RelV (kV k) u):(aN P w).is k u=true:=by
 cases k with
 | inl i=>obtain⟨t,e⟩:=(show ∃ t,u=Value.int i t from r);subst e;exact gH P w i t
 | inr x=>obtain⟨t,e⟩:=(show ∃ t,u=Value.str x t from r);subst e;exact gI P w x t
theorem fg {P:Program}{w:World}:∀ {ks:List Key}{us:List Value},Vals (ks.map kV) us->ItemsAre (aN P w) ks us
 | [],_,r=>by rw[List.map_nil] at r;cases r;exact .nil
 | k::ks,_,r=>by
  rw[List.map_cons] at r
  cases r with
  | cons h t=>exact .cons (gX h) (fg t)
abbrev KT (H:Hp):List (List Key×V)->List (List Key×Addr×Value)->Prop:=Paired fun p q=>p.1=q.1/\H q.2.1=some (.tup (p.1.map kV))/\RelV p.2 q.2.2
theorem KT.val {H:Hp}{kvs:List (List Key×V)}{xs:List (List Key×Addr×Value)}(r:KT H kvs xs)(k:List Key):eN (dj kvs k) ((atKey xs k).map (·.2)):=by
 induction r with
 | nil=>exact True.intro
 | @cons p q ps qs h t ih=>
  obtain⟨h1,_,h2⟩:=h
  by_cases e:p.1=k
  ·have e':q.1=k:=h1.symm.trans e
   have b:atKey (q::qs) k=some q.2:=by simp[atKey,List.find?_cons,e']
   rw[dU e,b];exact h2
  ·have e':¬ q.1=k:=fun z=>e (h1.trans z)
   have b:atKey (q::qs) k=atKey qs k:=by simp[atKey,List.find?_cons,e']
   rw[dW e,b];exact ih
theorem KT.GV {H:Hp}{kvs:List (List Key×V)}{xs:List (List Key×Addr×Value)}(r:KT H kvs xs)(k:List Key){y:V}{u:Value}(ry:RelV y u) :
  KT H (kvs.map fun kv=>if kv.1=k then (kv.1,y) else kv) (xs.map (putAt k u)):=by
 induction r with
 | nil=>exact .nil
 | @cons p q ps qs h t ih=>
  rw[List.map_cons,List.map_cons]
  refine .cons ?_ ih
  obtain⟨h1,h2,h3⟩:=h
  unfold putAt
  by_cases e:p.1=k
  ·rw[if_pos e,if_pos (h1.symm.trans e)];exact⟨h1,h2,ry⟩
  ·rw[if_neg e,if_neg (fun z=>e (h1.trans z))];exact⟨h1,h2,h3⟩
theorem KT.put {H:Hp}{kvs:List (List Key×V)}{xs:List (List Key×Addr×Value)}(r:KT H kvs xs)(k:List Key){b:Addr}{y:V}{u:Value}(hb:H b=some (.tup (k.map kV)))(ry:RelV y u) :
  KT H (putK kvs k y) (storedH xs k b u):=by
 have e:(kvs.any fun kv=>decide (kv.1=k))=(atKey xs k).isSome:=by
  rw[gW,(r.val k).BL,Option.isSome_map]
 unfold putK storedH
 rw[e]
 by_cases q:(atKey xs k).isSome=true
 ·rw[if_pos q,if_pos q];exact r.GV k ry
 ·rw[if_neg q,if_neg q];exact Paired.snoc r ⟨rfl,hb,ry⟩
theorem KT.keeps {H H':Hp}{kvs:List (List Key×V)}{xs:List (List Key×Addr×Value)}(r:KT H kvs xs)(ht:∀ b ys,H b=some (.tup ys)->H' b=some (.tup ys)):KT H' kvs xs:=
 Paired.GC r fun _ _ z=>⟨z.1,ht _ _ z.2.1,z.2.2⟩
section
variable {P:Program}{w:World}{H:Hp}{h:Heap}{a:Addr}
theorem rO {u:HO}(ok:Bw P w H h)(e:Rd H a u):aM P w H h a u:=e.ok ok
theorem gY {kvs:List (Key×V)}(ok:Bw P w H h)(e:Rd H a (.dK kvs)):kvs.length<=sizeLine/\(a == sysModules)=false/\∃ vs,KV kvs vs/\h.DictOf (aN P w) a vs:=
 show aM P w H h a (.dK kvs) from rO ok e
theorem xh {kvs:List (Key×V)}(ok:Bw P w H h)(e:H a=some (.dK kvs)):kvs.length<=sizeLine/\(a == sysModules)=false/\∃ vs,KV kvs vs/\h.DictOf (aN P w) a vs:=gY ok (.inl e)
theorem dX {ks:List Key}(ok:Bw P w H h)(e:H a=some (.tup (ks.map kV))):(tupleKind (aN P w)).is h ks a:=by
 obtain⟨_,its,r,o,h1,h2,n,h3⟩:=(show aM P w H h a (.tup (ks.map kV)) from ok a _ e)
 exact⟨o,its.toArray,n,h1,h2,h3,by simpa using fg r⟩
theorem gZ {kvs:List (List Key×V)}(ok:Bw P w H h)(e:Rd H a (.dT kvs)):kvs.length<=sizeLine/\(a == sysModules)=false/\
  ∃ xs,KT H kvs xs/\h.DictOfH (tupleKind (aN P w)) a xs:=by
 obtain⟨z,y,xs,r,o,es,ep,h1,h2,h3,h4,h5⟩:=(show aM P w H h a (.dT kvs) from rO ok e)
 refine⟨z,y,xs,r,o,es,ep,h1,h2,h3,h4,fun x hx=>?_,h5⟩
 have all:∀ {l:List (List Key×V)}{m:List (List Key×Addr×Value)},KT H l m->∀ x∈m,(tupleKind (aN P w)).is h x.1 x.2.1:=by
  intro l m q
  induction q with
  | nil=>intro x hx;exact nomatch hx
  | @cons p q ps qs hq t ih=>
   intro x hx
   rcases List.mem_cons.mp hx with e|hx
   ·subst e
    exact dX ok (by rw[<- hq.1];exact hq.2.1)
   ·exact ih x hx
 exact all r x hx
theorem xi {kvs:List (List Key×V)}(ok:Bw P w H h)(e:H a=some (.dT kvs)):kvs.length<=sizeLine/\(a == sysModules)=false/\
  ∃ xs,KT H kvs xs/\h.DictOfH (tupleKind (aN P w)) a xs:=gZ ok (.inl e)
end
def fV (H:Hp)(a:Addr)(y:V)(r:Option V):Prop:=
 (∃ kvs k,Rd H a (.dK kvs)/\y=kV k/\r=dj kvs k)∨∃ kvs k b,Rd H a (.dT kvs)/\y=.ref b/\H b=some (.tup (k.map kV))/\r=dj kvs k
def xj (H:Hp)(a:Addr)(y v:V)(H':Hp):Prop:=
 (∃ kvs k,H a=some (.dK kvs)/\y=kV k/\kvs.length < sizeLine/\H'=upd H a (.dK (putK kvs k v)))∨
 ∃ kvs k b,H a=some (.dT kvs)/\y=.ref b/\H b=some (.tup (k.map kV))/\kvs.length < sizeLine/\H'=upd H a (.dT (putK kvs k v))
section
variable {X:Cx}{pins:List (Addr×Obj)}{σ:St}{H:Hp}{s:Shared}{a:Addr}{y v:V}{u r:Value}{o:Option V}{A:Around}{E:Value->Shared->Prop}
theorem Inv.big (I:Inv X pins σ H s):sysModules < s.heap.objs.size:=by
 have h:mainGlobals < s.heap.objs.size:=(I.mod.glob.keeps I.bk).lt
 exact Nat.lt_trans (by decide) h
theorem kY {Q:Value->Shared->Prop}(hu:A.units+1 < cLine)(I:Inv X pins σ H s)(g:fV H a y (some v))(ry:RelV y u)(h:∀ w' s',Inv X pins σ H s'->RelV v w'->Q w' s') :
  wpAny (model X.prog X.w) A (getItem (.ref a) u) Q E s:=by
 rcases g with ⟨kvs,k,e,ey,l⟩|⟨kvs,k,b,e,ey,eb,l⟩
 ·subst ey
  obtain⟨z,hd,vs,rel,dd⟩:=gY I.Be e
  obtain⟨w',hw,Fz⟩:=eN.some_of (v:=v) (o:=valueAt vs k) (by rw[l];exact rel.val k)
  exact wpAny_getItem_of (gX ry) dd.mapOf hw (h w' _ (I.tok _) Fz)
 ·subst ey
  cases (show u=Value.ref b from ry)
  obtain⟨z,hd,xs,rel,dd⟩:=gZ I.Be e
  obtain⟨w',hw,Fz⟩:=eN.some_of (v:=v) (o:=(atKey xs k).map (·.2)) (by rw[l];exact rel.val k)
  obtain⟨p,hp,OO⟩:=Option.map_eq_some_iff.mp hw
  refine wpAny_getItem_heap (tupleKind_room_in1 hu) (dX I.Be eb) dd hp ?_
  rw[OO]
  exact h w' _ (I.tok _) Fz
theorem Au {Q:Value->Shared->Prop}(hu:A.units+1 < cLine)(I:Inv X pins σ H s)(g:fV H a y o)(ry:RelV y u)(h:∀ s',Inv X pins σ H s'->Q (.bool o.isSome) s') :
  wpAny (model X.prog X.w) A (compareOp .In u (.ref a)) Q E s:=by
 rcases g with ⟨kvs,k,e,ey,l⟩|⟨kvs,k,b,e,ey,eb,l⟩
 ·subst ey
  obtain⟨z,hd,vs,rel,dd⟩:=gY I.Be e
  refine wpAny_in_of (gX ry) hd dd.mapOf ?_
  rw[<- (rel.val k).BL,<- l]
  exact h _ (I.tok _)
 ·subst ey
  cases (show u=Value.ref b from ry)
  obtain⟨z,hd,xs,rel,dd⟩:=gZ I.Be e
  refine wpAny_in_heap (tupleKind_room_in1 hu) (dX I.Be eb) hd dd ?_
  have q:=(rel.val k).BL
  rw[Option.isSome_map] at q
  rw[<- q,<- l]
  exact h _ (I.tok _)
theorem qh {Q:Value->Shared->Prop}(hu:A.units+1 < cLine)(I:Inv X pins σ H s)(g:fV H a y o)(ry:RelV y u)(h:∀ s',Inv X pins σ H s'->Q (.bool (!o.isSome)) s') :
  wpAny (model X.prog X.w) A (compareOp .NotIn u (.ref a)) Q E s:=by
 rcases g with ⟨kvs,k,e,ey,l⟩|⟨kvs,k,b,e,ey,eb,l⟩
 ·subst ey
  obtain⟨z,hd,vs,rel,dd⟩:=gY I.Be e
  refine wpAny_notIn_of (gX ry) hd dd.mapOf ?_
  rw[<- (rel.val k).BL,<- l]
  exact h _ (I.tok _)
 ·subst ey
  cases (show u=Value.ref b from ry)
  obtain⟨z,hd,xs,rel,dd⟩:=gZ I.Be e
  refine wpAny_notIn_heap (tupleKind_room_in1 hu) (dX I.Be eb) hd dd ?_
  have q:=(rel.val k).BL
  rw[Option.isSome_map] at q
  rw[<- q,<- l]
  exact h _ (I.tok _)
theorem jC {h':Heap}{t':Nat}{ob:HO}(I:Inv X pins σ H s)(mu:IJ (H a))(hs:Heap.SameBut a s.heap h')(he:∃ q,h'.get? a=some q)(new:aM X.prog X.w (upd H a ob) h' a ob) :
  Inv X pins σ (upd H a ob) {s with heap:=h',toks:=t'}:=
 I.write (x:=a) (e:=a) mu (.inl rfl) (fun b q hb z=>(hs.2 b hb).trans z) he new
theorem u7 {P:Program}{w:World}{H':Hp}{h':Heap}{kvs:List (Key×V)}{vs:List (Key×Value)}(z:kvs.length<=sizeLine)(hd:(a == sysModules)=false)(rel:KV kvs vs)(dd:h'.DictOf (aN P w) a vs) :
  aM P w H' h' a (.dK kvs):=⟨z,hd,vs,rel,dd⟩
theorem kZ {H':Hp}{Q:Unit->Shared->Prop}(hu:A.units+1 < cLine)(I:Inv X pins σ H s)(g:xj H a y v H')(ry:RelV y u)(rv:RelV v r)(h:∀ s',Inv X pins σ H' s'->Q () s') :
  wpAny (model X.prog X.w) A (setItem (.ref a) u r) Q E s:=by
 rcases g with ⟨kvs,k,e,ey,l,eH⟩|⟨kvs,k,b,e,ey,eb,l,eH⟩
 ·subst ey eH
  obtain⟨z,hd,vs,rel,dd⟩:=xh I.Be e
  have hz:vs.length<=sizeLine:=by rw[<- rel.length];exact z
  have hl:(putK kvs k v).length<=sizeLine:=by have:=dB kvs k v;omega
  refine wpAny_setItem_pairs (hsz:=hz) (gX ry) dd fun h' Ka hs=>h _ ?_
  have he:∃ q,h'.get? a=some q:=let ⟨q,_,_,hq,_⟩:=Ka;⟨q,hq⟩
  exact jC I (by rw[e];exact True.intro) hs he (u7 hl hd (rel.put k rv) Ka)
 ·subst ey eH
  cases (show u=Value.ref b from ry)
  obtain⟨z,hd,xs,rel,dd⟩:=xi I.Be e
  have hz:xs.length<=sizeLine:=by rw[<- Paired.length rel];exact z
  have hl:(putK kvs k v).length<=sizeLine:=by have:=dB kvs k v;omega
  refine wpAny_setItem_heap (hsz:=hz) (tupleKind_room_in1 hu) (dX I.Be eb) dd fun h' Ka hs=>h _ ?_
  obtain⟨q,es,ep,hq,h2,h3,h4,_,h5⟩:=Ka
  refine jC I (by rw[e];exact True.intro) hs ⟨q,hq⟩ ⟨hl,hd,_,(rel.put k eb rv).keeps fun c ys ec=>?_,q,es,ep,hq,h2,h3,h4,h5⟩
  rw[ak (wR ec e (fun z=>nomatch z))]
  exact ec
end
def xk (i:Expr):Prop:=∀ ov iv,subscripted i false ov iv=operate [ov,iv] (getItem ov iv)
theorem qi {prog:Program}{w:World}{A:Around}{E:Value->Shared->Prop}{s:Shared}{env:Env}{value slice:Expr}{pos:Pos}{T id:String}{Q:Value->Shared->Prop}
  (hl:typeLookup (.type T) "__getitem__" = pure (some (.builtin id))) (hs:xk slice)
  (h:wpAny (model prog w) A (eval value env) (fun o Bf=>wpAny (model prog w) A (eval slice env) (fun i DE=>DE.TypeIs o T/\wpAny (model prog w) A (getItem o i) Q E DE) E Bf) E s) :
  wpAny (model prog w) A (eval (.Subscript value slice pos) env) Q E s:=by
 refine Subscript_ (wpAny_mono h (fun o Bf FH=>wpAny_mono FH (fun i DE D0=>?_) fun _ _ x=>x) fun _ _ x=>x)
 obtain⟨hT,D0⟩:=D0
 unfold subscriptTail
 refine wpAny_bind ?_
 rw[getitemInPython_of_ne hT.not_modules]
 refine wpAny_bind (wpAny_specialOf hT hl ?_)
 have fin:wpAny (model prog w) A (subscripted slice false o i) (fun r FF=>wpAny (model prog w) A (letTemporaryGo value o r >>= fun _=>pure r) Q E FF) E DE:=by
  rw[hs o i]
  exact wpAny_operating (wpAny_mono D0 (fun r FF Li=>wpAny_bind (wpAny_letTemporaryGo (wpAny_pure Li))) fun _ _ x=>x)
 first
  | exact wpAny_pure (wpAny_bind fin)
  | exact wpAny_bind (wpAny_pure (wpAny_bind fin))
  | exact wpAny_bind fin
theorem g6 {X:Cx}{pins:List (Addr×Obj)}{σ:St}{H:Hp}{s:Shared}{a:Addr}{y:V}{o:Option V}(I:Inv X pins σ H s)(g:fV H a y o):s.TypeIs (.ref a) "dict":=by
 rcases g with ⟨kvs,k,e,_,_⟩|⟨kvs,k,b,e,_,_,_⟩
 ·obtain⟨_,_,vs,_,dd⟩:=gY I.Be e
  exact dd.typeIs
 ·obtain⟨_,_,xs,_,dd⟩:=gZ I.Be e
  exact dd.typeIs
def xl (td ty:TE):TE:=fun σ H Q=>td σ H fun x H1=>ty σ H1 fun y H2=>∃ a v,x=.ref a/\fV H2 a y (some v)/\Q v H2
def Av (ty td:TE):TE:=fun σ H Q=>ty σ H fun y H1=>td σ H1 fun x H2=>∃ a o,x=.ref a/\fV H2 a y o/\Q (.bl o.isSome) H2
def qj (ty td:TE):TE:=fun σ H Q=>ty σ H fun y H1=>td σ H1 fun x H2=>∃ a o,x=.ref a/\fV H2 a y o/\Q (.bl (!o.isSome)) H2
def xn (td ty tv:TE):TS:=fun D σ H=>tv σ H fun v H1=>td σ H1 fun x H2=>ty σ H2 fun y H3=>∃ a H4,x=.ref a/\xj H3 a y v H4/\D.nx σ H4
section
variable {X:Cx}{o i e value:Expr}{pos pos' OP:Pos}{td ty tv:TE}
theorem ql (hu:X.A.units+1 < cLine)(ho:PE X o td)(hi:PE X i ty)(hs:xk i):PE X (.Subscript o i pos) (xl td ty):=by
 intro pins s σ H Q I h
 refine qi PySem.F.slot_dict_getitem.lookup hs (Bg (ho pins s σ H _ I h) fun u s1 ⟨x,H1,I1,rx,q1⟩=>Bg (hi pins s1 σ H1 _ I1 q1) fun iv s2 ⟨y,H2,I2,ry,a,v,ex,g,q2⟩=>?_)
 subst ex
 obtain rfl:u=Value.ref a:=rx
 exact⟨g6 I2 g,kY hu I2 g ry fun w' s3 I3 Fz=>⟨v,H2,I3,Fz,q2⟩⟩
theorem l9 (hu:X.A.units+1 < cLine)(hi:PE X i ty)(ho:PE X o td):PC X .In i o (Av ty td):=by
 intro pins s σ H Q I h
 refine Bg (hi pins s σ H _ I h) fun iv s1 ⟨y,H1,I1,ry,q1⟩=>Bg (ho pins s1 σ H1 _ I1 q1) fun u s2 ⟨x,H2,I2,rx,a,ov,ex,g,q2⟩=>?_
 subst ex
 obtain rfl:u=Value.ref a:=rx
 exact Au hu I2 g ry fun s3 I3=>⟨.bl ov.isSome,H2,I3,rfl,q2⟩
theorem fq (hu:X.A.units+1 < cLine)(hi:PE X i ty)(ho:PE X o td):PC X .NotIn i o (qj ty td):=by
 intro pins s σ H Q I h
 refine Bg (hi pins s σ H _ I h) fun iv s1 ⟨y,H1,I1,ry,q1⟩=>Bg (ho pins s1 σ H1 _ I1 q1) fun u s2 ⟨x,H2,I2,rx,a,ov,ex,g,q2⟩=>?_
 subst ex
 obtain rfl:u=Value.ref a:=rx
 exact qh hu I2 g ry fun s3 I3=>⟨.bl (!ov.isSome),H2,I3,rfl,q2⟩
theorem jD (hu:X.A.units+1 < cLine)(ho:PE X o td)(hi:PE X i ty)(hv:PE X value tv)(hs:swapsWith value (some (.Subscript o i pos')) pos.line X.env=pure false) :
  PS X (.Assign [.Subscript o i pos'] value pos) (xn td ty tv):=by
 intro pins s σ H D I h
 refine wpAny_Assign_Subscript (Bg (hv pins s σ H _ I h) fun r s1 ⟨v,H1,I1,rv,q1⟩=>Bg (ho pins s1 σ H1 _ I1 q1) fun u s2 ⟨x,H2,I2,rx,q2⟩=>Bg (hi pins s2 σ H2 _ I2 q2) fun iv s3 ⟨y,H3,I3,ry,a,H4,ex,g,q3⟩=>?_) hs
 subst ex
 obtain rfl:u=Value.ref a:=rx
 exact kZ hu I3 g ry rv fun s4 I4=>⟨σ,H4,I4,q3⟩
end
theorem ma {P:Program}{w:World}{H:Hp}(h:Heap)(hb:sysModules < h.objs.size):aM P w H (h.push {cls:=.type "dict",data:=.dict #[]}) h.objs.size (.dK []):=
 ⟨Nat.zero_le _,beq_eq_false_iff_ne.mpr (Ne.symm (Nat.ne_of_lt hb)),[],.nil,Heap.DictOf.new h⟩
def u9:TE:=fun _ H Q=>∀ p,H p=none->Q (.ref p) (upd H p (.dK []))
section
variable {X:Cx}{pos:Pos}
theorem dY:PE X (.Dict [] [] pos) u9:=fun pins s σ H Q I h=>
 wpAny_Dict_empty ⟨.ref s.heap.objs.size,_,I.laid (a:=s.heap.objs.size) (o:=.dK []) (t':=s.toks) (fun _ _ q=>Heap.get?_push_of_some _ q) (Nat.le_refl _) (ma s.heap I.big),rfl,h _ (I.Be.fresh (Nat.le_refl _))⟩
end
open PySem.Builtin PySem.Builtin.Str
end L2
namespace L2.Zp
open PySem
inductive Kq where
 | l|t
def Sq (k:Kq)(h:Heap)(a:Addr)(xs:Array Value):Prop:=match k with
 | .l=>h.IsList a xs
 | .t=>h.IsTuple a xs
def It (k:Kq)(h:Heap)(i a:Addr)(n:Nat):Prop:=match k with
 | .l=>h.IsListIter i a n
 | .t=>h.IsTupleIter i a n
theorem Sq.to {k:Kq}{h h':Heap}{a:Addr}{xs:Array Value}(q:Sq k h a xs)(e:∀ o,h.get? a=some o->h'.get? a=some o):Sq k h' a xs:=by
 cases k with
 | l=>obtain⟨o,ho,r⟩:=q;exact⟨o,e o ho,r⟩
 | t=>obtain⟨o,ho,r⟩:=q;exact⟨o,e o ho,r⟩
theorem It.to {k:Kq}{h h':Heap}{i a:Addr}{n:Nat}(q:It k h i a n)(e:∀ o,h.get? i=some o->h'.get? i=some o):It k h' i a n:=by
 cases k with
 | l=>obtain⟨o,ho,r⟩:=q;exact⟨o,e o ho,r⟩
 | t=>obtain⟨o,ho,r⟩:=q;exact⟨o,e o ho,r⟩
theorem It.lt {k:Kq}{h:Heap}{i a:Addr}{n:Nat}(q:It k h i a n):i < h.objs.size:=by
 cases k with
 | l=>obtain⟨o,ho,_⟩:=q;exact Heap.lt_size ho
 | t=>obtain⟨o,ho,_⟩:=q;exact Heap.lt_size ho
section
variable {prog:Program}{w:World}{A:Around}{E:Value->Shared->Prop}{s:Shared}
theorem md {i a:Addr}{n:Nat}{xs:Array Value}{x:Value}{Q:Value->Shared->Prop}(c:s.heap.IsTupleIter i a n)(q:s.heap.IsTuple a xs)(hx:xs[n]? = some x)
  (k:∀ h',h'.IsTupleIter i a (n+1)->Heap.SameBut i s.heap h'->Q x {s with heap:=h'}):wpAny (model prog w) A (Builtin.SmallTypes.nextOf (.ref i)) Q E s:=by
 have ty:=c.typeIs
 obtain⟨oi,gi,ci,di⟩:=c
 obtain⟨oa,ga,_,na,da⟩:=q
 unfold Builtin.SmallTypes.nextOf
 refine wpAny_bind (wpAny_callSpecial?_slot (name:=Str.ofString "__next__") ty F.slot_tuple_iterator_next (wpAny_call_entry F.slot_tuple_iterator_next ty F.entry_tuple_iterator_next ?_ (F.args_tuple_iterator_next_1 _)))
 show wpAny _ _ (field (.ref i) 0 >>= _) _ _ s
 refine wpAny_bind (wpAny_field gi di (x:=.ref a) rfl ?_)
 show wpAny _ _ (if (Value.ref a == Value.none)=true then _ else _) _ _ s
 rw[if_neg (by intro z;cases z)]
 show wpAny _ _ (field (.ref i) 1 >>= _) _ _ s
 refine wpAny_bind (wpAny_field gi di (x:=.int n 0) rfl ?_)
 show wpAny _ _ (seqItems? (.ref a) >>= _) _ _ s
 refine wpAny_bind (wpAny_seqItems ga da ?_)
 simp only[Int.toNat_natCast,hx]
 refine wpAny_bind (wpAny_setField gi di (by simp) (wpAny_pure ⟨x,rfl,wpAny_pure (k _ ⟨_,Heap.get?_update_self _ gi (Obj.isFreed_of_fields (Obj.data_mapFields di _)),(Obj.cls_mapFields ..).trans ci,?_⟩ (Heap.SameBut.update ..))⟩))
 rw[Obj.data_mapFields di]
 simp[rawInt]
theorem qm {i a:Addr}{n:Nat}{xs:Array Value}{Q:Value->Shared->Prop}(hh:A.handled=none)(c:s.heap.IsTupleIter i a n)(q:s.heap.IsTuple a xs)(hx:xs[n]? = none)
  (k:∀ h' e,Heap.ExtBut i s.heap h'->(∃ o,h'.get? e=some o/\o.cls=.type "StopIteration")->E (.ref e) {s with heap:=h'}):wpAny (model prog w) A (Builtin.SmallTypes.nextOf (.ref i)) Q E s:=by
 have ty:=c.typeIs
 obtain⟨oi,gi,ci,di⟩:=c
 obtain⟨oa,ga,_,na,da⟩:=q
 unfold Builtin.SmallTypes.nextOf
 refine wpAny_bind (wpAny_callSpecial?_slot (name:=Str.ofString "__next__") ty F.slot_tuple_iterator_next (wpAny_call_entry F.slot_tuple_iterator_next ty F.entry_tuple_iterator_next ?_ (F.args_tuple_iterator_next_1 _)))
 show wpAny _ _ (field (.ref i) 0 >>= _) _ _ s
 refine wpAny_bind (wpAny_field gi di (x:=.ref a) rfl ?_)
 show wpAny _ _ (if (Value.ref a == Value.none)=true then _ else _) _ _ s
 rw[if_neg (by intro z;cases z)]
 show wpAny _ _ (field (.ref i) 1 >>= _) _ _ s
 refine wpAny_bind (wpAny_field gi di (x:=.int n 0) rfl ?_)
 show wpAny _ _ (seqItems? (.ref a) >>= _) _ _ s
 refine wpAny_bind (wpAny_seqItems ga da ?_)
 simp only[Int.toNat_natCast,hx]
 refine wpAny_bind (wpAny_rule (wpAny_bind (wpAny_setField gi di (by simp) (wpAny_bind ?_))))
 simp only[newExc,newTuple]
 refine wpAny_bind (wpAny_newObj_type (wpAny_bind (m:=firstArgMember _ _) (wpAny_of_eq (a:=Value.none) (by first|rfl|(simp only[firstArgMember];rfl)) (wpAny_newObj_type ?_ (by size_fits)))) (by size_fits))
 simp only[raiseNew]
 refine wpAny_bind (wpAny_handled ?_)
 first|rw[show A.in1.handled=none from hh]|rw[hh]
 exact wpAny_bind (wpAny_pure (wpAny_throw (k _ _ (((Heap.SameBut.update ..).extBut.push _).push _) ⟨_,Heap.get?_push_size _ rfl,rfl⟩)))
theorem fW {k:Kq}{i a:Addr}{n:Nat}{xs:Array Value}{x:Value}{Q:Value->Shared->Prop}(c:It k s.heap i a n)(q:Sq k s.heap a xs)(hx:xs[n]? = some x)
  (f:∀ h',It k h' i a (n+1)->Heap.SameBut i s.heap h'->Q x {s with heap:=h'}):wpAny (model prog w) A (Builtin.SmallTypes.nextOf (.ref i)) Q E s:=by
 cases k with
 | l=>exact wpAny_nextOf_list_item c q hx f
 | t=>exact md c q hx f
theorem me {k:Kq}{i a:Addr}{n:Nat}{xs:Array Value}{Q:Value->Shared->Prop}(hh:A.handled=none)(c:It k s.heap i a n)(q:Sq k s.heap a xs)(hx:xs[n]? = none)
  (f:∀ h' e,Heap.ExtBut i s.heap h'->(∃ o,h'.get? e=some o/\o.cls=.type "StopIteration")->E (.ref e) {s with heap:=h'}):wpAny (model prog w) A (Builtin.SmallTypes.nextOf (.ref i)) Q E s:=by
 cases k with
 | l=>exact wpAny_nextOf_list_end hh c q hx f
 | t=>exact qm hh c q hx f
end
section
variable {prog:Program}{w:World}{A:Around}{E:Value->Shared->Prop}{s:Shared}
def Kept (z TO i j:Addr)(h h':Heap):Prop:=∀ c o,c≠z->c≠TO->c≠i->c≠j->h.get? c=some o->h'.get? c=some o
theorem k6 {p q:Kq}{z TI TO i j l m:Addr}{n n':Nat}{xs ys:Array Value}{x y a b:Value}{Q:Value->Shared->Prop}(D:ZipApart z TI TO i j l m)(hz:IsZip s.heap z TI TO .none)(hI:IsPair s.heap TI (.ref i) (.ref j))(hO:IsPair s.heap TO a b)
  (ci:It p s.heap i l n) (cj:It q s.heap j m n') (sl:Sq p s.heap l xs) (sm:Sq q s.heap m ys) (hx:xs[n]? = some x) (hy:ys[n']? = some y)
  (k:∀ h',IsZip h' z TI TO (rawInt s.heap.objs.size)->IsPair h' TO x y->It p h' i l (n+1)->It q h' j m (n' + 1)->IsPair h' s.heap.objs.size x y->h'.objs.size=s.heap.objs.size+1->Kept z TO i j s.heap h'->Q (.ref s.heap.objs.size) {s with heap:=h'}) :
  wpAny (model prog w) A (Builtin.«zip.__next__» ⟨[.ref z],[]⟩) (fun fin s'=>∃ v,fin=.done (.ret v)/\Q v s') E s:=by
 show wpAny _ _ (field (.ref z) 2 >>= _) _ _ _
 refine wpAny_bind (wpAny_field hz rfl (x:=.bool false) rfl ?_)
 show wpAny _ _ (field (.ref z) 3 >>= _) _ _ _
 refine wpAny_bind (wpAny_field hz rfl (x:=.ref TI) rfl (wpAny_bind (wpAny_seqItems hI rfl ?_)))
 show wpAny _ _ (Builtin.SmallTypes.ownedTupleIsFree (.ref z) >>= _) _ _ _
 refine wpAny_bind ?_
 unfold Builtin.SmallTypes.ownedTupleIsFree
 refine wpAny_bind (wpAny_field hz rfl (x:=.none) rfl (wpAny_pure ?_))
 simp only[if_true]
 refine wpAny_bind (wpAny_rule (wpAny_bind (wpAny_field hz rfl (x:=.ref TO) rfl (wpAny_bind (wpAny_setField_rec hz (by simp) fun h1 z1 e1=>?_)))))
 have Kb:IsZip h1 z TI TO .ellipsis:=z1
 refine wpAny_bind ?_
 simp only[List.zipIdx_cons,List.zipIdx_nil,List.forIn_cons,List.forIn_nil]
 refine wpAny_bind (wpAny_bind (wpAny_onRaise ?_))
 show wpAny _ _ (Builtin.SmallTypes.nextOf (.ref i) >>= _) _ _ _
 refine wpAny_bind (fW (ci.to fun o e=>e1.extBut _ _ D.i1z e) (sl.to fun o e=>e1.extBut _ _ D.l1z e) hx fun h2 MT e2=>wpAny_pure ?_)
 have O2:IsPair h2 TO a b:=e2.extBut _ _ D.TOi1 (e1.extBut _ _ D.TOz hO)
 refine wpAny_bind (wpAny_seqItems O2 rfl (wpAny_bind (wpAny_updateSeq_pair O2 fun h3 O3 e3=>?_)))
 have OQ:IsPair h3 TO x b:=O3
 refine wpAny_bind (wpAny_letGo (wpAny_pure (wpAny_bind (wpAny_bind (wpAny_onRaise ?_)))))
 show wpAny _ _ (Builtin.SmallTypes.nextOf (.ref j) >>= _) _ _ _
 refine wpAny_bind (fW (cj.to fun o e=>e3.extBut _ _ D.TOi2.symm (e2.extBut _ _ D.i12.symm (e1.extBut _ _ D.i2z e))) (sm.to fun o e=>e3.extBut _ _ D.l2TO (e2.extBut _ _ D.l2i1 (e1.extBut _ _ D.l2z e))) hy fun h4 OR e4=>wpAny_pure ?_)
 have O4:IsPair h4 TO x b:=e4.extBut _ _ D.TOi2 OQ
 refine wpAny_bind (wpAny_seqItems O4 rfl (wpAny_bind (wpAny_updateSeq_pair O4 fun h5 O5 e5=>?_)))
 have MU:IsPair h5 TO x y:=O5
 refine wpAny_bind (wpAny_letGo (wpAny_pure (wpAny_pure (wpAny_bind (wpAny_seqItems MU rfl (wpAny_bind (wpAny_newTuple ?_)))))))
 have sz:h5.objs.size=s.heap.objs.size:=by rw[e5.1,e4.1,e3.1,e2.1,e1.1]
 have z5:IsZip h5 z TI TO .ellipsis:=e5.extBut _ _ D.TOz.symm (e4.extBut _ _ D.i2z.symm (e3.extBut _ _ D.TOz.symm (e2.extBut _ _ D.i1z.symm Kb)))
 have k5:Kept z TO i j s.heap h5:=fun c o c1 c2 c3 c4 e=>e5.extBut _ _ c2 (e4.extBut _ _ c4 (e3.extBut _ _ c2 (e2.extBut _ _ c3 (e1.extBut _ _ c1 e))))
 have OS:It p h5 i l (n+1):=MT.to fun o e=>e5.extBut _ _ D.TOi1.symm (e4.extBut _ _ D.i12 (e3.extBut _ _ D.TOi1.symm e))
 have OT:It q h5 j m (n' + 1):=OR.to fun o e=>e5.extBut _ _ D.TOi2.symm e
 have lz:z < h5.objs.size:=Heap.lt_size z5
 show wpAny _ _ (Builtin.SmallTypes.ownedTupleHandOut (.ref z) (.ref h5.objs.size) >>= _) _ _ _
 refine wpAny_bind ?_
 unfold Builtin.SmallTypes.ownedTupleHandOut
 have z6:IsZip (h5.push {cls:=.type "tuple",data:=.seq #[x,y]}) z TI TO .ellipsis:=Heap.get?_push_of_some _ z5
 refine wpAny_bind (wpAny_setField_rec z6 (by simp) fun h7 z7 e7=>wpAny_setField_rec (show IsZip h7 z TI TO (rawInt h5.objs.size) from z7) (by simp) fun h8 z8 e8=>?_)
 have MV:IsZip h8 z TI TO (rawInt h5.objs.size):=z8
 have up:∀ c o,c≠z->h5.get? c=some o->h8.get? c=some o:=fun c o c1 e=>e8.extBut _ _ c1 (e7.extBut _ _ c1 (Heap.get?_push_of_some _ e))
 have t8:IsPair h8 h5.objs.size x y:=e8.extBut _ _ (Nat.ne_of_gt lz) (e7.extBut _ _ (Nat.ne_of_gt lz) (Heap.get?_push_size _ rfl))
 have s8:h8.objs.size=h5.objs.size+1:=by rw[e8.1,e7.1,Heap.size_push]
 rw[sz] at MV t8 s8
 refine wpAny_pure ⟨_,rfl,?_⟩
 show Q (.ref h5.objs.size) _
 rw[sz]
 exact k h8 MV (up _ _ D.TOz MU) (OS.to fun o e=>up _ o D.i1z e) (OT.to fun o e=>up _ o D.i2z e) t8 s8 fun c o c1 c2 c3 c4 e=>up c o c1 (k5 c o c1 c2 c3 c4 e)
theorem k7 {p q:Kq}{z TI TO i j l m:Addr}{n n':Nat}{xs ys:Array Value}{a b:Value}{Q:PySem.Fin->Shared->Prop}(hh:A.handled=none)(D:ZipApart z TI TO i j l m)(hz:IsZip s.heap z TI TO .none)(hI:IsPair s.heap TI (.ref i) (.ref j))(hO:IsPair s.heap TO a b)
  (ci:It p s.heap i l n) (cj:It q s.heap j m n') (sl:Sq p s.heap l xs) (sm:Sq q s.heap m ys) (GW:xs[n]? = none∨ys[n']? = none)
  (k:∀ h' e,Kept z TO i j s.heap h'->(∃ o,h'.get? e=some o/\o.cls=.type "StopIteration")->E (.ref e) {s with heap:=h'}) :
  wpAny (model prog w) A (Builtin.«zip.__next__» ⟨[.ref z],[]⟩) Q E s:=by
 show wpAny _ _ (field (.ref z) 2 >>= _) _ _ _
 refine wpAny_bind (wpAny_field hz rfl (x:=.bool false) rfl ?_)
 show wpAny _ _ (field (.ref z) 3 >>= _) _ _ _
 refine wpAny_bind (wpAny_field hz rfl (x:=.ref TI) rfl (wpAny_bind (wpAny_seqItems hI rfl ?_)))
 show wpAny _ _ (Builtin.SmallTypes.ownedTupleIsFree (.ref z) >>= _) _ _ _
 refine wpAny_bind ?_
 unfold Builtin.SmallTypes.ownedTupleIsFree
 refine wpAny_bind (wpAny_field hz rfl (x:=.none) rfl (wpAny_pure ?_))
 simp only[if_true]
 refine wpAny_bind (wpAny_rule (wpAny_bind (wpAny_field hz rfl (x:=.ref TO) rfl (wpAny_bind (wpAny_setField_rec hz (by simp) fun h1 z1 e1=>?_)))))
 have Kb:IsZip h1 z TI TO .ellipsis:=z1
 refine wpAny_bind ?_
 simp only[List.zipIdx_cons,List.zipIdx_nil,List.forIn_cons,List.forIn_nil]
 refine wpAny_bind (wpAny_bind (wpAny_onRaise ?_))
 show wpAny _ _ (Builtin.SmallTypes.nextOf (.ref i) >>= _) _ _ _
 cases hx:xs[n]? with
 | none=>
  refine wpAny_bind (me hh (ci.to fun o e=>e1.extBut _ _ D.i1z e) (sl.to fun o e=>e1.extBut _ _ D.l1z e) hx fun h2 e e2 he=>?_)
  obtain⟨oe,g,c⟩:=he
  have z2:IsZip h2 z TI TO .ellipsis:=e2 _ _ D.i1z.symm Kb
  have ne:e≠z:=fun v=>by rw[v,z2] at g;cases g;simp at c
  exact wpAny_setField_rec z2 (by simp) fun h3 _ e3=>k h3 e (fun d o c1 _ c3 _ v=>e3.extBut _ _ c1 (e2 _ _ c3 (e1.extBut _ _ c1 v))) ⟨oe,e3.extBut _ _ ne g,c⟩
 | some x=>
  have hy:ys[n']? = none:=by
   rcases GW with v|v
   ·rw[hx] at v;cases v
   ·exact v
  refine wpAny_bind (fW (ci.to fun o e=>e1.extBut _ _ D.i1z e) (sl.to fun o e=>e1.extBut _ _ D.l1z e) hx fun h2 MT e2=>wpAny_pure ?_)
  have O2:IsPair h2 TO a b:=e2.extBut _ _ D.TOi1 (e1.extBut _ _ D.TOz hO)
  refine wpAny_bind (wpAny_seqItems O2 rfl (wpAny_bind (wpAny_updateSeq_pair O2 fun h3 O3 e3=>wpAny_bind (wpAny_letGo (wpAny_pure (wpAny_bind (wpAny_bind (wpAny_onRaise ?_))))))))
  show wpAny _ _ (Builtin.SmallTypes.nextOf (.ref j) >>= _) _ _ _
  refine wpAny_bind (me hh (cj.to fun o e=>e3.extBut _ _ D.TOi2.symm (e2.extBut _ _ D.i12.symm (e1.extBut _ _ D.i2z e))) (sm.to fun o e=>e3.extBut _ _ D.l2TO (e2.extBut _ _ D.l2i1 (e1.extBut _ _ D.l2z e))) hy fun h4 e e4 he=>?_)
  obtain⟨oe,g,c⟩:=he
  have z4:IsZip h4 z TI TO .ellipsis:=e4 _ _ D.i2z.symm (e3.extBut _ _ D.TOz.symm (e2.extBut _ _ D.i1z.symm Kb))
  have ne:e≠z:=fun v=>by rw[v,z4] at g;cases g;simp at c
  exact wpAny_setField_rec z4 (by simp) fun h5 _ e5=>k h5 e (fun d o c1 c2 c3 c4 v=>e5.extBut _ _ c1 (e4 _ _ c4 (e3.extBut _ _ c2 (e2.extBut _ _ c3 (e1.extBut _ _ c1 v))))) ⟨oe,e5.extBut _ _ ne g,c⟩
end
noncomputable def Ih:Kq->Addr->Obj
 | .l,a=>{cls:=.type "list_iterator",data:=.fields #[.ref a,.int 0 0]}
 | .t,a=>{cls:=.type "tuple_iterator",data:=.fields #[.ref a,.int 0 0]}
noncomputable def Hi (p:Kq)(h:Heap)(l:Addr):Heap:=h.push (Ih p l)
noncomputable def Hj (p q:Kq)(h:Heap)(l m:Addr):Heap:=(Hi p h l).push (Ih q m)
noncomputable def HI (p q:Kq)(h:Heap)(l m:Addr):Heap:=(Hj p q h l m).push {cls:=.type "tuple",data:=.seq #[.ref h.objs.size,.ref (Hi p h l).objs.size]}
noncomputable def HO (p q:Kq)(h:Heap)(l m:Addr):Heap:=(HI p q h l m).push {cls:=.type "tuple",data:=.seq #[.none,.none]}
noncomputable def HZ (p q:Kq)(h:Heap)(l m:Addr):Heap:=(HO p q h l m).push {cls:=.type "zip",data:=.fields #[.none,.bool false,.bool false,.ref (Hj p q h l m).objs.size,.ref (HI p q h l m).objs.size]}
theorem vd (l m:Addr)(xs ys:Array Value):Meets (Builtin.«zip.__new__» ⟨[.type "zip",.ref l,.ref m],[]⟩) (fun _ R s=>Sq .l s.heap l xs/\Sq .l s.heap m ys/\R (.ok (.ret (.ref (HO .l .l s.heap l m).objs.size))) {s with heap:=HZ .l .l s.heap l m}):=
 .of_wp fun prog w A R s h=>by
  obtain⟨hp,g,d,tk,os⟩:=s
  obtain⟨q1,q2,h⟩:=h
  have sub:=sub_zip
  have a1:Heap.IsList (Shared.heap ⟨hp,g,d,tk,os⟩) l xs:=q1
  have a2:Heap.IsList (Shared.heap ⟨hp.push {cls:=.type "list_iterator",data:=.fields #[.ref l,.int 0 0]},g,d,tk,os⟩) m ys:=Heap.IsList.push (show hp.IsList m ys from q2) _
  wp_walk using wpAny_pyIter_list a1,wpAny_pyIter_list a2
  exact⟨_,rfl,h⟩
theorem ve (l m:Addr)(xs ys:Array Value):Meets (Builtin.«zip.__new__» ⟨[.type "zip",.ref l,.ref m],[]⟩) (fun _ R s=>Sq .l s.heap l xs/\Sq .t s.heap m ys/\R (.ok (.ret (.ref (HO .l .t s.heap l m).objs.size))) {s with heap:=HZ .l .t s.heap l m}):=
 .of_wp fun prog w A R s h=>by
  obtain⟨hp,g,d,tk,os⟩:=s
  obtain⟨q1,q2,h⟩:=h
  have sub:=sub_zip
  have a1:Heap.IsList (Shared.heap ⟨hp,g,d,tk,os⟩) l xs:=q1
  have a2:Heap.IsTuple (Shared.heap ⟨hp.push {cls:=.type "list_iterator",data:=.fields #[.ref l,.int 0 0]},g,d,tk,os⟩) m ys:=Heap.IsTuple.push (show hp.IsTuple m ys from q2) _
  wp_walk using wpAny_pyIter_list a1,wpAny_pyIter_tuple a2
  exact⟨_,rfl,h⟩
theorem vf (l m:Addr)(xs ys:Array Value):Meets (Builtin.«zip.__new__» ⟨[.type "zip",.ref l,.ref m],[]⟩) (fun _ R s=>Sq .t s.heap l xs/\Sq .l s.heap m ys/\R (.ok (.ret (.ref (HO .t .l s.heap l m).objs.size))) {s with heap:=HZ .t .l s.heap l m}):=
 .of_wp fun prog w A R s h=>by
  obtain⟨hp,g,d,tk,os⟩:=s
  obtain⟨q1,q2,h⟩:=h
  have sub:=sub_zip
  have a1:Heap.IsTuple (Shared.heap ⟨hp,g,d,tk,os⟩) l xs:=q1
  have a2:Heap.IsList (Shared.heap ⟨hp.push {cls:=.type "tuple_iterator",data:=.fields #[.ref l,.int 0 0]},g,d,tk,os⟩) m ys:=Heap.IsList.push (show hp.IsList m ys from q2) _
  wp_walk using wpAny_pyIter_tuple a1,wpAny_pyIter_list a2
  exact⟨_,rfl,h⟩
theorem vg (l m:Addr)(xs ys:Array Value):Meets (Builtin.«zip.__new__» ⟨[.type "zip",.ref l,.ref m],[]⟩) (fun _ R s=>Sq .t s.heap l xs/\Sq .t s.heap m ys/\R (.ok (.ret (.ref (HO .t .t s.heap l m).objs.size))) {s with heap:=HZ .t .t s.heap l m}):=
 .of_wp fun prog w A R s h=>by
  obtain⟨hp,g,d,tk,os⟩:=s
  obtain⟨q1,q2,h⟩:=h
  have sub:=sub_zip
  have a1:Heap.IsTuple (Shared.heap ⟨hp,g,d,tk,os⟩) l xs:=q1
  have a2:Heap.IsTuple (Shared.heap ⟨hp.push {cls:=.type "tuple_iterator",data:=.fields #[.ref l,.int 0 0]},g,d,tk,os⟩) m ys:=Heap.IsTuple.push (show hp.IsTuple m ys from q2) _
  wp_walk using wpAny_pyIter_tuple a1,wpAny_pyIter_tuple a2
  exact⟨_,rfl,h⟩
theorem vi (p q:Kq)(l m:Addr)(xs ys:Array Value):Meets (Builtin.«zip.__new__» ⟨[.type "zip",.ref l,.ref m],[]⟩) (fun _ R s=>Sq p s.heap l xs/\Sq q s.heap m ys/\R (.ok (.ret (.ref (HO p q s.heap l m).objs.size))) {s with heap:=HZ p q s.heap l m}):=by
 cases p<;>cases q
 ·exact vd l m xs ys
 ·exact ve l m xs ys
 ·exact vf l m xs ys
 ·exact vg l m xs ys
theorem mf {k:Kq}{h h':Heap}{i a:Addr}(e:h'.get? i=some (Ih k a)):It k h' i a 0:=by
 cases k with
 | l=>exact⟨_,e,rfl,rfl⟩
 | t=>exact⟨_,e,rfl,rfl⟩
theorem g7 (k:Kq)(a:Addr):(Ih k a).isFreed=false:=by cases k<;>rfl
section
variable {prog:Program}{w:World}{A:Around}{E:Value->Shared->Prop}{s:Shared}
theorem EW {p q:Kq}{l m:Addr}{xs ys:Array Value}{Q:Value->Shared->Prop}(h1:Sq p s.heap l xs)(h2:Sq q s.heap m ys)
  (k:∀ h',IsZip h' (s.heap.objs.size+4) (s.heap.objs.size+2) (s.heap.objs.size+3) .none->IsPair h' (s.heap.objs.size+2) (.ref s.heap.objs.size) (.ref (s.heap.objs.size+1))->IsPair h' (s.heap.objs.size+3) .none .none->
   It p h' s.heap.objs.size l 0->It q h' (s.heap.objs.size+1) m 0->h'.objs.size=s.heap.objs.size+5->(∀ c o,s.heap.get? c=some o->h'.get? c=some o)->Q (.ref (s.heap.objs.size+4)) {s with heap:=h'}) :
  wpAny (model prog w) A (call (.type "zip") [.ref l,.ref m]) Q E s:=by
 refine callType_new F.called_zip (by decide) (F.typeCall_zip_2 _ _) (F.newCall_zip_2 _ _) (fun obj=>F.args_object_init_3 obj _ _) F.entry_zip_new (vi p q l m xs ys) ⟨h1,h2,?_⟩
 have n1:(Hi p s.heap l).objs.size=s.heap.objs.size+1:=Heap.size_push ..
 have n2:(Hj p q s.heap l m).objs.size=s.heap.objs.size+2:=(Heap.size_push ..).trans (by rw[n1])
 have n3:(HI p q s.heap l m).objs.size=s.heap.objs.size+3:=(Heap.size_push ..).trans (by rw[n2])
 have n4:(HO p q s.heap l m).objs.size=s.heap.objs.size+4:=(Heap.size_push ..).trans (by rw[n3])
 have n5:(HZ p q s.heap l m).objs.size=s.heap.objs.size+5:=(Heap.size_push ..).trans (by rw[n4])
 have MW:∀ c o,(HO p q s.heap l m).get? c=some o->(HZ p q s.heap l m).get? c=some o:=fun c o e=>Heap.get?_push_of_some _ e
 have MX:∀ c o,(HI p q s.heap l m).get? c=some o->(HZ p q s.heap l m).get? c=some o:=fun c o e=>MW c o (Heap.get?_push_of_some _ e)
 have MY:∀ c o,(Hj p q s.heap l m).get? c=some o->(HZ p q s.heap l m).get? c=some o:=fun c o e=>MX c o (Heap.get?_push_of_some _ e)
 have MZ:∀ c o,(Hi p s.heap l).get? c=some o->(HZ p q s.heap l m).get? c=some o:=fun c o e=>MY c o (Heap.get?_push_of_some _ e)
 have g5:(HZ p q s.heap l m).get? (HO p q s.heap l m).objs.size=some _:=Heap.get?_push_size _ rfl
 have g4:(HZ p q s.heap l m).get? (HI p q s.heap l m).objs.size=some {cls:=.type "tuple",data:=.seq #[.none,.none]}:=MW _ _ (Heap.get?_push_size _ rfl)
 have g3:(HZ p q s.heap l m).get? (Hj p q s.heap l m).objs.size=some {cls:=.type "tuple",data:=.seq #[.ref s.heap.objs.size,.ref (Hi p s.heap l).objs.size]}:=MX _ _ (Heap.get?_push_size _ rfl)
 have g2:(HZ p q s.heap l m).get? (Hi p s.heap l).objs.size=some (Ih q m):=MY _ _ (Heap.get?_push_size _ (g7 q m))
 have g1:(HZ p q s.heap l m).get? s.heap.objs.size=some (Ih p l):=MZ _ _ (Heap.get?_push_size _ (g7 p l))
 rw[n2,n3,n4] at g5
 rw[n3] at g4
 rw[n1,n2] at g3
 rw[n1] at g2
 show _/\_
 rw[n4]
 exact⟨⟨_,g5,rfl⟩,k _ g5 g3 g4 (mf (h:=s.heap) g1) (mf (h:=s.heap) g2) n5 fun c o e=>MZ c o (Heap.get?_push_of_some _ e)⟩
end
section
variable {prog:Program}{w:World}{A:Around}{E:Value->Shared->Prop}{s:Shared}
theorem FI {p q:Kq}{z TI TO i j l m:Addr}{n n':Nat}{xs ys:Array Value}{x y a b:Value}{Q:Option Value->Shared->Prop}(D:ZipApart z TI TO i j l m)(hz:IsZip s.heap z TI TO .none)(hI:IsPair s.heap TI (.ref i) (.ref j))(hO:IsPair s.heap TO a b)
  (ci:It p s.heap i l n) (cj:It q s.heap j m n') (sl:Sq p s.heap l xs) (sm:Sq q s.heap m ys) (hx:xs[n]? = some x) (hy:ys[n']? = some y)
  (k:∀ h',IsZip h' z TI TO (rawInt s.heap.objs.size)->IsPair h' TO x y->It p h' i l (n+1)->It q h' j m (n' + 1)->IsPair h' s.heap.objs.size x y->h'.objs.size=s.heap.objs.size+1->Kept z TO i j s.heap h'->Q (some (.ref s.heap.objs.size)) {s with heap:=h'}) :
  wpAny (model prog w) A (pyNext (.ref z)) Q E s:=by
 have ty:s.TypeIs (.ref z) "zip":=⟨_,hz,rfl⟩
 unfold pyNext
 refine wpAny_bind (wpAny_attempt (wpAny_callSpecial?_slot (name:=Str.ofString "__next__") ty F.slot_zip_next (wpAny_call_entry F.slot_zip_next ty F.entry_zip_next ?_ (F.args_zip_next_1 _))))
 exact k6 D hz hI hO ci cj sl sm hx hy fun h' a1 a2 a3 a4 a5 a6 a7=>wpAny_pure (k h' a1 a2 a3 a4 a5 a6 a7)
theorem FJ {p q:Kq}{z TI TO i j l m:Addr}{n n':Nat}{xs ys:Array Value}{a b:Value}{Q:Option Value->Shared->Prop}(hh:A.handled=none)(D:ZipApart z TI TO i j l m)(hz:IsZip s.heap z TI TO .none)(hI:IsPair s.heap TI (.ref i) (.ref j))(hO:IsPair s.heap TO a b)
  (ci:It p s.heap i l n) (cj:It q s.heap j m n') (sl:Sq p s.heap l xs) (sm:Sq q s.heap m ys) (GW:xs[n]? = none∨ys[n']? = none)
  (k:∀ h',Kept z TO i j s.heap h'->Q none {s with heap:=h'}):wpAny (model prog w) A (pyNext (.ref z)) Q E s:=by
 have ty:s.TypeIs (.ref z) "zip":=⟨_,hz,rfl⟩
 unfold pyNext
 refine wpAny_bind (wpAny_attempt (wpAny_callSpecial?_slot (name:=Str.ofString "__next__") ty F.slot_zip_next (wpAny_call_entry F.slot_zip_next ty F.entry_zip_next (k7 hh D hz hI hO ci cj sl sm GW fun h' e hk he=>?_) (F.args_zip_next_1 _))))
 obtain⟨o,g,c⟩:=he
 exact wpAny_bind (wpAny_isInstance (T:="StopIteration") (b:=true) ⟨o,g,c⟩ isSubtype_stop (wpAny_pure (k _ hk)))
end
end L2.Zp
namespace L2
open PySem PySem.Spec PyProof.Rows
def EK (K:PySem.W.Frag)(H:Hp)(k:Zp.Kq)(a:Addr)(xs:List V):Prop:=match k with
 | .l=>BS K H a xs
 | .t=>Cv K H a xs
section
variable {X:Cx}{pins:List (Addr×Obj)}{σ:St}{H:Hp}{s:Shared}{h':Heap}{k:Zp.Kq}{a:Addr}{xs ys:List V}
theorem Inv.Ii (I:Inv X pins σ H s)(h:EK X.K H k a xs):∃ its:List Value,Vals xs its/\Zp.Sq k s.heap a its.toArray:=by
 cases k with
 | l=>obtain⟨its,rv,p,hz⟩:=I.list h;exact⟨its,rv,p.isList⟩
 | t=>obtain⟨its,rv,p,hz⟩:=I.tuple h;exact⟨its,rv,p⟩
theorem Inv.Ee (I:Inv X pins σ H s)(h:EK X.K H k a xs)(h':EK X.K H k a ys):xs=ys:=by
 cases k with
 | l=>exact I.Bx h h'
 | t=>exact I.Cz h h'
theorem Inv.turns {t':Nat}{ch:List Addr}(I:Inv X pins σ H s)(k:∀ b o,b∉ch->s.heap.get? b=some o->h'.get? b=some o)(hf:∀ b∈ch,cw X pins H b):Inv X pins σ H {s with heap:=h',toks:=t'}:=by
 have F7:∀ b u,H b=some u->b∉ch:=fun b u e z=>by rw[(hf b z).1] at e;cases e
 refine I.step (g':=s.gens) (d':=s.drawn) (ch:=ch) (fun b hb=>?_) (fun b o _ _ hc e _=>k b o hc e) (fun b o _ _ hc e _=>⟨o.slots,k b o hc e⟩) (fun _ _ _ _ n=>n)
  (fun b o hc e=>⟨o,k b o hc e⟩) (fun _ _ e=>e) (fun _ _ _ e=>e) (fun b ps e=>⟨#[],by rw[e];simp⟩) (fun m hm=>?_) (fun b u e=>?_) I.bare
 ·obtain⟨f0,f1,f2,f3,f4,f5⟩:=hf b hb
  exact⟨f3,f1,f4,f5⟩
 ·obtain⟨o,es,ep,ho,r⟩:=hm
  exact⟨o,es,ep,k _ o (fun z=>(hf _ z).2.1 rfl) ho,r⟩
 ·refine(I.Be b u e).CD (fun c v hc q=>k c v ?_ q) (fun _ q=>q) fun _ _ q=>q
  rcases hc with z|z
  ·rw[z];exact F7 b u e
  ·exact F7 c _ z
theorem Inv.EX {t':Nat}{ch:List Addr}{T:Addr}{ho:HO}(I:Inv X pins σ H s)(k:∀ b o,b∉ch->s.heap.get? b=some o->h'.get? b=some o)(hf:∀ b∈ch,cw X pins H b)(hp:s.heap.objs.size<=T)(new:aM X.prog X.w (upd H T ho) h' T ho):Inv X pins σ (upd H T ho) {s with heap:=h',toks:=t'}:=by
 have F7:∀ b u,H b=some u->b∉ch:=fun b u e z=>by rw[(hf b z).1] at e;cases e
 have hn:H T=none:=I.Be.fresh hp
 refine I.step (g':=s.gens) (d':=s.drawn) (ch:=ch) (fun b hb=>?_) (fun b o _ _ hc e _=>k b o hc e) (fun b o _ _ hc e _=>⟨o.slots,k b o hc e⟩) (fun b o _ e n=>by rw[ak (Nat.ne_of_lt (Nat.lt_of_lt_of_le (Heap.lt_size e) hp))];exact n)
  (fun b o hc e=>⟨o,k b o hc e⟩) (fun b xs q=>by rw[ak (aC q hn)];exact q) (fun b u xs q=>by rw[ak (aC q hn)];exact q) (fun b ps q=>⟨#[],by rw[ak (aC q hn),q];simp⟩) (fun m hm=>?_) (fun b u e=>?_) I.bare
 ·obtain⟨f0,f1,f2,f3,f4,f5⟩:=hf b hb
  exact⟨f3,f1,f4,f5⟩
 ·obtain⟨o,es,ep,ho,r⟩:=hm
  exact⟨o,es,ep,k _ o (fun z=>(hf _ z).2.1 rfl) ho,r⟩
 ·by_cases hb:b=T
  ·subst hb;rw[aw] at e;cases e;exact new
  ·rw[ak hb] at e
   refine(I.Be b u e).CD (fun c v hc q=>k c v ?_ q) (fun c q=>by rw[ak (aC q hn)];exact q) fun c xs q=>by rw[ak (aC q hn)];exact q
   rcases hc with z|z
   ·rw[z];exact F7 b u e
   ·exact F7 c _ z
end
noncomputable def Lj (K:PySem.W.Frag)(p q:Zp.Kq)(l m:Addr):It:=
 ⟨fun i H=>∃ xs ys x y,EK K H p l xs/\EK K H q m ys/\xs[i]? = some x/\ys[i]? = some y,
  fun i H v H'=>∃ T a b,v=.ref T/\H T=none/\H'=upd H T (.tup [a,b])/\∀ xs ys,EK K H p l xs->EK K H q m ys->xs[i]? = some a/\ys[i]? = some b,
  fun i H=>∃ xs ys,EK K H p l xs/\EK K H q m ys/\(xs.length<=i∨ys.length<=i)⟩
theorem Zp.It.obj {k:Zp.Kq}{h:Heap}{i a:Addr}{n:Nat}(c:Zp.It k h i a n):∃ o,h.get? i=some o/\∀ v,o.data≠.cell v:=by
 cases k with
 | l=>obtain⟨o,e,c,d⟩:=c;exact⟨o,e,fun v z=>by rw[d] at z;cases z⟩
 | t=>obtain⟨o,e,c,d⟩:=c;exact⟨o,e,fun v z=>by rw[d] at z;cases z⟩
theorem mh {P:Program}{w:World}{K:PySem.W.Frag}{es:List Expr}{c:Nat}{pos:Pos}(p q:Zp.Kq)(z TI TO i j l m:Addr)(D:ZipApart z TI TO i j l m) :
  Turn P w K (.Tuple es c pos) (Lj K p q l m) [z,TI,TO,i,j] z (fun n h=>IsZip h z TI TO .none/\IsPair h TI (.ref i) (.ref j)/\(∃ a b,IsPair h TO a b)/\Zp.It p h i l n/\Zp.It q h j m n) where
 mem:=by simp
 obj:=fun n h st b hb=>by
  obtain⟨hz,hI,⟨a,b',hO⟩,ci,cj⟩:=st
  simp only[List.mem_cons,List.not_mem_nil,or_false] at hb
  rcases hb with rfl|rfl|rfl|rfl|rfl
  ·exact⟨_,hz,fun v z=>by cases z⟩
  ·exact⟨_,hI,fun v z=>by cases z⟩
  ·exact⟨_,hO,fun v z=>by cases z⟩
  ·exact ci.obj
  ·exact cj.obj
 keep:=fun n h h' st k=>by
  obtain⟨hz,hI,⟨a,b',hO⟩,ci,cj⟩:=st
  exact⟨k z (by simp) _ hz,k TI (by simp) _ hI,⟨a,b',k TO (by simp) _ hO⟩,ci.to fun o e=>k i (by simp) o e,cj.to fun o e=>k j (by simp) o e⟩
 item:=by
  intro X hP hw hK hc n pins s σ H E I hf st hg
  subst hP hw hK
  obtain⟨hz,hI,⟨a,b',hO⟩,ci,cj⟩:=st
  obtain⟨xs,ys,x,y,Kc,Ke,hx,hy⟩:=hg
  obtain⟨Dk,EL,p1⟩:=I.Ii Kc
  obtain⟨B2,DJ,p2⟩:=I.Ii Ke
  obtain⟨u1,Lk,Ll⟩:=EL.get hx
  obtain⟨u2,OU,OV⟩:=DJ.get hy
  refine Zp.FI D hz hI hO ci cj p1 p2 (x:=u1) (y:=u2) (by simpa using Lk) (by simpa using OU) fun h1 a1 a2 a3 a4 a5 a6 hk=>?_
  refine⟨_,rfl,?_⟩
  have lz:z < s.heap.objs.size:=Heap.lt_size hz
  have OW:s.heap.objs.size≠z:=Nat.ne_of_gt lz
  refine wpAny_letOwnedTupleGo_zip (s:={s with heap:=h1}) a1 fun h2 OX D1=>?_
  have kk:∀ b o,b∉[z,TI,TO,i,j]->s.heap.get? b=some o->h2.get? b=some o:=fun b o hb e=>by
   simp only[List.mem_cons,List.not_mem_nil,or_false,not_or] at hb
   exact D1.extBut _ _ hb.1 (hk b o hb.1 hb.2.2.1 hb.2.2.2.1 hb.2.2.2.2 e)
  have hT:IsPair h2 s.heap.objs.size u1 u2:=D1.extBut _ _ OW a5
  have I2:Inv X pins σ (upd H s.heap.objs.size (.tup [x,y])) {s with heap:=h2}:=I.EX (t':=s.toks) kk hf (Nat.le_refl _) ⟨by show 2<=sizeLine;decide,[u1,u2],.cons Ll (.cons OV .nil),⟨_,hT,rfl,_,rfl⟩⟩
  refine⟨.ref s.heap.objs.size,_,I2,rfl,⟨_,x,y,rfl,I.Be.fresh (Nat.le_refl _),rfl,fun M0 Ry g1 g2=>by rw[I.Ee g1 Kc,I.Ee g2 Ke];exact⟨hx,hy⟩⟩,⟨OX,D1.extBut _ _ D.TIz (hk _ _ D.TIz D.TITO D.TIi1 D.TIi2 hI),⟨_,_,D1.extBut _ _ D.TOz a2⟩,a3.to fun o e=>D1.extBut _ _ D.i1z e,a4.to fun o e=>D1.extBut _ _ D.i2z e⟩,fun b hb=>?_⟩
  have Ex:b < s.heap.objs.size:=by
   simp only[List.mem_cons,List.not_mem_nil,or_false] at hb
   rcases hb with rfl|rfl|rfl|rfl|rfl
   ·exact lz
   ·exact Heap.lt_size hI
   ·exact Heap.lt_size hO
   ·exact ci.lt
   ·exact cj.lt
  rw[ak (Nat.ne_of_lt Ex)]
  exact(hf b hb).1
 done:=by
  intro X hP hw hK hc n pins s σ H E I hf st hg
  subst hP hw hK
  obtain⟨hz,hI,⟨a,b',hO⟩,ci,cj⟩:=st
  obtain⟨xs,ys,Kc,Ke,hx⟩:=hg
  obtain⟨Dk,EL,p1⟩:=I.Ii Kc
  obtain⟨B2,DJ,p2⟩:=I.Ii Ke
  have l1:=EL.length
  have l2:=DJ.length
  refine Zp.FJ (I.ok.hd hc) D hz hI hO ci cj p1 p2 (by
   rcases hx with hx|hx
   ·exact .inl (Array.getElem?_eq_none (by simp;omega))
   ·exact .inr (Array.getElem?_eq_none (by simp;omega))) fun h1 hk=>⟨rfl,I.turns (t':=s.toks) (ch:=[z,TI,TO,i,j]) (fun b o hb e=>?_) hf⟩
  simp only[List.mem_cons,List.not_mem_nil,or_false,not_or] at hb
  exact hk b o hb.1 hb.2.2.1 hb.2.2.2.1 hb.2.2.2.2 e
 self:=fun _ _ _ _ _ st h=>wpAny_pyIter_zip st.1 h
def Aw (K:PySem.W.Frag)(ta:TA):TI:=fun σ H R=>ta σ H fun vs H1=>∃ p q l m xs ys,vs=[.ref l,.ref m]/\EK K H1 p l xs/\EK K H1 q m ys/\R (Lj K p q l m) H1
theorem Zp.Sq.lt {k:Zp.Kq}{h:Heap}{a:Addr}{xs:Array Value}(q:Zp.Sq k h a xs):a < h.objs.size:=by
 cases k with
 | l=>obtain⟨o,e,_⟩:=q;exact Heap.lt_size e
 | t=>obtain⟨o,e,_⟩:=q;exact Heap.lt_size e
theorem mi (N l m:Nat)(hl:l < N)(hm:m < N):ZipApart (N+4) (N+2) (N+3) N (N+1) l m:=by
 constructor<;>(intro e;have e':(_:Nat)=(_:Nat):=e;omega)
theorem vj {X:Cx}{a b:Expr}{ta:TA}{es:List Expr}{c:Nat}{p tp pos:Pos}(hg:Gl X "zip") (hm:X.mg "zip" = none) (ha:PA X [a,b] ta) (hs:starEach [a,b] X.env=[(false,eval a X.env),(false,eval b X.env)]) (D1:starEach [b] X.env=[(false,eval b X.env)]) :
  PI X (.Tuple es c tp) (.Call (.Name "zip" p) [a,b] [] pos) (Aw X.K ta):=by
 intro pins s σ H R I h
 refine Call_ (cE I hg hm boot_zip (PyProof.Rows.callWith_type1 (Bg (ha pos pins s σ H _ I h) fun us s1 ⟨vs,H1,I1,r1,q1⟩=>?_) (by rw[hs,D1]) (by rw[D1];rfl)))
 obtain⟨k1,k2,l,m,xs,ys,e,g1,g2,q⟩:=q1
 subst e
 cases r1 with
 | cons r rr=>
  cases rr with
  | cons r' rr=>
   cases rr
   cases r
   cases r'
   obtain⟨Dk,EL,p1⟩:=I1.Ii g1
   obtain⟨B2,DJ,p2⟩:=I1.Ii g2
   have l1:=p1.lt
   have l2:=p2.lt
   refine Zp.EW p1 p2 fun h2 b1 b2 b3 b4 b5 b6 b7=>?_
   refine wpAny_pyIter_zip (s:={s1 with heap:=h2}) b1 ?_
   refine⟨s1.heap.objs.size+4,[s1.heap.objs.size+4,s1.heap.objs.size+2,s1.heap.objs.size+3,s1.heap.objs.size,s1.heap.objs.size+1],_,_,H1,rfl,I1.kept (t':=s1.toks) b7,mh k1 k2 _ _ _ _ _ l m (mi _ l m l1 l2),⟨b1,b2,⟨_,_,b3⟩,b4,b5⟩,fun b hb=>?_,q⟩
   have Ex:s1.heap.objs.size<=b:=by
    simp only[List.mem_cons,List.not_mem_nil,or_false] at hb
    rcases hb with rfl|rfl|rfl|rfl|rfl
    ·exact Nat.le_add_right _ _
    ·exact Nat.le_add_right _ _
    ·exact Nat.le_add_right _ _
    ·exact Nat.le_refl _
    ·exact Nat.le_add_right _ _
   exact I1.DF Ex (I1.Be.fresh Ex)
end L2
namespace L2.Se
open PySem
open PyProof.Rows
section
variable {prog:Program}{w:World}{A:Around}{E:Value->Shared->Prop}{s:Shared}
instance:Inhabited Str:=⟨⟨#[]⟩⟩
end
end L2.Se
namespace L2.Sv
open PySem PyProof.Rows
noncomputable def OY (σ:List Str)(v:Str):List Str:=if σ.any (· == v) then σ else σ++[v]
end L2.Sv
namespace L2
open PySem PySem.Spec PyProof.Rows PySem.SeqAt
noncomputable def dd (ns:List Int):List Int:=ns.foldl step_dedup []
noncomputable def xo (x:Str):List Str->List Str
 | []=>[x]
 | y::r=>if ltCps y.cps.toList x.cps.toList=true then y::xo x r else x::y::r
noncomputable def rP:List Str->List Str
 | []=>[]
 | x::r=>xo x (rP r)
noncomputable def OZ (ns:List Str):List Str:=ns.foldl Sv.OY []
section
variable {X:Cx}
def Ax:V->List V->Hp->VK->Prop:=fun x vs H Q=>∃ l xs i y,x=.ref l/\vs=[.int i,y]/\H l=some (.lst xs)/\0<=i/\i.toNat<=xs.length/\xs.length < sizeLine/\Q .A8 (upd H l (.lst (xs.take i.toNat++y::xs.drop i.toNat)))
theorem vk:MJ X "list.insert" Ax:=by
 intro pins s σ H x vs v us Q I rx rv h
 obtain⟨l,xs,i,y,rfl,rfl,hH,h0,hi,hz,q⟩:=h
 cases rx
 have hs:sizeLine=16777216:=sizeLine_eq
 cases rv with
 | cons r1 Ij=>
  obtain⟨t,rfl⟩:=r1
  obtain⟨u,rfl,ru⟩:=Vals.one Ij
  obtain⟨z,its,n,r,hl,e⟩:=I.Ja hH
  refine call_meets F.slot_list_insert ⟨_,e,rfl⟩ F.entry_list_insert (F.args_list_insert_3 _ _ _) (AutoSeq1.list_insert_list_int_val_1 l its.toArray n i t u (by rw[fitsIndex_both (by omega) (by omega)];decide) (by rw[List.size_toArray];omega)) ⟨e,?_⟩
  refine⟨.A8,_,I.DY (its':=its.take i.toNat++u::its.drop i.toNat) hH e ?_ ((r.take i.toNat).append (.cons ru (r.drop i.toNat))) ?_,rfl,q⟩
  ·have h1:¬ i < 0:=by omega
   have h2:min i.toNat its.toArray.size=i.toNat:=by rw[List.size_toArray];omega
   simp only[h1,if_false,h2]
   apply Array.ext'
   simp
   rw[List.take_of_length_le (by rw[List.length_drop];omega)]
  ·rw[List.length_append,List.length_cons,List.length_take,List.length_drop]
   omega
end
end L2
namespace L2.Sx
open PySem PyProof.Rows
noncomputable def dd (σ:List Str)(v:Str):List Str:=if σ.any (· == v) then σ else σ++[v]
end L2.Sx
namespace L2
open PySem PySem.Spec PyProof.Rows
end L2
namespace L2.Dp
open PySem PyProof.Rows
end L2.Dp
namespace L2
open PySem PySem.Spec PyProof.Rows
open PySem.SeqAt
section
variable {X:Cx}
theorem Inv.A0 {pins:List (Addr×Obj)}{σ:St}{H:Hp}{s:Shared}{p:Addr}{kvs:List (Key×V)}(I:Inv X pins σ H s)(e:Rd H p (.dK kvs)):kvs.length<=sizeLine/\(p == sysModules)=false/\∃ vs o es ep,KV kvs vs/\s.heap.get? p=some o/\o.data=.dict es ep/\s.heap.DictAt (aN X.prog X.w) p vs ep:=by
 obtain⟨h1,h2,vs,kv,o,es,ep,ho,c,hd,r⟩:=e.ok I.Be
 exact⟨h1,h2,vs,o,es,ep,kv,ho,hd,o,es,ho,c,hd,r⟩
theorem KV.len {κ:Type}{kvs:List (κ×V)}{vs:List (κ×Value)}(r:KV kvs vs):kvs.length=vs.length:=Paired.length r
theorem k8:bP X (.builtin "len") (fun xs H Q=>∃ (p:Addr) (kvs:List (Key×V)),xs=[.ref p]/\Rd H p (.dK kvs)/\Q (.int kvs.length) H):=by
 intro pins s σ H xs us Q I r h
 obtain⟨p,kvs,rfl,hp,q⟩:=h
 obtain⟨u,rfl,rx⟩:=vals1 r
 cases rx
 obtain⟨hz,lo,vs,o,es,ep,kv,ho,hd,hm⟩:=I.A0 hp
 have hs:sizeLine=16777216:=sizeLine_eq
 have hl:=kv.len
 exact call_len_dict lo hm.dictOf (by omega) ⟨.int kvs.length,H,I.tok _,⟨_,by rw[hl]⟩,q⟩
end
noncomputable def Lm (K:PySem.W.Frag)(l:Addr):It:=
 ⟨fun i H=>∃ xs x,BS K H l xs/\xs[i]? = some x,
  fun i H v H'=>∃ T x,v=.ref T/\H T=none/\H'=upd H T (.tup [.int i,x])/\∀ xs,BS K H l xs->xs[i]? = some x,
  fun i H=>∃ xs,BS K H l xs/\xs.length<=i⟩
theorem k9 {P:Program}{w:World}{K:PySem.W.Frag}{es:List Expr}{c:Nat}{pos:Pos}(e it l:Addr)(Ey:e≠it) :
  Turn P w K (.Tuple es c pos) (Lm K l) [e,it] e (fun n h=>(∃ old,IsEnum h e it n old)/\h.IsListIter it l n) where
 mem:=by simp
 obj:=fun n h st b hb=>by
  obtain⟨⟨old,he⟩,ci⟩:=st
  simp only[List.mem_cons,List.not_mem_nil,or_false] at hb
  rcases hb with rfl|rfl
  ·exact⟨_,he,fun v z=>by cases z⟩
  ·obtain⟨o,e,c,d⟩:=ci
   exact⟨o,e,fun v z=>by rw[d] at z;cases z⟩
 keep:=fun n h h' st k=>by
  obtain⟨⟨old,he⟩,ci⟩:=st
  exact⟨⟨old,k e (by simp) _ he⟩,ci.at fun o q=>k it (by simp) o q⟩
 item:=by
  intro X hP hw hK hc n pins s σ H E I hf st hg
  subst hP hw hK
  obtain⟨⟨old,he⟩,ci⟩:=st
  obtain⟨xs,x,hq,hx⟩:=hg
  obtain⟨its,rv,p,hz⟩:=I.list hq
  obtain⟨u,hu,ru⟩:=rv.get hx
  refine wpAny_pyNext_enum_item he ci p.isList (x:=u) (by simpa using hu) Ey fun h1 a1 a2 a3 a4 hk=>?_
  refine⟨_,rfl,?_⟩
  have le:e < s.heap.objs.size:=Heap.lt_size he
  have O0:s.heap.objs.size≠e:=Nat.ne_of_gt le
  refine wpAny_letOwnedTupleGo_enum (s:={s with heap:=h1,toks:=s.toks+1}) a1 fun h2 O1 D1=>?_
  have kk:∀ b o,b∉[e,it]->s.heap.get? b=some o->h2.get? b=some o:=fun b o hb q=>by
   simp only[List.mem_cons,List.not_mem_nil,or_false,not_or] at hb
   exact D1.extBut _ _ hb.1 (hk b o hb.1 hb.2 q)
  have hT:=D1.extBut _ _ O0 a3
  have I2:Inv X pins σ (upd H s.heap.objs.size (.tup [.int n,x])) {s with heap:=h2,toks:=s.toks+1}:=I.EX (t':=s.toks+1) kk hf (Nat.le_refl _) ⟨by show 2<=sizeLine;decide,[.int n s.toks,u],.cons ⟨_,rfl⟩ (.cons ru .nil),⟨_,hT,rfl,_,rfl⟩⟩
  refine⟨.ref s.heap.objs.size,_,I2,rfl,⟨_,x,rfl,I.Be.fresh (Nat.le_refl _),rfl,fun M0 g1=>by rw[I.Bx g1 hq];exact hx⟩,⟨⟨_,by rw[Int.natCast_succ];exact O1⟩,a2.at fun o q=>D1.extBut _ _ Ey.symm q⟩,fun b hb=>?_⟩
  have Ex:b < s.heap.objs.size:=by
   simp only[List.mem_cons,List.not_mem_nil,or_false] at hb
   rcases hb with rfl|rfl
   ·exact le
   ·obtain⟨o,q,_⟩:=ci
    exact Heap.lt_size q
  rw[ak (Nat.ne_of_lt Ex)]
  exact(hf b hb).1
 done:=by
  intro X hP hw hK hc n pins s σ H E I hf st hg
  subst hP hw hK
  obtain⟨⟨old,he⟩,ci⟩:=st
  obtain⟨xs,hq,hx⟩:=hg
  obtain⟨its,rv,p,hz⟩:=I.list hq
  have l1:=rv.length
  refine wpAny_pyNext_enum_end (I.ok.hd hc) he ci p.isList (Array.getElem?_eq_none (by simp;omega)) fun h1 hk=>⟨rfl,I.turns (t':=s.toks) (ch:=[e,it]) (fun b o hb q=>?_) hf⟩
  simp only[List.mem_cons,List.not_mem_nil,or_false,not_or] at hb
  exact hk b o hb.2 q
 self:=fun _ _ _ _ _ st h=>by
  obtain⟨⟨old,he⟩,_⟩:=st
  exact wpAny_pyIter_enum he h
def Ay (K:PySem.W.Frag)(ta:TA):TI:=fun σ H R=>ta σ H fun vs H1=>∃ l xs,vs=[.ref l]/\BS K H1 l xs/\R (Lm K l) H1
theorem qo {X:Cx}{a:Expr}{ta:TA}{es:List Expr}{c:Nat}{p tp pos:Pos}(hg:Gl X "enumerate") (hm:X.mg "enumerate" = none) (ha:PA X [a] ta) (hs:starEach [a] X.env=[(false,eval a X.env)]) :
  PI X (.Tuple es c tp) (.Call (.Name "enumerate" p) [a] [] pos) (Ay X.K ta):=by
 intro pins s σ H R I h
 refine Call_ (cE I hg hm boot_enumerate (PyProof.Rows.callWith_type1 (Bg (ha pos pins s σ H _ I h) fun us s1 ⟨vs,H1,I1,r1,q1⟩=>?_) hs rfl))
 obtain⟨l,xs,e,g1,q⟩:=q1
 subst e
 obtain⟨u,rfl,r⟩:=vals1 r1
 cases r
 obtain⟨Dk,EL,p1,hz⟩:=I1.list g1
 refine call_enumerate_list p1.isList fun h2 b1 b2 b3 b4=>?_
 refine wpAny_pyIter_enum (s:={s1 with heap:=h2}) b1 ?_
 refine⟨s1.heap.objs.size+1,[s1.heap.objs.size+1,s1.heap.objs.size],_,_,H1,rfl,I1.kept (t':=s1.toks) b4,k9 _ _ l (Nat.succ_ne_self _),⟨⟨_,b1⟩,b2⟩,fun b hb=>?_,q⟩
 have Ex:s1.heap.objs.size<=b:=by
  simp only[List.mem_cons,List.not_mem_nil,or_false] at hb
  rcases hb with rfl|rfl
  ·exact Nat.le_add_right _ _
  ·exact Nat.le_refl _
 exact I1.DF Ex (I1.Be.fresh Ex)
noncomputable def Ln (K:PySem.W.Frag)(l:Addr)(n:Nat):It:=
 ⟨fun i H=>∃ xs,BS K H l xs/\xs.length=n/\i < n,fun i H x H'=>H'=H/\∀ xs,BS K H l xs->xs.length=n->xs[n - 1 - i]? = some x,fun i H=>i=n⟩
theorem mj {P:Program}{w:World}{K:PySem.W.Frag}{tg:Expr}(l it:Addr)(n:Nat):Turn P w K tg (Ln K l n) [it] it (fun i h=>h.IsRevIter it l ((n:Int) - 1 - (i:Int))) where
 mem:=by simp
 obj:=fun i h st b hb=>by
  have e:b=it:=by simpa using hb
  subst e
  obtain⟨o,e,c,d⟩:=st
  exact⟨o,e,fun v z=>by rw[d] at z;cases z⟩
 keep:=fun i h h' st k=>st.at fun o e=>k it (by simp) o e
 item:=by
  intro X hP hw hK hc i pins s σ H E I hf st hg
  subst hP hw hK
  obtain⟨xs,hq,hn,hi⟩:=hg
  obtain⟨its,rv,p,hz⟩:=I.list hq
  have hl:=rv.length
  obtain⟨x,hx⟩:∃ x,xs[n - 1 - i]? = some x:=⟨xs[n - 1 - i]'(by omega),List.getElem?_eq_getElem _⟩
  obtain⟨u,hu,ru⟩:=rv.get hx
  obtain⟨f0,f1,f2,f3,f4,f5⟩:=hf it (by simp)
  have e:(n:Int) - 1 - (i:Int)=((n - 1 - i:Nat):Int):=by omega
  rw[e] at st
  refine wpAny_pyNext_rev_item st p.isList (x:=u) (by simpa using hu) fun h' DV sb=>?_
  have e2:((n - 1 - i:Nat):Int) - 1=(n:Int) - 1 - ((i+1:Nat):Int):=by omega
  rw[e2] at DV
  have I1:Inv X pins σ H {s with heap:=h'}:=I.turned (t':=s.toks) (fun b o hb e=>(sb.2 b hb).trans e) f0 f1 f3 f4 f5
  obtain⟨o,e,c,d⟩:=id DV
  exact⟨u,rfl,gO (s:={s with heap:=h'}) e c d (by decide) ⟨x,H,I1,ru,⟨rfl,fun ys hy _=>by rw[I.Bx hy hq];exact hx⟩,DV,fun b hb=>(hf b hb).1⟩⟩
 done:=by
  intro X hP hw hK hc i pins s σ H E I hf st hg
  subst hP hw hK
  have hg:i=n:=hg
  subst hg
  obtain⟨f0,f1,f2,f3,f4,f5⟩:=hf it (by simp)
  rw[show (i:Int) - 1 - (i:Int) = -1 by omega] at st
  exact wpAny_pyNext_rev_end (I.ok.hd hc) st fun h' eb=>⟨rfl,I.turned (t':=s.toks) (fun b o hb e=>eb b o hb e) f0 f1 f3 f4 f5⟩
 self:=fun _ _ _ _ _ st h=>wpAny_pyIter_revIter st h
def Az (K:PySem.W.Frag)(ta:TA):TI:=fun σ H R=>ta σ H fun vs H1=>∃ l xs,vs=[.ref l]/\BS K H1 l xs/\R (Ln K l xs.length) H1
theorem vm {X:Cx}{a tg:Expr}{ta:TA}{p pos:Pos}(hg:Gl X "reversed") (hm:X.mg "reversed" = none) (ha:PA X [a] ta) (hs:starEach [a] X.env=[(false,eval a X.env)]) :
  PI X tg (.Call (.Name "reversed" p) [a] [] pos) (Az X.K ta):=by
 intro pins s σ H R I h
 refine Call_ (cE (u:=.type "reversed") I hg hm (by decide +kernel) (PyProof.Rows.callWith_type1 (Bg (ha pos pins s σ H _ I h) fun us s1 ⟨vs,H1,I1,r1,q1⟩=>?_) hs rfl))
 obtain⟨l,xs,e,g1,q⟩:=q1
 subst e
 obtain⟨u,rfl,r⟩:=vals1 r1
 cases r
 obtain⟨Dk,EL,p1,hz⟩:=I1.list g1
 have hl:=EL.length
 refine call_reversed_list p1.isList ?_
 have hit:(s1.heap.push (revObj l ((Dk.toArray.size:Int) - 1))).IsRevIter s1.heap.objs.size l ((xs.length:Int) - 1 - ((0:Nat):Int)):=⟨_,Heap.get?_push_size _ rfl,rfl,by show _=Data.fields #[.ref l,rawInt ((xs.length:Int) - 1 - ((0:Nat):Int))];rw[show ((xs.length:Int) - 1 - ((0:Nat):Int))=(Dk.toArray.size:Int) - 1 by rw[List.size_toArray,hl];omega];rfl⟩
 refine wpAny_pyIter_revIter (s:={s1 with heap:=s1.heap.push (revObj l ((Dk.toArray.size:Int) - 1))}) hit ?_
 refine⟨s1.heap.objs.size,[s1.heap.objs.size],_,_,H1,rfl,I1.kept (t':=s1.toks) fun b o e=>Heap.get?_push_of_some _ e,mj l _ _,hit,fun b hb=>?_,q⟩
 have e:b=s1.heap.objs.size:=by simpa using hb
 subst e
 exact I1.DF (Nat.le_refl _) (I1.Be.fresh (Nat.le_refl _))
inductive D where
 | A8|bl (b:Bool)|int (i:Int)|str (x:Str)|tup (ds:List D)|lst (own:Bool) (ds:List D)|exc (c:Str)|A0 (own:Bool) (ks:List Key) (ds:List D)
 deriving Inhabited
mutual
noncomputable def er:D->D
 | .tup ds=>.tup (A6 ds)
 | .lst _ ds=>.lst false (A6 ds)
 | .A0 _ ks ds=>.A0 false ks (A6 ds)
 | .A8=>.A8
 | .bl b=>.bl b
 | .int i=>.int i
 | .str x=>.str x
 | .exc c=>.exc c
noncomputable def A6:List D->List D
 | []=>[]
 | d::ds=>er d::A6 ds
end
mutual
noncomputable def ao:D->Bool
 | .tup ds=>af ds
 | .lst _ _=>false
 | .A0 _ _ _=>false
 | .A8=>true
 | .bl _=>true
 | .int _=>true
 | .str _=>true
 | .exc _=>true
noncomputable def af:List D->Bool
 | []=>true
 | d::ds=>ao d&&af ds
end
theorem a9:∀ ds:List D,A6 ds=ds.map er
 | []=>rfl
 | d::ds=>by rw[A6,a9 ds];rfl
theorem aS:∀ ds:List D,af ds=ds.all ao
 | []=>rfl
 | d::ds=>by rw[af,aS ds];rfl
theorem bh (ds:List D):(A6 ds).length=ds.length:=by rw[a9,List.length_map]
mutual
theorem dZ:∀ {d:D},ao d=true->er d=d
 | .A8,_=>rfl
 | .bl _,_=>rfl
 | .int _,_=>rfl
 | .str _,_=>rfl
 | .exc _,_=>rfl
 | .tup ds,h=>by rw[er,bY (ds:=ds) h]
 | .lst o ds,h=>by cases (show false=true from h)
 | .A0 o ks ds,h=>by cases (show false=true from h)
theorem bY:∀ {ds:List D},af ds=true->A6 ds=ds
 | [],_=>rfl
 | d::ds,h=>by
  have h':(ao d&&af ds)=true:=h
  rw[Bool.and_eq_true] at h'
  rw[A6,dZ h'.1,bY h'.2]
end
mutual
theorem rQ:∀ d:D,er (er d)=er d
 | .A8=>rfl
 | .bl _=>rfl
 | .int _=>rfl
 | .str _=>rfl
 | .exc _=>rfl
 | .tup ds=>by rw[er,er,BO ds]
 | .lst _ ds=>by rw[er,er,BO ds]
 | .A0 _ ks ds=>by rw[er,er,BO ds]
theorem BO:∀ ds:List D,A6 (A6 ds)=A6 ds
 | []=>rfl
 | d::ds=>by rw[A6,A6,rQ d,BO ds]
end
inductive Exc where
 | stuck|exc (c:Str)
noncomputable abbrev Res (α:Type):=Except Exc α
noncomputable abbrev A5 {α:Type}:Res α:=.error .stuck
noncomputable def j' {α β:Type}(x:Res α)(f:α->Res β):Res β:=match x with
 | .ok a=>f a
 | .error e=>.error e
noncomputable def A4 {α:Type}(c:Bool)(x:Res α):Res α:=if c=true then x else A5
def AZ {α:Type}(ex:Str->Prop)(x:Res α)(k:α->Prop):Prop:=match x with
 | .ok a=>k a
 | .error (.exc c)=>ex c
 | .error .stuck=>False
theorem AZ.j' {α β:Type}{ex:Str->Prop}{x:Res α}{f:α->Res β}{k:β->Prop}(h:AZ ex (j' x f) k):AZ ex x fun a=>AZ ex (f a) k:=by
 cases x with
 | ok a=>exact h
 | error e=>cases e<;>exact h
theorem AZ.A4 {α:Type}{ex:Str->Prop}{c:Bool}{x:Res α}{k:α->Prop}(h:AZ ex (A4 c x) k):c=true/\AZ ex x k:=by
 unfold L2.A4 at h
 cases c with
 | true=>exact⟨rfl,h⟩
 | false=>exact False.elim h
theorem AZ.mono {α:Type}{ex:Str->Prop}{x:Res α}{k k':α->Prop}(h:AZ ex x k)(m:∀ a,k a->k' a):AZ ex x k':=by
 cases x with
 | ok a=>exact m a h
 | error e=>cases e<;>exact h
theorem AZ.mk {α β:Type}{ex:Str->Prop}{x:Res α}{f:α->Res β}{k:β->Prop}(h:AZ ex x fun a=>AZ ex (f a) k):AZ ex (L2.j' x f) k:=by
 cases x with
 | ok a=>exact h
 | error e=>cases e<;>exact h
theorem AZ.eq {α:Type}{ex:Str->Prop}{x:Res α}{k:α->Prop}(h:AZ ex x k):AZ ex x fun a=>x=.ok a/\k a:=by
 cases x with
 | ok a=>exact⟨rfl,h⟩
 | error e=>cases e<;>exact h
theorem AZ.ok {α:Type}{ex:Str->Prop}{a:α}{k:α->Prop}(h:AZ ex (.ok a:Res α) k):k a:=h
theorem AZ.no {α:Type}{ex:Str->Prop}{k:α->Prop}(h:AZ ex (A5:Res α) k):False:=h
inductive LD where
 | l (xs:List V)|d (kvs:List (Key×V))
noncomputable abbrev LD.o:LD->HO
 | .l xs=>.lst xs
 | .d kvs=>.dK kvs
theorem KL.sq {K:PySem.W.Frag}{H:Hp}{a:Addr}{xs:List V}(h:KL K a xs):BS K H a xs:=by
 obtain⟨its,n,h1,h2,h3⟩:=h
 exact .inr ⟨_,its.toArray,n,h1,rfl,rfl,rfl,by simpa using h2,by simpa using h3⟩
theorem Inv.ls {X:Cx}{pins:List (Addr×Obj)}{σ:St}{H:Hp}{s:Shared}{a:Addr}{xs:List V}(I:Inv X pins σ H s)(h:Ls X.K H a xs) :
  xs.length<=sizeLine/\∃ (its:List Value) (n:Nat),Vals xs its/\s.heap.get? a=some {cls:=.type "list",data:=.seq its.toArray n}:=by
 rcases h with h|⟨its,n,h1,h2,h3⟩
 ·obtain⟨z,its,n,r,e⟩:=h.ok I.Be
  exact⟨z,its,n,r,e⟩
 ·exact⟨by rw[h3.length];exact h2,its,n,h3,I.Df _ _ h1⟩
noncomputable def nameIn (K:PySem.W.Frag)(C:Addr):Option Str:=match K.lookup C with
 | some ⟨_,_,.cls cd,_⟩=>some cd.name
 | _=>none
noncomputable def XU:HO:=.ext fun _=>True
def XO (K:PySem.W.Frag)(H:Hp)(a:Addr)(c:Str):Prop:=∃ (C:Addr) (o:Obj) (vs:Array Value),PySem.W.nsIn K mainGlobals c=some (some (.ref C))/\nameIn K C=some c/\H a=some (.Bb o XU)/\o.cls=.ref C/\o.data=.fields vs
noncomputable def BI (K:PySem.W.Frag)(H:Hp)(a:Addr):List V ⊕ Str->Prop
 | .inl xs=>Cv K H a xs
 | .inr c=>XO K H a c
mutual
inductive A1 (K:PySem.W.Frag)(S:Addr->Prop)(H:Hp):V->D->Prop where
 | A8:A1 K S H .A8 .A8
 | bl (b:Bool):A1 K S H (.bl b) (.bl b)
 | int (i:Int):A1 K S H (.int i) (.int i)
 | str (x:Str):A1 K S H (.str x) (.str x)
 | exc {a:Addr}{c:Str}:BI K H a (.inr c)->A1 K S H (.ref a) (.exc c)
 | tup {a:Addr}{xs:List V}{ds:List D}:Cv K H a xs->AY K S H xs ds->A1 K S H (.ref a) (.tup ds)
 | lst {a:Addr}{xs:List V}{o:Bool}{ds:List D}:S a->Rd H a (.lst xs)->AY K S H xs ds->A1 K S H (.ref a) (.lst o ds)
 | lstK {a:Addr}{xs:List V}{o:Bool}{ds:List D}:KL K a xs->AY K S H xs ds->A1 K S H (.ref a) (.lst o ds)
 | A0 {a:Addr}{kvs:List (Key×V)}{o:Bool}{ks:List Key}{ds:List D}:S a->Rd H a (.dK kvs)->kvs.map (·.1)=ks->AY K S H (kvs.map (·.2)) ds->A1 K S H (.ref a) (.A0 o ks ds)
inductive AY (K:PySem.W.Frag)(S:Addr->Prop)(H:Hp):List V->List D->Prop where
 | nil:AY K S H [] []
 | cons {v:V}{d:D}{vs:List V}{ds:List D}:A1 K S H v d->AY K S H vs ds->AY K S H (v::vs) (d::ds)
end
mutual
inductive Ba (K:PySem.W.Frag)(F:Addr->Prop)(H:Hp):V->D->List Addr->Prop where
 | A8:Ba K F H .A8 .A8 []
 | bl (b:Bool):Ba K F H (.bl b) (.bl b) []
 | int (i:Int):Ba K F H (.int i) (.int i) []
 | str (x:Str):Ba K F H (.str x) (.str x) []
 | exc {a:Addr}{c:Str}:BI K H a (.inr c)->Ba K F H (.ref a) (.exc c) []
 | tup {a:Addr}{xs:List V}{ds:List D}{f:List Addr}:Cv K H a xs->A2 K F H xs ds f->Ba K F H (.ref a) (.tup ds) f
 | D2 {a:Addr}{xs:List V}{ds:List D}:F a->Rd H a (.lst xs)->A2 K F H xs ds []->Ba K F H (.ref a) (.lst false ds) []
 | lstK {a:Addr}{xs:List V}{ds:List D}:KL K a xs->A2 K F H xs ds []->Ba K F H (.ref a) (.lst false ds) []
 | CB {a:Addr}{xs:List V}{ds:List D}{f:List Addr}:¬ F a->H a=some (.lst xs)->A2 K F H xs ds f->Ba K F H (.ref a) (.lst true ds) (a::f)
 | FK {a:Addr}{kvs:List (Key×V)}{ks:List Key}{ds:List D}:F a->Rd H a (.dK kvs)->kvs.map (·.1)=ks->A2 K F H (kvs.map (·.2)) ds []->Ba K F H (.ref a) (.A0 false ks ds) []
 | D3 {a:Addr}{kvs:List (Key×V)}{ks:List Key}{ds:List D}{f:List Addr}:¬ F a->H a=some (.dK kvs)->kvs.map (·.1)=ks->A2 K F H (kvs.map (·.2)) ds f->Ba K F H (.ref a) (.A0 true ks ds) (a::f)
inductive A2 (K:PySem.W.Frag)(F:Addr->Prop)(H:Hp):List V->List D->List Addr->Prop where
 | nil:A2 K F H [] [] []
 | cons {v:V}{d:D}{f:List Addr}{vs:List V}{ds:List D}{g:List Addr}:Ba K F H v d f->A2 K F H vs ds g->A2 K F H (v::vs) (d::ds) (f++g)
end
theorem aq.rd {H H':Hp}{a:Addr}{u:HO}(e:aq H H')(h:Rd H a u):Rd H' a u:=by
 rcases h with h|⟨o,h⟩
 ·exact .inl (e _ _ h)
 ·exact .inr ⟨o,e _ _ h⟩
theorem aq.CF {K:PySem.W.Frag}{H H':Hp}{a:Addr}{xs:List V ⊕ Str}(e:aq H H')(h:BI K H a xs):BI K H' a xs:=by
 cases xs with
 | inl xs=>
  rcases h with h|h
  ·exact .inl (e.rd h)
  ·exact .inr h
 | inr c=>
  obtain⟨C,o,vs,h0,h1,h2,h3⟩:=h
  exact⟨C,o,vs,h0,h1,e _ _ h2,h3⟩
theorem BI.upd {K:PySem.W.Frag}{H:Hp}{a l:Addr}{xs:List V ⊕ Str}{ys zs:List V}(hl:H l=some (.lst ys))(h:BI K H a xs):BI K (upd H l (.lst zs)) a xs:=by
 cases xs with
 | inl xs=>
  rcases h with h|h
  ·have:a≠l:=by
    rintro rfl
    rcases h with h|⟨o,h⟩<;>(rw[hl] at h;cases h)
   refine .inl ?_
   unfold Rd
   rw[ak this]
   exact h
  ·exact .inr h
 | inr c=>
  obtain⟨C,o,vs,h0,h1,h2,h3⟩:=h
  have:a≠l:=by
   rintro rfl
   rw[hl] at h2;cases h2
  exact⟨C,o,vs,h0,h1,by rw[ak this];exact h2,h3⟩
theorem Rd.some {H:Hp}{a:Addr}{u:HO}(h:Rd H a u):H a≠none:=by
 rcases h with h|⟨o,h⟩<;>(rw[h];simp)
section
variable {K:PySem.W.Frag}{S S' F F':Addr->Prop}{H H':Hp}
theorem A1.step (hl:∀ a (u:LD),S a->Rd H a u.o->S' a/\Rd H' a u.o)(ht:∀ a xs,BI K H a xs->BI K H' a xs){v:V}{d:D}(h:A1 K S H v d):A1 K S' H' v d:=
 A1.rec (motive_1:=fun v d _=>A1 K S' H' v d) (motive_2:=fun v d _=>AY K S' H' v d) .A8 .bl .int .str (fun h=>.exc (ht _ (.inr _) h)) (fun h1 _ i=>.tup (ht _ (.inl _) h1) i)
  (fun h0 h1 _ i=>.lst (hl _ (.l _) h0 h1).1 (hl _ (.l _) h0 h1).2 i) (fun h1 _ i=>.lstK h1 i) (fun h0 h1 h2 _ i=>.A0 (hl _ (.d _) h0 h1).1 (hl _ (.d _) h0 h1).2 h2 i) .nil (fun _ _ i j=>.cons i j) h
theorem AY.step (hl:∀ a (u:LD),S a->Rd H a u.o->S' a/\Rd H' a u.o)(ht:∀ a xs,BI K H a xs->BI K H' a xs){v:List V}{d:List D}(h:AY K S H v d):AY K S' H' v d:=
 AY.rec (motive_1:=fun v d _=>A1 K S' H' v d) (motive_2:=fun v d _=>AY K S' H' v d) .A8 .bl .int .str (fun h=>.exc (ht _ (.inr _) h)) (fun h1 _ i=>.tup (ht _ (.inl _) h1) i)
  (fun h0 h1 _ i=>.lst (hl _ (.l _) h0 h1).1 (hl _ (.l _) h0 h1).2 i) (fun h1 _ i=>.lstK h1 i) (fun h0 h1 h2 _ i=>.A0 (hl _ (.d _) h0 h1).1 (hl _ (.d _) h0 h1).2 h2 i) .nil (fun _ _ i j=>.cons i j) h
theorem A1.mono {v:V}{d:D}(h:A1 K S H v d)(hS:∀ a,S a->S' a)(e:aq H H'):A1 K S' H' v d:=h.step (fun a xs s r=>⟨hS a s,e.rd r⟩) fun a xs s=>e.CF s
theorem AY.mono {v:List V}{d:List D}(h:AY K S H v d)(hS:∀ a,S a->S' a)(e:aq H H'):AY K S' H' v d:=h.step (fun a xs s r=>⟨hS a s,e.rd r⟩) fun a xs s=>e.CF s
theorem AY.DK {v:List V}{d:List D}(h:AY K S H v d):AY K (fun a=>S a/\H a≠none) H v d:=h.step (fun a xs s r=>⟨⟨s,r.some⟩,r⟩) fun a xs s=>s
theorem A1.frozen {v:V}{d:D}(h:A1 K F H v d):Ba K F H v (L2.er d) []:=
 A1.rec (motive_1:=fun v d _=>Ba K F H v (L2.er d) []) (motive_2:=fun v d _=>A2 K F H v (L2.A6 d) []) .A8 .bl .int .str (fun h=>.exc h) (fun h1 _ i=>.tup h1 i) (fun h0 h1 _ i=>.D2 h0 h1 i) (fun h1 _ i=>.lstK h1 i) (fun h0 h1 h2 _ i=>.FK h0 h1 h2 i) .nil (fun _ _ i j=>.cons (f:=[]) (g:=[]) i j) h
theorem AY.frozen {v:List V}{d:List D}(h:AY K F H v d):A2 K F H v (L2.A6 d) []:=
 AY.rec (motive_1:=fun v d _=>Ba K F H v (L2.er d) []) (motive_2:=fun v d _=>A2 K F H v (L2.A6 d) []) .A8 .bl .int .str (fun h=>.exc h) (fun h1 _ i=>.tup h1 i) (fun h0 h1 _ i=>.D2 h0 h1 i) (fun h1 _ i=>.lstK h1 i) (fun h0 h1 h2 _ i=>.FK h0 h1 h2 i) .nil (fun _ _ i j=>.cons (f:=[]) (g:=[]) i j) h
theorem qq {a b:Bool}(h:(a&&b)=true):a=true/\b=true:=by rwa [Bool.and_eq_true] at h
theorem A1.free {v:V}{d:D}(n:ao d=true)(h:A1 K S H v d):Ba K F H v d []:=
 A1.rec (motive_1:=fun v d _=>ao d=true->Ba K F H v d []) (motive_2:=fun v d _=>af d=true->A2 K F H v d []) (fun _=>.A8) (fun b _=>.bl b) (fun b _=>.int b) (fun b _=>.str b) (fun h _=>.exc h) (fun h1 _ i n=>.tup h1 (i n)) (fun _ _ _ _ n=>nomatch n) (fun _ _ _ n=>nomatch n) (fun _ _ _ _ _ n=>nomatch n) (fun _=>.nil) (fun _ _ i j n=>.cons (f:=[]) (g:=[]) (i (qq n).1) (j (qq n).2)) h n
theorem AY.free {v:List V}{d:List D}(n:af d=true)(h:AY K S H v d):A2 K F H v d []:=
 AY.rec (motive_1:=fun v d _=>ao d=true->Ba K F H v d []) (motive_2:=fun v d _=>af d=true->A2 K F H v d []) (fun _=>.A8) (fun b _=>.bl b) (fun b _=>.int b) (fun b _=>.str b) (fun h _=>.exc h) (fun h1 _ i n=>.tup h1 (i n)) (fun _ _ _ _ n=>nomatch n) (fun _ _ _ n=>nomatch n) (fun _ _ _ _ _ n=>nomatch n) (fun _=>.nil) (fun _ _ i j n=>.cons (f:=[]) (g:=[]) (i (qq n).1) (j (qq n).2)) h n
theorem a8 {p:Addr->Prop}:∀ a∈([]:List Addr),p a:=fun _ h=>nomatch h
theorem Ba.read {v:V}{d:D}{f:List Addr}(hF:∀ a,F a->S a)(hf:∀ a∈f,S a)(h:Ba K F H v d f):A1 K S H v d:=
 Ba.rec (motive_1:=fun v d f _=>(∀ a∈f,S a)->A1 K S H v d) (motive_2:=fun v d f _=>(∀ a∈f,S a)->AY K S H v d) (fun _=>.A8) (fun b _=>.bl b) (fun b _=>.int b) (fun b _=>.str b) (fun h _=>.exc h) (fun h1 _ i hf=>.tup h1 (i hf))
  (fun h0 h1 _ i _=>.lst (hF _ h0) h1 (i a8)) (fun h1 _ i _=>.lstK h1 (i a8)) (fun _ h1 _ i hf=>.lst (hf _ (.head _)) (.inl h1) (i fun b hb=>hf b (.tail _ hb))) (fun h0 h1 h2 _ i _=>.A0 (hF _ h0) h1 h2 (i a8)) (fun _ h1 h2 _ i hf=>.A0 (hf _ (.head _)) (.inl h1) h2 (i fun b hb=>hf b (.tail _ hb))) (fun _=>.nil)
  (fun _ _ i j hf=>.cons (i fun a ha=>hf a (List.mem_append_left _ ha)) (j fun a ha=>hf a (List.mem_append_right _ ha))) h hf
theorem A2.read {v:List V}{d:List D}{f:List Addr}(hF:∀ a,F a->S a)(hf:∀ a∈f,S a)(h:A2 K F H v d f):AY K S H v d:=
 A2.rec (motive_1:=fun v d f _=>(∀ a∈f,S a)->A1 K S H v d) (motive_2:=fun v d f _=>(∀ a∈f,S a)->AY K S H v d) (fun _=>.A8) (fun b _=>.bl b) (fun b _=>.int b) (fun b _=>.str b) (fun h _=>.exc h) (fun h1 _ i hf=>.tup h1 (i hf))
  (fun h0 h1 _ i _=>.lst (hF _ h0) h1 (i a8)) (fun h1 _ i _=>.lstK h1 (i a8)) (fun _ h1 _ i hf=>.lst (hf _ (.head _)) (.inl h1) (i fun b hb=>hf b (.tail _ hb))) (fun h0 h1 h2 _ i _=>.A0 (hF _ h0) h1 h2 (i a8)) (fun _ h1 h2 _ i hf=>.A0 (hf _ (.head _)) (.inl h1) h2 (i fun b hb=>hf b (.tail _ hb))) (fun _=>.nil)
  (fun _ _ i j hf=>.cons (i fun a ha=>hf a (List.mem_append_left _ ha)) (j fun a ha=>hf a (List.mem_append_right _ ha))) h hf
theorem bI {α:Type}{x:Option α}{y:α}(h:x=some y):x≠none:=fun e=>nomatch h.symm.trans e
theorem Ba.step (hl:∀ a (u:LD),F a->Rd H a u.o->F' a/\Rd H' a u.o)(ht:∀ a xs,BI K H a xs->BI K H' a xs){v:V}{d:D}{f:List Addr}(k:∀ a∈f,¬ F a->H a≠none->¬ F' a/\H' a=H a)
  (h:Ba K F H v d f):Ba K F' H' v d f:=
 Ba.rec (motive_1:=fun v d f _=>(∀ a∈f,¬ F a->H a≠none->¬ F' a/\H' a=H a)->Ba K F' H' v d f) (motive_2:=fun v d f _=>(∀ a∈f,¬ F a->H a≠none->¬ F' a/\H' a=H a)->A2 K F' H' v d f) (fun _=>.A8) (fun b _=>.bl b) (fun b _=>.int b) (fun b _=>.str b)
  (fun h _=>.exc (ht _ (.inr _) h)) (fun h1 _ i k=>.tup (ht _ (.inl _) h1) (i k)) (fun h0 h1 _ i _=>.D2 (hl _ (.l _) h0 h1).1 (hl _ (.l _) h0 h1).2 (i a8)) (fun h1 _ i _=>.lstK h1 (i a8))
  (fun h0 h1 _ i k=>.CB (k _ (.head _) h0 (bI h1)).1 ((k _ (.head _) h0 (bI h1)).2.trans h1) (i fun b hb=>k b (.tail _ hb))) (fun h0 h1 h2 _ i _=>.FK (hl _ (.d _) h0 h1).1 (hl _ (.d _) h0 h1).2 h2 (i a8)) (fun h0 h1 h2 _ i k=>.D3 (k _ (.head _) h0 (bI h1)).1 ((k _ (.head _) h0 (bI h1)).2.trans h1) h2 (i fun b hb=>k b (.tail _ hb))) (fun _=>.nil)
  (fun _ _ i j k=>.cons (i fun a ha=>k a (List.mem_append_left _ ha)) (j fun a ha=>k a (List.mem_append_right _ ha))) h k
theorem A2.step (hl:∀ a (u:LD),F a->Rd H a u.o->F' a/\Rd H' a u.o)(ht:∀ a xs,BI K H a xs->BI K H' a xs){v:List V}{d:List D}{f:List Addr}(k:∀ a∈f,¬ F a->H a≠none->¬ F' a/\H' a=H a)
  (h:A2 K F H v d f):A2 K F' H' v d f:=
 A2.rec (motive_1:=fun v d f _=>(∀ a∈f,¬ F a->H a≠none->¬ F' a/\H' a=H a)->Ba K F' H' v d f) (motive_2:=fun v d f _=>(∀ a∈f,¬ F a->H a≠none->¬ F' a/\H' a=H a)->A2 K F' H' v d f) (fun _=>.A8) (fun b _=>.bl b) (fun b _=>.int b) (fun b _=>.str b)
  (fun h _=>.exc (ht _ (.inr _) h)) (fun h1 _ i k=>.tup (ht _ (.inl _) h1) (i k)) (fun h0 h1 _ i _=>.D2 (hl _ (.l _) h0 h1).1 (hl _ (.l _) h0 h1).2 (i a8)) (fun h1 _ i _=>.lstK h1 (i a8))
  (fun h0 h1 _ i k=>.CB (k _ (.head _) h0 (bI h1)).1 ((k _ (.head _) h0 (bI h1)).2.trans h1) (i fun b hb=>k b (.tail _ hb))) (fun h0 h1 h2 _ i _=>.FK (hl _ (.d _) h0 h1).1 (hl _ (.d _) h0 h1).2 h2 (i a8)) (fun h0 h1 h2 _ i k=>.D3 (k _ (.head _) h0 (bI h1)).1 ((k _ (.head _) h0 (bI h1)).2.trans h1) h2 (i fun b hb=>k b (.tail _ hb))) (fun _=>.nil)
  (fun _ _ i j k=>.cons (i fun a ha=>k a (List.mem_append_left _ ha)) (j fun a ha=>k a (List.mem_append_right _ ha))) h k
theorem qr {p:Addr->Prop}{x:Addr}{f:List Addr}(h:p x)(i:∀ a∈f,p a):∀ a∈x::f,p a:=by
 intro b hb
 rcases List.mem_cons.mp hb with rfl|hb
 ·exact h
 ·exact i b hb
theorem xq {p:Addr->Prop}{f g:List Addr}(h:∀ a∈f,p a)(i:∀ a∈g,p a):∀ a∈f++g,p a:=fun b hb=>(List.mem_append.mp hb).elim (h b) (i b)
theorem Ba.own {v:V}{d:D}{f:List Addr}(h:Ba K F H v d f):∀ a∈f,¬ F a/\∃ u,H a=some u:=
 Ba.rec (motive_1:=fun _ _ f _=>∀ a∈f,¬ F a/\∃ u,H a=some u) (motive_2:=fun _ _ f _=>∀ a∈f,¬ F a/\∃ u,H a=some u) a8 (fun _=>a8) (fun _=>a8) (fun _=>a8) (fun _=>a8) (fun _ _ i=>i) (fun _ _ _ _=>a8) (fun _ _ _=>a8)
  (fun h0 h1 _ i=>qr ⟨h0,_,h1⟩ i) (fun _ _ _ _ _=>a8) (fun h0 h1 _ _ i=>qr ⟨h0,_,h1⟩ i) a8 (fun _ _ i j=>xq i j) h
theorem A2.own {v:List V}{d:List D}{f:List Addr}(h:A2 K F H v d f):∀ a∈f,¬ F a/\∃ u,H a=some u:=
 A2.rec (motive_1:=fun _ _ f _=>∀ a∈f,¬ F a/\∃ u,H a=some u) (motive_2:=fun _ _ f _=>∀ a∈f,¬ F a/\∃ u,H a=some u) a8 (fun _=>a8) (fun _=>a8) (fun _=>a8) (fun _=>a8) (fun _ _ i=>i) (fun _ _ _ _=>a8) (fun _ _ _=>a8)
  (fun h0 h1 _ i=>qr ⟨h0,_,h1⟩ i) (fun _ _ _ _ _=>a8) (fun h0 h1 _ _ i=>qr ⟨h0,_,h1⟩ i) a8 (fun _ _ i j=>xq i j) h
theorem AY.ind {P:List V->List D->Prop}(n:P [] [])(c:∀ v d vs ds,A1 K S H v d->AY K S H vs ds->P vs ds->P (v::vs) (d::ds)){vs:List V}{ds:List D}(h:AY K S H vs ds):P vs ds:=
 AY.rec (motive_1:=fun _ _ _=>True) (motive_2:=fun v d _=>P v d) trivial (fun _=>trivial) (fun _=>trivial) (fun _=>trivial) (fun _=>trivial) (fun _ _ _=>trivial) (fun _ _ _ _=>trivial) (fun _ _ _=>trivial) (fun _ _ _ _ _=>trivial) n (fun a b _ j=>c _ _ _ _ a b j) h
theorem A2.ind {P:List V->List D->List Addr->Prop}(n:P [] [] [])(c:∀ v d f vs ds g,Ba K F H v d f->A2 K F H vs ds g->P vs ds g->P (v::vs) (d::ds) (f++g)){vs:List V}{ds:List D}{f:List Addr}(h:A2 K F H vs ds f):P vs ds f:=
 A2.rec (motive_1:=fun _ _ _ _=>True) (motive_2:=fun v d f _=>P v d f) trivial (fun _=>trivial) (fun _=>trivial) (fun _=>trivial) (fun _=>trivial) (fun _ _ _=>trivial) (fun _ _ _ _=>trivial) (fun _ _ _=>trivial) (fun _ _ _ _=>trivial) (fun _ _ _ _ _=>trivial) (fun _ _ _ _ _=>trivial) n (fun a b _ j=>c _ _ _ _ _ _ a b j) h
theorem AY.length {vs:List V}{ds:List D}(h:AY K S H vs ds):vs.length=ds.length:=
 AY.ind (P:=fun v d=>v.length=d.length) rfl (fun _ _ _ _ _ _ j=>congrArg (· + 1) j) h
theorem AY.get {i:Nat}{vs:List V}{ds:List D}{d:D}(h:AY K S H vs ds)(e:ds[i]? = some d):∃ v,vs[i]? = some v/\A1 K S H v d:=
 AY.ind (P:=fun vs ds=>∀ i d,ds[i]? = some d->∃ v,vs[i]? = some v/\A1 K S H v d) (fun i d e=>nomatch (show none=some d from e)) (fun v d _ _ a _ j i d e=>by
  cases i with
  | zero=>exact⟨_,rfl,Option.some.inj e ▸ a⟩
  | succ i=>exact j i d e) h i d e
theorem AY.EY {i:Nat}{vs:List V}{ds:List D}{v:V}(h:AY K S H vs ds)(e:vs[i]? = some v):∃ d,ds[i]? = some d/\A1 K S H v d:=
 AY.ind (P:=fun vs ds=>∀ i v,vs[i]? = some v->∃ d,ds[i]? = some d/\A1 K S H v d) (fun i d e=>nomatch (show none=some d from e)) (fun v d _ _ a _ j i d e=>by
  cases i with
  | zero=>exact⟨_,rfl,Option.some.inj e ▸ a⟩
  | succ i=>exact j i d e) h i v e
theorem AY.append {vs ws:List V}{ds es:List D}(h:AY K S H vs ds)(h':AY K S H ws es):AY K S H (vs++ws) (ds++es):=
 AY.ind (P:=fun v d=>AY K S H (v++ws) (d++es)) h' (fun _ _ _ _ a _ j=>.cons a j) h
theorem AY.take {vs:List V}{ds:List D}(n:Nat)(h:AY K S H vs ds):AY K S H (vs.take n) (ds.take n):=
 AY.ind (P:=fun v d=>∀ n,AY K S H (v.take n) (d.take n)) (fun n=>by cases n<;>exact .nil) (fun _ _ _ _ a _ j n=>by
  cases n with
  | zero=>exact .nil
  | succ n=>exact .cons a (j n)) h n
theorem AY.drop {vs:List V}{ds:List D}(n:Nat)(h:AY K S H vs ds):AY K S H (vs.drop n) (ds.drop n):=
 AY.ind (P:=fun v d=>∀ n,AY K S H (v.drop n) (d.drop n)) (fun n=>by cases n<;>exact .nil) (fun _ _ _ _ a b j n=>by
  cases n with
  | zero=>exact .cons a b
  | succ n=>exact j n) h n
theorem A2.length {vs:List V}{ds:List D}{f:List Addr}(h:A2 K F H vs ds f):vs.length=ds.length:=
 A2.ind (P:=fun v d _=>v.length=d.length) rfl (fun _ _ _ _ _ _ _ _ j=>congrArg (· + 1) j) h
theorem A2.append {vs ws:List V}{ds es:List D}{f g:List Addr}(h:A2 K F H vs ds f)(h':A2 K F H ws es g):A2 K F H (vs++ws) (ds++es) (f++g):=
 A2.ind (P:=fun v d f=>A2 K F H (v++ws) (d++es) (f++g)) h' (fun _ _ _ _ _ _ a _ j=>by
  rw[List.append_assoc]
  exact .cons a j) h
theorem A1.BP {v:V}{o:Bool}{ds:List D}(h:A1 K S H v (.lst o ds)):∃ a xs,v=.ref a/\BS K H a xs/\AY K S H xs ds:=by
 cases h with
 | lst h0 h1 h2=>exact⟨_,_,rfl,.inl h1,h2⟩
 | lstK h1 h2=>exact⟨_,_,rfl,h1.sq,h2⟩
theorem A1.Ez {v:V}{o:Bool}{ds:List D}(h:A1 K S H v (.lst o ds)):∃ a xs,v=.ref a/\Ls K H a xs/\AY K S H xs ds:=by
 cases h with
 | lst h0 h1 h2=>exact⟨_,_,rfl,.inl h1,h2⟩
 | lstK h1 h2=>exact⟨_,_,rfl,.inr h1,h2⟩
theorem A1.Ca {v:V}{ds:List D}(h:A1 K S H v (.tup ds)):∃ a xs,v=.ref a/\Cv K H a xs/\AY K S H xs ds:=by
 cases h with
 | tup h1 h2=>exact⟨_,_,rfl,h1,h2⟩
theorem A1.Bj {v:V}{i:Int}(h:A1 K S H v (.int i)):v=.int i:=by cases h;rfl
theorem A1.EM {v:V}{i:Bool}(h:A1 K S H v (.bl i)):v=.bl i:=by cases h;rfl
theorem A1.By {v:V}{i:Str}(h:A1 K S H v (.str i)):v=.str i:=by cases h;rfl
theorem A1.CG {v:V}(h:A1 K S H v .A8):v=.A8:=by cases h;rfl
theorem AY.M1 {vs:List V}{ns:List Bool}(h:AY K S H vs (ns.map .bl)):vs=ns.map .bl:=
 AY.ind (P:=fun v d=>∀ ns:List Bool,d=ns.map .bl->v=ns.map .bl) (fun ns e=>by
  cases ns with
  | nil=>rfl
  | cons n ns=>exact nomatch e) (fun _ _ _ _ a _ j ns e=>by
  cases ns with
  | nil=>exact nomatch e
  | cons n ns=>
   obtain⟨h1,h2⟩:=List.cons.inj e
   subst h1
   rw[j ns h2,a.EM]
   rfl) h ns rfl
theorem AY.ofInts:∀ (ns:List Int),AY K S H (ns.map .int) (ns.map .int)
 | []=>.nil
 | n::ns=>.cons (.int n) (AY.ofInts ns)
end
theorem aq.upd {H:Hp}{a:Addr}{o:HO}(h:H a=none):aq H (upd H a o):=fun b u e=>by
 rw[ak (aC e h)]
 exact e
inductive EZ where
 | add|sub|mul|fdiv|mod|pow
 deriving DecidableEq
inductive C6 where
 | eq|ne|lt|le|gt|ge|EA|Ik|E0|EO
 deriving DecidableEq
inductive Kd where
 | str|int|bool|list|tuple
 deriving DecidableEq
inductive Bi where
 | len|sum|min2|max2|FL|sorted|list|tuple|ord|int|all|any|str|set|abs
 deriving DecidableEq
inductive Mt where
 | join|index|starts
 deriving DecidableEq
inductive Tg where
 | nm (i:Nat)|tp (ts:List Tg)
structure Gm where
 N:List Str
 kd:List NameKind
 gl:List Nat
 df:Bool
 cm:Bool:=true
 rs:Bool:=true
 tr:Bool:=false
 io:Option Nat:=none
mutual
inductive IR where
 | c (d:D)
 | g (n:Nat) (d:D)
 | v (i:Nat)
 | bin (op:EZ) (a b:IR)
 | neg (a:IR)
 | cmp (op:C6) (a b:IR)
 | chain (op BH:C6) (a b c:IR)
 | BB (a b:IR)
 | E1 (a b:IR)
 | BU (a:IR)
 | ite (t a b:IR)
 | tup (es:List IR)
 | lst (es:List IR)
 | idx (a i:IR)
 | sl (a:IR) (lo hi:Option IR)
 | call (f:Nat) (es:List IR)
 | bi (f:Bi) (es:List IR)
 | CW
 | B3 (a k:IR)
 | GX (n:Bool) (k a:IR)
 | BW (a:IR) (k:Kd)
 | Kf (a:IR) (ns:List Nat) (tb:List (Str×Bool))
 | FN (a:IR)
 | sset (a:IR)
 | DY (a:IR)
 | FO (a:IR)
 | Ef (a k e:IR)
 | Kg (x:Str) (a:IR) (y:Option Str)
 | Il (m:Mt) (o:IR) (es:List IR)
 | comp (G:Gm) (fr:List Nat) (tg:Tg) (src:Sr) (ifs:List IR) (elt:IR)
inductive Sr where
 | B4 (n:IR)|C7 (a b:IR)|val (e:IR)|zip (a b:IR)|DR (e:IR)|rev (e:IR)
end
inductive IS where
 | asg (tg:Tg) (e:IR)
 | par (i j:Nat) (a b:IR)
 | Gj (i:Nat) (k e:IR)
 | app (i:Nat) (e:IR)
 | Jl (i:Nat) (k:Nat) (e:IR)
 | Cf (i:Nat) (k e:IR)
 | Gk (i:Nat) (k e:IR)
 | Jm (j i:Nat) (body:List IS)
 | Im (f:Nat) (es:List IR)
 | Cb (i:Nat) (e:IR)
 | D4 (i:Nat) (k:IR) (f:Nat) (es:List IR)
 | DL (f:Nat) (es:List IR) (i:Nat) (k e:IR) (a b:List IS)
 | ext (i:Nat) (e:IR)
 | ins (i:Nat) (k e:IR)
 | M3 (i:Nat)
 | pop (j i:Nat)
 | GY (j f:Nat) (es:List IR) (i:Nat)
 | Jn (j g:Nat) (a:IR) (f:Nat) (es:List IR) (i:Nat)
 | M4 (j:Nat) (e:IR)
 | Jo (i j:Nat)
 | M5 (i:Nat)
 | exp (e:IR)
 | ret (e:IR)
 | FP
 | Bn (t:IR) (a b:List IS)
 | BE (tg:Tg) (src:Sr) (body:List IS)
 | E2 (t:IR) (body:List IS)
 | brk|cnt|pass
 | never
 | E3 (n:Nat) (c:Str) (w:Str)
 | E4 (n:Nat) (c:Str) (e:IR)
 | Jp (i f:Nat) (es:List IR) (n:Nat) (cs:List Str) (k:Nat) (h:List IS)
 | Jq (body:List IS) (n:Nat) (cs:List Str) (i:Nat) (h:List IS)
noncomputable abbrev Ev:=List (Option D)
inductive Fl where
 | nx (τ:Ev)|rt (d:D)|bk (τ:Ev)|ct (τ:Ev)|ri (d:D) (ks:List Key) (vs:List D)
noncomputable def vn {α:Type}(xs:List α)(lo hi:Option Int):List α:=(xs.drop (HT.DB xs.length 0 lo)).take (HT.DB xs.length xs.length hi - HT.DB xs.length 0 lo)
noncomputable def aU (n:Nat):Bool:=decide (n<=sizeLine)
noncomputable def bj (n:Nat):Bool:=decide (n < sizeLine)
noncomputable def C1:EZ->D->D->Res D
 | .add,.int a,.int b=>.ok (.int (a+b))
 | .add,.str a,.str b=>A4 (aU (a.length+b.length)) (.ok (.str (a++b)))
 | .add,.lst _ a,.lst _ b=>A4 (aU (a.length+b.length)) (.ok (.lst true (a++b)))
 | .sub,.int a,.int b=>.ok (.int (a - b))
 | .mul,.int a,.int b=>A4 (decide (-(2 ^ 64) < a/\a < 2 ^ 64)||decide (-(2 ^ 64) < b/\b < 2 ^ 64)) (.ok (.int (a*b)))
 | .mul,.str a,.int b=>A4 (decide (-16000<=b/\b<=16000/\a.length<=1000)) (.ok (.str (Txt.mul a b)))
 | .mul,.lst _ a,.int b=>A4 (decide (0<=b/\b<=16000/\a.length<=1000)) (.ok (.lst true (List.flatten (List.replicate b.toNat a))))
 | .fdiv,.int a,.int b=>A4 (decide (0 < b/\b < 1073741824)) (.ok (.int (a / b)))
 | .mod,.int a,.int b=>A4 (decide (0 < b)) (.ok (.int (a % b)))
 | .pow,.int a,.int b=>A4 (decide (0<=b/\b<=1000000/\a.natAbs < 2 ^ 64)) (.ok (.int (a ^ b.toNat)))
 | _,_,_=>A5
noncomputable def au:D->D->Res D
 | .lst _ ds,.int i=>match CL ds i with
  | some d=>.ok d
  | none=>A5
 | .tup ds,.int i=>match CL ds i with
  | some d=>.ok d
  | none=>A5
 | .str z,.int i=>A4 (aU z.length) (match CL z.cps.toList i with
  | some c=>.ok (.str ⟨#[c]⟩)
  | none=>A5)
 | _,_=>A5
noncomputable def i4:D->Option Int->Option Int->Res D
 | .lst _ ds,lo,hi=>.ok (.lst true (vn ds lo hi))
 | .str z,lo,hi=>A4 (aU z.length) (.ok (.str (Txt.slice z lo hi)))
 | _,_,_=>A5
noncomputable def aE:D->Res Bool
 | .A8=>.ok false
 | .bl b=>.ok b
 | .int i=>.ok (i != 0)
 | .str x=>A4 (aU x.length) (.ok ((x.length:Int) != 0))
 | .tup ds=>.ok (!ds.isEmpty)
 | .lst _ ds=>.ok (!ds.isEmpty)
 | .exc _=>A5
 | .A0 _ _ _=>A5
noncomputable def bQ (f:D->D->Res Bool):List D->List D->Res Bool
 | [],[]=>.ok true
 | a::r,b::t=>j' (f a b) fun x=>j' (bQ f r t) fun y=>.ok (x&&y)
 | _,_=>.ok false
noncomputable def BV:Nat->D->D->Res Bool
 | 0,_,_=>A5
 | _+1,.exc _,_=>A5
 | _+1,_,.exc _=>A5
 | _+1,.A0 _ _ _,_=>A5
 | _+1,_,.A0 _ _ _=>A5
 | _+1,.A8,.A8=>.ok true
 | _+1,.A8,_=>.ok false
 | _+1,.bl a,.bl b=>.ok (a == b)
 | _+1,.bl a,.int b=>.ok ((if a then 1 else 0) == b)
 | _+1,.bl _,_=>.ok false
 | _+1,.int a,.bl b=>.ok (a == (if b then 1 else 0))
 | _+1,.int a,.int b=>.ok (a == b)
 | _+1,.int _,_=>.ok false
 | _+1,.str a,.str b=>.ok (a == b)
 | _+1,.str _,_=>.ok false
 | n+1,.tup a,.tup b=>bQ (BV n) a b
 | _+1,.tup _,_=>.ok false
 | n+1,.lst _ a,.lst _ b=>bQ (BV n) a b
 | _+1,.lst _ _,_=>.ok false
noncomputable def Cq (d:D):List D->Res Bool
 | []=>.ok false
 | e::r=>j' (BV 40 e d) fun x=>j' (Cq d r) fun y=>.ok (x||y)
noncomputable def g8 (x y:Str):Bool:=!(Builtin.Str.occurrences x y 0 x.length 1).isEmpty
noncomputable def bJ:D->Bool
 | .A8=>true
 | _=>false
noncomputable def dm:D->Bool
 | .exc _=>false
 | .A0 _ _ _=>false
 | _=>true
noncomputable def Cj:C6->D->D->Res Bool
 | .eq,a,b=>BV 40 a b
 | .ne,a,b=>j' (BV 40 a b) fun r=>.ok !r
 | .lt,.int a,.int b=>.ok (decide (a < b))
 | .le,.int a,.int b=>.ok (decide (a<=b))
 | .gt,.int a,.int b=>.ok (decide (b < a))
 | .ge,.int a,.int b=>.ok (decide (b<=a))
 | .EA,.str y,.str x=>.ok (g8 x y)
 | .Ik,.str y,.str x=>.ok (!g8 x y)
 | .EA,a,.lst _ ds=>Cq a ds
 | .Ik,a,.lst _ ds=>j' (Cq a ds) fun r=>.ok !r
 | .EA,a,.tup ds=>Cq a ds
 | .Ik,a,.tup ds=>j' (Cq a ds) fun r=>.ok !r
 | .E0,a,.A8=>.ok (bJ a)
 | .EO,a,.A8=>.ok (!bJ a)
 | .EO,.bl a,.bl b=>.ok (a != b)
 | .EO,.A8,.bl _=>.ok true
 | _,_,_=>A5
noncomputable def i5:List D->Option (List Int)
 | []=>some []
 | .int i::r=>(i5 r).map (i::·)
 | _::_=>none
noncomputable def i6:List D->Option (List Str)
 | []=>some []
 | .str i::r=>(i6 r).map (i::·)
 | _::_=>none
noncomputable def bB:List D->Option (List Bool)
 | []=>some []
 | .bl i::r=>(bB r).map (i::·)
 | _::_=>none
noncomputable def aW:Kd->D->Bool
 | .str,.str _=>true
 | .int,.int _=>true
 | .int,.bl _=>true
 | .bool,.bl _=>true
 | .list,.lst _ _=>true
 | .tuple,.tup _=>true
 | _,_=>false
noncomputable def AA (tb:List (Str×Bool)):D->Res D
 | .exc c=>match tb.lookup c with
  | some b=>.ok (.bl b)
  | none=>A5
 | _=>A5
noncomputable def bo (x:Str):List D:=x.cps.toList.map fun c=>.str ⟨#[c]⟩
noncomputable def cy:Bi->List D->Res D
 | .len,[.str x]=>A4 (aU x.length) (.ok (.int x.length))
 | .len,[.tup ds]=>.ok (.int ds.length)
 | .len,[.lst _ ds]=>.ok (.int ds.length)
 | .len,[.A0 _ ks _]=>.ok (.int ks.length)
 | .min2,[.int a,.int b]=>.ok (.int (if b < a then b else a))
 | .max2,[.int a,.int b]=>.ok (.int (if b > a then b else a))
 | .ord,[.str x]=>A4 (decide (x.length=1)) (.ok (.int (x.cps.getD 0 0:Nat)))
 | .tuple,[.lst _ ds]=>.ok (.tup ds)
 | .tuple,[.str x]=>A4 (aU x.length) (.ok (.tup (bo x)))
 | .all,[.lst _ ds]=>match bB ds with
  | some bs=>.ok (.bl (bs.all id))
  | none=>A5
 | .any,[.lst _ ds]=>match bB ds with
  | some bs=>.ok (.bl (bs.any id))
  | none=>A5
 | _,_=>A5
noncomputable def AB:D->Bool
 | .A8=>true
 | .bl _=>true
 | .int _=>true
 | .str _=>true
 | _=>false
noncomputable def ml (ds:List D):Bool:=ds.all AB
noncomputable def bO:D->Option Key
 | .int i=>some (.inl i)
 | .str x=>some (.inr x)
 | _=>none
noncomputable def look:List Key->List D->Key->Option D
 | k::ks,d::ds,q=>if k=q then some d else look ks ds q
 | _,_,_=>none
noncomputable def g9 (ks:List Key)(q:Key):Bool:=ks.any fun k=>decide (k=q)
noncomputable def bK (ks:List Key)(q:Key):List Key:=if g9 ks q=true then ks else ks++[q]
noncomputable def bc (ks:List Key)(ds:List D)(q:Key)(d:D):List D:=if g9 ks q=true then List.zipWith (fun k e=>if k=q then d else e) ks ds else ds++[d]
noncomputable def hG:D->D->Res D
 | .A0 _ ks ds,y=>match bO y with
  | some q=>(match look ks ds q with
   | some d=>.ok d
   | none=>A5)
  | none=>A5
 | _,_=>A5
noncomputable def hJ (n:Bool):D->D->Res D
 | .A0 _ ks ds,y=>match bO y with
  | some q=>.ok (.bl (n != (look ks ds q).isSome))
  | none=>A5
 | _,_=>A5
noncomputable def vp:D->Bool
 | .A0 _ _ _=>true
 | _=>false
noncomputable def vq:D->D->D->Res D
 | .A0 _ ks ds,y,z=>match bO y with
  | some q=>.ok ((look ks ds q).getD z)
  | none=>A5
 | _,_,_=>A5
noncomputable def xr:D->Res D
 | .A0 _ _ ds=>match i5 ds with
  | some ns=>.ok (.int ns.sum)
  | none=>A5
 | _=>A5
noncomputable def xu:D->Res D
 | .lst _ ds=>match i6 ds with
  | some ns=>A4 (decide (ns.length < 1000)) (.ok (.int ((ns.foldl Sx.dd []).length:Nat)))
  | none=>A5
 | _=>A5
noncomputable def rR:List D->Option (List (Key×D))
 | []=>some []
 | .tup [k,v]::r=>match bO k,rR r with
  | some q,some ps=>some ((q,v)::ps)
  | _,_=>none
 | _::_=>none
noncomputable def Jr:List (Key×D)->List Key->List D->List Key×List D
 | [],ks,ds=>(ks,ds)
 | (q,d)::r,ks,ds=>Jr r (bK ks q) (bc ks ds q d)
noncomputable def AD (j:Nat)(τ:List (Option D)):D->Res (List (Option D))
 | .lst _ ds=>match rR ds with
  | some ps=>A4 (ml (ps.map (·.2))) (.ok (τ.set j (some (.A0 true (Jr ps [] []).1 (Jr ps [] []).2))))
  | none=>A5
 | _=>A5
noncomputable def AE (i:Nat)(τ:List (Option D)):Option D->Option D->Res (List (Option D))
 | some (.A0 true ks ds),some (.A0 _ Lo Lp)=>A4 (ml ds&&ml Lp&&aU (ks.length+Lo.length)) (.ok (τ.set i (some (.A0 true (Jr (Lo.zip Lp) ks ds).1 (Jr (Lo.zip Lp) ks ds).2))))
 | _,_=>A5
noncomputable def fX:D->Bool
 | .str _=>true
 | _=>false
noncomputable def la:Mt->D->List D->Res D
 | .starts,.str x,[.str y]=>.ok (.bl (Txt.startswith x y))
 | _,_,_=>A5
noncomputable def dn:D->Res (List D)
 | .lst _ ds=>.ok ds
 | .tup ds=>.ok ds
 | .str x=>A4 (aU x.length) (.ok (bo x))
 | _=>A5
noncomputable def i7:D->Res (List D)
 | .lst _ ds=>.ok ds
 | .tup ds=>.ok ds
 | _=>A5
noncomputable def dq (ds es:List D):List D:=List.zipWith (fun a b=>.tup [a,b]) ds es
noncomputable def fY (ds:List D):List D:=List.zipWith (fun (k:Nat) d=>.tup [.int k,d]) (List.range ds.length) ds
noncomputable def qt:D->Res (List D)
 | .lst _ ds=>.ok (fY ds)
 | _=>A5
noncomputable def qu:D->Res (List D)
 | .lst _ ds=>.ok ds.reverse
 | _=>A5
noncomputable def qv (x y:D):Res (List D):=j' (i7 x) fun ds=>j' (i7 y) fun es=>.ok (dq ds es)
noncomputable def bE (a b:Int):List D:=(List.range (b - a).toNat).map fun k=>.int (a+(k:Nat))
noncomputable def AF:D->Res D
 | .lst _ ds=>.ok (.lst true ds.reverse)
 | _=>A5
noncomputable def xw:D->Res D
 | .lst _ ds=>match i5 ds with
  | some ns=>A4 (decide (ns.length < 64)) (.ok (.lst true ((PySem.W.sortI (dd ns)).map .int)))
  | none=>match i6 ds with
   | some ns=>A4 (decide (ns.length < 64)) (.ok (.lst true ((rP (OZ ns)).map .str)))
   | none=>A5
 | _=>A5
noncomputable def AG (x:Str)(y:Option Str):D->Res D
 | .str z=>A4 (aU (x.length+(reprText z).length+(y.getD Str.empty).length)) (.ok (.str (x++reprText z++y.getD Str.empty)))
 | _=>A5
noncomputable def bC (i:Int):Bool:=decide (-(2 ^ 62)<=i/\i < 2 ^ 62)
noncomputable def aP {α β:Type}(f:α->Res (Option β)):List α->Res (List β)
 | []=>.ok []
 | x::xs=>j' (f x) fun
  | some d=>j' (aP f xs) fun r=>.ok (d::r)
  | none=>aP f xs
noncomputable def B5 {α:Type}:Res α->Res α
 | .error _=>A5
 | .ok a=>.ok a
mutual
noncomputable def bp:Tg->D->Ev->Res Ev
 | .nm i,d,τ=>.ok (τ.set i (some d))
 | .tp ts,.tup ds,τ=>A4 (decide (ds.length=ts.length)) (cO ts ds τ)
 | .tp ts,.lst _ ds,τ=>A4 (decide (ds.length=ts.length)) (cO ts ds τ)
 | .tp _,_,_=>A5
noncomputable def cO:List Tg->List D->Ev->Res Ev
 | t::ts,d::ds,τ=>j' (bp t d τ) fun A7=>cO ts ds A7
 | [],[],τ=>.ok τ
 | _,_,_=>A5
end
noncomputable def ah (τ:Ev)(i:Nat):Option D:=(τ[i]?).join
mutual
noncomputable def vars:IR->List Nat
 | .c _=>[]
 | .g _ _=>[]
 | .v i=>[i]
 | .bin _ a b=>vars a++vars b
 | .neg a=>vars a
 | .cmp _ a b=>vars a++vars b
 | .chain _ _ a b c=>vars a++vars b++vars c
 | .BB a b=>vars a++vars b
 | .E1 a b=>vars a++vars b
 | .BU a=>vars a
 | .ite t a b=>vars t++vars a++vars b
 | .tup es=>aj es
 | .lst es=>aj es
 | .idx a i=>vars a++vars i
 | .sl a lo hi=>vars a++mn lo++mn hi
 | .call _ es=>aj es
 | .bi _ es=>aj es
 | .CW=>[]
 | .B3 a k=>vars a++vars k
 | .GX _ k a=>vars k++vars a
 | .BW a _=>vars a
 | .Kf a _ _=>vars a
 | .FN a=>vars a
 | .sset a=>vars a
 | .DY a=>vars a
 | .FO a=>vars a
 | .Ef a k e=>vars a++vars k++vars e
 | .Kg _ a _=>vars a
 | .Il _ o es=>vars o++aj es
 | .comp _ fr _ src _ _=>fr++cP src
noncomputable def aj:List IR->List Nat
 | []=>[]
 | e::es=>vars e++aj es
noncomputable def mn:Option IR->List Nat
 | none=>[]
 | some e=>vars e
noncomputable def cP:Sr->List Nat
 | .B4 n=>vars n
 | .C7 a b=>vars a++vars b
 | .val e=>vars e
 | .zip a b=>vars a++vars b
 | .DR a=>vars a
 | .rev a=>vars a
end
mutual
noncomputable def A3 (cl:Nat->List D->Res D):IR->Ev->Res D
 | .c d,_=>.ok d
 | .g _ d,_=>.ok d
 | .v i,τ=>match ah τ i with
  | some d=>.ok d
  | none=>A5
 | .bin op a b,τ=>j' (A3 cl a τ) fun x=>j' (A3 cl b τ) fun y=>C1 op x y
 | .neg a,τ=>j' (A3 cl a τ) fun
  | .int i=>.ok (.int (-i))
  | _=>A5
 | .cmp op a b,τ=>j' (A3 cl a τ) fun x=>j' (A3 cl b τ) fun y=>j' (Cj op x y) fun r=>.ok (.bl r)
 | .chain op BH a b c,τ=>j' (A3 cl a τ) fun x=>j' (A3 cl b τ) fun y=>j' (Cj op x y) fun r=>
  if r=true then j' (A3 cl c τ) fun z=>j' (Cj BH y z) fun r'=>.ok (.bl r') else .ok (.bl false)
 | .BB a b,τ=>j' (A3 cl a τ) fun x=>j' (aE x) fun r=>if r=true then A3 cl b τ else .ok x
 | .E1 a b,τ=>j' (A3 cl a τ) fun x=>j' (aE x) fun r=>if r=true then .ok x else A3 cl b τ
 | .BU a,τ=>j' (A3 cl a τ) fun x=>j' (aE x) fun r=>.ok (.bl !r)
 | .ite t a b,τ=>j' (A3 cl t τ) fun x=>j' (aE x) fun r=>if r=true then A3 cl a τ else A3 cl b τ
 | .tup es,τ=>j' (ay cl es τ) fun ds=>A4 (aU ds.length) (.ok (.tup ds))
 | .lst es,τ=>j' (ay cl es τ) fun ds=>A4 (aU ds.length) (.ok (.lst true ds))
 | .idx a i,τ=>j' (A3 cl a τ) fun x=>j' (A3 cl i τ) fun y=>au x y
 | .sl a lo hi,τ=>j' (A3 cl a τ) fun x=>j' (fZ cl lo τ) fun l=>j' (fZ cl hi τ) fun h=>i4 x l h
 | .call f es,τ=>j' (ay cl es τ) fun ds=>cl f (A6 ds)
 | .bi f es,τ=>j' (ay cl es τ) fun ds=>cy f ds
 | .CW,_=>.ok (.A0 true [] [])
 | .B3 a k,τ=>j' (A3 cl a τ) fun x=>j' (A3 cl k τ) fun y=>hG x y
 | .GX n k a,τ=>j' (A3 cl k τ) fun y=>j' (A3 cl a τ) fun x=>hJ n x y
 | .BW a k,τ=>j' (A3 cl a τ) fun x=>A4 (dm x) (.ok (.bl (aW k x)))
 | .Kf a _ tb,τ=>j' (A3 cl a τ) (AA tb)
 | .FN a,τ=>j' (A3 cl a τ) AF
 | .sset a,τ=>j' (A3 cl a τ) xw
 | .DY a,τ=>j' (A3 cl a τ) xu
 | .FO a,τ=>j' (A3 cl a τ) xr
 | .Ef a k e,τ=>j' (A3 cl a τ) fun x=>A4 (vp x) (j' (A3 cl k τ) fun y=>j' (A3 cl e τ) fun z=>vq x y z)
 | .Kg x a y,τ=>j' (A3 cl a τ) (AG x y)
 | .Il m o es,τ=>j' (A3 cl o τ) fun x=>A4 (fX x) (j' (ay cl es τ) fun ds=>la m x ds)
 | .comp G fr tg src ifs elt,τ=>j' (bZ cl src τ) fun its=>A4 (bj its.length) (j' (B5 (aP (fun x=>j' (bp tg x (fr.map (ah τ)++List.replicate (G.N.length - fr.length) none)) fun Fj=>
   j' (cG cl ifs Fj) fun r=>if r=true then j' (A3 cl elt Fj) fun d=>.ok (some d) else .ok none) its)) fun ds=>.ok (.lst true ds))
noncomputable def ay (cl:Nat->List D->Res D):List IR->Ev->Res (List D)
 | [],_=>.ok []
 | e::es,τ=>j' (A3 cl e τ) fun d=>j' (ay cl es τ) fun ds=>.ok (d::ds)
noncomputable def fZ (cl:Nat->List D->Res D):Option IR->Ev->Res (Option Int)
 | none,_=>.ok none
 | some e,τ=>j' (A3 cl e τ) fun
  | .int i=>.ok (some i)
  | _=>A5
noncomputable def cG (cl:Nat->List D->Res D):List IR->Ev->Res Bool
 | [],_=>.ok true
 | e::es,τ=>j' (j' (A3 cl e τ) aE) fun r=>if r=true then cG cl es τ else .ok false
noncomputable def bZ (cl:Nat->List D->Res D):Sr->Ev->Res (List D)
 | .B4 n,τ=>j' (A3 cl n τ) fun
  | .int i=>A4 (bC i) (.ok (bE 0 i))
  | _=>A5
 | .C7 a b,τ=>j' (A3 cl a τ) fun x=>j' (A3 cl b τ) fun y=>match x,y with
  | .int i,.int j=>A4 (bC i&&bC j) (.ok (bE i j))
  | _,_=>A5
 | .val e,τ=>j' (A3 cl e τ) dn
 | .zip a b,τ=>j' (A3 cl a τ) fun x=>j' (A3 cl b τ) fun y=>qv x y
 | .DR a,τ=>j' (A3 cl a τ) qt
 | .rev a,τ=>j' (A3 cl a τ) qu
end
noncomputable def Io (cl:Nat->List D->Res D)(t:IR)(τ:Ev):Res Bool:=j' (A3 cl t τ) aE
noncomputable def dt (is:List Nat):Nat->Ev->Ev
 | _,[]=>[]
 | k,o::τ=>(if is.contains k then o.map er else o)::dt is (k+1) τ
noncomputable abbrev Bb (is:List Nat)(τ:Ev):Ev:=dt is 0 τ
noncomputable def aX : IR->Bool
 | .bin .add _ _=>true
 | .bin .mul _ _=>true
 | .sl _ _ _=>true
 | .comp _ _ _ _ _ _=>true
 | _=>false
noncomputable def aB (e:IR)(d:D)(τ:Ev):D×Ev:=
 if ao d=true then (d,τ)
 else match aX e,d with
  | true,.lst _ ds=>if af ds=true then (.lst true ds,τ) else (.lst true (A6 ds),Bb (vars e) τ)
  | _,_=>(er d,Bb (vars e) τ)
mutual
noncomputable def BF (cl:Nat->List D->Res D)(mv:Bool):IR->Ev->Res (D×Ev)
 | .v i,τ=>match ah τ i with
  | some d=>if mv=true then .ok (d,τ.set i none) else .ok (er d,τ.set i (some (er d)))
  | none=>A5
 | .tup es,τ=>j' (d6 cl mv es τ) fun p=>A4 (aU p.1.length) (.ok (.tup p.1,p.2))
 | .lst es,τ=>j' (d6 cl mv es τ) fun p=>A4 (aU p.1.length) (.ok (.lst true p.1,p.2))
 | .CW,τ=>.ok (.A0 true [] [],τ)
 | .ite t a b,τ=>j' (Io cl t τ) fun r=>if r=true then BF cl mv a τ else BF cl mv b τ
 | .call f es,τ=>j' (ay cl es τ) fun ds=>j' (cl f (A6 ds)) fun d=>if ao d=true then .ok (d,τ) else .ok (d,Bb (aj es) τ)
 | e,τ=>j' (A3 cl e τ) fun d=>.ok (aB e d τ)
noncomputable def d6 (cl:Nat->List D->Res D)(mv:Bool):List IR->Ev->Res (List D×Ev)
 | [],τ=>.ok ([],τ)
 | e::es,τ=>j' (BF cl mv e τ) fun p=>j' (d6 cl mv es p.2) fun q=>.ok (p.1::q.1,q.2)
end
noncomputable def forM (body:D->Ev->Res Fl):List D->Ev->Res Fl
 | [],τ=>.ok (.nx τ)
 | x::xs,τ=>j' (body x τ) fun
  | .nx A7=>forM body xs A7
  | .ct A7=>forM body xs A7
  | .bk A7=>.ok (.nx A7)
  | .rt d=>.ok (.rt d)
  | .ri d ks vs=>.ok (.ri d ks vs)
noncomputable def i8 (test:Ev->Res Bool)(body:Ev->Res Fl):Nat->Ev->Res Fl
 | 0,_=>A5
 | n+1,τ=>j' (test τ) fun r=>if r=true then j' (body τ) fun
  | .nx A7=>i8 test body n A7
  | .ct A7=>i8 test body n A7
  | .bk A7=>.ok (.nx A7)
  | .rt d=>.ok (.rt d)
  | .ri d ks vs=>.ok (.ri d ks vs)
  else .ok (.nx τ)
noncomputable def hU (cl:Nat->List D->Res D)(s:Sr)(τ:Ev):Res (List D×Ev):=j' (bZ cl s τ) fun its=>match s with
 | .B4 _=>.ok (its,τ)
 | .C7 _ _=>.ok (its,τ)
 | s=>.ok (A6 its,Bb (cP s) τ)
noncomputable def mq (j i:Nat)(τ:Ev):D->Res Fl
 | .tup [d,.A0 false ks vs]=>A4 (af vs) (.ok (.nx ((τ.set i (some (.A0 true ks vs))).set j (some d))))
 | _=>A5
noncomputable def xx (cl:Nat->List D->Res D)(j g i:Nat)(x:D)(τ:Ev):D->Res Fl
 | .tup [d,.A0 false ks vs]=>A4 (af vs) (j' (B5 (cl g [er x,er d])) fun r=>.ok (.nx ((τ.set i (some (.A0 true ks vs))).set j (some r))))
 | _=>A5
mutual
noncomputable def qw:D->Bool
 | .lst o ds=>!o&&ft ds
 | .tup ds=>ft ds
 | .A0 o _ ds=>!o&&ft ds
 | _=>true
noncomputable def ft:List D->Bool
 | []=>true
 | d::ds=>qw d&&ft ds
end
mutual
noncomputable def xy:D->Bool
 | .lst _ ds=>hW ds
 | .tup ds=>hW ds
 | .A0 o _ ds=>o&&hW ds
 | _=>true
noncomputable def hW:List D->Bool
 | []=>true
 | d::ds=>xy d&&hW ds
end
noncomputable def Lq:Ev->Bool
 | []=>true
 | none::τ=>Lq τ
 | some d::τ=>xy d&&Lq τ
noncomputable def AH:Key->D
 | .inl i=>.int i
 | .inr x=>.str x
noncomputable def xA (i:Nat)(τ:Ev):Option D->Res Fl
 | some (.A0 false ks ds)=>A4 (Lq (τ.set i none)&&hW ds) (.ok (.nx (τ.set i (some (.A0 true ks ds)))))
 | _=>A5
noncomputable def xB (i:Nat):Fl->Res Fl
 | .nx τ=>xA i τ (ah τ i)
 | .rt d=>.ok (.rt d)
 | _=>A5
noncomputable def i9:D->Res Fl
 | .tup [d,.A0 false _ vs]=>A4 (af vs) (.ok (.rt d))
 | _=>A5
noncomputable def xC:Nat:=1000000
noncomputable def ia (i:Nat)(q:D×Ev):Res Fl:=match ah q.2 i with
 | some (.A0 true ks vs)=>A4 (af vs) (.ok (.ri q.1 ks vs))
 | _=>A5
noncomputable def rS (i:Nat)(τ:Ev)(d:D)(ks:List Key)(vs:List D):Option Key->Res Fl
 | some q=>A4 (ao d&&bj ks.length) (.ok (.nx (τ.set i (some (.A0 true (bK ks q) (bc ks vs q d))))))
 | none=>A5
noncomputable def ib (cl:Nat->List D->Res D)(i:Nat)(k:IR)(τ:Ev):D->Res Fl
 | .tup [d,.A0 false ks vs]=>A4 (af vs) (j' (A3 cl k (τ.set i (some (.A0 true ks vs)))) fun y=>rS i (τ.set i (some (.A0 true ks vs))) d ks vs (bO y))
 | _=>A5
noncomputable def ic (cl:Nat->List D->Res D)(i:Nat)(k e:IR)(τ:Ev):D->Res (Bool×Ev)
 | .tup [d,.A0 false ks vs]=>A4 (af vs) (j' (A3 cl k (τ.set i (some (.A0 true ks vs)))) fun y=>j' (au d y) fun x=>j' (A3 cl e (τ.set i (some (.A0 true ks vs)))) fun z=>j' (Cj .ne x z) fun r=>.ok (r,τ.set i (some (.A0 true ks vs))))
 | _=>A5
mutual
noncomputable def B6 (cl:Nat->List D->Res D):IS->Ev->Res Fl
 | .asg tg e,τ=>j' (BF cl false e τ) fun p=>j' (bp tg p.1 p.2) fun A7=>.ok (.nx A7)
 | .par i j a b,τ=>j' (d6 cl false [a,b] τ) fun p=>match p.1 with
  | [x,y]=>.ok (.nx ((p.2.set i (some x)).set j (some y)))
  | _=>A5
 | .Gj i k e,τ=>j' (BF cl false e τ) fun p=>match ah p.2 i with
  | some (.lst true ds)=>j' (A3 cl k p.2) fun
   | .int z=>(match Ge ds.length z with
    | some j=>.ok (.nx (p.2.set i (some (.lst true (ds.set j p.1)))))
    | none=>A5)
   | _=>A5
  | _=>A5
 | .app i e,τ=>match ah τ i with
  | some (.lst _ _)=>j' (BF cl false e τ) fun p=>(match ah p.2 i with
   | some (.lst true ds)=>A4 (bj ds.length) (.ok (.nx (p.2.set i (some (.lst true (ds++[p.1]))))))
   | _=>A5)
  | _=>A5
 | .Cf i k e,τ=>j' (A3 cl e τ) fun d=>match ah τ i with
  | some (.A0 true ks ds)=>j' (A3 cl k τ) fun y=>(match bO y with
   | some q=>A4 (ao d&&af ds&&bj ks.length) (.ok (.nx (τ.set i (some (.A0 true (bK ks q) (bc ks ds q d))))))
   | none=>A5)
  | _=>A5
 | .Gk i k e,τ=>j' (A3 cl e τ) fun d=>match ah τ i with
  | some (.A0 true ks ds)=>j' (A3 cl k (Bb (vars e) τ)) fun y=>(match bO y with
   | some q=>A4 (ft ds&&bj ks.length) (.ok (.nx ((Bb (vars e) τ).set i (some (.A0 true (bK ks q) (A6 (bc ks ds q d)))))))
   | none=>A5)
  | _=>A5
 | .Cb i e,τ=>j' (BF cl true e τ) (ia i)
 | .D4 i k f es,τ=>match ah τ i with
  | some (.A0 true ks vs)=>A4 (af vs) (j' (ay cl es τ) fun ds=>j' (B5 (cl f (A6 ds++[.A0 false ks vs]))) (ib cl i k (Bb (aj es) τ)))
  | _=>A5
 | .DL f es i k e a b,τ=>match ah τ i with
  | some (.A0 true ks vs)=>A4 (af vs) (j' (ay cl es τ) fun ds=>j' (B5 (cl f (A6 ds++[.A0 false ks vs]))) fun d=>j' (ic cl i k e (Bb (aj es) τ) d) fun p=>if p.1=true then aD cl a p.2 else aD cl b p.2)
  | _=>A5
 | .Im f es,τ=>j' (ay cl es τ) fun ds=>j' (B5 (cl f (A6 ds++[.A0 false [] []]))) i9
 | .Jm j i body,τ=>match ah τ i with
  | some (.A0 true ks ds)=>A4 (ft ds) (j' (forM (fun x τ=>j' (bp (.nm j) x τ) fun A7=>aD cl body A7) (ks.map AH) (τ.set i (some (.A0 false ks ds)))) (xB i))
  | _=>A5
 | .ext i e,τ=>match ah τ i with
  | some (.lst _ _)=>j' (BF cl false e τ) fun p=>(match p.1,ah p.2 i with
   | .lst _ es,some (.lst true ds)=>A4 (aU (ds.length+es.length)) (.ok (.nx (p.2.set i (some (.lst true (ds++es))))))
   | _,_=>A5)
  | _=>A5
 | .ins i k e,τ=>match ah τ i with
  | some (.lst _ _)=>j' (A3 cl k τ) fun y=>j' (BF cl false e τ) fun p=>(match y,ah p.2 i with
   | .int z,some (.lst true ds)=>A4 (decide (0<=z/\z.toNat<=ds.length)&&bj ds.length) (.ok (.nx (p.2.set i (some (.lst true (ds.take z.toNat++p.1::ds.drop z.toNat))))))
   | _,_=>A5)
  | _=>A5
 | .Jl _ _ _,_=>A5
 | .M3 i,τ=>match ah τ i with
  | some (.lst true ds)=>.ok (.nx (τ.set i (some (.lst true ds.reverse))))
  | _=>A5
 | .pop j i,τ=>match ah τ i with
  | some (.lst true (.str x::ds))=>.ok (.nx ((τ.set i (some (.lst true ds))).set j (some (.str x))))
  | _=>A5
 | .M4 j e,τ=>j' (A3 cl e τ) fun d=>j' (AD j τ d) fun A7=>.ok (.nx A7)
 | .Jo i j,τ=>j' (AE i τ (ah τ i) (ah τ j)) fun A7=>.ok (.nx A7)
 | .GY j f es i,τ=>match ah τ i with
  | some (.A0 true ks vs)=>A4 (af vs) (j' (ay cl es τ) fun ds=>j' (B5 (cl f (A6 ds++[.A0 false ks vs]))) (mq j i (Bb (aj es) τ)))
  | _=>A5
 | .Jn j g a f es i,τ=>match ah τ i with
  | some (.A0 true ks vs)=>A4 (af vs) (j' (A3 cl a τ) fun x=>j' (ay cl es τ) fun ds=>j' (B5 (cl f (A6 ds++[.A0 false ks vs]))) (xx cl j g i x (Bb (vars a++aj es) τ)))
  | _=>A5
 | .M5 i,τ=>match ah τ i with
  | some (.lst true _)=>.ok (.nx (τ.set i (some (.lst true []))))
  | _=>A5
 | .exp e,τ=>j' (A3 cl e τ) fun _=>.ok (.nx τ)
 | .ret e,τ=>j' (BF cl true e τ) fun p=>.ok (.rt p.1)
 | .FP,_=>.ok (.rt .A8)
 | .Bn t a b,τ=>j' (Io cl t τ) fun r=>if r=true then aD cl a τ else aD cl b τ
 | .BE tg s body,τ=>j' (hU cl s τ) fun p=>forM (fun x τ=>j' (bp tg x τ) fun A7=>aD cl body A7) p.1 p.2
 | .E2 t body,τ=>i8 (Io cl t) (aD cl body) xC τ
 | .brk,τ=>.ok (.bk τ)
 | .cnt,τ=>.ok (.ct τ)
 | .pass,τ=>.ok (.nx τ)
 | .never,_=>A5
 | .E3 _ c _,_=>.error (.exc c)
 | .E4 _ c e,τ=>j' (B5 (A3 cl e τ)) fun _=>.error (.exc c)
 | .Jp i f es _ cs k h,τ=>j' (B5 (ay cl es τ)) fun ds=>match cl f (A6 ds) with
  | .ok d=>if ao d=true then .ok (.nx (τ.set i (some d))) else .ok (.nx ((Bb (aj es) τ).set i (some d)))
  | .error (.exc c)=>A4 (cs.contains c) (j' (B5 (aD cl h (τ.set k (some (.exc c))))) fun
   | .nx A7=>.ok (.nx (A7.set k none))
   | _=>A5)
  | .error .stuck=>A5
 | .Jq body _ cs i h,τ=>match aD cl body τ with
  | .ok (.nx A7)=>.ok (.nx A7)
  | .error (.exc c)=>A4 (cs.contains c) (j' (B5 (aD cl h ((List.replicate τ.length none).set i (some (.exc c))))) fun
   | .nx A7=>.ok (.nx (A7.set i none))
   | _=>A5)
  | _=>A5
noncomputable def aD (cl:Nat->List D->Res D):List IS->Ev->Res Fl
 | [],τ=>.ok (.nx τ)
 | s::r,τ=>j' (B6 cl s τ) fun
  | .nx A7=>aD cl r A7
  | .ct A7=>.ok (.ct A7)
  | .bk A7=>.ok (.bk A7)
  | .rt d=>.ok (.rt d)
  | .ri d ks vs=>.ok (.ri d ks vs)
end
structure Fn where
 np:Nat
 G:Gm
 body:List IS
 io:Bool:=false
noncomputable def b9 (cl:Nat->List D->Res D)(fn:Fn)(ds:List D):Res D:=
 A4 (decide (ds.length=fn.np)) (j' (aD cl fn.body (ds.map some++List.replicate (fn.G.N.length - fn.np) none)) fun
  | .nx _=>.ok .A8
  | .rt d=>.ok d
  | _=>A5)
noncomputable def AJ:D->D
 | .A0 _ ks vs=>.A0 true ks vs
 | d=>d
noncomputable def mr:List D->List D
 | []=>[]
 | [d]=>[AJ d]
 | d::ds=>d::mr ds
noncomputable def cb (cl:Nat->List D->Res D)(fn:Fn)(ds:List D):Res D:=
 A4 (decide (ds.length=fn.np)) (j' (aD cl fn.body ((mr ds).map some++List.replicate (fn.G.N.length - fn.np) none)) fun
  | .ri d ks vs=>.ok (.tup [d,.A0 false ks vs])
  | _=>A5)
noncomputable abbrev Tb:=Nat->Option Fn
noncomputable def ae (T:Tb):Nat->Nat->List D->Res D
 | 0,_,_=>A5
 | n+1,f,ds=>match T f with
  | some fn=>(match fn.io with
   | false=>b9 (ae T n) fn ds
   | true=>cb (ae T n) fn ds)
  | none=>A5
theorem xD {cl:Nat->List D->Res D}{i:Nat}{τ:Ev}:A3 cl (.v i) τ=(match ah τ i with|some d=>.ok d|none=>A5):=rfl
theorem xE {cl:Nat->List D->Res D}{i:Nat}{τ:Ev}{mv:Bool}:BF cl mv (.v i) τ=(match ah τ i with|some d=>if mv=true then .ok (d,τ.set i none) else .ok (er d,τ.set i (some (er d)))|none=>A5):=rfl
section
variable {X:Cx}{pins:List (Addr×Obj)}{σ:St}{H:Hp}{S:Addr->Prop}{s:Shared}
theorem Inv.Cr (I:Inv X pins σ H s){a:Addr}{xs ys:List V}(h1:BS X.K H a xs)(h2:Cv X.K H a ys):False:=by
 obtain⟨its,_,⟨o,n,e,c,_⟩,_⟩:=I.list h1
 obtain⟨its',_,⟨o',e',c',_⟩,_⟩:=I.tuple h2
 rw[e] at e';cases e'
 rw[c] at c'
 injection c' with c'
 exact absurd c' (by decide)
theorem Inv.CY (I:Inv X pins σ H s){a:Addr}{c:Str}(h:BI X.K H a (.inr c)):∃ C o vs,PySem.W.nsIn X.K mainGlobals c=some (some (.ref C))/\nameIn X.K C=some c/\s.heap.get? a=some o/\o.cls=.ref C/\o.data=.fields vs:=by
 obtain⟨C,o,vs,h0,h1,h2,h3,h4⟩:=h
 exact⟨C,o,vs,h0,h1,(I.Be a _ h2).1,h3,h4⟩
theorem Inv.FQ (I:Inv X pins σ H s){a:Addr}{c c':Str}(h:BI X.K H a (.inr c))(k:BI X.K H a (.inr c')):c=c':=by
 obtain⟨C,o,vs,_,n1,e,c1,_⟩:=I.CY h
 obtain⟨C',o',Rz,_,n2,e',c2,_⟩:=I.CY k
 rw[e] at e';cases e'
 rw[c1] at c2;cases c2
 rw[n1] at n2;cases n2
 rfl
theorem Inv.Eg (I:Inv X pins σ H s){a:Addr}{c:Str}{xs:List V}(h:BI X.K H a (.inr c))(k:Cv X.K H a xs):False:=by
 obtain⟨C,o,vs,_,_,e,c1,_⟩:=I.CY h
 obtain⟨its',_,⟨o',e',c',_⟩,_⟩:=I.tuple k
 rw[e] at e';cases e'
 rw[c1] at c';cases c'
theorem Inv.CM (I:Inv X pins σ H s){a:Addr}{c:Str}{xs:List V}(h:BI X.K H a (.inr c))(k:BS X.K H a xs):False:=by
 obtain⟨C,o,vs,_,_,e,c1,_⟩:=I.CY h
 obtain⟨its',_,⟨o',n,e',c',_⟩,_⟩:=I.list k
 rw[e] at e';cases e'
 rw[c1] at c';cases c'
theorem Inv.D5 (I:Inv X pins σ H s){a:Addr}{kvs:List (Key×V)}(h:Rd H a (.dK kvs)):∃ o es ep,s.heap.get? a=some o/\o.data=.dict es ep:=by
 obtain⟨_,_,vs,_,o,es,ep,e,c,d,_⟩:=h.ok I.Be
 exact⟨o,es,ep,e,d⟩
theorem Inv.Eh (I:Inv X pins σ H s){a:Addr}{kvs:List (Key×V)}{xs:List V}(h:Rd H a (.dK kvs))(k:Cv X.K H a xs):False:=by
 obtain⟨o,es,ep,e,d⟩:=I.D5 h
 obtain⟨its',_,⟨o',e',c',n,d'⟩,_⟩:=I.tuple k
 rw[e] at e';cases e'
 rw[d] at d';cases d'
theorem Inv.CN (I:Inv X pins σ H s){a:Addr}{kvs:List (Key×V)}{xs:List V}(h:Rd H a (.dK kvs))(k:BS X.K H a xs):False:=by
 obtain⟨o,es,ep,e,d⟩:=I.D5 h
 obtain⟨its',_,⟨o',n,e',c',n',d'⟩,_⟩:=I.list k
 rw[e] at e';cases e'
 rw[d] at d';cases d'
theorem Inv.Ei (I:Inv X pins σ H s){a:Addr}{c:Str}{kvs:List (Key×V)}(h:BI X.K H a (.inr c))(k:Rd H a (.dK kvs)):False:=by
 obtain⟨C,o,vs,_,_,e,c1,d1⟩:=I.CY h
 obtain⟨o',es,ep,e',d⟩:=I.D5 k
 rw[e] at e';cases e'
 rw[d] at d1;cases d1
theorem Rd.dk {H:Hp}{a:Addr}{u v:List (Key×V)}(h:Rd H a (.dK u))(k:Rd H a (.dK v)):u=v:=by
 rcases h with h|⟨o,h⟩<;>rcases k with k|⟨o',k⟩<;>(rw[h] at k;cases k;try rfl)
mutual
theorem A1.one (I:Inv X pins σ H s):∀ {v:V}{d e:D},A1 X.K S H v d->A1 X.K S H v e->er d=er e
 | _,_,_,.A8,h=>by cases h;rfl
 | _,_,_,.bl b,h=>by cases h;rfl
 | _,_,_,.int i,h=>by cases h;rfl
 | _,_,_,.str x,h=>by cases h;rfl
 | _,_,_,.exc h0,h=>by
  cases h with
  | exc k1=>exact congrArg D.exc (I.FQ h0 k1)
  | tup k1 k2=>exact(I.Eg h0 k1).elim
  | lst k0 k1 k2=>exact(I.CM h0 (.inl k1)).elim
  | lstK k1 k2=>exact(I.CM h0 k1.sq).elim
  | A0 k0 k1 k2 k3=>exact(I.Ei h0 k1).elim
 | _,_,_,.tup h1 h2,h=>by
  cases h with
  | exc k1=>exact(I.Eg k1 h1).elim
  | tup k1 k2=>
   have e:=I.Cz h1 k1
   subst e
   rw[er,er,AY.one I h2 k2]
  | lst k0 k1 k2=>exact(I.Cr (.inl k1) h1).elim
  | lstK k1 k2=>exact(I.Cr k1.sq h1).elim
  | A0 k0 k1 k2 k3=>exact(I.Eh k1 h1).elim
 | _,_,_,.lst h0 h1 h2,h=>by
  cases h with
  | exc k1=>exact(I.CM k1 (.inl h1)).elim
  | tup k1 k2=>exact(I.Cr (.inl h1) k1).elim
  | lst k0 k1 k2=>
   have e:=I.Bx (.inl h1) (.inl k1)
   subst e
   rw[er,er,AY.one I h2 k2]
  | lstK k1 k2=>
   have e:=I.Bx (.inl h1) k1.sq
   subst e
   rw[er,er,AY.one I h2 k2]
  | A0 k0 k1 k2 k3=>exact(I.CN k1 (.inl h1)).elim
 | _,_,_,.lstK h1 h2,h=>by
  cases h with
  | exc k1=>exact(I.CM k1 h1.sq).elim
  | tup k1 k2=>exact(I.Cr h1.sq k1).elim
  | lst k0 k1 k2=>
   have e:=I.Bx h1.sq (.inl k1)
   subst e
   rw[er,er,AY.one I h2 k2]
  | lstK k1 k2=>
   have e:=I.Bx h1.sq k1.sq
   subst e
   rw[er,er,AY.one I h2 k2]
  | A0 k0 k1 k2 k3=>exact(I.CN k1 h1.sq).elim
 | _,_,_,.A0 h0 h1 h2 h3,h=>by
  cases h with
  | exc k1=>exact(I.Ei k1 h1).elim
  | tup k1 k2=>exact(I.Eh h1 k1).elim
  | lst k0 k1 k2=>exact(I.CN h1 (.inl k1)).elim
  | lstK k1 k2=>exact(I.CN h1 k1.sq).elim
  | A0 k0 k1 k2 k3=>
   have e:=Rd.dk h1 k1
   subst e
   rw[er,er,AY.one I h3 k3,<- h2,<- k2]
theorem AY.one (I:Inv X pins σ H s):∀ {vs:List V}{ds es:List D},AY X.K S H vs ds->AY X.K S H vs es->A6 ds=A6 es
 | _,_,_,.nil,h=>by cases h;rfl
 | _,_,_,.cons h1 h2,h=>by
  cases h with
  | cons k1 k2=>rw[A6,A6,A1.one I h1 k1,AY.one I h2 k2]
end
end
theorem bF {α β:Type}{x:Res α}{f:α->Res β}{b:β}(h:j' x f=.ok b):∃ a,x=.ok a/\f a=.ok b:=by
 cases x with
 | error e=>cases h
 | ok a=>exact⟨a,rfl,h⟩
theorem ja {α:Type}{c:Bool}{x:Res α}{b:α}(h:A4 c x=.ok b):c=true/\x=.ok b:=by
 unfold A4 at h
 cases c with
 | true=>exact⟨rfl,h⟩
 | false=>cases h
theorem bR {f:D->D->Res Bool}(hf:∀ d e r,f d e=.ok r->er d=er e->r=true):∀ {ds es:List D}{r:Bool},bQ f ds es=.ok r->A6 ds=A6 es->r=true
 | [],[],r,h,_=>by cases h;rfl
 | [],_::_,_,_,h=>by rw[A6,A6] at h;cases h
 | _::_,[],_,_,h=>by rw[A6,A6] at h;cases h
 | a::ds,b::es,r,h,h'=>by
  rw[A6,A6] at h'
  injection h' with e1 e2
  obtain⟨x,hx,h⟩:=bF (show j' (f a b) (fun x=>j' (bQ f ds es) fun y=>.ok (x&&y))=.ok r from h)
  obtain⟨y,hy,h⟩:=bF h
  cases h
  rw[hf a b x hx e1,bR hf hy e2]
  rfl
theorem cQ:∀ (n:Nat) (d e:D) (r:Bool),BV n d e=.ok r->er d=er e->r=true
 | 0,_,_,_,h,_=>by cases h
 | n+1,d,e,r,h,h'=>by
  cases d with
  | tup ds=>
   cases e with
   | tup es=>
    rw[er,er] at h'
    injection h' with e1
    exact bR (cQ n) h e1
   | A8=>rw[er,er] at h';cases h'
   | bl _=>rw[er,er] at h';cases h'
   | int _=>rw[er,er] at h';cases h'
   | str _=>rw[er,er] at h';cases h'
   | lst _ _=>rw[er,er] at h';cases h'
   | exc _=>cases h
   | A0 _ _ _=>cases h
  | lst o ds=>
   cases e with
   | lst o' es=>
    rw[er,er] at h'
    injection h' with _ e1
    exact bR (cQ n) h e1
   | A8=>rw[er,er] at h';cases h'
   | bl _=>rw[er,er] at h';cases h'
   | int _=>rw[er,er] at h';cases h'
   | str _=>rw[er,er] at h';cases h'
   | tup _=>rw[er,er] at h';cases h'
   | exc _=>cases h
   | A0 _ _ _=>cases h
  | exc _=>cases h
  | A0 _ _ _=>cases e<;>cases h
  | A8=>cases e<;>first|(cases h;done)|(cases h;rfl)|(exfalso;simp[er] at h')
  | bl b=>cases e<;>first|(simp only[er,D.bl.injEq] at h';subst h';cases h;simp)|(exfalso;simp[er] at h')
  | int b=>cases e<;>first|(simp only[er,D.int.injEq] at h';subst h';cases h;simp)|(exfalso;simp[er] at h')
  | str b=>cases e<;>first|(simp only[er,D.str.injEq] at h';subst h';cases h;simp)|(exfalso;simp[er] at h')
theorem ie {f:D->D->Res Bool}:∀ {ds es:List D}{r:Bool},bQ f ds es=.ok r->ds.length≠es.length->r=false
 | [],[],_,_,h=>absurd rfl h
 | [],_::_,_,h,_=>by cases h;rfl
 | _::_,[],_,h,_=>by cases h;rfl
 | a::ds,b::es,r,h,n=>by
  obtain⟨x,hx,h⟩:=bF (show j' (f a b) (fun x=>j' (bQ f ds es) fun y=>.ok (x&&y))=.ok r from h)
  obtain⟨y,hy,h⟩:=bF h
  cases h
  rw[ie hy (fun z=>n (by rw[List.length_cons,List.length_cons,z]))]
  simp
theorem jE {f:D->D->Res Bool}:∀ {ds es:List D}{r:Bool},bQ f ds es=.ok r->ds.length=es.length->
  ∃ e:Nat->Bool,(∀ j a b,ds[j]? = some a->es[j]? = some b->f a b=.ok (e j))/\r=(List.range ds.length).all e
 | [],[],r,h,_=>by cases h;exact⟨fun _=>true,fun j a b h=>by simp at h,rfl⟩
 | [],_::_,_,_,h=>by cases h
 | _::_,[],_,_,h=>by cases h
 | a::ds,b::es,r,h,n=>by
  obtain⟨x,hx,h⟩:=bF (show j' (f a b) (fun x=>j' (bQ f ds es) fun y=>.ok (x&&y))=.ok r from h)
  obtain⟨y,hy,h⟩:=bF h
  cases h
  obtain⟨e,h1,h2⟩:=jE hy (by simpa using n)
  refine⟨fun j=>match j with|0=>x|k+1=>e k,fun j a' b' e1 e2=>?_,?_⟩
  ·cases j with
   | zero=>simp at e1 e2;subst e1 e2;exact hx
   | succ k=>exact h1 k a' b' (by simpa using e1) (by simpa using e2)
  ·rw[h2,List.length_cons,List.range_succ_eq_map,List.all_cons,List.all_map]
   rfl
section
variable {X:Cx}{pins:List (Addr×Obj)}{σ:St}{H:Hp}{S:Addr->Prop}{s:Shared}
structure Gn (A:Around)(s:Shared)(v u:Value)(r:Bool):Prop where
 eq:EqAt A s v u r
 rc:RcAt A s v u r
 ne:RcNeAt A s v u (!r)
theorem ig (n:Nat)(A:Around)(ih:∀ (x y:V)(v u:Value)(d e:D)(r:Bool),A1 X.K S H x d->A1 X.K S H y e->RelV x v->RelV y u->BV n d e=.ok r->EqAt A.in1 s v u r)
  {xs ys:List V}{ds es:List D}{its its':List Value}{r:Bool} (rv:Vals xs its) (Ij:Vals ys its') (h2:AY X.K S H xs ds) (k2:AY X.K S H ys es) (hr:bQ (BV n) ds es=.ok r) :
  ∃ e:Nat->Bool,(∀ j (q1:j < its.toArray.size) (q2:j < its'.toArray.size),EqAt A.in1 s its.toArray[j] its'.toArray[j] (e j))/\r=((List.range (min its.toArray.size its'.toArray.size)).all e&&its.toArray.size == its'.toArray.size):=by
 have l1:=h2.length
 have l2:=k2.length
 have l3:=rv.length
 have l4:=Ij.length
 have pair:∀ j (j1:j < its.toArray.size) (j2:j < its'.toArray.size) (b:Bool) (d1:j < ds.length) (d2:j < es.length),BV n ds[j] es[j]=.ok b->EqAt A.in1 s its.toArray[j] its'.toArray[j] b:=by
  intro j j1 j2 b d1 d2 hb
  obtain⟨x',e1,m1⟩:=h2.get (i:=j) (d:=ds[j]) (by simp)
  obtain⟨y',e2,m2⟩:=k2.get (i:=j) (d:=es[j]) (by simp)
  obtain⟨v',ev,EL⟩:=rv.get e1
  obtain⟨u',eu,Ll⟩:=Ij.get e2
  have hv:its.toArray[j]=v':=by
   have:=(List.getElem?_eq_some_iff.mp ev).2
   simpa using this
  have Kh:its'.toArray[j]=u':=by
   have:=(List.getElem?_eq_some_iff.mp eu).2
   simpa using this
  rw[hv,Kh]
  exact ih x' y' v' u' _ _ _ m1 m2 EL Ll hb
 have z1:its.toArray.size=ds.length:=by simp;omega
 have z2:its'.toArray.size=es.length:=by simp;omega
 by_cases hl:ds.length=es.length
 ·obtain⟨e,q1,q2⟩:=jE hr hl
  refine⟨e,fun j j1 j2=>pair j j1 j2 _ (by omega) (by omega) (q1 j _ _ (by simp) (by simp)),?_⟩
  rw[q2,z1,z2,hl]
  simp
 ·have GZ:=ie hr hl
  have each:∀ (ds es:List D) (r:Bool),bQ (BV n) ds es=.ok r->∀ j (q1:j < ds.length) (q2:j < es.length),∃ b,BV n ds[j] es[j]=.ok b:=by
   intro ds
   induction ds with
   | nil=>intro es r _ j q1;simp at q1
   | cons a ds ih=>
    intro es r h j q1 q2
    cases es with
    | nil=>simp at q2
    | cons b es=>
     obtain⟨x,hx,h⟩:=bF (show j' (BV n a b) (fun x=>j' (bQ (BV n) ds es) fun y=>.ok (x&&y))=.ok r from h)
     obtain⟨y,hy,h⟩:=bF h
     cases j with
     | zero=>exact⟨x,hx⟩
     | succ k=>exact ih es y hy k (by simpa using q1) (by simpa using q2)
  refine⟨fun j=>if q:j < ds.length/\j < es.length then ((match BV n (ds[j]'q.1) (es[j]'q.2) with|.ok b=>b|.error _=>false)) else false,fun j j1 j2=>?_,?_⟩
  ·have d1:j < ds.length:=by omega
   have d2:j < es.length:=by omega
   obtain⟨b,hb⟩:=each ds es r hr j d1 d2
   have q:=pair j j1 j2 b d1 d2 hb
   show EqAt A.in1 s its.toArray[j] its'.toArray[j] (dite _ _ _)
   rw[dif_pos (show j < ds.length/\j < es.length from ⟨d1,d2⟩),hb]
   exact q
  ·rw[GZ]
   have:(its.toArray.size == its'.toArray.size)=false:=by
    rw[beq_eq_false_iff_ne,z1,z2]
    exact hl
   rw[this,Bool.and_false]
theorem mB (I:Inv X pins σ H s)(n:Nat)(A:Around)(ih:∀ (x y:V)(v u:Value)(d e:D)(r:Bool),A1 X.K S H x d->A1 X.K S H y e->RelV x v->RelV y u->BV n d e=.ok r->EqAt A.in1 s v u r)
  {a b:Addr}{o o':Bool}{xs ys:List V}{ds es:List D}{r:Bool} (ha:BS X.K H a xs) (hb:BS X.K H b ys) (h2:AY X.K S H xs ds) (k2:AY X.K S H ys es)
  (m1:A1 X.K S H (.ref a) (.lst o ds)) (m2:A1 X.K S H (.ref b) (.lst o' es)) (hr:bQ (BV n) ds es=.ok r) (Br:A.units < cLine):Gn A s (.ref a) (.ref b) r:=by
 obtain⟨its,rv,p,_⟩:=I.list ha
 obtain⟨its',Ij,p',_⟩:=I.list hb
 obtain⟨e,he,Ip⟩:=ig n A ih rv Ij h2 k2 hr
 have both:RcAt A s (.ref a) (.ref b) r/\RcNeAt A s (.ref a) (.ref b) (!r):=by
  by_cases hl:its.toArray.size=its'.toArray.size
  ·have G0:r=(List.range its.toArray.size).all e:=by
    rw[Ip,<- hl,Nat.min_self]
    simp
   rw[G0]
   exact⟨.lists p.isList p'.isList hl Br he,.lists p.isList p'.isList hl Br he⟩
  ·have Ey:(its.toArray.size != its'.toArray.size)=true:=by simpa using hl
   have G0:r=false:=by
    rw[Ip]
    have:(its.toArray.size == its'.toArray.size)=false:=by rw[beq_eq_false_iff_ne];exact hl
    rw[this,Bool.and_false]
   rw[G0]
   exact⟨.lists_lengths p.isList p'.isList Ey Br,.lists_lengths p.isList p'.isList Ey Br⟩
 refine⟨?_,both.1,both.2⟩
 by_cases Js:a=b
 ·subst Js
  have hd:=A1.one I m1 m2
  rw[er,er] at hd
  injection hd with _ hd
  rw[bR (cQ n) hr hd]
  exact .same _
 ·exact .of_refs Js both.1
set_option maxHeartbeats 4000000 in
theorem f6 (I:Inv X pins σ H s):∀ (n:Nat) (A:Around) (x y:V) (v u:Value) (d e:D) (r:Bool),A1 X.K S H x d->A1 X.K S H y e->RelV x v->RelV y u->BV n d e=.ok r->
  A.units+n < cLine->Gn A s v u r
 | 0,_,_,_,_,_,_,_,_,_,_,_,_,h,_=>by cases h
 | n+1,A,x,y,v,u,d,e,r,hx,hy,rx,ry,h,hu=>by
  have Br:A.units < cLine:=by omega
  have Lk:A.in1.units+n < cLine:=by show A.units+1+n < cLine;omega
  have ih:∀ (x y:V) (v u:Value) (d e:D) (r:Bool),A1 X.K S H x d->A1 X.K S H y e->RelV x v->RelV y u->BV n d e=.ok r->EqAt A.in1 s v u r:=
   fun x y v u d e r a1 a2 a3 a4 a5=>(f6 I n A.in1 x y v u d e r a1 a2 a3 a4 a5 Lk).eq
  cases d with
  | A8=>
   cases hx.CG;cases rx
   cases e with
   | A8=>cases hy.CG;cases ry;cases h;exact⟨.same _,.none_none,.none_none⟩
   | bl b'=>cases hy.EM;cases ry;cases h;exact⟨.none_bool _,.none_bool _,.none_bool _⟩
   | int i'=>cases hy.Bj;obtain⟨t2,rfl⟩:=ry;cases h;exact⟨.none_int _ _,.none_int _ _,.none_int _ _⟩
   | str z'=>cases hy.By;obtain⟨t2,rfl⟩:=ry;cases h;exact⟨.none_str _ _,.none_str _ _,.none_str _ _⟩
   | tup es=>obtain⟨a2,E5,rfl,q2,m2⟩:=hy.Ca;cases ry;obtain⟨B2,DJ,p2,_⟩:=I.tuple q2;cases h;exact⟨.none_tuple p2 Br,.none_tuple p2 Br,.none_tuple p2 Br⟩
   | lst o' es=>obtain⟨a2,E5,rfl,q2,m2⟩:=hy.BP;cases ry;obtain⟨B2,DJ,p2,_⟩:=I.list q2;cases h;exact⟨.none_list p2.isList Br,.none_list p2.isList Br,.none_list p2.isList Br⟩
   | exc _=>cases h
   | A0 _ _ _=>cases h
  | bl b=>
   cases hx.EM;cases rx
   cases e with
   | A8=>cases hy.CG;cases ry;cases h;exact⟨.bool_none _,.bool_none _,.bool_none _⟩
   | bl b'=>cases hy.EM;cases ry;cases h;exact⟨.bool_bool _ _,.bool_bool _ _,.bool_bool _ _⟩
   | int i'=>cases hy.Bj;obtain⟨t2,rfl⟩:=ry;cases h;exact⟨.bool_int _ _ _,.bool_int _ _ _,.bool_int _ _ _⟩
   | str z'=>cases hy.By;obtain⟨t2,rfl⟩:=ry;cases h;exact⟨.bool_str _ _ _,.bool_str _ _ _,.bool_str _ _ _⟩
   | tup es=>obtain⟨a2,E5,rfl,q2,m2⟩:=hy.Ca;cases ry;obtain⟨B2,DJ,p2,_⟩:=I.tuple q2;cases h;exact⟨.bool_tuple _ p2 Br,.bool_tuple _ p2 Br,.bool_tuple _ p2 Br⟩
   | lst o' es=>obtain⟨a2,E5,rfl,q2,m2⟩:=hy.BP;cases ry;obtain⟨B2,DJ,p2,_⟩:=I.list q2;cases h;exact⟨.bool_list _ p2.isList Br,.bool_list _ p2.isList Br,.bool_list _ p2.isList Br⟩
   | exc _=>cases h
   | A0 _ _ _=>cases h
  | int i=>
   cases hx.Bj;obtain⟨t1,rfl⟩:=rx
   cases e with
   | A8=>cases hy.CG;cases ry;cases h;exact⟨.int_none _ _,.int_none _ _,.int_none _ _⟩
   | bl b'=>cases hy.EM;cases ry;cases h;exact⟨.int_bool _ _ _,.int_bool _ _ _,.int_bool _ _ _⟩
   | int i'=>cases hy.Bj;obtain⟨t2,rfl⟩:=ry;cases h;exact⟨.int_int _ _ _ _,.int_int _ _ _ _,.int_int _ _ _ _⟩
   | str z'=>cases hy.By;obtain⟨t2,rfl⟩:=ry;cases h;exact⟨.int_str _ _ _ _,.int_str _ _ _ _,.int_str _ _ _ _⟩
   | tup es=>obtain⟨a2,E5,rfl,q2,m2⟩:=hy.Ca;cases ry;obtain⟨B2,DJ,p2,_⟩:=I.tuple q2;cases h;exact⟨.int_tuple _ _ p2 Br,.int_tuple _ _ p2 Br,.int_tuple _ _ p2 Br⟩
   | lst o' es=>obtain⟨a2,E5,rfl,q2,m2⟩:=hy.BP;cases ry;obtain⟨B2,DJ,p2,_⟩:=I.list q2;cases h;exact⟨.int_list _ _ p2.isList Br,.int_list _ _ p2.isList Br,.int_list _ _ p2.isList Br⟩
   | exc _=>cases h
   | A0 _ _ _=>cases h
  | str z=>
   cases hx.By;obtain⟨t1,rfl⟩:=rx
   cases e with
   | A8=>cases hy.CG;cases ry;cases h;exact⟨.str_none _ _,.str_none _ _,.str_none _ _⟩
   | bl b'=>cases hy.EM;cases ry;cases h;exact⟨.str_bool _ _ _,.str_bool _ _ _,.str_bool _ _ _⟩
   | int i'=>cases hy.Bj;obtain⟨t2,rfl⟩:=ry;cases h;exact⟨.str_int _ _ _ _,.str_int _ _ _ _,.str_int _ _ _ _⟩
   | str z'=>cases hy.By;obtain⟨t2,rfl⟩:=ry;cases h;exact⟨.str_str _ _ _ _,.str_str _ _ _ _,.str_str _ _ _ _⟩
   | tup es=>obtain⟨a2,E5,rfl,q2,m2⟩:=hy.Ca;cases ry;obtain⟨B2,DJ,p2,_⟩:=I.tuple q2;cases h;exact⟨.str_tuple _ _ p2 Br,.str_tuple _ _ p2 Br,.str_tuple _ _ p2 Br⟩
   | lst o' es=>obtain⟨a2,E5,rfl,q2,m2⟩:=hy.BP;cases ry;obtain⟨B2,DJ,p2,_⟩:=I.list q2;cases h;exact⟨.str_list _ _ p2.isList Br,.str_list _ _ p2.isList Br,.str_list _ _ p2.isList Br⟩
   | exc _=>cases h
   | A0 _ _ _=>cases h
  | tup ds=>
   obtain⟨a1,O6,rfl,q1,m1⟩:=hx.Ca;cases rx;obtain⟨Dk,EL,p1,_⟩:=I.tuple q1
   cases e with
   | A8=>cases hy.CG;cases ry;cases h;exact⟨.tuple_none p1 Br,.tuple_none p1 Br,.tuple_none p1 Br⟩
   | bl b'=>cases hy.EM;cases ry;cases h;exact⟨.tuple_bool _ p1 Br,.tuple_bool _ p1 Br,.tuple_bool _ p1 Br⟩
   | int i'=>cases hy.Bj;obtain⟨t2,rfl⟩:=ry;cases h;exact⟨.tuple_int _ _ p1 Br,.tuple_int _ _ p1 Br,.tuple_int _ _ p1 Br⟩
   | str z'=>cases hy.By;obtain⟨t2,rfl⟩:=ry;cases h;exact⟨.tuple_str _ _ p1 Br,.tuple_str _ _ p1 Br,.tuple_str _ _ p1 Br⟩
   | tup es=>
    have Cw:=hx
    have Jt:=hy
    obtain⟨a2,E5,rfl,q2,m2⟩:=hy.Ca;cases ry;obtain⟨B2,DJ,p2,_⟩:=I.tuple q2
    have hr:bQ (BV n) ds es=.ok r:=h
    obtain⟨e,he,Ip⟩:=ig n A ih EL DJ m1 m2 hr
    refine⟨?_,?_,?_⟩
    ·by_cases Js:a1=a2
     ·subst Js
      have hd:=A1.one I Cw Jt
      rw[er,er] at hd
      injection hd with hd
      rw[bR (cQ n) hr hd]
      exact .same _
     ·rw[Ip]
      exact .of_refs Js (.tuples p1 p2 Br he)
    ·rw[Ip]
     exact .tuples p1 p2 Br he
    ·rw[Ip]
     exact .tuples p1 p2 Br he
   | lst o' es=>obtain⟨a2,E5,rfl,q2,m2⟩:=hy.BP;cases ry;obtain⟨B2,DJ,p2,_⟩:=I.list q2;cases h;exact⟨.tuple_list p1 p2.isList Br,.tuple_list p1 p2.isList Br,.tuple_list p1 p2.isList Br⟩
   | exc _=>cases h
   | A0 _ _ _=>cases h
  | lst o ds=>
   obtain⟨a1,O6,rfl,q1,m1⟩:=hx.BP;cases rx;obtain⟨Dk,EL,p1,_⟩:=I.list q1
   cases e with
   | A8=>cases hy.CG;cases ry;cases h;exact⟨.list_none p1.isList Br,.list_none p1.isList Br,.list_none p1.isList Br⟩
   | bl b'=>cases hy.EM;cases ry;cases h;exact⟨.list_bool _ p1.isList Br,.list_bool _ p1.isList Br,.list_bool _ p1.isList Br⟩
   | int i'=>cases hy.Bj;obtain⟨t2,rfl⟩:=ry;cases h;exact⟨.list_int _ _ p1.isList Br,.list_int _ _ p1.isList Br,.list_int _ _ p1.isList Br⟩
   | str z'=>cases hy.By;obtain⟨t2,rfl⟩:=ry;cases h;exact⟨.list_str _ _ p1.isList Br,.list_str _ _ p1.isList Br,.list_str _ _ p1.isList Br⟩
   | tup es=>obtain⟨a2,E5,rfl,q2,m2⟩:=hy.Ca;cases ry;obtain⟨B2,DJ,p2,_⟩:=I.tuple q2;cases h;exact⟨.list_tuple p1.isList p2 Br,.list_tuple p1.isList p2 Br,.list_tuple p1.isList p2 Br⟩
   | lst o' es=>
    have Cw:=hx
    have Jt:=hy
    obtain⟨a2,E5,rfl,q2,m2⟩:=hy.BP;cases ry;obtain⟨B2,DJ,p2,_⟩:=I.list q2
    exact mB I n A ih q1 q2 m1 m2 Cw Jt h Br
   | exc _=>cases h
   | A0 _ _ _=>cases h
  | exc _=>cases h
  | A0 _ _ _=>cases e<;>cases h
end
abbrev nw (S:Addr->Prop)(H:Hp):Addr->Prop:=fun a=>S a∨H a=none
abbrev Kk (K:PySem.W.Frag)(S:Addr->Prop)(H:Hp)(Q:VK):D->Prop:=fun d=>∀ w H',aq H H'->A1 K (nw S H) H' w d->Q w H'
theorem A1.nw {K:PySem.W.Frag}{S:Addr->Prop}{H:Hp}{v:V}{d:D}(h:A1 K S H v d):A1 K (nw S H) H v d:=h.mono (fun _=>.inl) (.refl _)
theorem vt {K:PySem.W.Frag}{S:Addr->Prop}{H:Hp}{p:Addr}{vs:List V}{ds:List D}(hp:H p=none)(h:AY K S H vs ds):A1 K (nw S H) (upd H p (.tup vs)) (.ref p) (.tup ds):=
 .tup (.inl (.inl aw)) (h.mono (fun _=>.inl) (.upd hp))
theorem qx {K:PySem.W.Frag}{S:Addr->Prop}{H:Hp}{p:Addr}{vs:List V}{ds:List D}{o:Bool}(hp:H p=none)(h:AY K S H vs ds):A1 K (nw S H) (upd H p (.lst vs)) (.ref p) (.lst o ds):=
 .lst (.inr hp) (.inl aw) (h.mono (fun _=>.inl) (.upd hp))
noncomputable def FR:EZ->Operator
 | .add=>.Add|.sub=>.Sub|.mul=>.Mult|.fdiv=>.FloorDiv|.mod=>.Mod|.pow=>.Pow
noncomputable def Dl:C6->CmpOp
 | .eq=>.Eq|.ne=>.NotEq|.lt=>.Lt|.le=>.LtE|.gt=>.Gt|.ge=>.GtE|.EA=>.In|.Ik=>.NotIn|.E0=>.Is|.EO=>.IsNot
noncomputable def AK (K:PySem.W.Frag)(ex:Str->Prop)(op:EZ):R2:=fun x y H Q=>∃ S d e,A1 K S H x d/\A1 K S H y e/\AZ ex (C1 op d e) (Kk K S H Q)
noncomputable def AL (K:PySem.W.Frag)(ex:Str->Prop)(op:C6):R2:=fun x y H Q=>∃ S d e,A1 K S H x d/\A1 K S H y e/\AZ ex (Cj op d e) fun r=>Q (.bl r) H
section
variable {X:Cx}{ex:Str->Prop}
theorem aZ {n:Nat}(h:aU n=true):n<=sizeLine:=of_decide_eq_true h
theorem cR {n:Nat}(h:bj n=true):n < sizeLine:=of_decide_eq_true h
theorem jF:C5 X (binaryOp .Add) (fun x y H Q=>∃ l b xs zs,x=.ref l/\y=.ref b/\Ls X.K H l xs/\Ls X.K H b zs/\xs.length+zs.length<=sizeLine/\∀ p,H p=none->Q (.ref p) (upd H p (.lst (xs++zs)))):=by
 intro pins s σ H x y v u Q I rx ry h
 obtain⟨l,b,xs,zs,rfl,rfl,hH,hB,hz,q⟩:=h
 cases rx
 cases ry
 obtain⟨hl,its,n,r,e⟩:=I.ls hH
 obtain⟨Ki,B2,n2,r2,e'⟩:=I.ls hB
 have e1:=r.length
 have e2:=r2.length
 refine PySem.P.add_list e e' ?_ (by rw[List.size_toArray,List.size_toArray];omega)
 have ea:its.toArray++B2.toArray=(its++B2).toArray:=by simp
 rw[ea]
 exact⟨.ref _,_,I.GP (t':=s.toks) (r.append r2) (by rw[List.length_append];omega),rfl,q _ I.fresh⟩
theorem mC {vs:List V}{its:List Value}(r:Vals vs its):∀ k:Nat,Vals (List.replicate k vs).flatten (List.replicate k its).flatten:=r.rep
theorem jG:C5 X (binaryOp .Mult) (fun x y H Q=>∃ l k xs,x=.ref l/\y=.int k/\Ls X.K H l xs/\0<=k/\k<=16000/\xs.length<=1000/\∀ p,H p=none->Q (.ref p) (upd H p (.lst (List.replicate k.toNat xs).flatten))):=by
 intro pins s σ H x y v u Q I rx ry h
 obtain⟨l,k,xs,rfl,rfl,hH,h1,h2,hx,q⟩:=h
 cases rx
 obtain⟨t,rfl⟩:=ry
 obtain⟨hl,its,n,r,e⟩:=I.ls hH
 have el:=r.length
 have hz:xs.length*k.toNat<=1000*16000:=Nat.mul_le_mul hx (by omega)
 have big:1000*16000<=sizeLine:=by decide
 have hsz:its.toArray.size*k.toNat<=sizeLine:=by rw[List.size_toArray,<- el];omega
 have c1:¬ its.toArray.size*k.toNat > (2 ^ 63 - 1) / 8:=by
  have:(sizeLine:Nat)<=(2 ^ 63 - 1) / 8:=by decide
  omega
 have c2:¬ (!Builtin.List.listFitsIndex k)=true:=by
  rw[fitsIndex_both (by omega) (by omega)]
  exact Bool.false_ne_true
 have c3:¬ Builtin.List.listTooLong (its.toArray.size*k.toNat)=true:=by
  rw[l5 hsz]
  exact Bool.false_ne_true
 have f0:∀ m:Nat,List.foldl (fun a b=>a++b) #[] (List.replicate m its.toArray)=(List.replicate m its).flatten.toArray:=fun m=>by
  have z:=foldl_rep its m []
  rw[List.nil_append] at z
  exact z
 have f1:List.foldl (fun a b=>a++b) #[] (List.replicate (if its.toArray.isEmpty=true then 0 else k.toNat) its.toArray)=(List.replicate k.toNat its).flatten.toArray:=by
  rw[f0]
  cases its with
  | nil=>simp
  | cons _ _=>rw[if_neg (by simp)]
 refine wpAny_binaryOp_repeat_ref (T:="list") (U:="int") (by decide) ⟨_,e,rfl⟩ (fun s'=>typeIs_int s' k t) noFill_list_mul F.fills_int_mul F.slot_int_rmul repeat_list F.slot_int_index.lookup (call_meets F.slot_int_rmul (typeIs_int s k t) F.entry_int_rmul (F.args_int_rmul_2 _ _) (int___rmul___int_list k t l its.toArray n) ⟨e,rfl,⟨_,e,rfl⟩,call_meets F.slot_list_mul ⟨_,e,rfl⟩ F.entry_list_mul (F.args_list_mul_2 _ _) (AutoListH.list___mul___list_int_3 l its.toArray n k t c2 c1 c3) ⟨e,?_⟩⟩)
 rw[f1]
 exact⟨.ref _,_,I.GP (t':=s.toks) (mC r k.toNat) (by rw[len_rep,Nat.mul_comm];omega),rfl,q _ I.fresh⟩
theorem AY.rep {K:PySem.W.Frag}{S:Addr->Prop}{H:Hp}{vs:List V}{ds:List D}(m:AY K S H vs ds):∀ k:Nat,AY K S H (List.replicate k vs).flatten (List.replicate k ds).flatten
 | 0=>.nil
 | k+1=>by
  rw[List.replicate_succ,List.replicate_succ,List.flatten_cons,List.flatten_cons]
  exact m.append (AY.rep m k)
theorem vw (op:EZ):C5 X (binaryOp (FR op)) (AK X.K ex op):=by
 intro pins s σ H x y v u Q I rx ry h
 obtain⟨S,d,e,hx,hy,h⟩:=h
 have stuck:∀ {P:Prop},C1 op d e=A5->P:=fun z=>by rw[z] at h;exact h.no.elim
 cases op with
 | add=>
  cases d with
  | int a=>
   cases e with
   | int b=>cases hx.Bj;cases hy.Bj;exact uS pins s σ H _ _ v u Q I rx ry ⟨a,b,rfl,rfl,h.ok _ _ (.refl _) (.int _)⟩
   | _=>exact stuck rfl
  | str a=>
   cases e with
   | str b=>
    cases hx.By;cases hy.By
    obtain⟨g,h⟩:=AZ.A4 h
    exact iZ pins s σ H _ _ v u Q I rx ry ⟨a,b,rfl,rfl,aZ g,h.ok _ _ (.refl _) (.str _)⟩
   | _=>exact stuck rfl
  | lst o a=>
   cases e with
   | lst o' b=>
    obtain⟨p,xs,rfl,q1,m1⟩:=hx.Ez
    obtain⟨p',ys,rfl,q2,m2⟩:=hy.Ez
    obtain⟨g,h⟩:=AZ.A4 h
    have g':=aZ g
    have l1:=m1.length
    have l2:=m2.length
    exact jF pins s σ H _ _ v u Q I rx ry ⟨p,p',xs,ys,rfl,rfl,q1,q2,by omega,fun z hz=>h.ok _ _ (.upd hz) (qx hz (m1.append m2))⟩
   | _=>exact stuck rfl
  | _=>exact stuck rfl
 | sub=>
  cases d with
  | int a=>
   cases e with
   | int b=>cases hx.Bj;cases hy.Bj;exact uT pins s σ H _ _ v u Q I rx ry ⟨a,b,rfl,rfl,h.ok _ _ (.refl _) (.int _)⟩
   | _=>exact stuck rfl
  | _=>exact stuck rfl
 | mul=>
  cases d with
  | int a=>
   cases e with
   | int b=>
    cases hx.Bj;cases hy.Bj
    obtain⟨g,h⟩:=AZ.A4 h
    rw[Bool.or_eq_true] at g
    exact uU pins s σ H _ _ v u Q I rx ry ⟨a,b,rfl,rfl,g.elim (fun z=>.inl (of_decide_eq_true z)) (fun z=>.inr (of_decide_eq_true z)),h.ok _ _ (.refl _) (.int _)⟩
   | _=>exact stuck rfl
  | str a=>
   cases e with
   | int b=>
    cases hx.By;cases hy.Bj
    obtain⟨g,h⟩:=AZ.A4 h
    have g':=of_decide_eq_true g
    exact i0 pins s σ H _ _ v u Q I rx ry ⟨a,b,rfl,rfl,g'.1,g'.2.1,g'.2.2,h.ok _ _ (.refl _) (.str _)⟩
   | _=>exact stuck rfl
  | lst o a=>
   cases e with
   | int b=>
    obtain⟨p,xs,rfl,q1,m1⟩:=hx.Ez
    cases hy.Bj
    obtain⟨g,h⟩:=AZ.A4 h
    have g':=of_decide_eq_true g
    have l1:=m1.length
    exact jG pins s σ H _ _ v u Q I rx ry ⟨p,b,xs,rfl,rfl,q1,g'.1,g'.2.1,by rw[l1];exact g'.2.2,fun z hz=>h.ok _ _ (.upd hz) (qx hz (m1.rep _))⟩
   | _=>exact stuck rfl
  | _=>exact stuck rfl
 | fdiv=>
  cases d with
  | int a=>
   cases e with
   | int b=>
    cases hx.Bj;cases hy.Bj
    obtain⟨g,h⟩:=AZ.A4 h
    exact p5 pins s σ H _ _ v u Q I rx ry ⟨a,b,rfl,rfl,show 0 < b/\b < 1073741824 from of_decide_eq_true g,h.ok _ _ (.refl _) (.int _)⟩
   | _=>exact stuck rfl
  | _=>exact stuck rfl
 | mod=>
  cases d with
  | int a=>
   cases e with
   | int b=>
    cases hx.Bj;cases hy.Bj
    obtain⟨g,h⟩:=AZ.A4 h
    exact uV pins s σ H _ _ v u Q I rx ry ⟨a,b,rfl,rfl,of_decide_eq_true g,h.ok _ _ (.refl _) (.int _)⟩
   | _=>exact stuck rfl
  | _=>exact stuck rfl
 | pow=>
  cases d with
  | int a=>
   cases e with
   | int b=>
    cases hx.Bj;cases hy.Bj
    obtain⟨g,h⟩:=AZ.A4 h
    exact uW pins s σ H _ _ v u Q I rx ry ⟨a,b,rfl,rfl,show 0<=b/\b<=1000000/\a.natAbs < 2 ^ 64 from of_decide_eq_true g,h.ok _ _ (.refl _) (.int _)⟩
   | _=>exact stuck rfl
  | _=>exact stuck rfl
theorem AZ.BV {ex:Str->Prop}:∀ {n:Nat}{d e:D}{k:Bool->Prop},AZ ex (L2.BV n d e) k->∃ r,L2.BV n d e=.ok r/\k r:=by
 have no:∀ (n:Nat) (d e:D) (c:Str),L2.BV n d e≠.error (.exc c):=by
  intro n
  have Lr:∀ (f:D->D->Res Bool),(∀ d e c,f d e≠.error (.exc c))->∀ (ds es:List D) (c:Str),bQ f ds es≠.error (.exc c):=by
   intro f hf ds
   induction ds with
   | nil=>intro es c h;cases es<;>cases h
   | cons a ds ih=>
    intro es c h
    cases es with
    | nil=>cases h
    | cons b es=>
     have h':L2.j' (f a b) (fun x=>L2.j' (bQ f ds es) fun y=>.ok (x&&y))=.error (.exc c):=h
     cases q:f a b with
     | error z=>rw[q] at h';exact hf a b c (by rw[q];exact h')
     | ok x=>
      rw[q] at h'
      have h2:L2.j' (bQ f ds es) (fun y=>.ok (x&&y))=.error (.exc c):=h'
      cases q2:bQ f ds es with
      | error z=>rw[q2] at h2;exact ih es c (by rw[q2];exact h2)
      | ok y=>rw[q2] at h2;cases h2
  induction n with
  | zero=>intro d e c h;cases h
  | succ n ih=>
   intro d e c h
   cases d<;>cases e<;>first|cases h|exact Lr _ ih _ _ _ h
 intro n d e k h
 cases q:L2.BV n d e with
 | ok r=>rw[q] at h;exact⟨r,rfl,h⟩
 | error z=>
  rw[q] at h
  cases z with
  | stuck=>exact h.no.elim
  | exc c=>exact absurd q (no n d e c)
theorem AZ.Cq {ex:Str->Prop}{d:D}:∀ {ds:List D}{k:Bool->Prop},AZ ex (L2.Cq d ds) k->∃ f:Nat->Bool,(∀ i e,ds[i]? = some e->L2.BV 40 e d=.ok (f i))/\k ((List.range ds.length).any f)
 | [],k,h=>⟨fun _=>false,fun i e z=>by simp at z,h⟩
 | e::r,k,h=>by
  obtain⟨x,My,h1⟩:=AZ.BV (AZ.j' h)
  obtain⟨f,h2,h3⟩:=AZ.Cq (AZ.j' h1)
  refine⟨fun i=>match i with|0=>x|j+1=>f j,fun i e' z=>?_,?_⟩
  ·cases i with
   | zero=>simp at z;subst z;exact My
   | succ j=>exact h2 j e' (by simpa using z)
  ·rw[List.length_cons,List.range_succ_eq_map,List.any_cons,List.any_map]
   exact h3
theorem jb {A:Around}{s:Shared}{v:Value}(its:List Value)(f:Nat->Bool)(h:∀ i u,its[i]? = some u->EqAt A s u v (f i)) :
  ∃ e:Value->Bool,(∀ y,y∈its.toArray->EqAt A s y v (e y))/\its.toArray.any e=(List.range its.length).any f:=by
 classical
 refine⟨fun y=>decide (∃ i,its[i]? = some y/\f i=true),fun y hy=>?_,?_⟩
 ·have Jt:y∈its:=by simpa using hy
  obtain⟨j,hj⟩:=List.getElem?_of_mem Jt
  show EqAt A s y v (decide (∃ i,its[i]? = some y/\f i=true))
  by_cases q:∃ i,its[i]? = some y/\f i=true
  ·rw[decide_eq_true q]
   obtain⟨i,hi,fi⟩:=q
   have:=h i y hi
   rw[fi] at this
   exact this
  ·rw[decide_eq_false q]
   have:=h j y hj
   have fj:f j=false:=by
    cases z:f j with
    | false=>rfl
    | true=>exact absurd ⟨j,hj,z⟩ q
   rw[fj] at this
   exact this
 ·rw[Bool.eq_iff_iff]
  simp only[List.any_toArray,List.any_eq_true,List.mem_range,decide_eq_true_eq]
  constructor
  ·rintro ⟨y,hy,i,hi,fi⟩
   exact⟨i,(List.getElem?_eq_some_iff.mp hi).1,fi⟩
  ·rintro ⟨i,hi,fi⟩
   exact⟨its[i],List.getElem_mem hi,i,by simp[hi],fi⟩
theorem cu (hu:X.A.units+42 < cLine){pins:List (Addr×Obj)}{s:Shared}{σ:St}{H:Hp}{S:Addr->Prop}{x:V}{v:Value}{d:D}{k:Bool->Prop}(I:Inv X pins σ H s)(rx:RelV x v)(hx:A1 X.K S H x d)
  {xs:List V}{its:List Value}{ds:List D} (rv:Vals xs its) (m:AY X.K S H xs ds) (h:AZ ex (Cq d ds) k) :
  ∃ e:Value->Bool,(∀ y,y∈its.toArray->EqAt X.A.in1 s y v (e y))/\k (its.toArray.any e):=by
 obtain⟨f,h1,h2⟩:=AZ.Cq h
 have l1:=rv.length
 have l2:=m.length
 obtain⟨e,h3,h4⟩:=jb (A:=X.A.in1) (s:=s) (v:=v) its f fun i u hi=>by
  have BM:i < its.length:=(List.getElem?_eq_some_iff.mp hi).1
  obtain⟨y,hy,my⟩:=m.get (i:=i) (d:=ds[i]'(by omega)) (by simp)
  obtain⟨u',Kh,ru⟩:=rv.get hy
  rw[hi] at Kh;cases Kh
  exact(f6 I 40 X.A.in1 y x u v _ d _ my hx ru rx (h1 i _ (by simp)) (by show X.A.units+1+40 < cLine;omega)).eq
 refine⟨e,h3,?_⟩
 rw[h4,show its.length=ds.length by omega]
 exact h2
theorem cH (hu:X.A.units+42 < cLine)(op:C6):C5 X (compareOp (Dl op)) (AL X.K ex op):=by
 intro pins s σ H x y v u Q I rx ry h
 obtain⟨S,d,e,hx,hy,h⟩:=h
 have stuck:∀ {P:Prop},Cj op d e=A5->P:=fun z=>by rw[z] at h;exact h.no.elim
 have fin:∀ {b:Bool},Q (.bl b) H->EP X pins σ Q (.bool b) s:=fun q=>⟨.bl _,H,I,rfl,q⟩
 cases op with
 | eq=>
  obtain⟨r,h1,h2⟩:=AZ.BV h
  exact(f6 I 40 X.A x y v u d e r hx hy rx ry h1 (by omega)).rc _ _ _ _ (fin h2)
 | ne=>
  obtain⟨r,h1,h2⟩:=AZ.BV (AZ.j' h)
  exact(f6 I 40 X.A x y v u d e r hx hy rx ry h1 (by omega)).ne _ _ _ _ (fin h2.ok)
 | lt=>
  cases d with
  | int a=>
   cases e with
   | int b=>cases hx.Bj;cases hy.Bj;obtain⟨t,rfl⟩:=rx;obtain⟨t',rfl⟩:=ry;exact lt_int (fin h.ok)
   | _=>exact stuck rfl
  | _=>exact stuck rfl
 | le=>
  cases d with
  | int a=>
   cases e with
   | int b=>cases hx.Bj;cases hy.Bj;obtain⟨t,rfl⟩:=rx;obtain⟨t',rfl⟩:=ry;exact le_int (fin h.ok)
   | _=>exact stuck rfl
  | _=>exact stuck rfl
 | gt=>
  cases d with
  | int a=>
   cases e with
   | int b=>cases hx.Bj;cases hy.Bj;obtain⟨t,rfl⟩:=rx;obtain⟨t',rfl⟩:=ry;exact gt_int (fin h.ok)
   | _=>exact stuck rfl
  | _=>exact stuck rfl
 | ge=>
  cases d with
  | int a=>
   cases e with
   | int b=>cases hx.Bj;cases hy.Bj;obtain⟨t,rfl⟩:=rx;obtain⟨t',rfl⟩:=ry;exact ge_int (fin h.ok)
   | _=>exact stuck rfl
  | _=>exact stuck rfl
 | EA=>
  cases e with
  | str b=>
   cases d with
   | str a=>cases hx.By;cases hy.By;obtain⟨t,rfl⟩:=rx;obtain⟨t',rfl⟩:=ry;exact in_str (fin h.ok)
   | _=>exact stuck rfl
  | lst o ds=>
   obtain⟨a,xs,rfl,q1,m1⟩:=hy.BP
   cases ry
   obtain⟨its,rv,pl,_⟩:=I.list q1
   obtain⟨e,h1,h2⟩:=cu (ex:=ex) hu I rx hx rv m1 (by cases d<;>exact h)
   exact in_listAt e pl.isList h1 (fin h2)
  | tup ds=>
   obtain⟨a,xs,rfl,q1,m1⟩:=hy.Ca
   cases ry
   obtain⟨its,rv,pl,_⟩:=I.tuple q1
   obtain⟨e,h1,h2⟩:=cu (ex:=ex) hu I rx hx rv m1 (by cases d<;>exact h)
   exact in_tupleAt e pl h1 (fin h2)
  | A8=>cases d<;>exact stuck rfl
  | bl _=>cases d<;>exact stuck rfl
  | int _=>cases d<;>exact stuck rfl
  | exc _=>cases d<;>exact stuck rfl
  | A0 _ _ _=>cases d<;>exact stuck rfl
 | Ik=>
  cases e with
  | str b=>
   cases d with
   | str a=>cases hx.By;cases hy.By;obtain⟨t,rfl⟩:=rx;obtain⟨t',rfl⟩:=ry;exact notIn_str (fin h.ok)
   | _=>exact stuck rfl
  | lst o ds=>
   obtain⟨a,xs,rfl,q1,m1⟩:=hy.BP
   cases ry
   obtain⟨its,rv,pl,_⟩:=I.list q1
   obtain⟨e,h1,h2⟩:=cu (ex:=ex) (k:=fun r=>Q (.bl !r) H) hu I rx hx rv m1 ((AZ.j' (show AZ ex (j' (Cq d ds) fun r=>.ok !r) (fun r=>Q (.bl r) H) by cases d<;>exact h)).mono fun _ z=>z)
   exact notIn_listAt e pl.isList h1 (fin h2)
  | tup ds=>
   obtain⟨a,xs,rfl,q1,m1⟩:=hy.Ca
   cases ry
   obtain⟨its,rv,pl,_⟩:=I.tuple q1
   obtain⟨e,h1,h2⟩:=cu (ex:=ex) (k:=fun r=>Q (.bl !r) H) hu I rx hx rv m1 ((AZ.j' (show AZ ex (j' (Cq d ds) fun r=>.ok !r) (fun r=>Q (.bl r) H) by cases d<;>exact h)).mono fun _ z=>z)
   exact notIn_tupleAt e pl h1 (fin h2)
  | A8=>cases d<;>exact stuck rfl
  | bl _=>cases d<;>exact stuck rfl
  | int _=>cases d<;>exact stuck rfl
  | exc _=>cases d<;>exact stuck rfl
  | A0 _ _ _=>cases d<;>exact stuck rfl
 | E0=>
  cases e with
  | A8=>
   cases hy.CG;cases ry
   have ev:bJ d=(v == Value.none):=by
    cases hx with
    | A8=>cases rx;rfl
    | bl b=>cases rx;rfl
    | int i=>obtain⟨t,rfl⟩:=rx;rfl
    | str z=>obtain⟨t,rfl⟩:=rx;rfl
    | tup _ _=>cases rx;rfl
    | lst _ _ _=>cases rx;rfl
    | lstK _ _=>cases rx;rfl
    | exc _=>cases rx;rfl
    | A0 _ _ _ _=>cases rx;rfl
   have h':Q (.bl (bJ d)) H:=by cases d<;>exact h
   rw[ev] at h'
   exact is_none_gen (fin h')
  | _=>cases d<;>exact stuck rfl
 | EO=>
  cases e with
  | A8=>
   cases hy.CG;cases ry
   have ev:bJ d=(v == Value.none):=by
    cases hx with
    | A8=>cases rx;rfl
    | bl b=>cases rx;rfl
    | int i=>obtain⟨t,rfl⟩:=rx;rfl
    | str z=>obtain⟨t,rfl⟩:=rx;rfl
    | tup _ _=>cases rx;rfl
    | lst _ _ _=>cases rx;rfl
    | lstK _ _=>cases rx;rfl
    | exc _=>cases rx;rfl
    | A0 _ _ _ _=>cases rx;rfl
   have h':Q (.bl (!bJ d)) H:=by cases d<;>exact h
   rw[ev] at h'
   exact isnot_none_gen (fin h')
  | bl b'=>
   cases hy.EM;cases ry
   cases d with
   | bl b=>
    cases hx.EM;cases rx
    have ee:(!(Value.bool b == Value.bool b'))=(b != b'):=by cases b<;>cases b'<;>rfl
    exact wpAny_isNot_plain rfl (by rw[ee];exact fin h)
   | A8=>cases hx.CG;cases rx;exact wpAny_isNot_plain rfl (fin h)
   | _=>exact stuck rfl
  | _=>cases d<;>exact stuck rfl
theorem dF {pins:List (Addr×Obj)}{s:Shared}{σ:St}{H:Hp}{S:Addr->Prop}{x:V}{v:Value}{d:D}{Q:Bool->Hp->Prop}(I:Inv X pins σ H s)(rx:RelV x v)(hx:A1 X.K S H x d)(h:AZ ex (aE d) fun b=>Q b H) :
  wpAny (model X.prog X.w) X.A (truthy v) (TP X pins σ Q) X.xe s:=by
 refine uY pins s σ H x v Q I rx ?_
 cases d with
 | exc c=>exact h.no.elim
 | A0 _ _ _=>exact h.no.elim
 | A8=>cases hx.CG;exact⟨false,rfl,h⟩
 | bl b=>cases hx.EM;exact⟨b,rfl,h⟩
 | int i=>cases hx.Bj;exact⟨_,rfl,h⟩
 | str z=>
  cases hx.By
  obtain⟨g,h⟩:=AZ.A4 h
  exact⟨_,⟨aZ g,rfl⟩,h⟩
 | tup ds=>
  obtain⟨a,xs,rfl,q,m⟩:=hx.Ca
  refine⟨!ds.isEmpty,.inr (.inl ⟨xs,q,?_⟩),h⟩
  have:=m.length
  cases xs<;>cases ds<;>simp_all
 | lst o ds=>
  obtain⟨a,xs,rfl,q,m⟩:=hx.BP
  refine⟨!ds.isEmpty,.inl ⟨xs,q,?_⟩,h⟩
  have:=m.length
  cases xs<;>cases ds<;>simp_all
theorem jH {K:PySem.W.Frag}{S:Addr->Prop}{H:Hp}{vs:List V}{ds:List D}{i:Int}{d:D}(m:AY K S H vs ds)(h:CL ds i=some d):∃ v,CL vs i=some v/\A1 K S H v d:=by
 unfold CL at h ⊢
 rw[m.length]
 cases q:Ge ds.length i with
 | none=>rw[q] at h;cases h
 | some j=>rw[q] at h;exact m.get h
noncomputable def AM (K:PySem.W.Frag)(ex:Str->Prop):R2:=fun x y H Q=>∃ S d e,A1 K S H x d/\A1 K S H y e/\AZ ex (au d e) (Kk K S H Q)
theorem jI:Fi X (AM X.K ex):=by
 intro value slice pins s σ H x y v u Q I rx ry h hs
 obtain⟨S,d,e,hx,hy,h⟩:=h
 refine u3 value slice pins s σ H x y v u Q I rx ry ?_ hs
 have stuck:∀ {P:Prop},au d e=A5->P:=fun z=>by rw[z] at h;exact h.no.elim
 cases e with
 | int i=>
  cases hy.Bj
  cases d with
  | lst o ds=>
   obtain⟨a,xs,rfl,q,m⟩:=hx.BP
   have h':AZ ex (match CL ds i with|some d=>.ok d|none=>A5) (Kk X.K S H Q):=h
   cases z:CL ds i with
   | none=>rw[z] at h';exact h'.no.elim
   | some d=>
    rw[z] at h'
    obtain⟨w,ew,mw⟩:=jH m z
    exact .inl ⟨a,xs,i,w,rfl,rfl,q,ew,h'.ok _ _ (.refl _) mw.nw⟩
  | tup ds=>
   obtain⟨a,xs,rfl,q,m⟩:=hx.Ca
   have h':AZ ex (match CL ds i with|some d=>.ok d|none=>A5) (Kk X.K S H Q):=h
   cases z:CL ds i with
   | none=>rw[z] at h';exact h'.no.elim
   | some d=>
    rw[z] at h'
    obtain⟨w,ew,mw⟩:=jH m z
    exact .inr (.inl ⟨a,xs,i,w,rfl,rfl,q,ew,h'.ok _ _ (.refl _) mw.nw⟩)
  | str z=>
   cases hx.By
   obtain⟨g,h⟩:=AZ.A4 h
   cases q:CL z.cps.toList i with
   | none=>rw[q] at h;exact h.no.elim
   | some c=>
    rw[q] at h
    exact .inr (.inr ⟨z,i,c,rfl,rfl,aZ g,q,h.ok _ _ (.refl _) (.str _)⟩)
  | _=>exact stuck rfl
 | _=>cases d<;>exact stuck rfl
def AN (K:PySem.W.Frag)(ex:Str->Prop):V->Option Int->Option Int->Hp->VK->Prop:=fun x lo hi H Q=>∃ S d,A1 K S H x d/\AZ ex (i4 d lo hi) (Kk K S H Q)
theorem vy:J8 X (fun x lo hi H Q=>∃ z,x=.str z/\z.length<=sizeLine/\Q (.str (Txt.slice z lo hi)) H):=by
 intro pins s σ H x v vl vu lo hi sl Q I rx hs pl pu h
 obtain⟨z,rfl,hz,q⟩:=h
 obtain⟨t,rfl⟩:=rx
 refine⟨"str",_,F.slot_str_getitem.lookup,typeIs_str s z t,?_⟩
 have fin:∀ (l u:Option (Int×Tok)),vl=partValue l->vu=partValue u->l.map (·.1)=lo->u.map (·.1)=hi->wpAny (model X.prog X.w) X.A (getItem (.str z t) (.ref sl)) (EP X pins σ Q) X.xe s:=by
  intro l u e1 e2 e3 e4
  subst e1 e2 e3 e4
  refine wpAny_getItem_str_slice (l:=l) (u:=u) (st:=none) hs rfl ?_
  exact post_val_or_str ⟨Nat.le_trans (Txt.slice_le z _ _) hz,fun t' k=>⟨.str _,H,I.tok _,⟨_,rfl⟩,q⟩⟩
 cases pl with
 | none=>
  cases pu with
  | none=>exact fin none none rfl rfl rfl rfl
  | int j t'=>exact fin none (some (j,t')) rfl rfl rfl rfl
 | int i t'=>
  cases pu with
  | none=>exact fin (some (i,t')) none rfl rfl rfl rfl
  | int j O7=>exact fin (some (i,t')) (some (j,O7)) rfl rfl rfl rfl
end
open PySem.W
section
variable {prog:Program}{w:World}{A:Around}{E:Value->Shared->Prop}{K:Frag}{x C:Addr}{hh:Heap}{g:Array GenState}{d:Drawn}{t:Nat}{os:OsState}
structure ExcAt (K:Frag)(C:Addr):Prop where
 ga:findIn K (.ref C) "__getattribute__" = some (some (.builtin "BaseException.__getattribute__"))
 no:findIn K (.ref C) "__getattr__" = some none
 cl:findIn K (.ref C) "__class__" = some (some (.builtin "object.__class__"))
 be:mroIn K C (.type "BaseException")=some true
 ob:mroIn K C (.type "object")=some true
 is:(clsIn K C).isSome=true
open Builtin Builtin.ObjectAttr Builtin.Getset_descriptor in
end
section
variable {X:Cx}{ex:Str->Prop}
theorem jJ {K:PySem.W.Frag}{S:Addr->Prop}{H:Hp}{vs:List V}{ds:List D}(lo hi:Option Int)(m:AY K S H vs ds):AY K S H (kS vs lo hi) (vn ds lo hi):=by
 unfold kS vn
 rw[m.length]
 exact(m.drop _).take _
theorem qy:J8 X (AN X.K ex):=by
 intro pins s σ H x v vl vu lo hi sl Q I rx hs pl pu h
 obtain⟨S,d,hx,h⟩:=h
 cases d with
 | lst o ds=>
  obtain⟨a,xs,rfl,q,m⟩:=hx.BP
  exact jA pins s σ H _ v vl vu lo hi sl Q I rx hs pl pu ⟨a,xs,rfl,q,fun p hp=>h.ok _ _ (.upd hp) (qx hp (jJ lo hi m))⟩
 | str z=>
  cases hx.By
  obtain⟨g,h⟩:=AZ.A4 h
  exact vy pins s σ H _ v vl vu lo hi sl Q I rx hs pl pu ⟨z,rfl,aZ g,h.ok _ _ (.refl _) (.str _)⟩
 | _=>exact h.no.elim
theorem du:∀ {ds:List D}{ns:List Bool},bB ds=some ns->ds=ns.map .bl
 | [],ns,h=>by cases h;rfl
 | .bl i::r,ns,h=>by
  have h':(bB r).map (i::·)=some ns:=h
  cases q:bB r with
  | none=>rw[q] at h';cases h'
  | some ms=>
   rw[q] at h'
   cases h'
   rw[du q]
   rfl
 | .A8::_,_,h=>by cases h
 | .str _::_,_,h=>by cases h
 | .int _::_,_,h=>by cases h
 | .tup _::_,_,h=>by cases h
 | .lst _ _::_,_,h=>by cases h
theorem lb (hc:X.calm=true):bP X (.builtin "all") (fun xs H Q=>∃ (p:Addr) (bs:List Bool),xs=[.ref p]/\BS X.K H p (bs.map V.bl)/\Q (.bl (bs.all id)) H):=by
 intro pins s σ H xs us Q I r h
 obtain⟨p,bs,rfl,hq,q⟩:=h
 obtain⟨u,rfl,rx⟩:=vals1 r
 cases rx
 obtain⟨its,rv,pl,hz⟩:=I.list hq
 have hl:=rv.length
 rw[List.length_map] at hl
 have BM:p < s.heap.objs.size:=by
  obtain⟨o,e,_⟩:=pl.isList
  exact Heap.lt_size e
 refine call_all_walk (wpAny_pyIter_list pl.isList ?_)
 refine⟨s.heap.objs.size,_,_,_,_,_,fun i=>bs.getD i true,rfl,Walks.list (A:=X.A.in1) (show X.A.in1.handled=none from I.ok.hd hc) s.heap.objs.size p (Nat.ne_of_lt BM) its.toArray,⟨⟨_,Heap.get?_push_size _ rfl,rfl,rfl⟩,?_⟩,?_,?_⟩
 ·obtain⟨o,e,c,n,d⟩:=pl.isList
  exact⟨o,Heap.get?_push_of_some _ e,c,n,d⟩
 ·intro i v s' Q' E' hv Gp
  have G1:its[i]? = some v:=by simpa using hv
  have E6:i < bs.length:=by
   have:=(List.getElem?_eq_some_iff.mp G1).1
   omega
  obtain⟨u,hu,ru⟩:=rv.get (i:=i) (x:=.bl bs[i]) (by rw[List.getElem?_map,List.getElem?_eq_getElem E6];rfl)
  rw[G1] at hu
  cases hu
  cases ru
  refine wpAny_truthy_bool ?_
  have e:bs.getD i true=bs[i]:=by simp[List.getD,E6]
  rw[<- e]
  exact Gp
 ·intro h' tk kp
  have DZ:(List.range its.toArray.size).all (fun i=>bs.getD i true)=bs.all id:=by
   rw[show its.toArray.size=bs.length by simp[hl]]
   rw[Bool.eq_iff_iff,List.all_eq_true,List.all_eq_true]
   constructor
   ·intro z b hb
    obtain⟨i,hi,rfl⟩:=List.getElem_of_mem hb
    have:=z i (List.mem_range.mpr hi)
    simpa[List.getD,hi] using this
   ·intro z i hi
    have E7:=List.mem_range.mp hi
    have:=z bs[i] (List.getElem_mem E7)
    simpa[List.getD,E7] using this
  rw[DZ]
  refine⟨.bl (bs.all id),H,I.kept (t':=tk) fun b o e=>kp b o ?_ (Heap.get?_push_of_some _ e),rfl,q⟩
  intro hm
  have hb:b=s.heap.objs.size:=by simpa using hm
  subst hb
  exact absurd (Heap.lt_size e) (Nat.lt_irrefl _)
theorem lh (hc:X.calm=true):bP X (.builtin "any") (fun xs H Q=>∃ (p:Addr) (bs:List Bool),xs=[.ref p]/\BS X.K H p (bs.map V.bl)/\Q (.bl (bs.any id)) H):=by
 intro pins s σ H xs us Q I r h
 obtain⟨p,bs,rfl,hq,q⟩:=h
 obtain⟨u,rfl,rx⟩:=vals1 r
 cases rx
 obtain⟨its,rv,pl,hz⟩:=I.list hq
 have hl:=rv.length
 rw[List.length_map] at hl
 have BM:p < s.heap.objs.size:=by
  obtain⟨o,e,_⟩:=pl.isList
  exact Heap.lt_size e
 refine call_any_walk (wpAny_pyIter_list pl.isList ?_)
 refine⟨s.heap.objs.size,_,_,_,_,_,fun i=>bs.getD i false,rfl,Walks.list (A:=X.A.in1) (show X.A.in1.handled=none from I.ok.hd hc) s.heap.objs.size p (Nat.ne_of_lt BM) its.toArray,⟨⟨_,Heap.get?_push_size _ rfl,rfl,rfl⟩,?_⟩,?_,?_⟩
 ·obtain⟨o,e,c,n,d⟩:=pl.isList
  exact⟨o,Heap.get?_push_of_some _ e,c,n,d⟩
 ·intro i v s' Q' E' hv Gp
  have G1:its[i]? = some v:=by simpa using hv
  have E6:i < bs.length:=by
   have:=(List.getElem?_eq_some_iff.mp G1).1
   omega
  obtain⟨u,hu,ru⟩:=rv.get (i:=i) (x:=.bl bs[i]) (by rw[List.getElem?_map,List.getElem?_eq_getElem E6];rfl)
  rw[G1] at hu
  cases hu
  cases ru
  refine wpAny_truthy_bool ?_
  have e:bs.getD i false=bs[i]:=by simp[List.getD,E6]
  rw[<- e]
  exact Gp
 ·intro h' tk kp
  have DZ:(List.range its.toArray.size).any (fun i=>bs.getD i false)=bs.any id:=by
   rw[show its.toArray.size=bs.length by simp[hl]]
   rw[Bool.eq_iff_iff,List.any_eq_true,List.any_eq_true]
   constructor
   ·rintro ⟨i,hi,z⟩
    have E7:=List.mem_range.mp hi
    exact⟨bs[i],List.getElem_mem E7,by simpa[List.getD,E7] using z⟩
   ·rintro ⟨b,hb,z⟩
    obtain⟨i,hi,rfl⟩:=List.getElem_of_mem hb
    exact⟨i,List.mem_range.mpr hi,by simpa[List.getD,hi] using z⟩
  rw[DZ]
  refine⟨.bl (bs.any id),H,I.kept (t':=tk) fun b o e=>kp b o ?_ (Heap.get?_push_of_some _ e),rfl,q⟩
  intro hm
  have hb:b=s.heap.objs.size:=by simpa using hm
  subst hb
  exact absurd (Heap.lt_size e) (Nat.lt_irrefl _)
noncomputable def dv:Bi->Str
 | .len=>"len" | .sum=>"sum" | .min2=>"min" | .max2=>"max" | .FL=>"max" | .sorted=>"sorted" | .list=>"list" | .tuple=>"tuple" | .ord=>"ord" | .int=>"int" | .all=>"all" | .any=>"any" | .str=>"str" | .set=>"set" | .abs=>"abs"
noncomputable def xF:Bi->Bool
 | .list=>true|.tuple=>true|.int=>true|.str=>true|.set=>true
 | _=>false
noncomputable def xG:Bi->String
 | .len=>"len" | .sum=>"sum" | .min2=>"min" | .max2=>"max" | .FL=>"max" | .sorted=>"sorted" | .list=>"list" | .tuple=>"tuple" | .ord=>"ord" | .int=>"int" | .all=>"all" | .any=>"any" | .str=>"str" | .set=>"set" | .abs=>"abs"
noncomputable def mD (f:Bi):Value:=if xF f=true then .type (xG f) else .builtin (xG f)
theorem qz (f:Bi):bootBuiltins (dv f)=some (mD f):=by cases f<;>decide +kernel
def M6 (K:PySem.W.Frag)(ex:Str->Prop)(f:Bi):List V->Hp->VK->Prop:=fun xs H Q=>∃ S ds,AY K S H xs ds/\AZ ex (cy f ds) (Kk K S H Q)
theorem AY.FT {K:PySem.W.Frag}{S:Addr->Prop}{H:Hp}{xs:List V}{d:D}(h:AY K S H xs [d]):∃ x,xs=[x]/\A1 K S H x d:=by
 cases h with
 | cons h1 h2=>cases h2;exact⟨_,rfl,h1⟩
theorem AY.Lu {K:PySem.W.Frag}{S:Addr->Prop}{H:Hp}{xs:List V}{d e:D}(h:AY K S H xs [d,e]):∃ x y,xs=[x,y]/\A1 K S H x d/\A1 K S H y e:=by
 cases h with
 | cons h1 h2=>
  cases h2 with
  | cons h3 h4=>cases h4;exact⟨_,_,rfl,h1,h3⟩
theorem lj {K:PySem.W.Frag}{S:Addr->Prop}{H:Hp}(z:Str):AY K S H (dh z) (bo z):=by
 unfold dh bo
 induction z.cps.toList with
 | nil=>exact .nil
 | cons c cs ih=>exact .cons (.str _) ih
theorem qA (hc:X.calm=true)(f:Bi):bP X (mD f) (M6 X.K ex f):=by
 intro pins s σ H xs us Q I r h
 obtain⟨S,ds,hx,h⟩:=h
 have stuck:∀ {P:Prop},cy f ds=A5->P:=fun z=>by rw[z] at h;exact h.no.elim
 have one:∀ {d e:D}{r':List D},ds=d::e::r'->¬ (f=.min2∨f=.max2)->cy f ds=A5:=by
  intro d e r' z nf
  subst z
  cases f<;>first|rfl|(exfalso;exact nf (.inl rfl))|(exfalso;exact nf (.inr rfl))|(cases d<;>rfl)
 have two:∀ {d e g:D}{r':List D},ds=d::e::g::r'->cy f ds=A5:=by
  intro d e g r' z
  subst z
  cases f<;>first|rfl|(cases d<;>rfl)|(cases d<;>cases e<;>rfl)
 have nil:ds=[]->cy f ds=A5:=by
  intro z
  subst z
  cases f<;>rfl
 match ds,hx with
 | [],hx=>exact stuck (nil rfl)
 | d::e::g::r',hx=>exact stuck (two rfl)
 | [d,e],hx=>
  by_cases nf:f=.min2∨f=.max2
  ·obtain⟨x,y,rfl,hd,he⟩:=hx.Lu
   rcases nf with rfl|rfl
   ·cases d with
    | int a=>
     cases e with
     | int b=>cases hd.Bj;cases he.Bj;exact kO hc pins s σ H _ us Q I r ⟨a,b,rfl,h.ok _ _ (.refl _) (.int _)⟩
     | _=>exact stuck rfl
    | _=>exact stuck rfl
   ·cases d with
    | int a=>
     cases e with
     | int b=>cases hd.Bj;cases he.Bj;exact kN hc pins s σ H _ us Q I r ⟨a,b,rfl,h.ok _ _ (.refl _) (.int _)⟩
     | _=>exact stuck rfl
    | _=>exact stuck rfl
  ·exact stuck (one rfl nf)
 | [d],hx=>
  obtain⟨x,rfl,hd⟩:=hx.FT
  cases f with
  | len=>
   cases d with
   | str z=>cases hd.By;obtain⟨g,h⟩:=AZ.A4 h;exact dO pins s σ H _ us Q I r ⟨_,_,rfl,⟨aZ g,rfl⟩,h.ok _ _ (.refl _) (.int _)⟩
   | tup ds=>
    obtain⟨a,ys,rfl,q,m⟩:=hd.Ca
    exact dO pins s σ H _ us Q I r ⟨_,ds.length,rfl,.inr ⟨ys,q,m.length.symm⟩,h.ok _ _ (.refl _) (.int _)⟩
   | lst o ds=>
    obtain⟨a,ys,rfl,q,m⟩:=hd.BP
    exact dO pins s σ H _ us Q I r ⟨_,ds.length,rfl,.inl ⟨ys,q,m.length.symm⟩,h.ok _ _ (.refl _) (.int _)⟩
   | A0 o ks es=>
    cases hd with
    | A0 h0 h1 h2 h3=>exact k8 pins s σ H _ us Q I r ⟨_,_,rfl,h1,by rw[<- List.length_map (f:=(·.1)),h2];exact h.ok _ _ (.refl _) (.int _)⟩
   | _=>exact stuck rfl
  | sum=>cases d<;>exact stuck rfl
  | all=>
   cases d with
   | lst o ds=>
    obtain⟨a,ys,rfl,q,m⟩:=hd.BP
    have h':AZ ex (match bB ds with|some bs=>.ok (.bl (bs.all id))|none=>A5) (Kk X.K S H Q):=h
    cases z:bB ds with
    | none=>rw[z] at h';exact h'.no.elim
    | some ns=>
     rw[z] at h'
     rw[du z] at m
     rw[m.M1] at q
     exact lb hc pins s σ H _ us Q I r ⟨a,ns,rfl,q,h'.ok _ _ (.refl _) (.bl _)⟩
   | _=>exact stuck rfl
  | any=>
   cases d with
   | lst o ds=>
    obtain⟨a,ys,rfl,q,m⟩:=hd.BP
    have h':AZ ex (match bB ds with|some bs=>.ok (.bl (bs.any id))|none=>A5) (Kk X.K S H Q):=h
    cases z:bB ds with
    | none=>rw[z] at h';exact h'.no.elim
    | some ns=>
     rw[z] at h'
     rw[du z] at m
     rw[m.M1] at q
     exact lh hc pins s σ H _ us Q I r ⟨a,ns,rfl,q,h'.ok _ _ (.refl _) (.bl _)⟩
   | _=>exact stuck rfl
  | ord=>
   cases d with
   | str z=>cases hd.By;obtain⟨g,h⟩:=AZ.A4 h;exact lY pins s σ H _ us Q I r ⟨z,rfl,of_decide_eq_true g,h.ok _ _ (.refl _) (.int _)⟩
   | _=>exact stuck rfl
  | int=>cases d<;>exact stuck rfl
  | list=>cases d<;>exact stuck rfl
  | abs=>cases d<;>exact stuck rfl
  | min2=>cases d<;>exact stuck rfl
  | max2=>cases d<;>exact stuck rfl
  | FL=>cases d<;>exact stuck rfl
  | sorted=>cases d<;>exact stuck rfl
  | tuple=>
   cases d with
   | str z=>
    cases hd.By
    obtain⟨g,h⟩:=AZ.A4 h
    exact dS hc pins s σ H _ us Q I r ⟨z,rfl,aZ g,fun p hp=>h.ok _ _ (.upd hp) (vt hp (lj z))⟩
   | lst o ds=>
    obtain⟨a,ys,rfl,q,m⟩:=hd.BP
    exact eP pins s σ H _ us Q I r ⟨a,ys,rfl,.inl ⟨q,fun p hp=>h.ok _ _ (.upd hp) (vt hp m)⟩⟩
   | _=>exact stuck rfl
  | str=>exact stuck rfl
  | set=>exact stuck rfl
noncomputable def cI:Kd->Str
 | .str=>"str" | .int=>"int" | .bool=>"bool" | .list=>"list" | .tuple=>"tuple"
noncomputable def mE:Kd->Value
 | .str=>.type "str" | .int=>.type "int" | .bool=>.type "bool" | .list=>.type "list" | .tuple=>.type "tuple"
theorem qB (k:Kd):bootBuiltins (cI k)=some (mE k):=by cases k<;>decide +kernel
noncomputable def O8:D->Value
 | .A8=>.type "NoneType" | .bl _=>.type "bool" | .int _=>.type "int" | .str _=>.type "str" | .tup _=>.type "tuple" | .lst _ _=>.type "list" | .exc _=>.none|.A0 _ _ _=>.none
theorem qC (K:PySem.W.Frag)(k:Kd)(d:D)(hn:dm d=true):PySem.W.kitOne K (O8 d) (mE k)=some (aW k d):=by
 cases k<;>cases d<;>first|rfl|cases hn
theorem qD {pins:List (Addr×Obj)}{s:Shared}{σ:St}{H:Hp}{S:Addr->Prop}{x:V}{v:Value}{d:D}{Q:VK}(I:Inv X pins σ H s)(rx:RelV x v)(hx:A1 X.K S H x d)(k:Kd)(hn:dm d=true)(h:Q (.bl (aW k d)) H) :
  wpAny (model X.prog X.w) X.A (call (.builtin "isinstance") [v,mE k]) (EP X pins σ Q) X.xe s:=by
 have e:=qC X.K k d hn
 have fin:∀ tk,EP X pins σ Q (.bool (aW k d)) {s with toks:=tk}:=fun tk=>⟨.bl _,H,I.tok _,rfl,h⟩
 cases d with
 | A8=>cases hx.CG;cases rx;exact PySem.W.kia_one PySem.W.kitx_none I.Df True.intro e (fun z=>nomatch z) fin
 | bl b=>cases hx.EM;cases rx;exact PySem.W.kia_one PySem.W.kitx_bool I.Df True.intro e (fun z=>nomatch z) fin
 | int b=>cases hx.Bj;obtain⟨t,rfl⟩:=rx;exact PySem.W.kia_one PySem.W.kitx_int I.Df True.intro e (fun z=>nomatch z) fin
 | str b=>cases hx.By;obtain⟨t,rfl⟩:=rx;exact PySem.W.kia_one PySem.W.kitx_str I.Df True.intro e (fun z=>nomatch z) fin
 | tup ds=>
  obtain⟨a,ys,rfl,q,m⟩:=hx.Ca
  cases rx
  obtain⟨its,_,⟨o,h1,h2,_⟩,_⟩:=I.tuple q
  exact PySem.W.kia_one PySem.W.kitx_tuple I.Df ⟨o,h1,h2⟩ e (fun z=>nomatch z) fin
 | lst o ds=>
  obtain⟨a,ys,rfl,q,m⟩:=hx.BP
  cases rx
  obtain⟨its,_,pl,_⟩:=I.list q
  obtain⟨o,h1,h2,_⟩:=pl.isList
  exact PySem.W.kia_one PySem.W.kitx_list I.Df ⟨o,h1,h2⟩ e (fun z=>nomatch z) fin
 | exc c=>cases hn
 | A0 o ks ds=>cases hn
def CV (X:Cx)(x:Str)(v:V):Prop:=(∃ C,v=.ref C/\X.mg x=some (.ref C))∨(∃ T,v=.ty T/\X.mg x=none/\bootBuiltins x=some (.type T))
noncomputable def vv:V->Value
 | .ref C=>.ref C
 | .ty T=>.type T
 | _=>.none
noncomputable def d7:Mt->Str
 | .join=>"join" | .index=>"index" | .starts=>"startswith"
noncomputable def AO:Mt->String
 | .join=>"str.join" | .index=>"str.index" | .starts=>"str.startswith"
def M7 (K:PySem.W.Frag)(ex:Str->Prop)(m:Mt):V->List V->Hp->VK->Prop:=fun x xs H Q=>∃ S d ds,A1 K S H x d/\AY K S H xs ds/\AZ ex (la m d ds) (Kk K S H Q)
theorem mG {m:Mt}{d:D}{ds:List D}{k:D->Prop}(h:AZ ex (la m d ds) k):∃ x,d=.str x:=by
 cases m<;>cases d<;>first|exact⟨_,rfl⟩|exact h.no.elim
theorem f7 (m:Mt)(hc:m=.index->X.calm=true):MG X (AO m) (M7 X.K ex m):=by
 intro pins s σ H x xs v us Q I rx rs h
 obtain⟨S,d,ds,hx,hs,h⟩:=h
 obtain⟨z,rfl⟩:=mG h
 cases hx.By
 obtain⟨t,rfl⟩:=rx
 have stuck:∀ {P:Prop},la m (.str z) ds=A5->P:=fun z=>by rw[z] at h;exact h.no.elim
 match ds,hs with
 | [],_=>cases m<;>exact stuck rfl
 | d::e::r,_=>cases m<;>cases d<;>exact stuck rfl
 | [d],hs=>
  obtain⟨y,rfl,hd⟩:=hs.FT
  obtain⟨u,rfl,ru⟩:=vals1 rs
  cases m with
  | join=>cases d<;>exact stuck rfl
  | index=>cases d<;>exact stuck rfl
  | starts=>
   cases d with
   | str y=>
    cases hd.By
    obtain⟨t',rfl⟩:=ru
    exact SC.startswith ⟨.bl _,H,I,rfl,AZ.ok h _ _ (.refl _) (.bl _)⟩
   | _=>exact stuck rfl
noncomputable def Lv (x:Str):It:=⟨fun i _=>i < x.cps.size,fun i H v H'=>H'=H/\∃ c,x.cps[i]? = some c/\v=.str ⟨#[c]⟩,fun i _=>x.cps.size<=i⟩
theorem mH {P:Program}{w:World}{K:PySem.W.Frag}{tg:Expr}{it:Addr}{x:Str}{t:Tok}{ty:String}(Ib:ty = "str_ascii_iterator"∨ty = "str_iterator")
  (W:∀ A':Around,A'.handled=none->Walks P w A' it [it] [it] x.cps.size (SignAt x) (fun i h=>h.IsStrIter it ty x t i)):Turn P w K tg (Lv x) [it] it (fun i h=>i<=x.cps.size/\h.IsStrIter it ty x t i) where
 mem:=by simp
 obj:=fun i h st b hb=>by
  have e:b=it:=by simpa using hb
  subst e
  obtain⟨_,o,e,c,d⟩:=st
  exact⟨o,e,fun v z=>by rw[d] at z;cases z⟩
 keep:=fun i h h' st k=>by
  obtain⟨l,o,e,c,d⟩:=st
  exact⟨l,o,k it (by simp) o e,c,d⟩
 item:=by
  intro X hP hw hK hc i pins s σ H E I hf st hg
  subst hP hw hK
  obtain⟨f0,f1,f2,f3,f4,f5⟩:=hf it (by simp)
  refine(W X.A (I.ok.hd hc)).item i s _ _ hg st.2 fun v h' tk hv DV kk=>?_
  obtain⟨c,u,O9,rfl⟩:=hv
  have I1:Inv X pins σ H {s with heap:=h',toks:=tk}:=I.turned (fun b o hb e=>kk b o (by simpa using hb) e) f0 f1 f3 f4 f5
  obtain⟨o,e,cc,d⟩:=id DV
  refine⟨_,rfl,gO (s:={s with heap:=h',toks:=tk}) (n:=ty) e cc d (by rcases Ib with rfl|rfl<;>decide) ⟨.str ⟨#[c]⟩,H,I1,⟨u,rfl⟩,⟨rfl,c,O9,rfl⟩,⟨hg,DV⟩,fun b hb=>(hf b hb).1⟩⟩
 done:=by
  intro X hP hw hK hc i pins s σ H E I hf st hg
  subst hP hw hK
  obtain⟨f0,f1,f2,f3,f4,f5⟩:=hf it (by simp)
  have e:i=x.cps.size:=Nat.le_antisymm st.1 hg
  refine(W X.A (I.ok.hd hc)).done s _ _ (by rw[<- e];exact st.2) fun h' tk kk=>⟨rfl,I.turned (fun b o hb e=>kk b o (by simpa using hb) e) f0 f1 f3 f4 f5⟩
 self:=fun A i s Q E st h=>by
  obtain⟨_,st⟩:=st
  rcases Ib with rfl|rfl
  ·exact wpAny_pyIter_striter_ascii st h
  ·exact wpAny_pyIter_striter_wide st h
theorem vz {tg:Expr}{pins:List (Addr×Obj)}{s:Shared}{σ:St}{H:Hp}{x:Str}{t:Tok}{R:It->Hp->Prop}(I:Inv X pins σ H s)(q:R (Lv x) H):wpAny (model X.prog X.w) X.A (pyIter (.str x t)) (Ia X pins σ tg R) X.xe s:=by
 have fin:∀ ty,(ty = "str_ascii_iterator"∨ty = "str_iterator")->(∀ A':Around,A'.handled=none->Walks X.prog X.w A' s.heap.objs.size [s.heap.objs.size] [s.heap.objs.size] x.cps.size (SignAt x) (fun i h=>h.IsStrIter s.heap.objs.size ty x t i))->
   Ia X pins σ tg R (.ref s.heap.objs.size) {s with heap:=s.heap.push {cls:=.type ty,data:=.fields #[.str x t,.int 0 0]}}:=fun ty Ib W=>by
  refine⟨s.heap.objs.size,[s.heap.objs.size],_,_,H,rfl,I.kept (t':=s.toks) fun b o e=>Heap.get?_push_of_some _ e,mH Ib W,⟨Nat.zero_le _,_,Heap.get?_push_size _ rfl,rfl,rfl⟩,fun b hb=>?_,q⟩
  have e:b=s.heap.objs.size:=by simpa using hb
  subst e
  exact I.DF (Nat.le_refl _) (I.Be.fresh (Nat.le_refl _))
 cases ha:x.cps.all (· < 128)
 ·exact wpAny_pyIter_wide ha (fin _ (.inr rfl) fun A' hA=>Walks.strWide hA _ x t)
 ·exact wpAny_pyIter_ascii ha (fin _ (.inl rfl) fun A' hA=>Walks.strAscii hA _ x t)
end
theorem aM.at {P:Program}{w:World}{H:Hp}{h:Heap}{a:Addr}{o:HO}(x:aM P w H h a o):∃ ob,h.get? a=some ob:=by
 cases o with
 | lst xs=>obtain⟨_,_,_,_,e⟩:=x;exact⟨_,e⟩
 | tup xs=>obtain⟨_,_,_,ob,e,_⟩:=x;exact⟨_,e⟩
 | dK kvs=>obtain⟨_,_,_,_,o,_,_,e,_⟩:=x;exact⟨_,e⟩
 | dT kvs=>obtain⟨_,_,_,_,o,_,_,e,_⟩:=x;exact⟨_,e⟩
 | set S n=>obtain⟨o,_,_,_,e,_⟩:=x;exact⟨_,e⟩
 | ins C dx fs=>obtain⟨_,_,_,e,_⟩:=x;exact⟨_,e⟩
 | own y=>exact x
 | xd fs=>obtain⟨_,⟨_,_,_,e,_⟩,_⟩:=x;exact⟨_,e⟩
 | EI lo hi=>obtain⟨_,_,_,e⟩:=x;exact⟨_,e⟩
 | Bb ob u=>exact⟨_,x.1⟩
 | F6 ps=>exact⟨_,x⟩
 | met f y=>exact⟨_,x⟩
 | ext φ=>exact x.2.1
noncomputable def indep:HO->Bool
 | .lst _=>true
 | .tup _=>true
 | .ext _=>true
 | .dK _=>true
 | _=>false
theorem cS {P:Program}{w:World}{H H':Hp}{h:Heap}{a:Addr}{u:HO}(i:indep u=true)(x:aM P w H h a u):aM P w H' h a u:=by
 cases u with
 | lst _=>exact x
 | tup _=>exact x
 | ext _=>exact x
 | dK _=>exact x
 | _=>cases i
noncomputable def az (h:Heap)(H:Hp):Hp:=fun b=>match H b with
 | some (.lst xs)=>(h.get? b).map fun o=>.Bb o (.lst xs)
 | some (.dK kvs)=>(h.get? b).map fun o=>.Bb o (.dK kvs)
 | some (.tup xs)=>some (.tup xs)
 | some (.Bb o u)=>if indep u=true then some (.Bb o u) else none
 | _=>none
noncomputable def bS (H H':Hp):Hp:=fun b=>match H b with
 | some o=>some o
 | none=>H' b
def G2 (H:Hp):Prop:=∀ b o,H b=some o->(∃ ob u,o=.Bb ob u)∨∃ xs,o=.tup xs
theorem mI (h:Heap)(H:Hp):G2 (az h H):=fun b o e=>by
 unfold az at e
 split at e
 ·obtain⟨ob,_,rfl⟩:=Option.map_eq_some_iff.mp e
  exact .inl ⟨_,_,rfl⟩
 ·obtain⟨ob,_,rfl⟩:=Option.map_eq_some_iff.mp e
  exact .inl ⟨_,_,rfl⟩
 ·cases e;exact .inr ⟨_,rfl⟩
 ·split at e
  ·cases e;exact .inl ⟨_,_,rfl⟩
  ·cases e
 ·cases e
structure Dm (h:Heap)(Hc H':Hp):Prop where
 BY:∀ b o u,Hc b=some (.Bb o u)->H' b=some (.Bb o u)
 Ck:∀ b xs,Hc b=some (.tup xs)->H' b=some (.tup xs)
 free:∀ b o,h.get? b=some o->Hc b=none->H' b=none
inductive Bk (h:Heap)(H H':Hp)(b:Addr):HO->Prop where
 | lst {xs:List V}{ob:Obj}:h.get? b=some ob->H' b=some (.Bb ob (.lst xs))->Bk h H H' b (.lst xs)
 | dK {xs:List (Key×V)}{ob:Obj}:h.get? b=some ob->H' b=some (.Bb ob (.dK xs))->Bk h H H' b (.dK xs)
 | tup {xs:List V}:H' b=some (.tup xs)->Bk h H H' b (.tup xs)
 | Bb {o:Obj}{u:HO}:indep u=true->H' b=some (.Bb o u)->Bk h H H' b (.Bb o u)
 | Gq {o:HO}{ob:Obj}:h.get? b=some ob->az h H b=none->H' b=none->(∀ xs,o≠.lst xs)->(∀ xs,o≠.tup xs)->(∀ xs,o≠.dK xs)->Bk h H H' b o
section
variable {P:Program}{w:World}{H H':Hp}{h g:Heap}
theorem fu (x:Bw P w H h)(p:Dm h (az h H) H'){b:Addr}{o:HO}(e:H b=some o):Bk h H H' b o:=by
 obtain⟨ob,he⟩:=(x b o e).at
 have hc:az h H b=(match (some o:Option HO) with
  | some (.lst xs)=>(h.get? b).map fun o=>.Bb o (.lst xs)
  | some (.dK kvs)=>(h.get? b).map fun o=>.Bb o (.dK kvs)
  | some (.tup xs)=>some (.tup xs)
  | some (.Bb o u)=>if indep u=true then some (.Bb o u) else none
  | _=>none):=by unfold az;rw[e]
 cases o with
 | lst xs=>
  have hc:az h H b=(h.get? b).map fun o=>.Bb o (.lst xs):=hc
  rw[he] at hc
  exact .lst he (p.BY _ _ _ hc)
 | dK xs=>
  have hc:az h H b=(h.get? b).map fun o=>.Bb o (.dK xs):=hc
  rw[he] at hc
  exact .dK he (p.BY _ _ _ hc)
 | tup xs=>exact .tup (p.Ck _ _ hc)
 | Bb o' u=>
  have hc:az h H b=if indep u=true then some (.Bb o' u) else none:=hc
  by_cases i:indep u=true
  ·rw[if_pos i] at hc
   exact .Bb i (p.BY _ _ _ hc)
  ·rw[if_neg i] at hc
   exact .Gq he hc (p.free _ _ he hc) (fun _ z=>by cases z) (fun _ z=>by cases z) (fun _ z=>by cases z)
 | _=>exact .Gq he hc (p.free _ _ he hc) (fun _ z=>by cases z) (fun _ z=>by cases z) (fun _ z=>by cases z)
theorem jd (x:Bw P w H h):Bw P w (az h H) h:=fun b o e=>by
 cases q:H b with
 | none=>unfold az at e;rw[q] at e;cases e
 | some u=>
  have y:=x b u q
  unfold az at e
  rw[q] at e
  cases u with
  | lst xs=>
   obtain⟨ob,he⟩:=y.at
   have e:(h.get? b).map (fun o=>HO.Bb o (.lst xs))=some o:=e
   rw[he] at e
   cases e
   exact⟨he,y⟩
  | dK xs=>
   obtain⟨ob,he⟩:=y.at
   have e:(h.get? b).map (fun o=>HO.Bb o (.dK xs))=some o:=e
   rw[he] at e
   cases e
   exact⟨he,y⟩
  | tup xs=>cases e;exact y
  | Bb o' u=>
   have e:(if indep u=true then some (HO.Bb o' u) else none)=some o:=e
   by_cases i:indep u=true
   ·rw[if_pos i] at e;cases e;exact⟨y.1,cS i y.2⟩
   ·rw[if_neg i] at e;cases e
  | _=>cases e
theorem aY (e:H a=none):az h H a=none:=by unfold az;rw[e]
theorem res_some {b:Addr}{o:HO}(e:H b=some o):bS H H' b=some o:=by unfold bS;rw[e]
theorem res_none {b:Addr}(e:H b=none):bS H H' b=H' b:=by unfold bS;rw[e]
theorem ij:aq H (bS H H'):=fun b o e=>res_some e
theorem f9 (x:Bw P w H h)(y:Bw P w H' g)(p:Dm h (az h H) H'){fs:List Addr}(keep:∀ b o,H b≠none->h.get? b=some o->az h H b=none->b∉fs->g.get? b=some o)(fr:∀ b∈fs,H b=none):Bw P w (bS H H') g:=by
 have tp:∀ c xs,H' c=some (.tup xs)->bS H H' c=some (.tup xs):=fun c xs e=>by
  cases q:H c with
  | none=>rw[res_none q];exact e
  | some o=>
   rw[res_some q]
   cases fu x p q with
   | lst _ z=>rw[z] at e;cases e
   | dK _ z=>rw[z] at e;cases e
   | tup z=>rw[z] at e;exact e
   | Bb _ z=>rw[z] at e;cases e
   | Gq _ _ z _ _ _=>rw[z] at e;cases e
 intro b o e
 cases q:H b with
 | some o'=>
  rw[res_some q] at e
  cases e
  cases fu x p q with
  | lst h1 z=>
   have h2:=(y b _ z).1
   obtain⟨a1,its,n,a2,a3⟩:=x b _ q
   rw[h1] at a3
   exact⟨a1,its,n,a2,by rw[h2,<- a3]⟩
  | dK h1 z=>exact cS rfl (y b _ z).2
  | tup z=>exact y b _ z
  | Bb i z=>exact⟨(y b _ z).1,cS i (y b _ z).2⟩
  | Gq h1 h2 z n1 n2 n3=>
   refine(x b _ q).CD (fun c u hc hu=>?_) (fun c hc=>res_some hc) fun c xs hc=>res_some hc
   rcases hc with rfl|hc
   ·exact keep _ _ (by rw[q];simp) hu h2 fun z=>by rw[fr _ z] at q;cases q
   ·refine keep _ _ (by rw[hc];simp) hu ?_ fun z=>by rw[fr _ z] at hc;cases hc
    unfold az
    rw[hc]
 | none=>
  rw[res_none q] at e
  refine(y b o e).CD (fun _ _ _ z=>z) (fun c hc=>?_) tp
  cases q':H c with
  | none=>rw[res_none q'];exact hc
  | some o'=>
   exfalso
   cases fu x p q' with
   | lst _ z=>rw[z] at hc;cases hc
   | dK _ z=>rw[z] at hc;cases hc
   | tup z=>rw[z] at hc;cases hc
   | Bb _ z=>rw[z] at hc;cases hc
   | Gq _ _ z _ _ _=>rw[z] at hc;cases hc
theorem cT {fs:List Addr}(u:Un fs [] (az h H) H' h g):Dm h (az h H) H':=⟨u.BY,u.Ck,fun b o e n=>u.free b o e n (by simp)⟩
theorem je {fs:List Addr}(x:Bw P w H h)(u:Un fs [] (az h H) H' h g):Un fs [] H (bS H H') h g where
 keep:=fun b o e n f i=>u.keep b o e (aY n) f i
 slot:=fun b o e n f i=>u.slot b o e (aY n) f i
 free:=fun b o e n i=>by rw[res_none n];exact u.free b o e (aY n) i
 there:=u.there
 Ck:=fun b xs e=>res_some e
 BY:=fun b o v e=>res_some e
 Dd:=fun b ps e=>⟨#[],by rw[res_some e];simp⟩
end
noncomputable def H0:Hp:=fun _=>none
noncomputable def Cg (P:Program)(w:World):Ci:=fun outer H s E e s'=>∃ (a:Addr) (cls a0:Value) (H':Hp) (B:Heap),e=.ref a/\s'.os=s.os/\AllBare s'.gens/\Un (BZ outer) [] H H' s.heap s'.heap/\Bw P w H' B/\aq H H'/\
 (∀ b o,s.heap.get? b=some o->H b=none->b∉BZ outer->B.get? b=some o)/\Heap.FlyingW B outer a cls a0 s'.heap/\E cls none H0
def Ej (K:PySem.W.Frag):XK->Hp->Str->Prop:=fun E _ c=>∀ C,PySem.W.nsIn K mainGlobals c=some (some (.ref C))->E (.ref C) none H0
noncomputable def aV:List Str:=["len","sum","min","max","sorted","list","tuple","ord","int","all","any","str","set","abs","isinstance","range","bool","zip","reversed","dict","enumerate"]
noncomputable def jK:Bi->Nat
 | .len=>0|.sum=>1|.min2=>2|.max2=>3|.FL=>3|.sorted=>4|.list=>5|.tuple=>6|.ord=>7|.int=>8|.all=>9|.any=>10|.str=>11|.set=>12|.abs=>13
noncomputable def jL:Kd->Nat
 | .str=>11|.int=>8|.bool=>16|.list=>5|.tuple=>6
theorem vA (f:Bi):aV[jK f]? = some (dv f):=by cases f<;>rfl
theorem vB (f:Kd):aV[jL f]? = some (cI f):=by cases f<;>rfl
mutual
noncomputable def lp:D->D->Bool
 | .A8,.A8=>true
 | .bl a,.bl b=>a == b
 | .int a,.int b=>a == b
 | .str a,.str b=>a == b
 | .tup a,.tup b=>d8 a b
 | .lst o a,.lst o' b=>o == o'&&d8 a b
 | _,_=>false
noncomputable def d8:List D->List D->Bool
 | [],[]=>true
 | a::r,b::s=>lp a b&&d8 r s
 | _,_=>false
end
mutual
theorem jM:∀ {a b:D},lp a b=true->a=b
 | .A8,b,h=>by cases b<;>first|rfl|cases h
 | .bl a,b,h=>by cases b<;>first|(rw[eq_of_beq (show (a == _)=true from h)])|cases h
 | .int a,b,h=>by cases b<;>first|(rw[eq_of_beq (show (a == _)=true from h)])|cases h
 | .str a,b,h=>by cases b<;>first|(rw[eq_of_beq (show (a == _)=true from h)])|cases h
 | .tup a,b,h=>by
  cases b with
  | tup b=>rw[d9 (show d8 a b=true from h)]
  | _=>cases h
 | .lst o a,b,h=>by
  cases b with
  | lst o' b=>
   have h':(o == o'&&d8 a b)=true:=h
   rw[Bool.and_eq_true] at h'
   rw[eq_of_beq h'.1,d9 h'.2]
  | _=>cases h
theorem d9:∀ {a b:List D},d8 a b=true->a=b
 | [],b,h=>by cases b<;>first|rfl|cases h
 | a::r,b,h=>by
  cases b with
  | nil=>cases h
  | cons b s=>
   have h':(lp a b&&d8 r s)=true:=h
   rw[Bool.and_eq_true] at h'
   rw[jM h'.1,d9 h'.2]
end
structure Sg where
 nm:List Str
 Iq:List (Nat×D)
 fns:List Nat
 cls:List Nat:=[]
 xt:List (Str×Nat×Bool):=[]
 pl:List Nat:=[]
 rc:List (Nat×Str):=[]
 xm:List (Str×Nat):=[]
 Cs:List Nat:=[]
noncomputable def Sg.name (Z:Sg)(n:Nat):Option Str:=(aV++Z.nm)[n]?
noncomputable def Gm.G3 (G:Gm)(n:Nat):Bool:=G.cm&&G.gl.contains n
theorem vC {G:Gm}{n:Nat}(h:G.G3 n=true):G.gl.contains n=true:=by
 unfold Gm.G3 at h;rw[Bool.and_eq_true] at h;exact h.2
theorem vD {G:Gm}{n:Nat}(h:G.G3 n=true):G.cm=true:=by
 unfold Gm.G3 at h;rw[Bool.and_eq_true] at h;exact h.1
noncomputable def Sg.Gr (Z:Sg)(G:Gm)(f:Nat):Bool:=Z.fns.contains f&&(G.cm||Z.pl.contains f)
theorem gb {Z:Sg}{G:Gm}{f:Nat}(h:Z.Gr G f=true):f∈Z.fns/\(G.cm=true∨f∈Z.pl):=by
 unfold Sg.Gr at h
 rw[Bool.and_eq_true,Bool.or_eq_true] at h
 exact⟨by simpa using h.1,h.2.elim .inl fun z=>.inr (by simpa using z)⟩
noncomputable def jf:Mt->Bool
 | .join=>true
 | _=>false
noncomputable def notStar:Expr->Bool
 | .Starred ..=>false
 | _=>true
noncomputable def aI:Expr->Bool
 | .Slice ..=>false
 | _=>true
noncomputable def ed:Expr->Bool
 | .Call _ [] [] _=>false
 | _=>true
noncomputable def cg (G:Gm)(i:Nat)(x:Str):Bool:=G.N[i]? == some x&&(G.kd[i]? == some .local||G.kd[i]? == some .cell||G.kd[i]? == some .free)
noncomputable def bz (Z:Sg)(G:Gm)(n:Nat)(x:Str):Bool:=Z.name n == some x&&G.gl.contains n
noncomputable def xH:D->Const->Bool
 | .int i,.int j=>i == j
 | .str x,.str y=>x == y
 | .bl a,.bool b=>a == b
 | .A8,.none=>true
 | _,_=>false
mutual
noncomputable def bA (G:Gm):Tg->Expr->Bool
 | .nm i,.Name x _=>(G.N[i]? == some x&&(G.kd[i]? == some .local||(G.df&&G.kd[i]? == some .cell)))&&G.io != some i
 | .tp ts,.Tuple es _ _=>G.cm&&cA G ts es
 | _,_=>false
noncomputable def cA (G:Gm):List Tg->List Expr->Bool
 | [],[]=>true
 | t::ts,e::es=>notStar e&&bA G t e&&cA G ts es
 | _,_=>false
end
mutual
noncomputable def CZ:Tg->List Nat
 | .nm i=>[i]
 | .tp ts=>ik ts
noncomputable def ik:List Tg->List Nat
 | []=>[]
 | t::ts=>CZ t++ik ts
end
noncomputable def ba (Z : Sg)(G : Gm)(scope : Scope)(G' : Gm)(fr : List Nat) : Bool :=
  (G.cm&&scope.kind == .function)&&!G'.tr&&!G'.df&&G'.kd.length == G'.N.length
 &&scope.names.all (fun y => y.2 != .cell)&&scope.names.all (fun y => y.2 != .local||scope.names.lookup y.1 == some .local)
 &&scope.names.all (fun y => y.2 != .free||(List.range G.N.length).any fun i => G.N[i]? == some y.1&&(G.kd[i]? == some .cell||G.kd[i]? == some .free))
 &&(List.range fr.length).all (fun j => G'.N[j]? == (fr[j]?).bind (G.N[·]?)&&((G'.N[j]?).bind (scope.names.lookup ·) == some .free)&&((fr[j]?).bind (G.kd[·]?) == some .cell||(fr[j]?).bind (G.kd[·]?) == some .free)
     &&(G'.kd[j]? == some (if ((fr[j]?).bind (G.kd[·]?) == some .cell) then .cell else .free)))
 &&decide (fr.length <= G'.N.length)
 &&((List.range G'.N.length).drop fr.length).all (fun j => (G'.N[j]?).bind (scope.names.lookup ·) == some .local&&G'.kd[j]? == some .local)
 &&G'.N.all (fun x => !(x == "__debug__")&&!(x == "__classdict__"))
 &&decide (G'.N.Nodup)
 &&G'.gl.all (fun n => match Z.name n with|some x => scope.names.lookup x == some .globalImplicit|none => false)
theorem aa {P:Prop}(h:false=true):P:=by cases h
noncomputable def lq:List Comprehension->(Expr->Expr->List Expr->Bool)->Bool
 | [⟨t,it,fs,0⟩],k=>k t it fs
 | _,_=>false
theorem gc {gens:List Comprehension}{k:Expr->Expr->List Expr->Bool}(h:lq gens k=true):∃ t it fs,gens=[⟨t,it,fs,0⟩]/\k t it fs=true:=by
 unfold lq at h
 split at h
 ·exact⟨_,_,_,rfl,h⟩
 ·cases h
noncomputable def mJ:Expr->Bool
 | .Tuple _ _ _=>true
 | _=>false
noncomputable def dE:Sr->Expr->Bool
 | .zip _ _,t=>mJ t
 | .DR _,t=>mJ t
 | _,_=>true
noncomputable def lr:Bool->CmpOp
 | true=>.NotIn
 | false=>.In
noncomputable def Gs:Expr->Bool
 | .Dict ks vs _=>ks.isEmpty&&vs.isEmpty
 | _=>false
theorem jg {e:Expr}(h:Gs e=true):∃ p,e=.Dict [] [] p:=by
 cases e with
 | Dict ks vs p=>
  have h':=Bool.and_eq_true_iff.mp (show (ks.isEmpty&&vs.isEmpty)=true from h)
  cases ks with
  | cons _ _=>exact aa h'.1
  | nil=>
   cases vs with
   | cons _ _=>exact aa h'.2
   | nil=>exact⟨p,rfl⟩
 | _=>exact aa h
noncomputable def Kj:Expr->(Expr->Expr->Bool)->Bool
 | .Subscript o s _,k=>k o s
 | _,_=>false
theorem vE {e:Expr}{k:Expr->Expr->Bool}(h:Kj e k=true):∃ o s p,e=.Subscript o s p/\k o s=true:=by
 unfold Kj at h
 split at h
 ·exact⟨_,_,_,rfl,h⟩
 ·cases h
noncomputable def Kl:Expr->(Expr->CmpOp->Expr->Bool)->Bool
 | .Compare l [o] [r] _,k=>k l o r
 | _,_=>false
theorem vF {e:Expr}{k:Expr->CmpOp->Expr->Bool}(h:Kl e k=true):∃ l o r p,e=.Compare l [o] [r] p/\k l o r=true:=by
 unfold Kl at h
 split at h
 ·exact⟨_,_,_,_,rfl,h⟩
 ·cases h
mutual
noncomputable def A9 (Z:Sg)(G:Gm):IR->Expr->Bool
 | .c d,.Constant k _ _=>xH d k
 | .g n d,.Name x _=>bz Z G n x&&Z.Iq.any fun p=>p.1 == n&&lp p.2 d
 | .v i,.Name x _=>cg G i x
 | .bin op a b,.BinOp l o r _=>o == FR op&&A9 Z G a l&&A9 Z G b r
 | .cmp op a b,.Compare l [o] [r] _=>o == Dl op&&A9 Z G a l&&A9 Z G b r&&!behindInMarks o r
 | .chain op BH a b c,.Compare l [o,o'] [m,r] _=>o == Dl op&&o' == Dl BH&&A9 Z G a l&&A9 Z G b m&&A9 Z G c r&&!lastMarks [o,o'] [m,r]
 | .BB a b,.BoolOp .And [e,e'] _=>A9 Z G a e&&A9 Z G b e'
 | .BB a b,.BoolOp .And (e::e'::Lw::rest) p=>A9 Z G a e&&A9 Z G b (.BoolOp .And (e'::Lw::rest) p)
 | .E1 a b,.BoolOp .Or [e,e'] _=>A9 Z G a e&&A9 Z G b e'
 | .E1 a b,.BoolOp .Or (e::e'::Lw::rest) p=>A9 Z G a e&&A9 Z G b (.BoolOp .Or (e'::Lw::rest) p)
 | .BU a,.UnaryOp .Not e _=>A9 Z G a e
 | .ite t a b,.IfExp c x y _=>A9 Z G t c&&A9 Z G a x&&A9 Z G b y
 | .tup es,.Tuple l _ _=>aF Z G es l
 | .lst es,.List l _=>aF Z G es l
 | .sl a lo hi,.Subscript e (.Slice l h none _) _=>A9 Z G a e&&jh Z G lo l&&jh Z G hi h
 | .idx a i,.Subscript e s _=>aI s&&A9 Z G a e&&A9 Z G i s
 | .call f es,.Call (.Name x _) args [] _=>bz Z G f x&&Z.Gr G f&&aF Z G es args
 | .bi f es,.Call (.Name x _) (a::args) [] _=>x == dv f&&G.G3 (jK f)&&aF Z G es (a::args)
 | .BW a k,.Call (.Name x _) [e,.Name y _] [] _=>x == "isinstance"&&G.gl.contains 14&&y == cI k&&G.gl.contains (jL k)&&notStar e&&A9 Z G a e
 | .CW,e=>Gs e
 | .B3 a k,e=>Kj e fun o s=>aI s&&A9 Z G a o&&A9 Z G k s
 | .GX n k a,e=>Kl e fun l o r=>o == lr n&&A9 Z G k l&&A9 Z G a r&&!behindInMarks o r
 | .Il m o es,.Call (.Attribute oe name apos) (a::args) [] Bo=>name == d7 m&&ed oe&&apos.endLine == Bo.line&&(decide ((a::args).length < 29)&&(G.cm||jf m))&&A9 Z G o oe&&aF Z G es (a::args)
 | .comp G' fr tg src ifs elt,.ListComp e gens scope _=>lq gens fun t it fs=>ba Z G scope G' fr&&bA G' tg t&&(CZ tg).all (fun i=>decide (fr.length<=i))&&(bL Z G src it&&dE src t)&&aF Z G' ifs fs&&A9 Z G' elt e
 | _,_=>false
noncomputable def aF (Z:Sg)(G:Gm):List IR->List Expr->Bool
 | [],[]=>true
 | a::es,e::l=>notStar e&&A9 Z G a e&&aF Z G es l
 | _,_=>false
noncomputable def jh (Z:Sg)(G:Gm):Option IR->Option Expr->Bool
 | none,none=>true
 | some a,some e=>A9 Z G a e
 | _,_=>false
noncomputable def bL (Z:Sg)(G:Gm):Sr->Expr->Bool
 | .B4 n,.Call (.Name x _) [e] [] _=>x == "range"&&G.gl.contains 15&&notStar e&&A9 Z G n e
 | .zip a b,.Call (.Name x _) [e,e'] [] _=>x == "zip"&&G.gl.contains 17&&notStar e&&notStar e'&&A9 Z G a e&&A9 Z G b e'
 | .DR a,.Call (.Name x _) [e] [] _=>x == "enumerate"&&G.gl.contains 20&&notStar e&&A9 Z G a e
 | .rev a,.Call (.Name x _) [e] [] _=>x == "reversed"&&G.gl.contains 18&&notStar e&&A9 Z G a e
 | .val a,e=>A9 Z G a e
 | _,_=>false
end
noncomputable def M8:List Value:=[.type "ValueError",.type "Exception",.type "BaseException",.type "object"]
def C8 (F:Addr->Prop)(H:Hp):Prop:=∀ a,F a->H a≠none
structure Out (K:PySem.W.Frag)(F:Addr->Prop)(H:Hp)(F':Addr->Prop)(H':Hp)(v:V)(d:D)(fv:List Addr):Prop where
 Bh:C8 F' H'
 same:aq H H'
 rep:Ba K F' H' v d fv
 BG:fv.Nodup
 new:∀ a∈fv,H a=none
 Ct:∀ a,F a->F' a
 out:∀ a,F' a->F a∨H a=none
noncomputable def G4 (K:PySem.W.Frag)(cl:Nat->List D->Res D)(xp:XK->Hp->Str->Prop)(f:Nat)(ps:List Str):Sp:=fun vs H Q E=>vs.length=ps.length/\G2 H/\∃ F ds,C8 F H/\AY K F H vs ds/\
 AZ (xp E H) (cl f (A6 ds)) fun d=>∀ v H' F' fv,Out K F H F' H' v d fv->Q v H'
structure G5 (P:Program)(w:World)(K:PySem.W.Frag)(mg:Str->Option Value)(base:Heap)(CX:Ci)(A:Around)(cl:Nat->List D->Res D)(xp:XK->Hp->Str->Prop)(f:Nat)(x:Str):Prop where
 ex:∃ (k:Nat) (fa:Addr) (fd:FuncData) (ps:List Str),mg x=some (.ref fa)/\PySem.W.keepIn K (.ref fa)=true/\Binds K fd ps []/\Cp P w K mg base CX k fa fd ps (G4 K cl xp f ps)/\B1 k A/\
  ∀ (ex:Str->Prop) ds (k:D->Prop),AZ ex (cl f ds) k->ds.length=ps.length
noncomputable def rm (a:Addr)(H:Hp):Hp:=fun b=>if b=a then none else H b
structure FU (K:PySem.W.Frag)(a:Addr)(F:Addr->Prop)(H:Hp)(F':Addr->Prop)(H':Hp)(v:V)(d:D)(fv:List Addr)(Bz:List (Key×V))(DS:List Key)(C4:List D):Prop where
 out:Out K F (rm a H) F' H' v d fv
 nF:¬ F' a
 nf:a∉fv
 at_:H' a=some (.dK Bz)
 ks:Bz.map (·.1)=DS
 vs:AY K F' H' (Bz.map (·.2)) C4
structure Ju (K:PySem.W.Frag)(a:Addr)(F:Addr->Prop)(H:Hp)(ws:List V)(ds:List D)(kvs:List (Key×V))(es:List D):Prop where
 Bh:C8 F H
 nF:¬ F a
 at_:H a=some (.dK kvs)
 ws:AY K F H ws ds
 vs:AY K F H (kvs.map (·.2)) es
 lf:af es=true
noncomputable def Jv (K:PySem.W.Frag)(cl:Nat->List D->Res D)(f:Nat)(ps:List Str):Sp:=fun vs H Q _=>vs.length=ps.length/\∃ a F ws ds kvs es,vs=ws++[.ref a]/\Ju K a F H ws ds kvs es/\
 ∃ d DS C4,cl f (A6 ds++[.A0 false (kvs.map (·.1)) es])=.ok (.tup [d,.A0 false DS C4])/\af C4=true/\∀ v H' F' fv Bz,FU K a F H F' H' v d fv Bz DS C4->Q v H'
structure Km (P:Program)(w:World)(K:PySem.W.Frag)(mg:Str->Option Value)(base:Heap)(CX:Ci)(A:Around)(cl:Nat->List D->Res D)(f:Nat)(x:Str):Prop where
 ex:∃ (k:Nat) (fa:Addr) (fd:FuncData) (ps:List Str),mg x=some (.ref fa)/\PySem.W.keepIn K (.ref fa)=true/\Binds K fd ps []/\Cp P w K mg base CX k fa fd ps (Jv K cl f ps)/\B1 k A/\
  ∀ ds r,cl f ds=.ok r->ds.length=ps.length
structure Lx (Z:Sg)(CX:Ci)(cl:Nat->List D->Res D)(xp:XK->Hp->Str->Prop)(X:Cx):Prop where
 st:X.stack=X.env::X.outer
 fr:X.env.frame=some X.env.locals
 lt:G2 X.De
 pl:∀ a:Addr,∀ f∈Z.fns,f∈Z.pl->∀ x,Z.name f=some x->G5 X.prog X.w X.K X.mg X.base CX (X.A.mark (some (.ref a))) cl xp f x
 cx:∀ (outer:List Env) (H:Hp) (s:Shared) (E:XK) (e:Value) (s':Shared),CX outer H s E e s'->Cg X.prog X.w outer H s E e s'
 xp:∀ (c:Str) (C:Addr) (H:Hp),PySem.W.nsIn X.K mainGlobals c=some (some (.ref C))->xp (fun cls _ _=>cls=.ref C) H c
structure Bt (Z:Sg)(CX:Ci)(cl:Nat->List D->Res D)(xp:XK->Hp->Str->Prop)(X:Cx)(ex:Str->Prop)(G:Gm):Prop where
 N:X.N=G.N
 BG:G.N.Nodup
 calm:G.cm=true->X.calm=true
 fk:X.env.scope.kind=.function
 un:X.A.units+42 < cLine
 own:G.rs=true->PassesOwn (model X.prog X.w) X.A X.env X.xe
 kd:∀ (i:Nat) (x:Str),G.N[i]? = some x->X.env.kindOf x=G.kd[i]?
 Fm:∀ (i:Nat) (x:Str),G.N[i]? = some x->(x == ("__debug__" : Str))=false/\(x == ("__classdict__" : Str))=false
 gl:∀ n∈G.gl,∀ x,Z.name n=some x->Gl X x
 Gu:∀ n x,Z.name n=some x->x≠"__name__"/\(x == ("__debug__" : Str))=false
 df:G.df=true->∀ x,X.fn x=true
 blt:∀ (n:Nat) (x:Str),aV[n]? = some x->X.mg x=none
 cst:∀ n d x,(n,d)∈Z.Iq->Z.name n=some x->∃ u v,X.mg x=some u/\RelV v u/\∀ S H,A1 X.K S H v d
 fns:∀ f∈Z.fns,(G.cm=true∨f∈Z.pl)->∀ x,Z.name f=some x->G5 X.prog X.w X.K X.mg X.base CX X.A cl xp f x
 Cs:∀ f∈Z.Cs,G.cm=true->∀ x,Z.name f=some x->Km X.prog X.w X.K X.mg X.base CX X.A cl f x
 Ir:∀ n∈Z.cls,∀ x,Z.name n=some x->∃ v,CV X x v
 Iu:∀ c n b x,(c,n,b)∈Z.xt->Z.name n=some x->∃ C,PySem.W.nsIn X.K mainGlobals c=some (some (.ref C))/\ExcAt X.K C/\∀ v,CV X x v->PySem.W.kitOne X.K (.ref C) (vv v)=some b
 Iw:∀ c n x,(c,n)∈Z.xm->Z.name n=some x->∃ C C',PySem.W.nsIn X.K mainGlobals c=some (some (.ref C))/\PySem.W.nsIn X.K mainGlobals x=some (some (.ref C'))/\nameIn X.K C=some c/\X.mg x=some (.ref C')/\PySem.W.exmOne X.K (.ref C) (.ref C')=some true
 Iy:∀ n c,(n,c)∈Z.rc->Z.name n=some c/\∃ C,X.mg c=some (.ref C)/\PySem.W.nsIn X.K mainGlobals c=some (some (.ref C))/\PySem.W.excIn X.K C M8 "ValueError.__new__" = true
 Pa:G.rs=true->∀ (pins:List (Addr×Obj)) (σ:St) (H:Hp) (s:Shared) (c:Str) (C:Addr) (h':Heap) (e:Addr) (vs:List Value),Inv X pins σ H s->ex c->PySem.W.nsIn X.K mainGlobals c=some (some (.ref C))->Heap.MadeExcOf s.heap h' e (.ref C) vs->X.xe (.ref e) {s with heap:=h'}
 tr:G.tr=true->Lx Z CX cl xp X
 Ly:∃ E:XK,Passes CX X E/\∀ c H,ex c->xp E H c
 Ko:∀ (outer:List Env) (H:Hp) (s:Shared) (E:XK) (e:Value) (s':Shared),Bw X.prog X.w H s.heap->(∀ b∈BZ outer,H b=none)->CX outer (az s.heap H) s E e s'->CX outer H s E e s'
 Kp:∀ (H:Hp) (outer:List Env) (s:Shared) (e:Value) (s':Shared),¬ CX outer H s (fun _ _ _=>False) e s'
section
variable {P:Program}{w:World}{H H':Hp}{h:Heap}{K:PySem.W.Frag}{Fc F':Addr->Prop}
theorem gf {vs:List V}{ds:List D}(x:Bw P w H h)(m:AY K Fc H vs ds):AY K (fun a=>Fc a/\az h H a≠none) (az h H) vs ds:=by
 refine(m.step (S':=Fc) (H':=az h H) (fun a xs f r=>⟨f,?_⟩) fun a xs r=>?_).DK
 ·rcases r with r|⟨o,r⟩
  ·obtain⟨ob,he⟩:=(x a _ r).at
   refine .inr ⟨ob,?_⟩
   unfold az
   rw[r]
   cases xs with
   | l ys=>show (h.get? a).map _=_;rw[he];rfl
   | d ys=>show (h.get? a).map _=_;rw[he];rfl
  ·refine .inr ⟨o,?_⟩
   unfold az
   rw[r]
   cases xs<;>rfl
 ·cases xs with
  | inl xs=>
   rcases r with (r|⟨o,r⟩)|r
   ·refine .inl (.inl ?_)
    unfold az
    rw[r]
   ·refine .inl (.inr ⟨o,?_⟩)
    unfold az
    rw[r]
    rfl
   ·exact .inr r
  | inr c=>
   obtain⟨C,o,vs,h0,h1,h2,h3⟩:=r
   refine⟨C,o,vs,h0,h1,?_,h3⟩
   unfold az
   rw[h2]
   rfl
theorem il (x:Bw P w H h)(p:Dm h (az h H) H'){a:Addr}(n:az h H a=none)(e:H' a≠none):H a=none:=by
 cases q:H a with
 | none=>rfl
 | some o=>
  obtain⟨ob,he⟩:=(x a o q).at
  exact absurd (p.free a ob he n) e
theorem dG {v:V}{d:D}{fv:List Addr}(x:Bw P w H h)(Bh:C8 Fc H)(p:Dm h (az h H) H')(o:Out K (fun a=>Fc a/\az h H a≠none) (az h H) F' H' v d fv):Out K Fc H (fun a=>Fc a∨F' a) (bS H H') v d fv:=by
 have new:∀ a∈fv,H a=none:=fun a ha=>il x p (o.new a ha) (by obtain⟨_,xs,e⟩:=o.rep.own a ha;rw[e];simp)
 refine⟨fun a ha=>?_,ij,o.rep.step (fun a xs f r=>⟨.inr f,?_⟩) (fun a xs r=>?_) fun a ha nf hn=>⟨fun z=>?_,res_none (new a ha)⟩,o.BG,new,fun a ha=>.inl ha,fun a ha=>?_⟩
 ·cases q:H a with
  | some u=>rw[res_some q];simp
  | none=>
   rw[res_none q]
   rcases ha with ha|ha
   ·exact absurd q (Bh a ha)
   ·exact o.Bh a ha
 ·cases q:H a with
  | none=>unfold Rd;rw[res_none q];exact r
  | some u=>
   unfold Rd
   rw[res_some q]
   cases fu x p q with
   | lst _ z=>
    cases xs with
    | l ys=>
     rcases r with r|⟨o',r⟩
     ·rw[z] at r;cases r
     ·rw[z] at r;cases r;exact .inl rfl
    | d ys=>rcases r with r|⟨o',r⟩<;>(rw[z] at r;cases r)
   | dK _ z=>
    cases xs with
    | d ys=>
     rcases r with r|⟨o',r⟩
     ·rw[z] at r;cases r
     ·rw[z] at r;cases r;exact .inl rfl
    | l ys=>rcases r with r|⟨o',r⟩<;>(rw[z] at r;cases r)
   | tup z=>cases xs<;>rcases r with r|⟨o',r⟩<;>(rw[z] at r;cases r)
   | Bb _ z=>
    cases xs with
    | l ys=>
     rcases r with r|⟨o',r⟩
     ·rw[z] at r;cases r
     ·rw[z] at r;cases r;exact .inr ⟨_,rfl⟩
    | d ys=>
     rcases r with r|⟨o',r⟩
     ·rw[z] at r;cases r
     ·rw[z] at r;cases r;exact .inr ⟨_,rfl⟩
   | Gq _ _ z _ _ _=>exact absurd z r.some
 ·cases xs with
  | inl xs=>
   rcases r with r|r
   ·refine .inl ?_
    cases q:H a with
    | none=>unfold Rd;rw[res_none q];exact r
    | some u=>
     unfold Rd
     rw[res_some q]
     cases fu x p q with
     | lst _ z=>rcases r with r|⟨o',r⟩<;>(rw[z] at r;cases r)
     | dK _ z=>rcases r with r|⟨o',r⟩<;>(rw[z] at r;cases r)
     | tup z=>
      rcases r with r|⟨o',r⟩
      ·rw[z] at r;cases r;exact .inl rfl
      ·rw[z] at r;cases r
     | Bb _ z=>
      rcases r with r|⟨o',r⟩
      ·rw[z] at r;cases r
      ·rw[z] at r;cases r;exact .inr ⟨_,rfl⟩
     | Gq _ _ z _ _ _=>exact absurd z r.some
   ·exact .inr r
  | inr c=>
   obtain⟨C,ob,vs,h0,h1,h2,h3⟩:=r
   refine⟨C,ob,vs,h0,h1,?_,h3⟩
   cases q:H a with
   | none=>rw[res_none q];exact h2
   | some u=>
    rw[res_some q]
    cases fu x p q with
    | lst _ z=>rw[z] at h2;cases h2
    | dK _ z=>rw[z] at h2;cases h2
    | tup z=>rw[z] at h2;cases h2
    | Bb _ z=>rw[z] at h2;cases h2;rfl
    | Gq _ _ z _ _ _=>rw[z] at h2;cases h2
 ·rcases z with z|z
  ·exact Bh a z (new a ha)
  ·exact nf z
 ·rcases ha with ha|ha
  ·exact .inl ha
  ·rcases o.out a ha with z|z
   ·exact .inl z.1
   ·exact .inr (il x p z (o.Bh a ha))
end
section
variable {X:Cx}{CX:Ci}{cl:Nat->List D->Res D}{xp:XK->Hp->Str->Prop}
theorem Inv.Jw {pins:List (Addr×Obj)}{σ:St}{H:Hp}{s:Shared}(I:Inv X pins σ H s):DX X.prog X.w X.K X.mg X.base X.A X.stack s (az s.heap H):=
 ⟨I.CT.frames,I.CT.mod,fun b o e=>⟨(I.CT.bs b o e).1,aY (I.CT.bs b o e).2⟩,I.CT.Fh,I.CT.Ce,fun b hb=>aY (I.CT.D9 b hb),jd I.Be,I.CT.bare⟩
theorem jN {k:Nat}{f:Nat}{fa:Addr}{fd:FuncData}{ps:List Str}{E:XK}{pins:List (Addr×Obj)}{σ:St}{H:Hp}{s:Shared}{Q:VK}{us:List Value}{vs:List V}{ds:List D}{Fc:Addr->Prop}
  (F:Cp X.prog X.w X.K X.mg X.base CX k fa fd ps (G4 X.K cl xp f ps)) (hr:B1 k X.A) (hb:Binds X.K fd ps []) (hx:Passes CX X E)
  (hh:∀ (outer:List Env) (H:Hp) (s:Shared) (E:XK) (e:Value) (s':Shared),Bw X.prog X.w H s.heap->(∀ b∈BZ outer,H b=none)->CX outer (az s.heap H) s E e s'->CX outer H s E e s')
  (I:Inv X pins σ H s) (r:Vals vs us) (hl:vs.length=ps.length) (Bh:C8 Fc H) (m:AY X.K Fc H vs ds)
  (q:AZ (xp E (az s.heap H)) (cl f (A6 ds)) fun d=>∀ v H' F' fv,Out X.K Fc H F' H' v d fv->Q v H'):wpAny (model X.prog X.w) X.A (call (.ref fa) us) (EP X pins σ Q) X.xe s:=by
 have DA:G4 X.K cl xp f ps vs (az s.heap H) (fun v H'=>Dm s.heap (az s.heap H) H'->Q v (bS H H')) E:=
  ⟨hl,mI _ _,_,ds,fun a h=>h.2,gf I.Be m,q.mono fun d hd v H' F' fv o p=>hd v _ _ fv (dG I.Be Bh p o)⟩
 have Ki:(us++([]:List Value)).length=ps.length:=by rw[List.append_nil,<- r.length];exact hl
 have bd:=hb s us I.Df Ki
 rw[List.append_nil] at bd
 refine wpAny_call (codeAny_mono (F.run X.A X.stack s (az s.heap H) ⟨us,[]⟩ us vs _ E hr I.Jw bd r DA) fun r' s' hq=>?_)
 cases r' with
 | error e=>exact hx pins σ H s e s' I (hh X.stack H s E e s' I.Be I.CT.D9 hq)
 | ok fl=>
  cases fl with
  | ret u=>
   obtain⟨v,H',a1,a2,a3,a4,a5,a6⟩:=hq
   exact I.after (Q:=Q) ⟨v,bS H H',a1,a2,je I.Be a3,f9 I.Be a4 (cT a3) (fs:=BZ X.stack) (fun b o _ e n f=>a3.keep b o e n f (by simp)) I.CT.D9,a5,a6 (cT a3)⟩
  | next=>exact False.elim hq
  | brk=>exact False.elim hq
  | cont=>exact False.elim hq
end
def Slots (K:PySem.W.Frag)(S:Addr->Prop)(H:Hp)(σ:St)(τ:Ev)(is:List Nat):Prop:=∀ i∈is,∀ d,ah τ i=some d->∃ v,σ[i]? = some (some v)/\A1 K S H v d
theorem Slots.sub {K:PySem.W.Frag}{S:Addr->Prop}{H:Hp}{σ:St}{τ:Ev}{is js:List Nat}(h:Slots K S H σ τ is)(s:∀ i∈js,i∈is):Slots K S H σ τ js:=fun i hi d e=>h i (s i hi) d e
theorem Slots.left {K:PySem.W.Frag}{S:Addr->Prop}{H:Hp}{σ:St}{τ:Ev}{is js:List Nat}(h:Slots K S H σ τ (is++js)):Slots K S H σ τ is:=h.sub fun _ hi=>List.mem_append_left _ hi
theorem Slots.right {K:PySem.W.Frag}{S:Addr->Prop}{H:Hp}{σ:St}{τ:Ev}{is js:List Nat}(h:Slots K S H σ τ (is++js)):Slots K S H σ τ js:=h.sub fun _ hi=>List.mem_append_right _ hi
theorem Slots.go {K:PySem.W.Frag}{S:Addr->Prop}{H H':Hp}{σ:St}{τ:Ev}{is:List Nat}(h:Slots K S H σ τ is)(e:aq H H'):Slots K (nw S H) H' σ τ is:=fun i hi d z=>by
 obtain⟨v,h1,h2⟩:=h i hi d z
 exact⟨v,h1,h2.mono (fun _=>.inl) e⟩
def RD (K:PySem.W.Frag)(ex:Str->Prop)(is:List Nat)(f:Ev->Res D):TE:=fun σ H Q=>∃ S τ,Slots K S H σ τ is/\AZ ex (f τ) (Kk K S H Q)
def RT (K:PySem.W.Frag)(ex:Str->Prop)(is:List Nat)(f:Ev->Res Bool):TT:=fun σ H Q=>∃ S τ,Slots K S H σ τ is/\AZ ex (f τ) fun b=>∀ H',aq H H'->Q b H'
def RA (K:PySem.W.Frag)(ex:Str->Prop)(is:List Nat)(f:Ev->Res (List D)):TA:=fun σ H Q=>∃ S τ,Slots K S H σ τ is/\AZ ex (f τ) fun ds=>∀ vs H',aq H H'->AY K (nw S H) H' vs ds->Q vs H'
noncomputable def Iz (K:PySem.W.Frag)(ex:Str->Prop)(is:List Nat)(f:Ev->Res (Option Int)):TO:=fun σ H Q=>∃ S τ,Slots K S H σ τ is/\AZ ex (f τ) fun o=>∀ H',aq H H'->Q o H'
def WS (K:PySem.W.Frag)(S:Addr->Prop)(H:Hp)(k:Zp.Kq)(a:Addr)(xs:List V):Prop:=match k with
 | .l=>(S a/\Rd H a (.lst xs))∨KL K a xs
 | .t=>Cv K H a xs
theorem WS.sq {K:PySem.W.Frag}{S:Addr->Prop}{H:Hp}{k:Zp.Kq}{a:Addr}{xs:List V}(h:WS K S H k a xs):EK K H k a xs:=by
 cases k with
 | l=>exact h.elim (fun z=>.inl z.2) fun z=>z.sq
 | t=>exact h
inductive CH (K:PySem.W.Frag)(S:Addr->Prop)(H:Hp):It->List D->Prop where
 | lst {a:Addr}{xs:List V}{ds:List D}:S a->Rd H a (.lst xs)->AY K S H xs ds->CH K S H (J5 K a) ds
 | lstK {a:Addr}{xs:List V}{ds:List D}:KL K a xs->AY K S H xs ds->CH K S H (J5 K a) ds
 | tup {a:Addr}{xs:List V}{ds:List D}:Cv K H a xs->AY K S H xs ds->CH K S H (KW K a) ds
 | EI (lo hi:Int):CH K S H (IU lo (hi - lo).toNat) (bE lo hi)
 | str (x:Str):CH K S H (Lv x) (bo x)
 | zip {p q:Zp.Kq}{l m:Addr}{xs ys:List V}{ds es:List D}:WS K S H p l xs->WS K S H q m ys->AY K S H xs ds->AY K S H ys es->CH K S H (Lj K p q l m) (dq ds es)
 | DR {l:Addr}{xs:List V}{ds:List D}:WS K S H .l l xs->AY K S H xs ds->CH K S H (Lm K l) (fY ds)
 | rev {l:Addr}{xs:List V}{ds:List D}:WS K S H .l l xs->AY K S H xs ds->CH K S H (Ln K l xs.length) ds.reverse
def RI (K:PySem.W.Frag)(ex:Str->Prop)(is:List Nat)(f:Ev->Res (List D)):TI:=fun σ H R=>∃ S τ,Slots K S H σ τ is/\AZ ex (f τ) fun ds=>∀ J H',aq H H'->CH K (nw S H) H' J ds->R J H'
theorem fw {S:Addr->Prop}{H H1:Hp}(e:aq H H1):∀ a,nw (nw S H) H1 a->nw S H a:=fun a h=>by
 rcases h with h|h
 ·exact h
 ·exact .inr (e.free h)
section
variable {Z:Sg}{CX:Ci}{cl:Nat->List D->Res D}{xp:XK->Hp->Str->Prop}{X:Cx}{ex:Str->Prop}{G:Gm}
theorem Kk.fit {K:PySem.W.Frag}{S:Addr->Prop}{H H1:Hp}{Q:VK}{d:D}(e:aq H H1)(h:Kk K S H Q d):Kk K (nw S H) H1 Q d:=fun w H' e' m=>h w H' (e.trans e') (m.mono (fw e) (.refl _))
theorem ip (g:Bt Z CX cl xp X ex G){n:Nat}{x:Str}(h:bz Z G n x=true):Gl X x/\Z.name n=some x/\x≠"__name__"/\(x == ("__debug__" : Str))=false:=by
 unfold bz at h
 rw[Bool.and_eq_true] at h
 have e:Z.name n=some x:=eq_of_beq h.1
 exact⟨g.gl n (by simpa using h.2) x e,e,g.Gu n x e⟩
theorem rT (Z:Sg){n:Nat}{x:Str}(h:aV[n]? = some x):Z.name n=some x:=by
 unfold Sg.name
 rw[List.getElem?_append_left (List.getElem?_eq_some_iff.mp h).1]
 exact h
theorem dC (g:Bt Z CX cl xp X ex G){n:Nat}{x:Str}(h:aV[n]? = some x)(hc:G.gl.contains n=true):Gl X x/\X.mg x=none/\x≠"__name__"/\(x == ("__debug__" : Str))=false:=
 ⟨g.gl n (by simpa using hc) x (rT Z h),g.blt n x h,g.Gu n x (rT Z h)⟩
theorem ai {e:Expr}(h:notStar e=true)(es:List Expr)(env:Env):starEach (e::es) env=(false,eval e env)::starEach es env:=by
 cases e<;>first|rfl|cases h
theorem bq (Z:Sg)(G:Gm):∀ {es:List IR}{l:List Expr} (p:Pos) (env:Env),aF Z G es l=true->(backTo p (starEach l env)).any (·.1)=false
 | [],[],_,_,_=>rfl
 | a::es,e::l,p,env,h=>by
  have h':(notStar e&&A9 Z G a e&&aF Z G es l)=true:=h
  simp only[Bool.and_eq_true] at h'
  rw[ai h'.1.1]
  have ih:=bq Z G (es:=es) (l:=l) p env h'.2
  show (false||(backTo p (starEach l env)).any (·.1))=false
  rw[ih]
  rfl
 | [],_::_,_,_,h=>by cases h
 | _::_,[],_,_,h=>by cases h
theorem mK {d:D}{v:V}(h:∀ S H,A1 X.K S H v d){σ:St}{H:Hp}{Q:VK}{is:List Nat}(q:RD X.K ex is (fun _=>.ok d) σ H Q):Q v H:=by
 obtain⟨S,τ,_,q⟩:=q
 exact q.ok _ _ (.refl _) (h _ _)
theorem xI {e:Expr}{is:List Nat}{f:Ev->Res D}(h:PE X e (RD X.K ex is f))(he:∀ whole,isTrue e X.env whole=(do let v <- whole;standAt e.pos;holding [v] (truthy v))):PT X e (RT X.K ex is fun τ=>j' (f τ) aE):=by
 intro pins s σ H Q I hw
 obtain⟨S,τ,hs,hw⟩:=hw
 refine isTrue_plain (Bg (h pins s σ H (fun v H'=>∃ d,aq H H'/\A1 X.K (nw S H) H' v d/\AZ ex (aE d) fun b=>∀ H',aq H H'->Q b H') I ⟨S,τ,hs,(AZ.j' hw).mono fun d hd v H' e m=>⟨d,e,m,hd⟩⟩) fun v s1 ⟨x,H1,I1,r1,d,e,m,hd⟩=>?_) (he _)
 exact dF I1 r1 m (hd.mono fun b z=>z H1 e)
end
section
variable {Z:Sg}{CX:Ci}{cl:Nat->List D->Res D}{xp:XK->Hp->Str->Prop}{X:Cx}{ex:Str->Prop}{G:Gm}{K:PySem.W.Frag}{S:Addr->Prop}{H H1:Hp}{σ:St}{τ:Ev}
theorem aH {is:List Nat}{f:Ev->Res D}{Kt:D->Prop}{Q:VK}(e:aq H H1)(hs:Slots K S H σ τ is)(h:AZ ex (f τ) Kt)(k:∀ x v H2,aq H H2->aq H1 H2->A1 K (nw S H) H2 v x->Kt x->Q v H2):RD K ex is f σ H1 Q:=
 ⟨nw S H,τ,hs.go e,h.mono fun x hx v H2 e2 m=>k x v H2 (e.trans e2) e2 (m.mono (fw e) (.refl _)) hx⟩
theorem cU {is:List Nat}{f:Ev->Res Bool}{Kt:Bool->Prop}{Q:Bool->Hp->Prop}(e:aq H H1)(hs:Slots K S H σ τ is)(h:AZ ex (f τ) Kt)(k:∀ x H2,aq H H2->aq H1 H2->Kt x->Q x H2):RT K ex is f σ H1 Q:=
 ⟨nw S H,τ,hs.go e,h.mono fun x hx H2 e2=>k x H2 (e.trans e2) e2 hx⟩
theorem ji {is:List Nat}{f:Ev->Res (List D)}{Kt:List D->Prop}{Q:List V->Hp->Prop}(e:aq H H1)(hs:Slots K S H σ τ is)(h:AZ ex (f τ) Kt)(k:∀ x v H2,aq H H2->aq H1 H2->AY K (nw S H) H2 v x->Kt x->Q v H2):RA K ex is f σ H1 Q:=
 ⟨nw S H,τ,hs.go e,h.mono fun x hx v H2 e2 m=>k x v H2 (e.trans e2) e2 (m.mono (fw e) (.refl _)) hx⟩
theorem qE {is:List Nat}{f:Ev->Res (Option Int)}{Kt:Option Int->Prop}{Q:Option Int->Hp->Prop}(e:aq H H1)(hs:Slots K S H σ τ is)(h:AZ ex (f τ) Kt)(k:∀ x H2,aq H H2->aq H1 H2->Kt x->Q x H2):Iz K ex is f σ H1 Q:=
 ⟨nw S H,τ,hs.go e,h.mono fun x hx H2 e2=>k x H2 (e.trans e2) e2 hx⟩
theorem A1.later {v:V}{d:D}{H2:Hp}(h:A1 K (L2.nw S H) H1 v d)(e:aq H1 H2):A1 K (L2.nw S H) H2 v d:=h.mono (fun _ z=>z) e
theorem AY.later {v:List V}{d:List D}{H2:Hp}(h:AY K (L2.nw S H) H1 v d)(e:aq H1 H2):AY K (L2.nw S H) H2 v d:=h.mono (fun _ z=>z) e
theorem Pb (g:Bt Z CX cl xp X ex G){i:Nat}{x:Str}{pos:Pos}(h:cg G i x=true):PE X (.Name x pos) (RD X.K ex [i] (A3 cl (.v i))):=by
 unfold cg at h
 rw[Bool.and_eq_true] at h
 have hx:G.N[i]? = some x:=eq_of_beq h.1
 have hk:=g.kd i x hx
 have hv:IK X.env.scope x:=by
  have h2:=h.2
  rw[Bool.or_eq_true,Bool.or_eq_true] at h2
  rcases h2 with (h2|h2)|h2
  ·exact .inl (hk.trans (eq_of_beq h2))
  ·exact .inr (.inl (hk.trans (eq_of_beq h2)))
  ·exact .inr (.inr (hk.trans (eq_of_beq h2)))
 refine ax (lI (i:=i) (by rw[g.N];exact hx) hv (g.Fm i x hx).1 (g.Fm i x hx).2) fun σ H Q q=>?_
 obtain⟨S,τ,hs,q⟩:=q
 rw[xD] at q
 cases z:ah τ i with
 | none=>rw[z] at q;exact q.no.elim
 | some d=>
  rw[z] at q
  obtain⟨v,h1,h2⟩:=hs i (by simp) d z
  exact⟨v,h1,q.ok _ _ (.refl _) h2.nw⟩
theorem Pc {d:D}{k:Const}{j:Nat}{pos:Pos}(h:xH d k=true):PE X (.Constant k j pos) (RD X.K ex [] (A3 cl (.c d))):=by
 cases d with
 | A8=>
  cases k with
  | none=>exact ax uG fun σ H Q q=>mK (fun _ _=>.A8) q
  | _=>cases h
 | bl b=>
  cases k with
  | bool b'=>
   have e:b=b':=eq_of_beq h
   subst e
   exact ax wU fun σ H Q q=>mK (fun _ _=>.bl _) q
  | _=>cases h
 | int b=>
  cases k with
  | int b'=>
   have e:b=b':=eq_of_beq h
   subst e
   exact ax uF fun σ H Q q=>mK (fun _ _=>.int _) q
  | _=>cases h
 | str b=>
  cases k with
  | str b'=>
   have e:b=b':=eq_of_beq h
   subst e
   exact ax uH fun σ H Q q=>mK (fun _ _=>.str _) q
  | _=>cases h
 | tup _=>cases k<;>cases h
 | lst _ _=>cases k<;>cases h
 | exc _=>cases k<;>cases h
 | A0 o ks ds=>cases k<;>cases h
theorem Pd (g:Bt Z CX cl xp X ex G){n:Nat}{d:D}{x:Str}{pos:Pos}(h:bz Z G n x=true)(hk:Z.Iq.any (fun p=>p.1 == n&&lp p.2 d)=true):PE X (.Name x pos) (RD X.K ex [] (A3 cl (.g n d))):=by
 obtain⟨h1,h2,h3,h4⟩:=ip g h
 rw[List.any_eq_true] at hk
 obtain⟨⟨m,d'⟩,hm,hk⟩:=hk
 rw[Bool.and_eq_true] at hk
 have e1:m=n:=eq_of_beq hk.1
 have e2:d'=d:=jM hk.2
 subst e1 e2
 obtain⟨u,v,hu,r,hr⟩:=g.cst m d' x hm h2
 exact ax (pU h1 hu r h4) fun σ H Q q=>mK hr q
theorem xJ {op:EZ}{a b:Expr}{pos:Pos}{va vb:List Nat}{fa fb:Ev->Res D}(ha:PE X a (RD X.K ex va fa))(hb:PE X b (RD X.K ex vb fb)) :
  PE X (.BinOp a (FR op) b pos) (RD X.K ex (va++vb) fun τ=>j' (fa τ) fun x=>j' (fb τ) fun y=>C1 op x y):=by
 refine ax (lU (vw (ex:=ex) op) ha hb) fun σ H Q ⟨S,τ,hs,q⟩=>?_
 refine aH (.refl _) hs.left (AZ.j' q) fun x v H1 e1 _ m1 q1=>?_
 refine aH e1 hs.right (AZ.j' q1) fun y w H2 e2 BK m2 q2=>?_
 exact⟨nw S H,x,y,m1.later BK,m2,q2.mono fun d hd=>hd.fit e2⟩
theorem xK (g:Bt Z CX cl xp X ex G){op:C6}{a b:Expr}{pos:Pos}{va vb:List Nat}{fa fb:Ev->Res D}(ha:PE X a (RD X.K ex va fa))(hb:PE X b (RD X.K ex vb fb))(hm:behindInMarks (Dl op) b=false) :
  PE X (.Compare a [Dl op] [b] pos) (RD X.K ex (va++vb) fun τ=>j' (fa τ) fun x=>j' (fb τ) fun y=>j' (Cj op x y) fun r=>.ok (.bl r))/\
  PT X (.Compare a [Dl op] [b] pos) (RT X.K ex (va++vb) fun τ=>j' (j' (fa τ) fun x=>j' (fb τ) fun y=>j' (Cj op x y) fun r=>.ok (.bl r)) aE):=by
 refine⟨ax (p6 (cH (ex:=ex) g.un op) ha hb hm) fun σ H Q ⟨S,τ,hs,q⟩=>?_,cF (jz (cH (ex:=ex) g.un op) ha hb hm) fun σ H Q ⟨S,τ,hs,q⟩=>?_⟩
 ·refine aH (.refl _) hs.left (AZ.j' q) fun x v H1 e1 _ m1 q1=>?_
  refine aH e1 hs.right (AZ.j' q1) fun y w H2 e2 BK m2 q2=>?_
  exact⟨nw S H,x,y,m1.later BK,m2,(AZ.j' q2).mono fun d hd=>hd.ok _ _ e2 (.bl _)⟩
 ·refine aH (.refl _) hs.left (AZ.j' (AZ.j' q)) fun x v H1 e1 _ m1 q1=>?_
  refine aH e1 hs.right (AZ.j' q1) fun y w H2 e2 BK m2 q2=>?_
  exact⟨nw S H,x,y,m1.later BK,m2,(AZ.j' q2).mono fun d hd=>⟨d,rfl,hd.ok.ok H2 e2⟩⟩
theorem qF (g:Bt Z CX cl xp X ex G){op BH:C6}{a b c:Expr}{pos:Pos}{va vb vc:List Nat}{fa fb fc:Ev->Res D}(ha:PE X a (RD X.K ex va fa))(hb:PE X b (RD X.K ex vb fb))(hc:PE X c (RD X.K ex vc fc))
  (hm:lastMarks [Dl op,Dl BH] [b,c]=false) :
  PE X (.Compare a [Dl op,Dl BH] [b,c] pos) (RD X.K ex (va++vb++vc) fun τ=>j' (fa τ) fun x=>j' (fb τ) fun y=>j' (Cj op x y) fun r=>if r=true then j' (fc τ) fun z=>j' (Cj BH y z) fun r'=>.ok (.bl r') else .ok (.bl false))/\
  PT X (.Compare a [Dl op,Dl BH] [b,c] pos) (RT X.K ex (va++vb++vc) fun τ=>j' (j' (fa τ) fun x=>j' (fb τ) fun y=>j' (Cj op x y) fun r=>if r=true then j' (fc τ) fun z=>j' (Cj BH y z) fun r'=>.ok (.bl r') else .ok (.bl false)) aE):=by
 refine⟨ax (lW (cH (ex:=ex) g.un op) (cH (ex:=ex) g.un BH) ha hb hc hm) fun σ H Q ⟨S,τ,hs,q⟩=>?_,cF (lX (cH (ex:=ex) g.un op) (cH (ex:=ex) g.un BH) ha hb hc hm) fun σ H Q ⟨S,τ,hs,q⟩=>?_⟩
 ·refine aH (.refl _) hs.left.left (AZ.j' q) fun x v H1 e1 _ m1 q1=>?_
  refine aH e1 hs.left.right (AZ.j' q1) fun y w H2 e2 BK m2 q2=>?_
  refine⟨nw S H,x,y,m1.later BK,m2,(AZ.j' q2).mono fun d hd=>⟨d,rfl,?_⟩⟩
  cases d with
  | false=>rw[if_neg Bool.false_ne_true] at hd ⊢;exact hd.ok _ _ e2 (.bl _)
  | true=>
   rw[if_pos rfl] at hd ⊢
   refine aH e2 hs.right (AZ.j' hd) fun z w' H3 e3 Ek m3 q3=>?_
   exact⟨nw S H,y,z,m2.later Ek,m3,(AZ.j' q3).mono fun d hd=>hd.ok _ _ e3 (.bl _)⟩
 ·refine aH (.refl _) hs.left.left (AZ.j' (AZ.j' q)) fun x v H1 e1 _ m1 q1=>?_
  refine aH e1 hs.left.right (AZ.j' q1) fun y w H2 e2 BK m2 q2=>?_
  refine⟨nw S H,x,y,m1.later BK,m2,(AZ.j' q2).mono fun d hd=>⟨d,rfl,?_⟩⟩
  cases d with
  | false=>rw[if_neg Bool.false_ne_true] at hd ⊢;exact⟨false,rfl,hd.ok.ok _ e2⟩
  | true=>
   rw[if_pos rfl] at hd ⊢
   refine aH e2 hs.right (AZ.j' hd) fun z w' H3 e3 Ek m3 q3=>?_
   exact⟨nw S H,y,z,m2.later Ek,m3,(AZ.j' q3).mono fun d hd=>⟨d,rfl,hd.ok.ok _ e3⟩⟩
theorem rU {a b:Expr}{rest:List Expr}{pos:Pos}{va vb:List Nat}{fa fb:Ev->Res D}(ha:PE X a (RD X.K ex va fa))(hb:PE X (.BoolOp .And (b::rest) pos) (RD X.K ex vb fb)) :
  PE X (.BoolOp .And (a::b::rest) pos) (RD X.K ex (va++vb) fun τ=>j' (fa τ) fun x=>j' (aE x) fun r=>if r=true then fb τ else .ok x):=by
 intro pins s σ H Q I h
 obtain⟨S,τ,hs,q⟩:=h
 refine BoolOp_and (Bg (ha pins s σ H (fun v H'=>∃ d,aq H H'/\A1 X.K (nw S H) H' v d/\_) I (aH (.refl _) hs.left (AZ.j' q) fun x v H1 e1 _ m1 q1=>⟨x,e1,m1,q1⟩)) fun v s1 ⟨x,H1,I1,r1,d,e1,m1,q1⟩=>?_)
 refine Bg (dF (Q:=fun b H'=>H'=H1/\AZ ex (if b=true then fb τ else .ok d) (Kk X.K S H Q)) I1 r1 m1 ((AZ.j' q1).mono fun b z=>⟨rfl,z⟩)) fun c s2 ⟨H2,I2,e2,q2⟩=>?_
 subst e2
 cases c with
 | true=>
  rw[if_pos rfl] at q2 ⊢
  exact hb pins s2 σ _ Q I2 (aH e1 hs.right q2 fun y w H3 e3 _ m3 q3=>q3 _ _ e3 m3)
 | false=>
  rw[if_neg Bool.false_ne_true] at q2 ⊢
  exact⟨x,_,I2,r1,q2.ok _ _ e1 m1⟩
theorem xM {a b:Expr}{rest:List Expr}{pos:Pos}{va vb:List Nat}{fa fb:Ev->Res D}(ha:PE X a (RD X.K ex va fa))(hb:PE X (.BoolOp .Or (b::rest) pos) (RD X.K ex vb fb)) :
  PE X (.BoolOp .Or (a::b::rest) pos) (RD X.K ex (va++vb) fun τ=>j' (fa τ) fun x=>j' (aE x) fun r=>if r=true then .ok x else fb τ):=by
 intro pins s σ H Q I h
 obtain⟨S,τ,hs,q⟩:=h
 refine BoolOp_or (Bg (ha pins s σ H (fun v H'=>∃ d,aq H H'/\A1 X.K (nw S H) H' v d/\_) I (aH (.refl _) hs.left (AZ.j' q) fun x v H1 e1 _ m1 q1=>⟨x,e1,m1,q1⟩)) fun v s1 ⟨x,H1,I1,r1,d,e1,m1,q1⟩=>?_)
 refine Bg (dF (Q:=fun b H'=>H'=H1/\AZ ex (if b=true then .ok d else fb τ) (Kk X.K S H Q)) I1 r1 m1 ((AZ.j' q1).mono fun b z=>⟨rfl,z⟩)) fun c s2 ⟨H2,I2,e2,q2⟩=>?_
 subst e2
 cases c with
 | false=>
  rw[if_neg Bool.false_ne_true] at q2 ⊢
  exact hb pins s2 σ _ Q I2 (aH e1 hs.right q2 fun y w H3 e3 _ m3 q3=>q3 _ _ e3 m3)
 | true=>
  rw[if_pos rfl] at q2 ⊢
  exact⟨x,_,I2,r1,q2.ok _ _ e1 m1⟩
theorem xN {a:Expr}{pos:Pos}{va:List Nat}{fa:Ev->Res D}(ha:PE X a (RD X.K ex va fa))(ht:PT X a (RT X.K ex va fun τ=>j' (fa τ) aE)) :
  PE X (.UnaryOp .Not a pos) (RD X.K ex va fun τ=>j' (fa τ) fun x=>j' (aE x) fun r=>.ok (.bl !r))/\PT X (.UnaryOp .Not a pos) (RT X.K ex va fun τ=>j' (j' (fa τ) fun x=>j' (aE x) fun r=>.ok (.bl !r)) aE):=by
 constructor
 ·intro pins s σ H Q I h
  obtain⟨S,τ,hs,q⟩:=h
  refine UnaryOp_ (Bg (ha pins s σ H (fun v H'=>∃ d,aq H H'/\A1 X.K (nw S H) H' v d/\_) I (aH (.refl _) hs (AZ.j' q) fun x v H1 e1 _ m1 q1=>⟨x,e1,m1,q1⟩)) fun v s1 ⟨x,H1,I1,r1,d,e1,m1,q1⟩=>?_)
  refine not_of (Bg (dF (Q:=fun b H'=>Q (.bl !b) H') I1 r1 m1 ((AZ.j' q1).mono fun b z=>z.ok _ _ e1 (.bl _))) fun c s2 ⟨H2,I2,q2⟩=>⟨.bl !c,H2,I2,rfl,q2⟩)
 ·refine cF (uK ht) fun σ H Q ⟨S,τ,hs,q⟩=>?_
  exact cU (.refl _) hs (AZ.mk ((AZ.j' (AZ.j' q)).mono fun x hx=>(AZ.j' hx).mono fun r hr=>hr.ok.ok)) fun x H2 e2 _ k=>k H2 e2
theorem mL {e:Expr}{pos:Pos}{op:BoolOp}{es:List Expr}{t:TT}(h:PT X (.BoolOp op es pos) t):PW X (.BoolOp op es pos) t:=fun _ pins s σ H Q I q=>h pins s σ H Q I q
theorem rV {a b:Expr}{rest:List Expr}{pos:Pos}{va vb:List Nat}{fa fb:Ev->Res D}(ha:PT X a (RT X.K ex va fun τ=>j' (fa τ) aE))(hb:PW X (.BoolOp .And (b::rest) pos) (RT X.K ex vb fun τ=>j' (fb τ) aE)) :
  PT X (.BoolOp .And (a::b::rest) pos) (RT X.K ex (va++vb) fun τ=>j' (j' (fa τ) fun x=>j' (aE x) fun r=>if r=true then fb τ else .ok x) aE):=by
 refine cF (uJ ha hb).pt fun σ H Q ⟨S,τ,hs,q⟩=>?_
 refine cU (.refl _) hs.left (Kt:=fun r=>AZ ex (if r=true then j' (fb τ) aE else .ok false) fun b=>∀ H',aq H H'->Q b H') (AZ.mk ((AZ.j' (AZ.j' q)).mono fun x hx=>(AZ.j' hx).eq.mono fun r hr=>?_)) fun r H2 e2 _ k=>?_
 ·obtain⟨er,hr⟩:=hr
  cases r with
  | true=>rw[if_pos rfl] at hr ⊢;exact AZ.mk hr
  | false=>
   rw[if_neg Bool.false_ne_true] at hr ⊢
   have GZ:AZ ex (aE x) _:=hr
   rw[er] at GZ
   exact GZ
 ·cases r with
  | true=>rw[if_pos rfl] at k ⊢;exact cU e2 hs.right k fun b H3 e3 _ z=>z H3 e3
  | false=>rw[if_neg Bool.false_ne_true] at k ⊢;exact k.ok H2 e2
theorem xO {a b:Expr}{rest:List Expr}{pos:Pos}{va vb:List Nat}{fa fb:Ev->Res D}(ha:PT X a (RT X.K ex va fun τ=>j' (fa τ) aE))(hb:PW X (.BoolOp .Or (b::rest) pos) (RT X.K ex vb fun τ=>j' (fb τ) aE)) :
  PT X (.BoolOp .Or (a::b::rest) pos) (RT X.K ex (va++vb) fun τ=>j' (j' (fa τ) fun x=>j' (aE x) fun r=>if r=true then .ok x else fb τ) aE):=by
 refine cF (wW ha hb).pt fun σ H Q ⟨S,τ,hs,q⟩=>?_
 refine cU (.refl _) hs.left (Kt:=fun r=>AZ ex (if r=true then .ok true else j' (fb τ) aE) fun b=>∀ H',aq H H'->Q b H') (AZ.mk ((AZ.j' (AZ.j' q)).mono fun x hx=>(AZ.j' hx).eq.mono fun r hr=>?_)) fun r H2 e2 _ k=>?_
 ·obtain⟨er,hr⟩:=hr
  cases r with
  | false=>rw[if_neg Bool.false_ne_true] at hr ⊢;exact AZ.mk hr
  | true=>
   rw[if_pos rfl] at hr ⊢
   have GZ:AZ ex (aE x) _:=hr
   rw[er] at GZ
   exact GZ
 ·cases r with
  | false=>rw[if_neg Bool.false_ne_true] at k ⊢;exact cU e2 hs.right k fun b H3 e3 _ z=>z H3 e3
  | true=>rw[if_pos rfl] at k ⊢;exact k.ok H2 e2
theorem xP {c a b:Expr}{pos:Pos}{vc va vb:List Nat}{fc fa fb:Ev->Res D}(hc:PT X c (RT X.K ex vc fun τ=>j' (fc τ) aE))(ha:PE X a (RD X.K ex va fa))(hb:PE X b (RD X.K ex vb fb))
  (ta:PT X a (RT X.K ex va fun τ=>j' (fa τ) aE)) (tb:PT X b (RT X.K ex vb fun τ=>j' (fb τ) aE)) :
  PE X (.IfExp c a b pos) (RD X.K ex (vc++va++vb) fun τ=>j' (fc τ) fun x=>j' (aE x) fun r=>if r=true then fa τ else fb τ)/\
  PT X (.IfExp c a b pos) (RT X.K ex (vc++va++vb) fun τ=>j' (j' (fc τ) fun x=>j' (aE x) fun r=>if r=true then fa τ else fb τ) aE):=by
 constructor
 ·refine ax (gL hc ha hb) fun σ H Q ⟨S,τ,hs,q⟩=>?_
  refine cU (.refl _) hs.left.left (AZ.mk ((AZ.j' q).mono fun x hx=>AZ.j' hx)) fun r H2 e2 _ k=>?_
  cases r with
  | true=>rw[if_pos rfl] at k ⊢;exact aH e2 hs.left.right k fun y w H3 e3 _ m3 q3=>q3 _ _ e3 m3
  | false=>rw[if_neg Bool.false_ne_true] at k ⊢;exact aH e2 hs.right k fun y w H3 e3 _ m3 q3=>q3 _ _ e3 m3
 ·intro pins s σ H Q I h
  obtain⟨S,τ,hs,q⟩:=h
  refine isTrue_IfExp (Bg (hc pins s σ H (fun r H2=>aq H H2/\AZ ex (if r=true then fa τ else fb τ) fun d=>AZ ex (aE d) fun b=>∀ H',aq H H'->Q b H') I
   (cU (.refl _) hs.left.left (AZ.mk ((AZ.j' (AZ.j' q)).mono fun x hx=>AZ.j' hx)) fun r H2 e2 _ k=>⟨e2,k⟩)) fun d s1 ⟨H1,I1,e1,q1⟩=>?_)
  cases d with
  | true=>rw[if_pos rfl] at q1;exact ta pins s1 σ H1 Q I1 (cU e1 hs.left.right (AZ.mk q1) fun b H3 e3 _ z=>z H3 e3)
  | false=>rw[if_neg Bool.false_ne_true] at q1;exact tb pins s1 σ H1 Q I1 (cU e1 hs.right (AZ.mk q1) fun b H3 e3 _ z=>z H3 e3)
theorem xQ {es:List Expr}{n:Nat}{pos:Pos}{va:List Nat}{fa:Ev->Res (List D)}(h:PA X es (RA X.K ex va fa)):PE X (.Tuple es n pos) (RD X.K ex va fun τ=>j' (fa τ) fun ds=>A4 (aU ds.length) (.ok (.tup ds))):=by
 refine ax (lZ h) fun σ H Q ⟨S,τ,hs,q⟩=>?_
 refine ji (.refl _) hs (AZ.j' q) fun ds vs H1 e1 _ m1 q1=>?_
 obtain⟨g,q1⟩:=AZ.A4 q1
 exact⟨by rw[m1.length];exact aZ g,fun p hp=>q1.ok _ _ (e1.trans (.upd hp)) ((vt hp m1).mono (fw e1) (.refl _))⟩
theorem xR {es:List Expr}{pos:Pos}{va:List Nat}{fa:Ev->Res (List D)}(h:PA X es (RA X.K ex va fa)):PE X (.List es pos) (RD X.K ex va fun τ=>j' (fa τ) fun ds=>A4 (aU ds.length) (.ok (.lst true ds))):=by
 refine ax (l0 h) fun σ H Q ⟨S,τ,hs,q⟩=>?_
 refine ji (.refl _) hs (AZ.j' q) fun ds vs H1 e1 _ m1 q1=>?_
 obtain⟨g,q1⟩:=AZ.A4 q1
 exact⟨by rw[m1.length];exact aZ g,fun p hp=>q1.ok _ _ (e1.trans (.upd hp)) ((qx hp m1).mono (fw e1) (.refl _))⟩
theorem xS {a b:Expr}{pos:Pos}{va vb:List Nat}{fa fb:Ev->Res D}(ha:PE X a (RD X.K ex va fa))(hb:PE X b (RD X.K ex vb fb))(hp:aI b=true) :
  PE X (.Subscript a b pos) (RD X.K ex (va++vb) fun τ=>j' (fa τ) fun x=>j' (fb τ) fun y=>au x y):=by
 refine ax (rN (jI (ex:=ex)) ha hb fun o i=>by cases b<;>first|rfl|cases hp) fun σ H Q ⟨S,τ,hs,q⟩=>?_
 refine aH (.refl _) hs.left (AZ.j' q) fun x v H1 e1 _ m1 q1=>?_
 refine aH e1 hs.right (AZ.j' q1) fun y w H2 e2 BK m2 q2=>?_
 exact⟨nw S H,x,y,m1.later BK,m2,q2.mono fun d hd=>hd.fit e2⟩
theorem AQ {a:Expr}{lo hi:Option Expr}{pos p2:Pos}{va vl vh:List Nat}{fa:Ev->Res D}{fl fh:Ev->Res (Option Int)}(ha:PE X a (RD X.K ex va fa))(hl:PO X lo (Iz X.K ex vl fl))(hh:PO X hi (Iz X.K ex vh fh)) :
  PE X (.Subscript a (.Slice lo hi none p2) pos) (RD X.K ex (va++vl++vh) fun τ=>j' (fa τ) fun x=>j' (fl τ) fun l=>j' (fh τ) fun h=>i4 x l h):=by
 refine ax (gR (qy (ex:=ex)) ha hl hh) fun σ H Q ⟨S,τ,hs,q⟩=>?_
 refine aH (.refl _) hs.left.left (AZ.j' q) fun x v H1 e1 _ m1 q1=>?_
 refine qE e1 hs.left.right (AZ.j' q1) fun l H2 e2 BK q2=>?_
 refine qE e2 hs.right (AZ.j' q2) fun h H3 e3 Ek q3=>?_
 exact⟨nw S H,x,m1.later (BK.trans Ek),q3.mono fun d hd=>hd.fit e3⟩
theorem s_call (g:Bt Z CX cl xp X ex G){f:Nat}{x:Str}{p pos:Pos}{es:List IR}{args:List Expr}(h1:bz Z G f x=true)(h2:Z.Gr G f=true)(Bu:aF Z G es args=true)(h:PA X args (RA X.K ex (aj es) (ay cl es))) :
  PE X (.Call (.Name x p) args [] pos) (RD X.K ex (aj es) fun τ=>j' (ay cl es τ) fun ds=>cl f (A6 ds)):=by
 obtain⟨k1,k2,k3,k4⟩:=ip g h1
 obtain⟨k,IA,fd,ps,hm,EB,hb,F,hr,hlen⟩:=(g.fns f (gb h2).1 (gb h2).2 x k2).ex
 obtain⟨E,hP,hE⟩:=g.Ly
 intro pins s σ H Q I q
 obtain⟨S,τ,hs,q⟩:=q
 have fin:∀ (us:List Value) (s1:Shared) (vs:List V) (H1:Hp) (ds:List D),Inv X pins σ H1 s1->Vals vs us->aq H H1->AY X.K (nw S H) H1 vs ds->AZ ex (cl f (A6 ds)) (Kk X.K S H Q)->wpAny (model X.prog X.w) X.A (call (.ref IA) us) (EP X pins σ Q) X.xe s1:=by
  intro us s1 vs H1 ds I1 r e m q1
  have hl:=hlen ex _ _ q1
  rw[bh] at hl
  refine jN F hr hb hP g.Ko I1 r (by rw[m.length];exact hl) (Fc:=fun a=>nw S H a/\H1 a≠none) (fun a z=>z.2) m.DK ?_
  cases z:cl f (A6 ds) with
  | error er=>
   rw[z] at q1
   cases er with
   | stuck=>exact q1.no.elim
   | exc c=>exact hE c _ q1
  | ok d=>
   rw[z] at q1
   intro v H' F' fv o
   refine q1.ok _ _ (e.trans o.same) (o.rep.read (fun a ha=>?_) fun a ha=>?_)
   ·rcases o.out a ha with z|z
    ·exact z.1
    ·exact .inr (e.free z)
   ·exact .inr (e.free (o.new a ha))
 refine wpAny_Call_Name_kw (cM I k1 hm ?_ k4)
 cases args with
 | nil=>
  cases es with
  | cons _ _=>cases Bu
  | nil=>
   exact PySem.W.callWith_K0 I.Df EB (fin [] s [] H [] I .nil (.refl _) .nil q)
 | cons e l=>
  cases es with
  | nil=>cases Bu
  | cons a es=>
   have Bv:(notStar e&&A9 Z G a e&&aF Z G es l)=true:=Bu
   simp only[Bool.and_eq_true] at Bv
   refine PySem.W.callWith_K (h₀:=X.base) I.ok.mod.HX EB (Bg (h pos pins s σ H (fun vs H1=>∃ ds,aq H H1/\AY X.K (nw S H) H1 vs ds/\AZ ex (cl f (A6 ds)) (Kk X.K S H Q)) I ⟨S,τ,hs,(AZ.j' q).mono fun ds hd vs H1 e m=>⟨ds,e,m,hd⟩⟩) fun us s1 ⟨vs,H1,I1,r,ds,e,m,q1⟩=>⟨I1.Df,?_⟩) (ai Bv.1.1 l X.env) (bq Z G (es:=es) pos X.env Bv.2)
   exact fin us s1 vs H1 ds I1 r e m q1
theorem AR (g:Bt Z CX cl xp X ex G){f:Bi}{p pos:Pos}{es:List IR}{a:Expr}{args:List Expr}(hg:G.G3 (jK f)=true)(Bu:aF Z G es (a::args)=true)(h:PA X (a::args) (RA X.K ex (aj es) (ay cl es))) :
  PE X (.Call (.Name (dv f) p) (a::args) [] pos) (RD X.K ex (aj es) fun τ=>j' (ay cl es τ) fun ds=>cy f ds):=by
 obtain⟨k1,k2,k3,k4⟩:=dC g (vA f) (vC hg)
 cases es with
 | nil=>cases Bu
 | cons b es=>
  have Bv:(notStar a&&A9 Z G b a&&aF Z G es args)=true:=Bu
  simp only[Bool.and_eq_true] at Bv
  have mono:∀ σ H Q,RD X.K ex (aj (b::es)) (fun τ=>j' (ay cl (b::es) τ) fun ds=>cy f ds) σ H Q->K1 (M6 X.K ex f) (RA X.K ex (aj (b::es)) (ay cl (b::es))) σ H Q:=by
   rintro σ H Q ⟨S,τ,hs,q⟩
   refine ji (.refl _) hs (AZ.j' q) fun ds vs H1 e1 _ m1 q1=>?_
   exact⟨nw S H,ds,m1,q1.mono fun d hd=>hd.fit e1⟩
  refine ax ?_ mono
  have hv:=qz f
  have hc:=qA (X:=X) (ex:=ex) (g.calm (vD hg)) f
  unfold mD at hv hc
  cases z:xF f with
  | true=>
   rw[z,if_pos rfl] at hv hc
   exact kR hc k1 k2 hv h k3 k4 (ai Bv.1.1 args X.env) (bq Z G (es:=es) pos X.env Bv.2)
  | false=>
   rw[z,if_neg Bool.false_ne_true] at hv hc
   exact gQ hc k1 k2 hv h k3 k4 (ai Bv.1.1 args X.env) (bq Z G (es:=es) pos X.env Bv.2)
noncomputable def Lz:Kd->V
 | .str=>.ty "str" | .int=>.ty "int" | .bool=>.ty "bool" | .list=>.ty "list" | .tuple=>.ty "tuple"
theorem jO (k:Kd):RelV (Lz k) (mE k):=by cases k<;>rfl
theorem mM (k:Kd):bP X (.builtin "isinstance") (fun xs H Q=>∃ S x d,xs=[x,Lz k]/\A1 X.K S H x d/\dm d=true/\Q (.bl (aW k d)) H):=by
 intro pins s σ H xs us Q I r h
 obtain⟨S,x,d,rfl,m,hn,q⟩:=h
 obtain⟨u,w',rfl,r1,r2⟩:=vals2 r
 have e:w'=mE k:=by
  have:=r2.abs
  have h2:=(jO k).abs
  cases k<;>(revert r2;intro r2;exact r2)
 subst e
 exact qD I r1 m k hn q
theorem xT (g:Bt Z CX cl xp X ex G){k:Kd}{e:Expr}{p p' pos:Pos}{va:List Nat}{fa:Ev->Res D}(hg:G.gl.contains 14=true)(hk:G.gl.contains (jL k)=true)(hn:notStar e=true)(ha:PE X e (RD X.K ex va fa)) :
  PE X (.Call (.Name "isinstance" p) [e,.Name (cI k) p'] [] pos) (RD X.K ex va fun τ=>j' (fa τ) fun x=>A4 (dm x) (.ok (.bl (aW k x)))):=by
 obtain⟨k1,k2,k3,k4⟩:=dC g (show aV[14]? = some ("isinstance" : Str) from rfl) hg
 obtain⟨j1,j2,j3,j4⟩:=dC g (vB k) hk
 have pa:PA X [e,.Name (cI k) p'] (cz (RD X.K ex va fa) (cz (tC (Lz k)) kP)):=aL ha (aL (pV j1 j2 (qB k) (jO k) j3 j4) bx rfl) (ai hn _ _)
 refine ax (gQ (mM k) k1 k2 PyProof.Rows.boot_isinstance pa k3 k4 (ai hn _ _) rfl) fun σ H Q ⟨S,τ,hs,q⟩=>?_
 refine aH (.refl _) hs (AZ.j' q) fun x v H1 e1 _ m1 q1=>?_
 obtain⟨gd,q1⟩:=AZ.A4 q1
 exact⟨nw S H,v,x,rfl,m1,gd,q1.ok _ _ e1 (.bl _)⟩
theorem jj {d:D}(h:fX d=true):∃ x,d=.str x:=by
 cases d<;>first|exact⟨_,rfl⟩|cases h
theorem xU (g:Bt Z CX cl xp X ex G){m:Mt}{o:Expr}{apos Bo:Pos}{vo:List Nat}{fo:Ev->Res D}{es:List IR}{a:Expr}{args:List Expr}(hn:ed o=true)(hl:(apos.endLine == Bo.line)=true)(hlen:(a::args).length < 29)(CO:(G.cm||jf m)=true)
  (Bu:aF Z G es (a::args)=true) (ho:PE X o (RD X.K ex vo fo)) (h:PA X (a::args) (RA X.K ex (aj es) (ay cl es))) :
  PE X (.Call (.Attribute o (d7 m) apos) (a::args) [] Bo) (RD X.K ex (vo++aj es) fun τ=>j' (fo τ) fun x=>A4 (fX x) (j' (ay cl es τ) fun ds=>la m x ds)):=by
 cases es with
 | nil=>cases Bu
 | cons b es=>
  have Bv:(notStar a&&A9 Z G b a&&aF Z G es args)=true:=Bu
  simp only[Bool.and_eq_true] at Bv
  have star:=bq Z G (es:=es) Bo X.env Bv.2
  have mono:∀ σ H Q,RD X.K ex (vo++aj (b::es)) (fun τ=>j' (fo τ) fun x=>A4 (fX x) (j' (ay cl (b::es) τ) fun ds=>la m x ds)) σ H Q->MI X.K "str" (M7 X.K ex m) (RD X.K ex vo fo) (RA X.K ex (aj (b::es)) (ay cl (b::es))) σ H Q:=by
   rintro σ H Q ⟨S,τ,hs,q⟩
   refine aH (.refl _) hs.left (AZ.j' q) fun x v H1 e1 _ m1 q1=>?_
   obtain⟨gd,q1⟩:=AZ.A4 q1
   obtain⟨z,rfl⟩:=jj gd
   cases m1.By
   refine⟨rfl,ji e1 hs.right (AZ.j' q1) fun ds vs H2 e2 BK m2 q2=>?_⟩
   exact⟨nw S H,.str z,ds,.str z,m2,q2.mono fun d hd=>hd.fit e2⟩
  have DH:attributeBase o (d7 m) X.env (eval o X.env)=eval o X.env:=by
   cases o with
   | Call f args CI pos=>
    cases args with
    | nil=>
     cases CI with
     | nil=>cases hn
     | cons _ _=>cases f<;>rfl
    | cons _ _=>cases f<;>rfl
   | _=>rfl
  have LA:(backTo Bo (starEach (a::args) X.env)).all (fun x=>!x.1)=true:=by
   rw[ai Bv.1.1]
   show (true&&(backTo Bo (starEach args X.env)).all (fun x=>!x.1))=true
   rw[Bool.true_and,List.all_eq_true]
   intro y hy
   have:=List.any_eq_false.mp star y hy
   simpa using this
  have Di:((backTo Bo (starEach (a::args) X.env)).all (fun x=>!x.1)&&(backToKw Bo (keywordEach [] X.env)).all (fun x=>x.1.isSome)&&decide ((a::args).length+([]:List Keyword).length+(if ([]:List Keyword).isEmpty then 0 else 1) < 30))=true:=by
   rw[LA]
   have:decide ((a::args).length+([]:List Keyword).length+(if ([]:List Keyword).isEmpty then 0 else 1) < 30)=true:=decide_eq_true (by simp at hlen ⊢;omega)
   rw[this]
   rfl
  refine ax ?_ mono
  cases m with
  | join=>exact gU PySem.F.plainAttrs_str PySem.F.slot_str_join PySem.F.type_str_join (f7 (ex:=ex) .join fun z=>by cases z) ho h DH Di hl (ai Bv.1.1 args X.env) star
  | index=>exact gU PySem.F.plainAttrs_str PySem.F.slot_str_index PySem.F.type_str_index (f7 (ex:=ex) .index fun _=>g.calm (by rw[Bool.or_eq_true] at CO;exact CO.elim id fun z=>by cases z)) ho h DH Di hl (ai Bv.1.1 args X.env) star
  | starts=>exact gU PySem.F.plainAttrs_str PySem.F.slot_str_startswith PySem.F.type_str_startswith (f7 (ex:=ex) .starts fun z=>by cases z) ho h DH Di hl (ai Bv.1.1 args X.env) star
end
section
variable {Z:Sg}{CX:Ci}{cl:Nat->List D->Res D}{xp:XK->Hp->Str->Prop}{X:Cx}{ex:Str->Prop}{G:Gm}
theorem cV {K:PySem.W.Frag}{S:Addr->Prop}{H:Hp}{w:V}{y:D}{q:Key}(m:A1 K S H w y)(h:bO y=some q):w=kV q:=by
 cases y with
 | int i=>cases h;cases m.Bj;rfl
 | str x=>cases h;cases m.By;rfl
 | _=>cases h
theorem eg {K:PySem.W.Frag}{S:Addr->Prop}{H:Hp}(q:Key):∀ (kvs:List (Key×V)) (ds:List D),AY K S H (kvs.map (·.2)) ds->
  (∀ d,look (kvs.map (·.1)) ds q=some d->∃ v,dj kvs q=some v/\A1 K S H v d)/\(look (kvs.map (·.1)) ds q).isSome=(dj kvs q).isSome:=by
 intro kvs
 induction kvs with
 | nil=>intro ds _;exact⟨fun d h=>(by cases h),rfl⟩
 | cons p kvs ih=>
  intro ds m
  rw[List.map_cons] at m
  cases ds with
  | nil=>exact absurd m.length (by simp)
  | cons d ds=>
   cases m with
   | cons m1 m2=>
    obtain⟨i1,i2⟩:=ih ds m2
    have e1:look ((p::kvs).map (·.1)) (d::ds) q=if p.1=q then some d else look (kvs.map (·.1)) ds q:=rfl
    rw[e1]
    unfold dj at i1 i2 ⊢
    rw[List.find?_cons]
    by_cases h:p.1=q
    ·rw[if_pos h,decide_eq_true h]
     exact⟨fun d' z=>⟨p.2,rfl,by cases z;exact m1⟩,rfl⟩
    ·rw[if_neg h,decide_eq_false h]
     exact⟨i1,i2⟩
theorem A1.G6 {K:PySem.W.Frag}{S:Addr->Prop}{H:Hp}{v:V}{o:Bool}{ks:List Key}{ds:List D}(h:A1 K S H v (.A0 o ks ds)):∃ a kvs,v=.ref a/\Rd H a (.dK kvs)/\kvs.map (·.1)=ks/\AY K S H (kvs.map (·.2)) ds:=by
 cases h with
 | A0 h0 h1 h2 h3=>exact⟨_,_,rfl,h1,h2,h3⟩
theorem vG {pos:Pos}:PE X (.Dict [] [] pos) (RD X.K ex [] (A3 cl .CW)):=by
 refine ax dY fun σ H Q ⟨S,τ,hs,q⟩=>fun p hp=>?_
 exact q.ok _ _ (.upd hp) (.A0 (kvs:=[]) (.inr hp) (.inl aw) rfl .nil)
theorem vH (g:Bt Z CX cl xp X ex G){a b:Expr}{pos:Pos}{va vb:List Nat}{fa fb:Ev->Res D}(ha:PE X a (RD X.K ex va fa))(hb:PE X b (RD X.K ex vb fb))(hp:aI b=true) :
  PE X (.Subscript a b pos) (RD X.K ex (va++vb) fun τ=>j' (fa τ) fun x=>j' (fb τ) fun y=>hG x y):=by
 have hu:=g.un
 refine ax (ql (by omega) ha hb fun o i=>by cases b<;>first|rfl|cases hp) fun σ H Q ⟨S,τ,hs,q⟩=>?_
 refine aH (.refl _) hs.left (AZ.j' q) fun x v H1 e1 _ m1 q1=>?_
 refine aH e1 hs.right (AZ.j' q1) fun y w H2 e2 BK m2 q2=>?_
 cases x with
 | A0 o ks ds=>
  have q3:AZ ex (match bO y with|some q=>(match look ks ds q with|some d=>.ok d|none=>A5)|none=>A5) (Kk X.K S H Q):=q2
  cases hk:bO y with
  | none=>rw[hk] at q3;exact q3.no.elim
  | some k=>
   simp only[hk] at q3
   obtain⟨p,kvs,rfl,h1,rfl,h3⟩:=(m1.later BK).G6
   cases hl:look (kvs.map (·.1)) ds k with
   | none=>rw[hl] at q3;exact q3.no.elim
   | some d=>
    rw[hl] at q3
    obtain⟨v,hv,mv⟩:=(eg k kvs ds h3).1 d hl
    exact⟨p,v,rfl,.inl ⟨kvs,k,h1,cV m2 hk,hv.symm⟩,q3.ok _ _ e2 mv⟩
 | _=>exact q2.no.elim
theorem bM {is:List Nat}{f:Ev->Res D}{σ:St}{H:Hp}{Q Q':VK}(h:RD X.K ex is f σ H Q)(m:∀ v H',Q v H'->Q' v H'):RD X.K ex is f σ H Q':=by
 obtain⟨S,τ,hs,q⟩:=h
 exact⟨S,τ,hs,q.mono fun d hd w H' e r=>m w H' (hd w H' e r)⟩
theorem iq {n:Bool}{va vb:List Nat}{fa fb:Ev->Res D}{σ:St}{H:Hp}{Q:VK}(h:RD X.K ex (vb++va) (fun τ=>j' (fb τ) fun y=>j' (fa τ) fun x=>hJ n x y) σ H Q) :
  RD X.K ex vb fb σ H fun y H1=>RD X.K ex va fa σ H1 fun x H2=>∃ a o,x=.ref a/\fV H2 a y o/\Q (.bl (n != o.isSome)) H2:=by
 obtain⟨S,τ,hs,q⟩:=h
 refine aH (.refl _) hs.left (AZ.j' q) fun y w H1 e1 _ m1 q1=>?_
 refine aH e1 hs.right (AZ.j' q1) fun x v H2 e2 BK m2 q2=>?_
 cases x with
 | A0 o ks ds=>
  have q3:AZ ex (match bO y with|some q=>.ok (.bl (n != (look ks ds q).isSome))|none=>A5) (Kk X.K S H Q):=q2
  cases hk:bO y with
  | none=>rw[hk] at q3;exact q3.no.elim
  | some k=>
   simp only[hk] at q3
   obtain⟨p,kvs,rfl,h1,rfl,h3⟩:=m2.G6
   rw[(eg k kvs ds h3).2] at q3
   exact⟨p,_,rfl,.inl ⟨kvs,k,h1,cV (m1.later BK) hk,rfl⟩,q3.ok _ _ e2 (.bl _)⟩
 | _=>exact q2.no.elim
theorem fx {n:Bool}{va vb:List Nat}{fa fb:Ev->Res D}{σ:St}{H:Hp}{Q:Bool->Hp->Prop}(h:RT X.K ex (vb++va) (fun τ=>j' (j' (fb τ) fun y=>j' (fa τ) fun x=>hJ n x y) aE) σ H Q) :
  RD X.K ex vb fb σ H fun y H1=>RD X.K ex va fa σ H1 fun x H2=>∃ a o,x=.ref a/\fV H2 a y o/\∃ c,V.bl (n != o.isSome)=.bl c/\Q c H2:=by
 obtain⟨S,τ,hs,q⟩:=h
 refine aH (.refl _) hs.left (AZ.j' (AZ.j' q)) fun y w H1 e1 _ m1 q1=>?_
 refine aH e1 hs.right (AZ.j' q1) fun x v H2 e2 BK m2 q2=>?_
 cases x with
 | A0 o ks ds=>
  cases hk:bO y with
  | none=>
   have q3:hJ n (.A0 o ks ds) y=A5:=by show ((match bO y with|some q=>.ok (.bl (n != (look ks ds q).isSome))|none=>A5:Res D))=_;rw[hk]
   rw[q3] at q2;exact q2.no.elim
  | some k=>
   have q3:hJ n (.A0 o ks ds) y=.ok (.bl (n != (look ks ds k).isSome)):=by show ((match bO y with|some q=>.ok (.bl (n != (look ks ds q).isSome))|none=>A5:Res D))=_;rw[hk]
   rw[q3] at q2
   obtain⟨p,kvs,rfl,h1,rfl,h3⟩:=m2.G6
   rw[(eg k kvs ds h3).2] at q2
   exact⟨p,_,rfl,.inl ⟨kvs,k,h1,cV (m1.later BK) hk,rfl⟩,_,rfl,(q2.ok).ok _ e2⟩
 | _=>exact q2.no.elim
theorem xV (g:Bt Z CX cl xp X ex G){n:Bool}{a b:Expr}{pos:Pos}{va vb:List Nat}{fa fb:Ev->Res D}(hb:PE X b (RD X.K ex vb fb))(ha:PE X a (RD X.K ex va fa))(hm:behindInMarks (lr n) a=false) :
  PE X (.Compare b [lr n] [a] pos) (RD X.K ex (vb++va) fun τ=>j' (fb τ) fun y=>j' (fa τ) fun x=>hJ n x y)/\
  PT X (.Compare b [lr n] [a] pos) (RT X.K ex (vb++va) fun τ=>j' (j' (fb τ) fun y=>j' (fa τ) fun x=>hJ n x y) aE):=by
 have hu:=g.un
 cases n with
 | false=>
  refine⟨ax (lJ (l9 (by omega) hb ha) hm) fun σ H Q h=>?_,cF (lK (l9 (by omega) hb ha) hm) fun σ H Q h=>?_⟩
  ·refine bM (iq h) fun y H1 z=>bM z fun x H2 ⟨p,o,e,d,q⟩=>⟨p,o,e,d,?_⟩
   rw[show (false != o.isSome)=o.isSome by cases o.isSome<;>rfl] at q
   exact q
  ·refine bM (fx h) fun y H1 z=>bM z fun x H2 ⟨p,o,e,d,q⟩=>⟨p,o,e,d,?_⟩
   rw[show (false != o.isSome)=o.isSome by cases o.isSome<;>rfl] at q
   exact q
 | true=>
  refine⟨ax (lJ (fq (by omega) hb ha) hm) fun σ H Q h=>?_,cF (lK (fq (by omega) hb ha) hm) fun σ H Q h=>?_⟩
  ·refine bM (iq h) fun y H1 z=>bM z fun x H2 ⟨p,o,e,d,q⟩=>⟨p,o,e,d,?_⟩
   rw[show (true != o.isSome) = !o.isSome by cases o.isSome<;>rfl] at q
   exact q
  ·refine bM (fx h) fun y H1 z=>bM z fun x H2 ⟨p,o,e,d,q⟩=>⟨p,o,e,d,?_⟩
   rw[show (true != o.isSome) = !o.isSome by cases o.isSome<;>rfl] at q
   exact q
end
section
variable {prog:Program}{w:World}{A:Around}{E:Value->Shared->Prop}{s:Shared}
theorem eh {it t:Addr}{items:Array Value}(Ey:t≠it):∀ (n i:Nat) (s:Shared) (Q:List Value->Shared->Prop),s.heap.IsListIter it t i->s.heap.IsList t items->i+n<=items.size->
  (∀ h',h'.IsListIter it t (i+n)->Heap.SameBut it s.heap h'->Q ((items.toList.drop i).take n) {s with heap:=h'})->wpAny (model prog w) A (draw (.ref it) n) Q E s
 | 0,i,s,Q,hit,_,_,hQ=>by
  show wpAny _ _ (pure []) Q E s
  exact wpAny_pure (by simpa using hQ s.heap hit (Heap.SameBut.refl ..))
 | n+1,i,s,Q,hit,ht,hle,hQ=>by
  have BM:i < items.size:=by omega
  show wpAny _ _ (pyNext (.ref it) >>= _) Q E s
  refine wpAny_bind (wpAny_pyNext_list_item hit ht (x:=items[i]) (by simp[BM]) fun FH D6 DM=>?_)
  refine wpAny_bind (wpAny_holding (eh Ey n (i+1) _ _ D6 (ht.extBut DM.extBut Ey) (by omega) fun D0 G7 Jx=>wpAny_pure ?_))
  have hd:items.toList.drop i=items[i]::items.toList.drop (i+1):=by simp[List.drop_eq_getElem_cons,BM]
  have:=hQ D0 (by rw[show i+(n+1)=i+1+n by omega];exact G7) (DM.trans Jx)
  rw[hd,List.take_succ_cons] at this
  exact this
theorem dw {t:Addr}{items:Array Value}{Q:List Value->Shared->Prop}(hh:A.handled=none)(ht:s.heap.IsList t items)
  (hQ:∀ h',Heap.ExtBut s.heap.objs.size s.heap h'->Q items.toList {s with heap:=h'}):wpAny (model prog w) A (unpackItems (.ref t) items.size none) Q E s:=by
 have BM:t≠s.heap.objs.size:=by obtain⟨o,ho,_⟩:=ht;exact Nat.ne_of_lt (Heap.lt_size ho)
 have push:∀ o,(s.heap.push o).IsList t items:=fun o=>by
  obtain⟨ob,e,c,n,d⟩:=ht
  exact⟨ob,Heap.get?_push_of_some _ e,c,n,d⟩
 unfold unpackItems
 refine wpAny_bind ?_
 ·unfold notIterableAtAll
  refine wpAny_bind (wpAny_specialOf ht.typeIs slot_list_iter.lookup ?_)
  refine wpAny_pure ?_
  simp only[Bool.false_eq_true,if_false]
  refine wpAny_bind (wpAny_holding (wpAny_pyIter_list ht ?_))
  refine wpAny_bind (wpAny_holding (eh BM items.size 0 _ _ ⟨_,Heap.get?_push_size _ rfl,rfl,rfl⟩ (push _) (by omega) fun FH D6 DM=>?_))
  have DZ:List.take items.size (List.drop 0 items.toList)=items.toList:=by
   rw[List.drop_zero];exact List.take_of_length_le (by simp)
  rw[DZ]
  rw[if_neg (by simp)]
  have Jy:FH.IsList t items:=(push _).extBut DM.extBut BM
  refine wpAny_bind (wpAny_holding (wpAny_pyNext_list_end hh D6 Jy (by simp) fun D0 Jz=>?_))
  simp only[Option.isSome_none,Bool.false_eq_true,if_false]
  refine wpAny_pure (hQ D0 fun b o hb e=>Jz b o hb (DM.extBut b o hb (Heap.get?_push_of_some _ e)))
end
def xW (K:PySem.W.Frag)(n:Nat)(t:Gb):TG:=fun v σ H Q=>∃ a xs,v=.ref a/\(Cv K H a xs∨BS K H a xs)/\xs.length=n/\t xs σ H Q
theorem vI {X:Cx}{pos:Pos}{es:List Expr}{k:Nat}{t:Gb}{n:Nat}(hc:X.calm=true)(h:IQ X es t)(hn:(assignEach es X.env).length=n)(Bu:(assignEach es X.env).findIdx? (·.1)=none):PG X (.Tuple es k pos) (xW X.K n t):=by
 intro pins s σ H v u Q I r hw
 obtain⟨a,xs,e1,hq,hl,hw⟩:=hw
 subst e1
 cases r
 rcases hq with hq|hq
 ·obtain⟨its,rv,ht,hz⟩:=I.tuple hq
  refine assign_Tuple_tuple (I.ok.hd hc) ht (by simp[hn,<- hl,rv.length]) Bu fun h' hx=>?_
  have I1:Inv X pins σ H {s with heap:=h'}:=I.kept (t':=s.toks) fun b o e=>hx b o (Nat.ne_of_lt (Heap.lt_size e)) e
  exact h pins _ σ H xs _ Q I1 (by simpa using rv) hw
 ·obtain⟨its,rv,pl,hz⟩:=I.list hq
  rw[assign_Tuple]
  refine wpAny_bind (wpAny_standAt ?_)
  unfold unpack
  have hlen:(assignEach es X.env).length=its.toArray.size:=by simp[hn,<- hl,rv.length]
  rw[hlen,Bu]
  refine wpAny_bind (wpAny_holding (dw (I.ok.hd hc) pl.isList fun h' hx=>?_))
  have I1:Inv X pins σ H {s with heap:=h'}:=I.kept (t':=s.toks) fun b o e=>hx b o (Nat.ne_of_lt (Heap.lt_size e)) e
  exact h pins _ σ H xs _ Q I1 (by simpa using rv) hw
mutual
noncomputable def gT (K:PySem.W.Frag):Tg->TG
 | .nm i=>lP i
 | .tp ts=>xW K ts.length (JA K ts)
noncomputable def JA (K:PySem.W.Frag):List Tg->Gb
 | []=>w4
 | t::ts=>rK (gT K t) (JA K ts)
end
theorem cW {e:Expr}(h:notStar e=true)(es:List Expr)(env:Env):assignEach (e::es) env=(false,assign e env)::assignEach es env:=by
 cases e<;>first|rfl|cases h
section
variable {Z:Sg}{CX:Ci}{cl:Nat->List D->Res D}{xp:XK->Hp->Str->Prop}{X:Cx}{ex:Str->Prop}{G:Gm}
theorem ej (G:Gm):∀ {ts:List Tg}{es:List Expr} (env:Env),cA G ts es=true->(assignEach es env).length=ts.length/\(assignEach es env).findIdx? (·.1)=none
 | [],[],_,_=>⟨rfl,rfl⟩
 | t::ts,e::es,env,h=>by
  have h':(notStar e&&bA G t e&&cA G ts es)=true:=h
  simp only[Bool.and_eq_true] at h'
  obtain⟨h1,h2⟩:=ej G (ts:=ts) (es:=es) env h'.2
  rw[cW h'.1.1]
  refine⟨by rw[List.length_cons,h1,List.length_cons],?_⟩
  rw[List.findIdx?_cons,if_neg (by simp),h2]
  rfl
 | [],_::_,_,h=>by cases h
 | _::_,[],_,h=>by cases h
mutual
theorem G8 (g:Bt Z CX cl xp X ex G):∀ (t:Tg) (e:Expr),bA G t e=true->PG X e (gT X.K t)
 | .nm i,e,h=>by
  cases e with
  | Name x pos=>
   have h':(G.N[i]? == some x&&(G.kd[i]? == some .local||(G.df&&G.kd[i]? == some .cell)))=true:=(Bool.and_eq_true_iff.mp h).1
   rw[Bool.and_eq_true,Bool.or_eq_true,Bool.and_eq_true] at h'
   obtain⟨h1,h2⟩:=h'
   have hx:G.N[i]? = some x:=eq_of_beq h1
   have hk:=g.kd i x hx
   refine pZ (by rw[g.N];exact g.BG) (by rw[g.N];exact hx) ?_ ?_
   ·rcases h2 with h2|h2
    ·exact .inl (hk.trans (eq_of_beq h2))
    ·exact .inr (hk.trans (eq_of_beq h2.2))
   ·rcases h2 with h2|h2
    ·exact .inr (hk.trans (eq_of_beq h2))
    ·exact .inl (g.df h2.1 x)
  | _=>cases h
 | .tp ts,e,h=>by
  cases e with
  | Tuple es k pos=>
   have h0:(G.cm&&cA G ts es)=true:=h
   rw[Bool.and_eq_true] at h0
   have h':=h0.2
   obtain⟨h1,h2⟩:=ej G X.env h'
   exact vI (g.calm h0.1) (xX g ts es h') h1 h2
  | _=>cases h
theorem xX (g:Bt Z CX cl xp X ex G):∀ (ts:List Tg) (es:List Expr),cA G ts es=true->IQ X es (JA X.K ts)
 | [],[],_=>p3
 | t::ts,e::es,h=>by
  have h':(notStar e&&bA G t e&&cA G ts es)=true:=h
  simp only[Bool.and_eq_true] at h'
  exact lQ (G8 g t e h'.1.2) (xX g ts es h'.2) (by rw[cW h'.1.1];rfl)
 | [],_::_,h=>by cases h
 | _::_,[],h=>by cases h
end
end
mutual
theorem cX {G:Gm}:∀ (t:Tg) (e:Expr),bA G t e=true->∀ j∈CZ t,G.io≠some j
 | .nm i,e,h,j,hj=>by
  cases e with
  | Name x pos=>
   have h':=(Bool.and_eq_true_iff.mp (show ((G.N[i]? == some x&&(G.kd[i]? == some .local||(G.df&&G.kd[i]? == some .cell)))&&G.io != some i)=true from h)).2
   have e:j=i:=by simpa[CZ] using hj
   subst e
   simpa using h'
  | _=>cases h
 | .tp ts,e,h,j,hj=>by
  cases e with
  | Tuple es k pos=>
   have h0:(G.cm&&cA G ts es)=true:=h
   exact ir ts es (Bool.and_eq_true_iff.mp h0).2 j hj
  | _=>cases h
theorem ir {G:Gm}:∀ (ts:List Tg) (es:List Expr),cA G ts es=true->∀ j∈ik ts,G.io≠some j
 | [],_,_,j,hj=>by cases hj
 | t::ts,[],h,_,_=>by cases h
 | t::ts,e::es,h,j,hj=>by
  have h':(notStar e&&bA G t e&&cA G ts es)=true:=h
  simp only[Bool.and_eq_true] at h'
  rcases List.mem_append.mp (show j∈CZ t++ik ts from hj) with hj|hj
  ·exact cX t e h'.1.2 j hj
  ·exact ir ts es h'.2 j hj
end
def IB (K:PySem.W.Frag)(S:Addr->Prop)(H:Hp)(σ:St)(τ:Ev):Prop:=τ.length=σ.length/\∀ i d,ah τ i=some d->∃ v,σ[i]? = some (some v)/\A1 K S H v d
theorem fy {τ:Ev}{i j:Nat}{o:Option D}:ah (τ.set i o) j=if i=j/\i < τ.length then o else ah τ j:=by
 unfold ah
 rw[List.getElem?_set]
 by_cases h:i=j
 ·subst h
  by_cases h2:i < τ.length
  ·simp[h2]
  ·rw[if_pos rfl,if_neg h2,if_neg (by omega)]
   rw[List.getElem?_eq_none (by omega)]
 ·rw[if_neg h,if_neg (by omega)]
section
variable {K:PySem.W.Frag}{S:Addr->Prop}{H:Hp}{ex:Str->Prop}
mutual
theorem jP:∀ (t:Tg) {σ:St}{τ:Ev}{v:V}{d:D}{Kt:Ev->Prop}{Q:St->Hp->Prop},IB K S H σ τ->A1 K S H v d->AZ ex (bp t d τ) Kt->
  (∀ A7 Bc,IB K S H Bc A7->Bc.length=σ.length->(∀ j,j∉CZ t->Bc[j]? = σ[j]?)->Kt A7->Q Bc H)->gT K t v σ H Q
 | .nm i,σ,τ,v,d,Kt,Q,hs,m,h,k=>by
  refine k (τ.set i (some d)) (σ.set i (some v)) ⟨by rw[List.length_set,List.length_set,hs.1],fun j e z=>?_⟩ (by rw[List.length_set]) (fun j hj=>?_) h.ok
  ·rw[fy] at z
   by_cases q:i=j/\i < τ.length
   ·rw[if_pos q] at z
    obtain⟨rfl,q⟩:=q
    cases z
    exact⟨v,by rw[List.getElem?_set_self (by rw[<- hs.1];exact q)],m⟩
   ·rw[if_neg q] at z
    obtain⟨w,h1,h2⟩:=hs.2 j e z
    refine⟨w,?_,h2⟩
    by_cases q2:i=j
    ·subst q2
     exfalso
     have:i < σ.length:=by
      have:=(List.getElem?_eq_some_iff.mp h1).1
      exact this
     exact q ⟨rfl,by rw[hs.1];exact this⟩
    ·rw[List.getElem?_set_ne q2];exact h1
  ·have:i≠j:=fun z=>hj (by subst z;simp[CZ])
   rw[List.getElem?_set_ne this]
 | .tp ts,σ,τ,v,d,Kt,Q,hs,m,h,k=>by
  cases d with
  | tup ds=>
   obtain⟨a,xs,rfl,q,ms⟩:=m.Ca
   obtain⟨g,h⟩:=AZ.A4 h
   have g':ds.length=ts.length:=of_decide_eq_true g
   exact⟨a,xs,rfl,.inl q,by rw[ms.length,g'],ek ts hs ms h k⟩
  | lst o ds=>
   obtain⟨a,xs,rfl,q,ms⟩:=m.BP
   obtain⟨g,h⟩:=AZ.A4 h
   have g':ds.length=ts.length:=of_decide_eq_true g
   exact⟨a,xs,rfl,.inr q,by rw[ms.length,g'],ek ts hs ms h k⟩
  | _=>exact h.no.elim
theorem ek:∀ (ts:List Tg) {σ:St}{τ:Ev}{vs:List V}{ds:List D}{Kt:Ev->Prop}{Q:St->Hp->Prop},IB K S H σ τ->AY K S H vs ds->AZ ex (cO ts ds τ) Kt->
  (∀ A7 Bc,IB K S H Bc A7->Bc.length=σ.length->(∀ j,j∉ik ts->Bc[j]? = σ[j]?)->Kt A7->Q Bc H)->JA K ts vs σ H Q
 | [],σ,τ,vs,ds,Kt,Q,hs,m,h,k=>by
  cases m with
  | nil=>exact⟨rfl,k τ σ hs rfl (fun _ _=>rfl) h.ok⟩
  | cons _ _=>exact h.no.elim
 | t::ts,σ,τ,vs,ds,Kt,Q,hs,m,h,k=>by
  cases m with
  | nil=>exact h.no.elim
  | cons m1 m2=>
   refine⟨_,_,rfl,jP t hs m1 (AZ.j' h) fun A7 Bc ER hn hk h'=>?_⟩
   refine ek ts ER m2 h' fun G9 Ha LB DU Pe LC=>k G9 Ha LB (DU.trans hn) (fun j hj=>?_) LC
   have Kr:j∉CZ t/\j∉ik ts:=by
    constructor<;>(intro z;apply hj;simp[ik,z])
   rw[Pe j Kr.2,hk j Kr.1]
end
end
section
variable {K:PySem.W.Frag}{S S':Addr->Prop}{H H':Hp}{J:It}{ds:List D}
theorem WS.step (hl:∀ a (u:LD),S a->Rd H a u.o->S' a/\Rd H' a u.o)(ht:∀ a xs,BI K H a xs->BI K H' a xs){k:Zp.Kq}{a:Addr}{xs:List V}(h:WS K S H k a xs):WS K S' H' k a xs:=by
 cases k with
 | l=>exact h.elim (fun z=>.inl (hl _ (.l _) z.1 z.2)) fun z=>.inr z
 | t=>exact ht _ (.inl _) h
theorem iu (ds:List D):(fY ds).length=ds.length:=by unfold fY;rw[List.length_zipWith,List.length_range,Nat.min_self]
theorem iw (ds es:List D):(dq ds es).length=min ds.length es.length:=by unfold dq;rw[List.length_zipWith]
theorem CH.step (hl:∀ a (u:LD),S a->Rd H a u.o->S' a/\Rd H' a u.o)(ht:∀ a xs,BI K H a xs->BI K H' a xs)(h:CH K S H J ds):CH K S' H' J ds:=by
 cases h with
 | lst h0 h1 h2=>exact .lst (hl _ (.l _) h0 h1).1 (hl _ (.l _) h0 h1).2 (h2.step hl ht)
 | lstK h1 h2=>exact .lstK h1 (h2.step hl ht)
 | tup h1 h2=>exact .tup (ht _ (.inl _) h1) (h2.step hl ht)
 | EI lo hi=>exact .EI lo hi
 | str x=>exact .str x
 | zip h1 h2 h3 h4=>exact .zip (h1.step hl ht) (h2.step hl ht) (h3.step hl ht) (h4.step hl ht)
 | DR h1 h2=>exact .DR (h1.step hl ht) (h2.step hl ht)
 | rev h1 h2=>exact .rev (h1.step hl ht) (h2.step hl ht)
theorem CH.mono (h:CH K S H J ds)(hS:∀ a,S a->S' a)(e:aq H H'):CH K S' H' J ds:=h.step (fun a xs s r=>⟨hS a s,e.rd r⟩) fun a xs s=>e.CF s
theorem ez (x:Str):(bo x).length=x.cps.size:=by unfold bo;simp
theorem B7 (a b:Int):(bE a b).length=(b - a).toNat:=by unfold bE;simp
theorem CH.stop (h:CH K S H J ds){i:Nat}(hi:ds.length=i):J.stop i H:=by
 cases h with
 | lst h0 h1 h2=>exact⟨_,.inl h1,by rw[h2.length];omega⟩
 | lstK h1 h2=>exact⟨_,h1.sq,by rw[h2.length];omega⟩
 | tup h1 h2=>exact⟨_,h1,by rw[h2.length];omega⟩
 | EI lo E7=>rw[B7] at hi;exact Nat.le_of_eq hi
 | str x=>rw[ez] at hi;exact Nat.le_of_eq hi
 | zip h1 h2 h3 h4=>exact⟨_,_,h1.sq,h2.sq,by rw[iw] at hi;rw[h3.length,h4.length];omega⟩
 | DR h1 h2=>exact⟨_,h1.sq,by rw[iu] at hi;rw[h2.length];omega⟩
 | rev h1 h2=>show i=_;rw[h2.length,<- hi,List.length_reverse]
theorem CH.go (h:CH K S H J ds){i:Nat}(hi:i < ds.length):J.go i H:=by
 cases h with
 | lst h0 h1 h2=>obtain⟨v,hv,_⟩:=h2.get (i:=i) (d:=ds[i]) (by simp[hi]);exact⟨_,v,.inl h1,hv⟩
 | lstK h1 h2=>obtain⟨v,hv,_⟩:=h2.get (i:=i) (d:=ds[i]) (by simp[hi]);exact⟨_,v,h1.sq,hv⟩
 | tup h1 h2=>obtain⟨v,hv,_⟩:=h2.get (i:=i) (d:=ds[i]) (by simp[hi]);exact⟨_,v,h1,hv⟩
 | EI lo E7=>rw[B7] at hi;exact hi
 | str x=>rw[ez] at hi;exact hi
 | zip h1 h2 h3 h4=>
  rename_i ds' C4
  rw[iw] at hi
  obtain⟨v,hv,_⟩:=h3.get (i:=i) (d:=ds'[i]) (by rw[List.getElem?_eq_getElem])
  obtain⟨u,hu,_⟩:=h4.get (i:=i) (d:=C4[i]) (by rw[List.getElem?_eq_getElem])
  exact⟨_,_,v,u,h1.sq,h2.sq,hv,hu⟩
 | DR h1 h2=>
  rename_i ds'
  rw[iu] at hi
  obtain⟨v,hv,_⟩:=h2.get (i:=i) (d:=ds'[i]) (by rw[List.getElem?_eq_getElem])
  exact⟨_,v,h1.sq,hv⟩
 | rev h1 h2=>exact⟨_,h1.sq,rfl,by rw[List.length_reverse] at hi;rw[h2.length];exact hi⟩
theorem CH.Fv (h:CH K S H J ds){i:Nat}{x:V}{H2:Hp}(y:J.Fv i H x H2){d:D}(hd:ds[i]? = some d):aq H H2/\A1 K S H2 x d:=by
 have fin:∀ {xs:List V},AY K S H xs ds->xs[i]? = some x->A1 K S H x d:=fun m e=>by
  obtain⟨d',e',m'⟩:=m.EY e
  rw[hd] at e';cases e';exact m'
 cases h with
 | lst h0 h1 h2=>obtain⟨e,y⟩:=y;subst e;exact⟨.refl _,fin h2 (y _ (.inl h1))⟩
 | lstK h1 h2=>obtain⟨e,y⟩:=y;subst e;exact⟨.refl _,fin h2 (y _ h1.sq)⟩
 | tup h1 h2=>obtain⟨e,y⟩:=y;subst e;exact⟨.refl _,fin h2 (y _ h1)⟩
 | zip h1 h2 h3 h4=>
  obtain⟨T,a,b,e1,hT,e2,hy⟩:=y
  subst e1 e2
  obtain⟨y1,y2⟩:=hy _ _ h1.sq h2.sq
  obtain⟨d1,g1,m1⟩:=h3.EY y1
  obtain⟨d2,g2,m2⟩:=h4.EY y2
  unfold dq at hd
  rw[List.getElem?_zipWith,g1,g2] at hd
  cases hd
  have e:aq H (upd H T (.tup [a,b])):=.upd hT
  exact⟨e,.tup (Cv.of aw) (.cons (m1.mono (fun _ z=>z) e) (.cons (m2.mono (fun _ z=>z) e) .nil))⟩
 | rev h1 h2=>
  rename_i l xs ds'
  obtain⟨e,y⟩:=y
  subst e
  have y1:=y _ h1.sq rfl
  obtain⟨d1,g1,m1⟩:=h2.EY y1
  have BM:=(List.getElem?_eq_some_iff.mp hd).1
  rw[List.length_reverse] at BM
  rw[List.getElem?_reverse BM,<- h2.length,g1] at hd
  cases hd
  exact⟨.refl _,m1⟩
 | DR h1 h2=>
  obtain⟨T,a,e1,hT,e2,hy⟩:=y
  subst e1 e2
  have y1:=hy _ h1.sq
  obtain⟨d1,g1,m1⟩:=h2.EY y1
  unfold fY at hd
  have BM:=(List.getElem?_eq_some_iff.mp g1).1
  rw[List.getElem?_zipWith,g1,List.getElem?_range BM] at hd
  cases hd
  have e:aq H (upd H T (.tup [.int i,a])):=.upd hT
  exact⟨e,.tup (Cv.of aw) (.cons (.int _) (.cons (m1.mono (fun _ z=>z) e) .nil))⟩
 | EI lo E7=>
  obtain⟨e1,e2⟩:=y
  subst e1
  refine⟨.refl _,?_⟩
  subst e2
  unfold bE at hd
  rw[List.getElem?_map] at hd
  have hi:i < (E7 - lo).toNat:=by
   have:=(Option.map_eq_some_iff.mp hd)
   obtain⟨z,h1,_⟩:=this
   have:=(List.getElem?_eq_some_iff.mp h1).1
   simpa using this
  rw[List.getElem?_range hi] at hd
  cases hd
  exact .int _
 | str x=>
  obtain⟨e1,c,h1,e2⟩:=y
  subst e1
  refine⟨.refl _,?_⟩
  subst e2
  unfold bo at hd
  rw[List.getElem?_map] at hd
  have h2:x.cps.toList[i]? = some c:=by simpa using h1
  rw[h2] at hd
  cases hd
  exact .str _
end
section
variable {Z:Sg}{CX:Ci}{cl:Nat->List D->Res D}{xp:XK->Hp->Str->Prop}{X:Cx}{ex:Str->Prop}{G:Gm}{K:PySem.W.Frag}{S:Addr->Prop}{H H1:Hp}{σ:St}{τ:Ev}
theorem xY {is:List Nat}{f:Ev->Res (List D)}{Kt:List D->Prop}{R:It->Hp->Prop}(e:aq H H1)(hs:Slots K S H σ τ is)(h:AZ ex (f τ) Kt)(k:∀ ds J H2,aq H H2->aq H1 H2->CH K (nw S H) H2 J ds->Kt ds->R J H2):RI K ex is f σ H1 R:=
 ⟨nw S H,τ,hs.go e,h.mono fun x hx J H2 e2 m=>k x J H2 (e.trans e2) e2 (m.mono (fw e) (.refl _)) hx⟩
theorem jQ {tg:Expr}{pins:List (Addr×Obj)}{s:Shared}{a:Addr}{xs:List V}{R:It->Hp->Prop}(I:Inv X pins σ H s)(hq:BS X.K H a xs)(q:R (J5 X.K a) H):wpAny (model X.prog X.w) X.A (pyIter (.ref a)) (Ia X pins σ tg R) X.xe s:=by
 obtain⟨its,rv,p,hz⟩:=I.list hq
 refine wpAny_pyIter_list p.isList ?_
 refine⟨s.heap.objs.size,[s.heap.objs.size],_,_,H,rfl,I.kept (t':=s.toks) fun b o e=>Heap.get?_push_of_some _ e,kL a _,⟨_,Heap.get?_push_size _ rfl,rfl,rfl⟩,fun b hb=>?_,q⟩
 have e:b=s.heap.objs.size:=by simpa using hb
 subst e
 exact I.DF (Nat.le_refl _) (I.Be.fresh (Nat.le_refl _))
theorem mN {tg:Expr}{pins:List (Addr×Obj)}{s:Shared}{a:Addr}{xs:List V}{R:It->Hp->Prop}(I:Inv X pins σ H s)(hq:Cv X.K H a xs)(q:R (KW X.K a) H):wpAny (model X.prog X.w) X.A (pyIter (.ref a)) (Ia X pins σ tg R) X.xe s:=by
 obtain⟨its,rv,p,hz⟩:=I.tuple hq
 refine wpAny_pyIter_tuple (show s.heap.IsTuple a its.toArray from p) ?_
 refine⟨s.heap.objs.size,[s.heap.objs.size],_,_,H,rfl,I.kept (t':=s.toks) fun b o e=>Heap.get?_push_of_some _ e,iW a _,⟨_,Heap.get?_push_size _ rfl,rfl,rfl⟩,fun b hb=>?_,q⟩
 have e:b=s.heap.objs.size:=by simpa using hb
 subst e
 exact I.DF (Nat.le_refl _) (I.Be.fresh (Nat.le_refl _))
theorem xZ {tg e:Expr}{va:List Nat}{fa:Ev->Res D}(ha:PE X e (RD X.K ex va fa)):PI X tg e (RI X.K ex va fun τ=>j' (fa τ) dn):=by
 intro pins s σ H R I h
 obtain⟨S,τ,hs,q⟩:=h
 refine Bg (ha pins s σ H (fun v H'=>∃ d,aq H H'/\A1 X.K (nw S H) H' v d/\_) I (aH (.refl _) hs (AZ.j' q) fun x v H1 e1 _ m1 q1=>⟨x,e1,m1,q1⟩)) fun v s1 ⟨x,H1,I1,r1,d,e1,m1,q1⟩=>?_
 cases d with
 | lst o ds=>
  cases m1 with
  | lst h0 h1 h2=>cases r1;exact jQ I1 (.inl h1) (q1.ok _ _ e1 (.lst h0 h1 h2))
  | lstK h1 h2=>cases r1;exact jQ I1 h1.sq (q1.ok _ _ e1 (.lstK h1 h2))
 | tup ds=>
  obtain⟨a,xs,rfl,h1,h2⟩:=m1.Ca
  cases r1
  exact mN I1 h1 (q1.ok _ _ e1 (.tup h1 h2))
 | str z=>
  cases m1.By
  obtain⟨t,rfl⟩:=r1
  obtain⟨_,q1⟩:=AZ.A4 q1
  exact vz I1 (q1.ok _ _ e1 (.str z))
 | _=>exact q1.no.elim
theorem vJ (g:Bt Z CX cl xp X ex G){tg e:Expr}{p pos:Pos}{va:List Nat}{fa:Ev->Res D}(hg:G.gl.contains 15=true)(hn:notStar e=true)(ha:PE X e (RD X.K ex va fa)) :
  PI X tg (.Call (.Name "range" p) [e] [] pos) (RI X.K ex va fun τ=>j' (fa τ) fun|.int i=>A4 (bC i) (.ok (bE 0 i))|_=>A5):=by
 obtain⟨k1,k2,_,_⟩:=dC g (show aV[15]? = some ("range" : Str) from rfl) hg
 refine dQ (eU k1 k2 (aL ha bx (ai hn _ _)) (ai hn _ _)) fun σ H Q ⟨S,τ,hs,q⟩=>?_
 refine aH (.refl _) hs (AZ.j' q) fun x v H1 e1 _ m1 q1=>?_
 cases x with
 | int i=>
  cases m1.Bj
  obtain⟨gd,q1⟩:=AZ.A4 q1
  have Fo : -(2 ^ 62)<=i/\i < 2 ^ 62:=of_decide_eq_true gd
  refine⟨i,rfl,Fo.1,Fo.2,?_⟩
  have:=q1.ok _ _ e1 (.EI 0 i)
  rw[Int.sub_zero] at this
  exact this
 | _=>exact q1.no.elim
theorem ya {a:Addr}{v:V}{d:D}{ds:List D}(m:A1 K S H v d)(h:i7 d=.ok ds):∃ k a xs,v=.ref a/\WS K S H k a xs/\AY K S H xs ds:=by
 cases d with
 | lst o es=>
  cases h
  cases m with
  | lst h0 h1 h2=>exact⟨.l,_,_,rfl,.inl ⟨h0,h1⟩,h2⟩
  | lstK h1 h2=>exact⟨.l,_,_,rfl,.inr h1,h2⟩
 | tup es=>
  cases h
  obtain⟨a,xs,rfl,h1,h2⟩:=m.Ca
  exact⟨.t,a,xs,rfl,h1,h2⟩
 | _=>cases h
theorem yb (g:Bt Z CX cl xp X ex G){es:List Expr}{c:Nat}{tp:Pos}{e e':Expr}{p pos:Pos}{va vb:List Nat}{fa fb:Ev->Res D}(hg:G.gl.contains 17=true)(hn:notStar e=true)(DU:notStar e'=true)(ha:PE X e (RD X.K ex va fa))(hb:PE X e' (RD X.K ex vb fb)) :
  PI X (.Tuple es c tp) (.Call (.Name "zip" p) [e,e'] [] pos) (RI X.K ex (va++vb) fun τ=>j' (fa τ) fun x=>j' (fb τ) fun y=>qv x y):=by
 obtain⟨k1,k2,_,_⟩:=dC g (show aV[17]? = some ("zip" : Str) from rfl) hg
 refine dQ (vj k1 k2 (aL ha (aL hb bx (ai DU _ _)) (ai hn _ _)) (by rw[ai hn,ai DU];rfl) (ai DU _ _)) fun σ H Q ⟨S,τ,hs,q⟩=>?_
 refine aH (.refl _) hs.left (AZ.j' q) fun x v H1 e1 _ m1 q1=>?_
 refine aH e1 hs.right (AZ.j' q1) fun y w H2 e2 BK m2 q2=>?_
 have q3:=AZ.j' (show AZ ex (j' (i7 x) fun ds=>j' (i7 y) fun es=>.ok (dq ds es)) _ from q2)
 have Pf:=m1.mono (fun _ z=>z) BK
 cases hx:i7 x with
 | error z=>
  rw[hx] at q3
  cases x<;>first|(cases hx;exact q3.no.elim)|cases hx
 | ok ds=>
  rw[hx] at q3
  have q4:=AZ.j' q3.ok
  cases hy:i7 y with
  | error z=>
   rw[hy] at q4
   cases y<;>first|(cases hy;exact q4.no.elim)|cases hy
  | ok C4=>
   rw[hy] at q4
   obtain⟨k1,a1,xs,rfl,w1,r1⟩:=ya (a:=0) Pf hx
   obtain⟨k2,a2,ys,rfl,w2,r2⟩:=ya (a:=0) m2 hy
   exact⟨k1,k2,a1,a2,xs,ys,rfl,w1.sq,w2.sq,q4.ok.ok _ _ e2 (.zip w1 w2 r1 r2)⟩
theorem yd (g:Bt Z CX cl xp X ex G){es:List Expr}{c:Nat}{tp:Pos}{e:Expr}{p pos:Pos}{va:List Nat}{fa:Ev->Res D}(hg:G.gl.contains 20=true)(hn:notStar e=true)(ha:PE X e (RD X.K ex va fa)) :
  PI X (.Tuple es c tp) (.Call (.Name "enumerate" p) [e] [] pos) (RI X.K ex va fun τ=>j' (fa τ) qt):=by
 obtain⟨k1,k2,_,_⟩:=dC g (show aV[20]? = some ("enumerate" : Str) from rfl) hg
 refine dQ (qo k1 k2 (aL ha bx (ai hn _ _)) (ai hn _ _)) fun σ H Q ⟨S,τ,hs,q⟩=>?_
 refine aH (.refl _) hs (AZ.j' q) fun x v H1 e1 _ m1 q1=>?_
 cases x with
 | lst o ds=>
  cases m1 with
  | lst h0 h1 h2=>exact⟨_,_,rfl,.inl h1,(show AZ ex (.ok (fY ds)) _ from q1).ok _ _ e1 (.DR (.inl ⟨h0,h1⟩) h2)⟩
  | lstK h1 h2=>exact⟨_,_,rfl,h1.sq,(show AZ ex (.ok (fY ds)) _ from q1).ok _ _ e1 (.DR (.inr h1) h2)⟩
 | _=>exact q1.no.elim
theorem yf (g:Bt Z CX cl xp X ex G){tg e:Expr}{p pos:Pos}{va:List Nat}{fa:Ev->Res D}(hg:G.gl.contains 18=true)(hn:notStar e=true)(ha:PE X e (RD X.K ex va fa)) :
  PI X tg (.Call (.Name "reversed" p) [e] [] pos) (RI X.K ex va fun τ=>j' (fa τ) qu):=by
 obtain⟨k1,k2,_,_⟩:=dC g (show aV[18]? = some ("reversed" : Str) from rfl) hg
 refine dQ (vm k1 k2 (aL ha bx (ai hn _ _)) (ai hn _ _)) fun σ H Q ⟨S,τ,hs,q⟩=>?_
 refine aH (.refl _) hs (AZ.j' q) fun x v H1 e1 _ m1 q1=>?_
 cases x with
 | lst o ds=>
  cases m1 with
  | lst h0 h1 h2=>exact⟨_,_,rfl,.inl h1,(show AZ ex (.ok ds.reverse) _ from q1).ok _ _ e1 (.rev (.inl ⟨h0,h1⟩) h2)⟩
  | lstK h1 h2=>exact⟨_,_,rfl,h1.sq,(show AZ ex (.ok ds.reverse) _ from q1).ok _ _ e1 (.rev (.inr h1) h2)⟩
 | _=>exact q1.no.elim
theorem bT {env:Env}{x:Str}:∀ (names:List (Str×NameKind)),
  (names.map fun (n,k)=>if (k == NameKind.free&&env.scope.kind == .function&&env.kindOf n == some .cell) then (n,NameKind.cell) else (n,k)).lookup x =
   (names.lookup x).map fun k=>if (k == NameKind.free&&env.scope.kind == .function&&env.kindOf x == some .cell) then NameKind.cell else k
 | []=>rfl
 | (n,k)::r=>by
  have ih:=bT (env:=env) (x:=x) r
  rw[List.map_cons]
  show List.lookup x ((if (k == NameKind.free&&env.scope.kind == .function&&env.kindOf n == some .cell)=true then (n,NameKind.cell) else (n,k))::_)=_
  by_cases hc:(k == NameKind.free&&env.scope.kind == .function&&env.kindOf n == some .cell)=true
  ·rw[if_pos hc,List.lookup_cons,List.lookup_cons]
   cases hx:x == n with
   | true=>
    have e:x=n:=eq_of_beq hx
    subst e
    show some NameKind.cell=some (if _ then _ else _)
    rw[if_pos hc]
   | false=>exact ih
  ·rw[if_neg hc,List.lookup_cons,List.lookup_cons]
   cases hx:x == n with
   | true=>
    have e:x=n:=eq_of_beq hx
    subst e
    show some k=some (if _ then _ else _)
    rw[if_neg hc]
   | false=>exact ih
theorem jk {scope:Scope}{env:Env}(h:∀ y∈scope.names,y.2=.free->∃ c,env.cells.lookup y.1=some c) :
  ∃ Cc,closureFor scope env=pure Cc/\(∀ x c,Cc.lookup x=some c->env.cells.lookup x=some c)/\∀ y∈scope.names,y.2=.free->∃ c,Cc.lookup y.1=some c:=by
 have key:∀ (names:List (Str×NameKind)) (acc:List (Str×Addr)),(∀ y∈names,y.2=.free->∃ c,env.cells.lookup y.1=some c)->(∀ x c,acc.lookup x=some c->env.cells.lookup x=some c)->
   ∃ Cc,(forIn names acc fun (p:Str×NameKind) (r:List (Str×Addr))=>(if (p.2 == NameKind.free)=true then do let a <- cellOf env p.1;pure (ForInStep.yield ((p.1,a)::r)) else pure (ForInStep.yield r):Sem (ForInStep (List (Str×Addr)))))=pure Cc/\(∀ x c,Cc.lookup x=some c->env.cells.lookup x=some c)/\
    (∀ y∈names,y.2=.free->∃ c,Cc.lookup y.1=some c)/\∀ x c,acc.lookup x=some c->∃ c',Cc.lookup x=some c':=by
  intro names
  induction names with
  | nil=>intro acc _ h2;exact⟨acc,rfl,h2,fun y hy=>absurd hy (by simp),fun x c e=>⟨c,e⟩⟩
  | cons p names ih=>
   intro acc h1 h2
   rw[List.forIn_cons]
   by_cases hp:p.2=.free
   ·obtain⟨c,hc⟩:=h1 p (by simp) hp
    have hb:(p.2 == NameKind.free)=true:=by rw[hp];rfl
    have Pg:∀ x c',((p.1,c)::acc).lookup x=some c'->env.cells.lookup x=some c':=by
     intro x c' e
     rw[List.lookup_cons] at e
     cases hx:x == p.1 with
     | true=>
      rw[hx] at e
      cases e
      rw[eq_of_beq hx]
      exact hc
     | false=>rw[hx] at e;exact h2 x c' e
    obtain⟨Cc,e1,e2,e3,e4⟩:=ih ((p.1,c)::acc) (fun y hy=>h1 y (List.mem_cons_of_mem _ hy)) Pg
    refine⟨Cc,?_,e2,fun y hy hf=>?_,fun x c' e=>?_⟩
    ·rw[if_pos hb]
     have:cellOf env p.1=pure c:=by unfold cellOf;rw[hc]
     rw[this]
     exact e1
    ·rcases List.mem_cons.mp hy with rfl|hy
     ·exact e4 y.1 c (by rw[List.lookup_cons];simp)
     ·exact e3 y hy hf
    ·rcases hx:x == p.1 with _|_
     ·exact e4 x c' (by rw[List.lookup_cons,hx];exact e)
     ·exact e4 x c (by rw[List.lookup_cons,hx])
   ·have hb:¬ (p.2 == NameKind.free)=true:=fun z=>hp (eq_of_beq z)
    obtain⟨Cc,e1,e2,e3,e4⟩:=ih acc (fun y hy=>h1 y (List.mem_cons_of_mem _ hy)) h2
    refine⟨Cc,?_,e2,fun y hy hf=>?_,e4⟩
    ·rw[if_neg hb]
     exact e1
    ·rcases List.mem_cons.mp hy with rfl|hy
     ·exact absurd hf hp
     ·exact e3 y hy hf
 obtain⟨Cc,e1,e2,e3,_⟩:=key scope.names [] h (fun x c e=>by cases e)
 refine⟨Cc,?_,e2,e3⟩
 unfold closureFor
 exact congrArg (fun (m:Sem (List (Str×Addr)))=>m >>= fun r=>pure r) e1
structure EC (Z:Sg)(G:Gm)(scope:Scope)(G':Gm)(fr:List Nat):Prop where
 cm:G.cm=true
 kind:scope.kind=.function
 tr:G'.tr=false
 df:G'.df=false
 RB:G'.kd.length=G'.N.length
 Dj:∀ y∈scope.names,y.2≠.cell
 loc:∀ y∈scope.names,y.2=.local->scope.names.lookup y.1=some .local
 Ph:∀ y∈scope.names,y.2=.free->∃ i:Nat,G.N[i]? = some y.1/\(G.kd[i]? = some .cell∨G.kd[i]? = some .free)
 BZ:∀ (j:Nat) (i:Nat),fr[j]? = some i->∃ x,G.N[i]? = some x/\G'.N[j]? = some x/\scope.names.lookup x=some .free/\(G.kd[i]? = some .cell∨G.kd[i]? = some .free)/\G'.kd[j]? = some (if (G.kd[i]? == some .cell)=true then .cell else .free)
 JB:fr.length<=G'.N.length
 CZ:∀ (j:Nat) (x:Str),fr.length<=j->G'.N[j]? = some x->scope.names.lookup x=some .local/\G'.kd[j]? = some .local
 Fm:∀ x∈G'.N,(x == ("__debug__" : Str))=false/\(x == ("__classdict__" : Str))=false
 BG:G'.N.Nodup
 gl:∀ n∈G'.gl,∃ x,Z.name n=some x/\scope.names.lookup x=some .globalImplicit
theorem gh {Z:Sg}{G:Gm}{scope:Scope}{G':Gm}{fr:List Nat}(h:ba Z G scope G' fr=true):EC Z G scope G' fr:=by
 unfold ba at h
 simp only[Bool.and_eq_true] at h
 obtain⟨⟨⟨⟨⟨⟨⟨⟨⟨⟨⟨⟨⟨h0,h1⟩,JC⟩,h2⟩,h3⟩,h4⟩,h5⟩,h6⟩,h7⟩,h8⟩,h9⟩,Gi⟩,Ig⟩,Jj⟩:=h
 rw[List.all_eq_true] at h4 h5 h6 h7 h9 Gi Jj
 refine⟨h0,eq_of_beq h1,by simpa using JC,by simpa using h2,eq_of_beq h3,fun y hy=>by simpa using h4 y hy,fun y hy e=>?_,fun y hy e=>?_,fun j i e=>?_,of_decide_eq_true h8,fun j x hj e=>?_,fun x hx=>by simpa using Gi x hx,of_decide_eq_true Ig,fun n hn=>?_⟩
 ·have:=h5 y hy
  rw[e] at this
  simpa using this
 ·have:=h6 y hy
  rw[e] at this
  simp only[bne_self_eq_false,Bool.false_or,List.any_eq_true,Bool.and_eq_true,Bool.or_eq_true] at this
  obtain⟨i,_,hi,hk⟩:=this
  exact⟨i,eq_of_beq hi,hk.elim (fun z=>.inl (eq_of_beq z)) fun z=>.inr (eq_of_beq z)⟩
 ·have hj:j < fr.length:=(List.getElem?_eq_some_iff.mp e).1
  have:=h7 j (List.mem_range.mpr hj)
  simp only[e,Option.bind_some,Bool.and_eq_true,Bool.or_eq_true] at this
  obtain⟨⟨⟨a1,a2⟩,a3⟩,a4⟩:=this
  have M9:=eq_of_beq a1
  have Ks:=eq_of_beq a2
  cases q:G'.N[j]? with
  | none=>rw[q] at Ks;cases Ks
  | some x=>
   rw[q] at Ks M9
   exact⟨x,M9.symm,rfl,Ks,a3.elim (fun z=>.inl (eq_of_beq z)) fun z=>.inr (eq_of_beq z),eq_of_beq a4⟩
 ·have BM:j < G'.N.length:=(List.getElem?_eq_some_iff.mp e).1
  have hm:j∈(List.range G'.N.length).drop fr.length:=by
   rw[List.mem_drop_iff_getElem]
   exact⟨j - fr.length,by simp;omega,by simp;omega⟩
  have:=h9 j hm
  rw[e] at this
  simp only[Option.bind_some,Bool.and_eq_true] at this
  exact⟨eq_of_beq this.1,eq_of_beq this.2⟩
 ·have:=Jj n hn
  cases q:Z.name n with
  | none=>rw[q] at this;cases this
  | some x=>
   rw[q] at this
   exact⟨x,rfl,eq_of_beq this⟩
noncomputable def ED (G:Gm)(fr:List Nat):List (Str×Nat):=fr.map fun i=>(G.N.getD i "",i)
theorem yg {scope:Scope}{G':Gm}{fr:List Nat}(s:EC Z G scope G' fr):(ED G fr).map (·.1)++G'.N.drop fr.length=G'.N:=by
 have e:(ED G fr).map (·.1)=G'.N.take fr.length:=by
  apply List.ext_getElem?
  intro j
  unfold ED
  rw[List.map_map,List.getElem?_map,List.getElem?_take]
  cases q:fr[j]? with
  | none=>
   have:¬ j < fr.length:=by
    intro z
    rw[List.getElem?_eq_getElem z] at q
    cases q
   rw[if_neg this]
   rfl
  | some i=>
   have:j < fr.length:=(List.getElem?_eq_some_iff.mp q).1
   rw[if_pos this]
   obtain⟨x,h1,h2,_⟩:=s.BZ j i q
   rw[h2]
   show some (G.N.getD i "")=some x
   rw[List.getD_eq_getElem?_getD,h1]
   rfl
 rw[e,List.take_append_drop]
theorem dy (g:Bt Z CX cl xp X ex G)(ok:X.Ok){scope:Scope}{G':Gm}{fr:List Nat}(s:EC Z G scope G' fr):∃ Cc,CA X scope Cc (ED G fr) (G'.N.drop fr.length):=by
 have Eb:∀ y∈scope.names,y.2=.free->∃ c,X.env.cells.lookup y.1=some c:=fun y hy hf=>by
  obtain⟨i,h1,h2⟩:=s.Ph y hy hf
  have hk:=g.kd i y.1 h1
  exact ok.has y.1 (h2.elim (fun z=>.inl (hk.trans z)) fun z=>.inr (hk.trans z))
 obtain⟨Cc,e1,e2,e3⟩:=jk Eb
 refine⟨Cc,e1,s.kind,s.Dj,s.loc,e2,fun x hx=>?_,fun p hp=>?_⟩
 ·have hl:=bT (env:=X.env) (x:=x) scope.names
  have Cw:((scope.names.lookup x).map fun k=>if (k == NameKind.free&&X.env.scope.kind == .function&&X.env.kindOf x == some .cell)=true then NameKind.cell else k)=some .cell∨
    ((scope.names.lookup x).map fun k=>if (k == NameKind.free&&X.env.scope.kind == .function&&X.env.kindOf x == some .cell)=true then NameKind.cell else k)=some .free:=by
   rcases hx with hx|hx
   ·exact .inl (hl.symm.trans hx)
   ·exact .inr (hl.symm.trans hx)
  cases q:scope.names.lookup x with
  | none=>rw[q] at Cw;rcases Cw with z|z<;>cases z
  | some k=>
   have hm:(x,k)∈scope.names:=PySem.mem_of_lookup q
   have hk:k=.free:=by
    rw[q] at Cw
    rcases Cw with z|z
    ·have z':(if (k == NameKind.free&&X.env.scope.kind == .function&&X.env.kindOf x == some .cell)=true then NameKind.cell else k)=.cell:=Option.some.inj z
     split at z'
     ·rename_i hc
      simp only[Bool.and_eq_true] at hc
      exact eq_of_beq hc.1.1
     ·exact absurd z' (s.Dj _ hm)
    ·have z':(if (k == NameKind.free&&X.env.scope.kind == .function&&X.env.kindOf x == some .cell)=true then NameKind.cell else k)=.free:=Option.some.inj z
     split at z'
     ·cases z'
     ·exact z'
   exact e3 (x,k) hm hk
 ·unfold ED at hp
  rw[List.mem_map] at hp
  obtain⟨i,hi,rfl⟩:=hp
  obtain⟨j,hj⟩:=List.getElem?_of_mem hi
  obtain⟨x,h1,h2,h3,h4,h5⟩:=s.BZ j i hj
  have hn:G.N.getD i "" = x:=by rw[List.getD_eq_getElem?_getD,h1];rfl
  show X.N[i]? = some (G.N.getD i "")/\_
  rw[hn]
  have hk:=g.kd i x h1
  refine⟨by rw[g.N];exact h1,h4.elim (fun z=>.inl (hk.trans z)) fun z=>.inr (hk.trans z),?_⟩
  have hl:=bT (env:=X.env) (x:=x) scope.names
  rw[h3] at hl
  have Pj:(relabel scope X.env).names.lookup x=some (if (NameKind.free == NameKind.free&&X.env.scope.kind == .function&&X.env.kindOf x == some .cell)=true then NameKind.cell else NameKind.free):=hl
  rw[Pj]
  split
  ·exact .inl rfl
  ·exact .inr rfl
theorem bb (g:Bt Z CX cl xp X ex G){scope:Scope}{G':Gm}{fr:List Nat}(s:EC Z G scope G' fr)(Cc:List (Str×Addr))(C:Addr)(s3:Shared)(H3:Hp)(fp:List Addr) :
  Bt Z CX cl xp (Ed X scope Cc ((ED G fr).map (·.1)++G'.N.drop fr.length) C s3 H3 fp) (fun _=>False) G' where
 N:=yg s
 BG:=s.BG
 calm:=fun _=>g.calm s.cm
 fk:=s.kind
 un:=g.un
 own:=fun _=>PassesOwn.never
 kd:=fun j x hx=>by
  show (relabel scope X.env).names.lookup x=_
  have hl:=bT (env:=X.env) (x:=x) scope.names
  by_cases hj:j < fr.length
  ·obtain⟨y,h1,h2,h3,h4,h5⟩:=s.BZ j fr[j] (by simp[hj])
   rw[hx] at h2
   cases h2
   rw[h3] at hl
   rw[h5]
   refine hl.trans ?_
   have hk:=g.kd fr[j] x h1
   show some (if (NameKind.free == NameKind.free&&X.env.scope.kind == .function&&X.env.kindOf x == some .cell)=true then NameKind.cell else NameKind.free)=_
   rw[hk,g.fk]
   rfl
  ·obtain⟨h1,h2⟩:=s.CZ j x (by omega) hx
   rw[h1] at hl
   rw[h2]
   exact hl
 Fm:=fun j x hx=>s.Fm x (List.mem_of_getElem? hx)
 gl:=fun n hn x e=>by
  obtain⟨y,h1,h2⟩:=s.gl n hn
  rw[e] at h1
  cases h1
  show (relabel scope X.env).names.lookup x=_
  have hl:=bT (env:=X.env) (x:=x) scope.names
  rw[h2] at hl
  exact hl
 Gu:=g.Gu
 df:=fun z=>by rw[s.df] at z;cases z
 blt:=g.blt
 cst:=g.cst
 fns:=fun f hf _ x hx=>g.fns f hf (.inl s.cm) x hx
 Cs:=fun f hf _ x hx=>g.Cs f hf s.cm x hx
 Ir:=g.Ir
 Iu:=g.Iu
 Iw:=g.Iw
 Iy:=g.Iy
 Pa:=fun _ pins σ H s c C h' e vs _ z=>z.elim
 tr:=fun z=>by rw[s.tr] at z;cases z
 Ly:=⟨fun _ _ _=>False,fun pins σ H s e s' _ h=>(g.Kp _ _ _ _ _ h).elim,fun c _ z=>z.elim⟩
 Ko:=g.Ko
 Kp:=g.Kp
end
abbrev CJ:Str->Prop:=fun _=>False
theorem AZ.B5 {α:Type}{ex:Str->Prop}{x:Res α}{k:α->Prop}(h:AZ ex (L2.B5 x) k):AZ CJ x k:=by
 cases x with
 | ok a=>exact h
 | error e=>exact False.elim h
section
variable {K:PySem.W.Frag}{S:Addr->Prop}{H:Hp}{σ:St}{τ:Ev}{ex:Str->Prop}{cl:Nat->List D->Res D}{G G':Gm}{fr:List Nat}
noncomputable def D7 (G':Gm)(fr:List Nat)(τ:Ev):Ev:=fr.map (ah τ)++List.replicate (G'.N.length - fr.length) none
theorem qG (hl:fr.length<=G'.N.length):(D7 G' fr τ).length=G'.N.length:=by
 unfold D7
 rw[List.length_append,List.length_map,List.length_replicate]
 omega
theorem qH (Tg:List Str)(σ:St):(stC (ED G fr) Tg σ).length=fr.length+Tg.length:=by
 unfold stC ED
 rw[List.length_append,List.length_map,List.length_map,List.length_replicate]
theorem mO {j:Nat}{d:D}(h:ah (D7 G' fr τ) j=some d):∃ i,fr[j]? = some i/\ah τ i=some d:=by
 unfold ah D7 at h
 by_cases hj:j < fr.length
 ·rw[List.getElem?_append_left (by simpa using hj),List.getElem?_map,List.getElem?_eq_getElem hj] at h
  exact⟨fr[j],by simp[hj],h⟩
 ·rw[List.getElem?_append_right (by simpa using hj),List.getElem?_replicate] at h
  split at h<;>cases h
theorem qI {vs:List Nat}{Bc:St}(hl:fr.length<=G'.N.length)(hs:Slots K S H σ τ (fr++vs))(hn:Bc.length=G'.N.length)(B8:∀ j,j < fr.length->Bc[j]? = (stC (ED G fr) (G'.N.drop fr.length) σ)[j]?):IB K S H Bc (D7 G' fr τ):=by
 refine⟨by rw[qG hl,hn],fun j d h=>?_⟩
 obtain⟨i,hi,hd⟩:=mO h
 have hj:j < fr.length:=(List.getElem?_eq_some_iff.mp hi).1
 obtain⟨v,h1,h2⟩:=hs i (List.mem_append_left _ (List.mem_of_getElem? hi)) d hd
 refine⟨v,?_,h2⟩
 rw[B8 j hj]
 unfold stC ED
 rw[List.getElem?_append_left (by simpa using hj),List.getElem?_map,List.getElem?_map,hi]
 show some ((σ[i]?).join)=some (some v)
 rw[h1]
 rfl
noncomputable def bf (cl:Nat->List D->Res D)(T:Tg)(I:List IR)(E:IR)(Pk:Ev)(x:D):Res (Option D):=j' (bp T x Pk) fun Fj=>j' (cG cl I Fj) fun r=>if r=true then j' (A3 cl E Fj) fun d=>.ok (some d) else .ok none
theorem bU {vs:List Nat}{fs:Ev->Res (List D)}{T:Tg}{I:List IR}{E:IR}{Kt:D->Prop}{Q:VK}(hl:fr.length<=G'.N.length)(ha:∀ i∈CZ T,fr.length<=i)(hs:Slots K S H σ τ (fr++vs))
  (q:AZ ex (j' (fs τ) fun its=>A4 (bj its.length) (j' (B5 (aP (bf cl T I E (D7 G' fr τ)) its)) fun ds=>.ok (.lst true ds))) Kt)
  (fin:∀ A ys ds H',aq H H'->H A=none->H' A=some (.lst ys)->AY K (fun a=>nw S H a/\a≠A) H' ys ds->Kt (.lst true ds)->Q (.ref A) H') :
  l8 (RI K ex vs fs) (stC (ED G fr) (G'.N.drop fr.length)) (gT K T) (RT K CJ (aj I) (cG cl I)) (RD K CJ (vars E) (A3 cl E)) σ H Q:=by
 refine xY (.refl _) hs.right (AZ.j' q) fun its J H1 e1 _ w1 q1 A hA=>?_
 obtain⟨gd,q1⟩:=AZ.A4 q1
 have q2:=AZ.B5 (AZ.j' q1)
 have hsz:=cR gd
 have Pl:H A=none:=e1.free hA
 -- KY is read LF apart from GJ new list
 have DK:∀ a,nw S H a->H1 a≠none->nw S H a/\a≠A:=fun a h1 h2=>⟨h1,fun z=>h2 (by rw[z];exact hA)⟩
 have w2:CH K (fun a=>nw S H a/\a≠A) H1 J its:=w1.step (fun a xs h r=>⟨DK a h r.some,r⟩) fun a xs h=>h
 have D1:Slots K (fun a=>nw S H a/\a≠A) H1 σ τ (fr++vs):=fun i hi d z=>by
  obtain⟨v,h1,h2⟩:=(hs.go e1) i hi d z
  exact⟨v,h1,h2.step (fun a xs h r=>⟨DK a h r.some,r⟩) fun a xs h=>h⟩
 refine⟨fun i m Bc H'=>m=its.length - i/\i<=its.length/\∃ ys acc,H' A=some (.lst ys)/\AY K (fun a=>nw S H a/\a≠A) H' ys acc/\ys.length<=i/\aq H1 H'/\Bc.length=G'.N.length/\
   (∀ j,j < fr.length->Bc[j]? = (stC (ED G fr) (G'.N.drop fr.length) σ)[j]?)/\AZ CJ (aP (bf cl T I E (D7 G' fr τ)) (its.drop i)) fun ds=>Kt (.lst true (acc++ds)),⟨its.length,by simp,Nat.zero_le _,[],[],aw,.nil,Nat.le_refl _,.upd hA,?_,fun _ _=>rfl,?_⟩,?_⟩
 ·rw[qH,List.length_drop];omega
 ·rw[List.drop_zero]
  exact q2.mono fun ds z=>z.ok
 ·rintro i m Bc H' ⟨rfl,hi,ys,acc,hy,my,ly,e2,hn,B8,q3⟩
  by_cases BM:i < its.length
  ·refine .inr ⟨(w2.mono (fun _ z=>z) e2).go BM,fun x H2 Pm=>?_⟩
   obtain⟨eH,mx⟩:=(w2.mono (fun _ z=>z) e2).Fv Pm (d:=its[i]) (by simp[BM])
   have hy:=eH _ _ hy
   have my:=my.mono (fun _ z=>z) eH
   have e2:=e2.trans eH
   have hd:its.drop i=its[i]::its.drop (i+1):=List.drop_eq_getElem_cons BM
   rw[hd] at q3
   have q4:=AZ.j' q3
   have q5:AZ CJ (bp T its[i] (D7 G' fr τ)) _:=AZ.j' q4
   have sl:IB K (fun a=>nw S H a/\a≠A) H2 Bc (D7 G' fr τ):=qI (G:=G) (vs:=vs) (σ:=σ) hl (fun i hi d z=>by
    obtain⟨v,h1,h2⟩:=D1 i hi d z
    exact⟨v,h1,h2.mono (fun _ z=>z) e2⟩) hn B8
   refine jP T sl mx q5 fun A7 DG Pn DU hk q6=>?_
   have J':DG.length=G'.N.length:=DU.trans hn
   have JD:∀ j,j < fr.length->DG[j]? = (stC (ED G fr) (G'.N.drop fr.length) σ)[j]?:=fun j hj=>by
    rw[hk j (fun z=>by have:=ha j z;omega)]
    exact B8 j hj
   have M':∀ is,Slots K (fun a=>nw S H a/\a≠A) H2 DG A7 is:=fun is i _ d z=>Pn.2 i d z
   refine cU (.refl _) (M' _) (AZ.j' q6) fun r H4 e4 _ q7=>?_
   cases r with
   | false=>
    rw[if_neg Bool.false_ne_true] at q7 ⊢
    have q8:AZ CJ (aP (bf cl T I E (D7 G' fr τ)) (its.drop (i+1))) fun ds=>Kt (.lst true (acc++ds)):=q7
    refine⟨its.length - (i+1),by omega,rfl,BM,ys,acc,e4 _ _ hy,my.mono (fun _ z=>z) e4,by omega,e2.trans e4,J',JD,q8⟩
   | true=>
    rw[if_pos rfl] at q7 ⊢
    refine aH e4 (M' _) (AZ.j' q7) fun d v H5 e5 RC m5 q8=>?_
    have q9:AZ CJ (j' (aP (bf cl T I E (D7 G' fr τ)) (its.drop (i+1))) fun r=>.ok (d::r)) fun ds=>Kt (.lst true (acc++ds)):=q8
    have Ie:=AZ.j' q9
    have Na:H5 A=some (.lst ys):=e5 _ _ hy
    refine⟨ys,Na,by omega,its.length - (i+1),by omega,rfl,BM,ys++[v],acc++[d],aw,?_,by rw[List.length_append,List.length_singleton];omega,?_,J',JD,?_⟩
    ·have Nb:∀ a (xs:LD),(nw S H a/\a≠A)->Rd H5 a xs.o->(nw S H a/\a≠A)/\Rd (upd H5 A (.lst (ys++[v]))) a xs.o:=fun a xs h r=>by
      refine⟨h,?_⟩
      unfold Rd
      rw[ak h.2]
      exact r
     have Nc:∀ a xs,BI K H5 a xs->BI K (upd H5 A (.lst (ys++[v]))) a xs:=fun a xs h=>h.upd Na
     have m6:A1 K (fun a=>nw S H a/\a≠A) H5 v d:=m5.step (fun a xs h r=>⟨by
      rcases h with h|h
      ·exact h
      ·have:H a=none:=e1.free (e2.free h)
       exact⟨.inr this,fun z=>by rw[z,hy] at h;cases h⟩,r⟩) fun a xs h=>h
     exact(((my.mono (fun _ z=>z) e5).step Nb Nc)).append (.cons (m6.step Nb Nc) .nil)
    ·exact fun b o hb=>by
      have:b≠A:=by rintro rfl;rw[hA] at hb;cases hb
      rw[ak this]
      exact e5 _ _ (e2 _ _ hb)
    ·refine Ie.mono fun ds z=>?_
     have z':=z.ok
     rw[List.append_assoc]
     exact z'
  ·have e:i=its.length:=by omega
   subst e
   refine .inl ⟨(w2.mono (fun _ z=>z) e2).stop rfl,?_⟩
   rw[List.drop_length] at q3
   have q4:=q3.ok
   rw[List.append_nil] at q4
   exact fin A ys acc H' (e1.trans e2) Pl hy my q4
end
section
variable {Z:Sg}{CX:Ci}{cl:Nat->List D->Res D}{xp:XK->Hp->Str->Prop}{X:Cx}{ex:Str->Prop}{G G':Gm}{fr:List Nat}
theorem eA {T:Tg}{s:Sr}{I:List IR}{E:IR}:A3 cl (.comp G' fr T s I E)=fun τ=>j' (bZ cl s τ) fun its=>A4 (bj its.length) (j' (B5 (aP (bf cl T I E (D7 G' fr τ)) its)) fun ds=>.ok (.lst true ds)):=rfl
theorem vK (g:Bt Z CX cl xp X ex G){scope:Scope}{tg iter elt:Expr}{ifs:List Expr}{pos:Pos}{T:Tg}{s:Sr}{I:List IR}{E:IR}(hs:EC Z G scope G' fr)(hT:bA G' T tg=true)(ha:∀ i∈CZ T,fr.length<=i)
  (hi:PI X tg iter (RI X.K ex (cP s) (bZ cl s))) (ht:∀ X',Bt Z CX cl xp X' CJ G'->FD X' ifs (RT X'.K CJ (aj I) (cG cl I))) (he:∀ X',Bt Z CX cl xp X' CJ G'->PE X' elt (RD X'.K CJ (vars E) (A3 cl E)))
  (hf:∀ x,foldedSetIterable iter X.env x=pure x):PE X (.ListComp elt [⟨tg,iter,ifs,0⟩] scope pos) (RD X.K ex (fr++cP s) (A3 cl (.comp G' fr T s I E))):=by
 intro pins s' σ H Q Iv h
 obtain⟨Cc,S⟩:=dy g Iv.ok hs
 have p:=jB (pos:=pos) (elt:=elt) (ifs:=ifs) (tg:=tg) (g:=gT X.K T) (tt:=RT X.K CJ (aj I) (cG cl I)) (te:=RD X.K CJ (vars E) (A3 cl E)) (g.calm hs.cm) S hi (fun C s H fp=>G8 (bb g hs Cc C s H fp) T tg hT) (fun C s H fp=>ht _ (bb g hs Cc C s H fp)) (fun C s H fp=>he _ (bb g hs Cc C s H fp)) hf
 refine p pins s' σ H Q Iv ?_
 obtain⟨S0,τ,LG,q⟩:=h
 rw[eA] at q
 exact bU hs.JB ha LG q fun A ys ds H' e hA Gv m k=>k _ _ e (.lst (.inr hA) (.inl Gv) (m.mono (fun _ z=>z.1) (.refl _)))
end
section
variable {Z:Sg}{CX:Ci}{cl:Nat->List D->Res D}{xp:XK->Hp->Str->Prop}
theorem lu {e:Expr}{a:IR}{G:Gm}(h:A9 Z G a e=true)(env:Env)(x:Value):foldedSetIterable e env x=pure x:=by
 cases e<;>first|rfl|(cases a<;>cases h)
theorem bG {e:Expr}{a:Sr}{G:Gm}(h:bL Z G a e=true)(env:Env)(x:Value):foldedSetIterable e env x=pure x:=by
 cases a with
 | val a=>exact lu (show A9 Z G a e=true from h) env x
 | _=>cases e<;>first|rfl|cases h
theorem both {X:Cx}{ex:Str->Prop}{e:Expr}{is:List Nat}{f:Ev->Res D}(h:PE X e (RD X.K ex is f))(he:∀ whole,isTrue e X.env whole=(do let v <- whole;standAt e.pos;holding [v] (truthy v)):=by intro _;rfl) :
  PE X e (RD X.K ex is f)/\PT X e (RT X.K ex is fun τ=>j' (f τ) aE):=⟨h,xI h he⟩
mutual
theorem snd:∀ (a:IR) (X:Cx) (ex:Str->Prop) (G:Gm) (e:Expr),Bt Z CX cl xp X ex G->A9 Z G a e=true->PE X e (RD X.K ex (vars a) (A3 cl a))/\PT X e (RT X.K ex (vars a) fun τ=>j' (A3 cl a τ) aE)
 | .c d,X,ex,G,e,g,h=>by
  cases e with
  | Constant k j pos=>exact both (Pc h)
  | _=>first|exact aa h|cases h
 | .g n d,X,ex,G,e,g,h=>by
  cases e with
  | Name x pos=>
   have h':(bz Z G n x&&Z.Iq.any fun p=>p.1 == n&&lp p.2 d)=true:=h
   rw[Bool.and_eq_true] at h'
   exact both (Pd g h'.1 h'.2)
  | _=>first|exact aa h|cases h
 | .v i,X,ex,G,e,g,h=>by
  cases e with
  | Name x pos=>exact both (Pb g h)
  | _=>first|exact aa h|cases h
 | .bin op a b,X,ex,G,e,g,h=>by
  cases e with
  | BinOp l o r pos=>
   have h':(o == FR op&&A9 Z G a l&&A9 Z G b r)=true:=h
   simp only[Bool.and_eq_true] at h'
   have e1:o=FR op:=eq_of_beq h'.1.1
   subst e1
   exact both (xJ (snd a X ex G l g h'.1.2).1 (snd b X ex G r g h'.2).1)
  | _=>first|exact aa h|cases h
 | .neg a,X,ex,G,e,g,h=>by cases e<;>exact aa h
 | .cmp op a b,X,ex,G,e,g,h=>by
  cases e with
  | Compare l os rs pos=>
   match os,rs,h with
   | [o],[r],h=>
    have h':(o == Dl op&&A9 Z G a l&&A9 Z G b r&&!behindInMarks o r)=true:=h
    simp only[Bool.and_eq_true] at h'
    have e1:o=Dl op:=eq_of_beq h'.1.1.1
    subst e1
    exact xK g (snd a X ex G l g h'.1.1.2).1 (snd b X ex G r g h'.1.2).1 (by simpa using h'.2)
   | [],_,h=>first|exact aa h|cases h
   | [_],[],h=>first|exact aa h|cases h
   | [_],_::_::_,h=>first|exact aa h|cases h
   | _::_::_,_,h=>first|exact aa h|cases h
  | _=>first|exact aa h|cases h
 | .chain op BH a b c,X,ex,G,e,g,h=>by
  cases e with
  | Compare l os rs pos=>
   match os,rs,h with
   | [o,o'],[m,r],h=>
    have h':(o == Dl op&&o' == Dl BH&&A9 Z G a l&&A9 Z G b m&&A9 Z G c r&&!lastMarks [o,o'] [m,r])=true:=h
    simp only[Bool.and_eq_true] at h'
    have e1:o=Dl op:=eq_of_beq h'.1.1.1.1.1
    have e2:o'=Dl BH:=eq_of_beq h'.1.1.1.1.2
    subst e1 e2
    exact qF g (snd a X ex G l g h'.1.1.1.2).1 (snd b X ex G m g h'.1.1.2).1 (snd c X ex G r g h'.1.2).1 (by simpa using h'.2)
   | [],_,h=>first|exact aa h|cases h
   | [_],_,h=>first|exact aa h|cases h
   | [_,_],[],h=>first|exact aa h|cases h
   | [_,_],[_],h=>first|exact aa h|cases h
   | [_,_],_::_::_::_,h=>first|exact aa h|cases h
   | _::_::_::_,_,h=>first|exact aa h|cases h
  | _=>first|exact aa h|cases h
 | .BB a b,X,ex,G,e,g,h=>by
  cases e with
  | BoolOp o es pos=>
   match o,es,h with
   | .And,[l,r],h=>
    have h':(A9 Z G a l&&A9 Z G b r)=true:=h
    rw[Bool.and_eq_true] at h'
    obtain⟨pa,ta⟩:=snd a X ex G l g h'.1
    obtain⟨pb,tb⟩:=snd b X ex G r g h'.2
    exact⟨rU pa (lL pb),rV ta (pW tb)⟩
   | .And,l::r::r'::rest,h=>
    have h':(A9 Z G a l&&A9 Z G b (.BoolOp .And (r::r'::rest) pos))=true:=h
    rw[Bool.and_eq_true] at h'
    obtain⟨pa,ta⟩:=snd a X ex G l g h'.1
    obtain⟨pb,tb⟩:=snd b X ex G _ g h'.2
    exact⟨rU pa pb,rV ta (mL (e:=l) tb)⟩
   | .And,[],h=>first|exact aa h|cases h
   | .And,[_],h=>first|exact aa h|cases h
   | .Or,_,h=>first|exact aa h|cases h
  | _=>first|exact aa h|cases h
 | .E1 a b,X,ex,G,e,g,h=>by
  cases e with
  | BoolOp o es pos=>
   match o,es,h with
   | .Or,[l,r],h=>
    have h':(A9 Z G a l&&A9 Z G b r)=true:=h
    rw[Bool.and_eq_true] at h'
    obtain⟨pa,ta⟩:=snd a X ex G l g h'.1
    obtain⟨pb,tb⟩:=snd b X ex G r g h'.2
    exact⟨xM pa (lL pb),xO ta (uI tb)⟩
   | .Or,l::r::r'::rest,h=>
    have h':(A9 Z G a l&&A9 Z G b (.BoolOp .Or (r::r'::rest) pos))=true:=h
    rw[Bool.and_eq_true] at h'
    obtain⟨pa,ta⟩:=snd a X ex G l g h'.1
    obtain⟨pb,tb⟩:=snd b X ex G _ g h'.2
    exact⟨xM pa pb,xO ta (mL (e:=l) tb)⟩
   | .Or,[],h=>first|exact aa h|cases h
   | .Or,[_],h=>first|exact aa h|cases h
   | .And,_,h=>first|exact aa h|cases h
  | _=>first|exact aa h|cases h
 | .BU a,X,ex,G,e,g,h=>by
  cases e with
  | UnaryOp o l pos=>
   cases o with
   | Not=>
    obtain⟨pa,ta⟩:=snd a X ex G l g h
    exact xN pa ta
   | _=>first|exact aa h|cases h
  | _=>first|exact aa h|cases h
 | .ite t a b,X,ex,G,e,g,h=>by
  cases e with
  | IfExp c x y pos=>
   have h':(A9 Z G t c&&A9 Z G a x&&A9 Z G b y)=true:=h
   simp only[Bool.and_eq_true] at h'
   obtain⟨pa,ta⟩:=snd a X ex G x g h'.1.2
   obtain⟨pb,tb⟩:=snd b X ex G y g h'.2
   exact xP (snd t X ex G c g h'.1.1).2 pa pb ta tb
  | _=>first|exact aa h|cases h
 | .tup es,X,ex,G,e,g,h=>by
  cases e with
  | Tuple l n pos=>exact both (xQ (jl es X ex G l g h))
  | _=>first|exact aa h|cases h
 | .lst es,X,ex,G,e,g,h=>by
  cases e with
  | List l pos=>exact both (xR (jl es X ex G l g h))
  | _=>first|exact aa h|cases h
 | .idx a i,X,ex,G,e,g,h=>by
  cases e with
  | Subscript o s pos=>
   have h':(aI s&&A9 Z G a o&&A9 Z G i s)=true:=by
    cases s<;>first|exact h|(rename_i l u st p;cases st<;>exact h)
   simp only[Bool.and_eq_true] at h'
   exact both (xS (snd a X ex G o g h'.1.2).1 (snd i X ex G s g h'.2).1 h'.1.1)
  | _=>first|exact aa h|cases h
 | .sl a lo hi,X,ex,G,e,g,h=>by
  cases e with
  | Subscript o s pos=>
   match s,h with
   | .Slice l u none p,h=>
    have h':(A9 Z G a o&&jh Z G lo l&&jh Z G hi u)=true:=h
    simp only[Bool.and_eq_true] at h'
    exact both (AQ (snd a X ex G o g h'.1.1).1 (qJ lo X ex G l g h'.1.2) (qJ hi X ex G u g h'.2))
   | .Slice _ _ (some _) _,h=>first|exact aa h|cases h
   | .BoolOp ..,h=>first|exact aa h|cases h
   | .NamedExpr ..,h=>first|exact aa h|cases h
   | .BinOp ..,h=>first|exact aa h|cases h
   | .UnaryOp ..,h=>first|exact aa h|cases h
   | .Lambda ..,h=>first|exact aa h|cases h
   | .IfExp ..,h=>first|exact aa h|cases h
   | .Dict ..,h=>first|exact aa h|cases h
   | .Set ..,h=>first|exact aa h|cases h
   | .ListComp ..,h=>first|exact aa h|cases h
   | .SetComp ..,h=>first|exact aa h|cases h
   | .DictComp ..,h=>first|exact aa h|cases h
   | .GeneratorExp ..,h=>first|exact aa h|cases h
   | .Await ..,h=>first|exact aa h|cases h
   | .Yield ..,h=>first|exact aa h|cases h
   | .YieldFrom ..,h=>first|exact aa h|cases h
   | .Compare ..,h=>first|exact aa h|cases h
   | .Call ..,h=>first|exact aa h|cases h
   | .FormattedValue ..,h=>first|exact aa h|cases h
   | .JoinedStr ..,h=>first|exact aa h|cases h
   | .Constant ..,h=>first|exact aa h|cases h
   | .Attribute ..,h=>first|exact aa h|cases h
   | .Subscript ..,h=>first|exact aa h|cases h
   | .Starred ..,h=>first|exact aa h|cases h
   | .Name ..,h=>first|exact aa h|cases h
   | .List ..,h=>first|exact aa h|cases h
   | .Tuple ..,h=>first|exact aa h|cases h
  | _=>first|exact aa h|cases h
 | .call f es,X,ex,G,e,g,h=>by
  cases e with
  | Call fn args CI pos=>
   cases fn with
   | Name x p=>
    cases CI with
    | nil=>
     have h':(bz Z G f x&&Z.Gr G f&&aF Z G es args)=true:=h
     simp only[Bool.and_eq_true] at h'
     exact both (s_call g h'.1.1 h'.1.2 h'.2 (jl es X ex G args g h'.2))
    | cons _ _=>first|exact aa h|cases h
   | _=>first|exact aa h|cases h
  | _=>first|exact aa h|cases h
 | .bi f es,X,ex,G,e,g,h=>by
  cases e with
  | Call fn args CI pos=>
   cases fn with
   | Name x p=>
    cases CI with
    | nil=>
     cases args with
     | nil=>first|exact aa h|cases h
     | cons a args=>
      have h':(x == dv f&&G.G3 (jK f)&&aF Z G es (a::args))=true:=h
      simp only[Bool.and_eq_true] at h'
      have e1:x=dv f:=eq_of_beq h'.1.1
      subst e1
      exact both (AR g h'.1.2 h'.2 (jl es X ex G _ g h'.2))
    | cons _ _=>cases args<;>first|exact aa h|cases h
   | _=>first|exact aa h|cases h
  | _=>first|exact aa h|cases h
 | .FN a,X,ex,G,e,g,h=>by cases e<;>exact aa h
 | .CW,X,ex,G,e,g,h=>by
  have h:Gs e=true:=by cases e<;>exact h
  obtain⟨pos,rfl⟩:=jg h
  exact both vG
 | .B3 a k,X,ex,G,e,g,h=>by
  have h:Kj e (fun o s=>aI s&&A9 Z G a o&&A9 Z G k s)=true:=by cases e<;>exact h
  obtain⟨o,s,pos,rfl,q1⟩:=vE h
  simp only[Bool.and_eq_true] at q1
  exact both (vH g (snd a X ex G o g q1.1.2).1 (snd k X ex G s g q1.2).1 q1.1.1)
 | .GX n k a,X,ex,G,e,g,h=>by
  have h:Kl e (fun l o r=>o == lr n&&A9 Z G k l&&A9 Z G a r&&!behindInMarks o r)=true:=by cases e<;>exact h
  obtain⟨l,o,r,pos,rfl,q3⟩:=vF h
  simp only[Bool.and_eq_true] at q3
  have e1:o=lr n:=eq_of_beq q3.1.1.1
  subst e1
  exact xV g (snd k X ex G l g q3.1.1.2).1 (snd a X ex G r g q3.1.2).1 (by simpa using q3.2)
 | .sset a,X,ex,G,e,g,h=>by cases e<;>exact aa h
 | .DY a,X,ex,G,e,g,h=>by cases e<;>exact aa h
 | .FO a,X,ex,G,e,g,h=>by cases e<;>exact aa h
 | .Ef a k d,X,ex,G,e,g,h=>by cases e<;>exact aa h
 | .Kg x a y,X,ex,G,e,g,h=>by cases e<;>exact aa h
 | .Kf a ns tb,X,ex,G,e,g,h=>by cases e<;>exact aa h
 | .BW a k,X,ex,G,e,g,h=>by
  cases e with
  | Call fn args CI pos=>
   cases fn with
   | Name x p=>
    match args,CI,h with
    | [o,.Name y p'],[],h=>
     have h':(x == "isinstance"&&G.gl.contains 14&&y == cI k&&G.gl.contains (jL k)&&notStar o&&A9 Z G a o)=true:=h
     simp only[Bool.and_eq_true] at h'
     have e1:x = "isinstance":=eq_of_beq h'.1.1.1.1.1
     have e2:y=cI k:=eq_of_beq h'.1.1.1.2
     subst e1 e2
     exact both (xT g h'.1.1.1.1.2 h'.1.1.2 h'.1.2 (snd a X ex G o g h'.2).1)
    | [],_,h=>first|exact aa h|cases h
    | [_],_,h=>first|exact aa h|cases h
    | _::b::_::_,k,h=>cases b<;>cases k<;>first|exact aa h|cases h
    | [_,.Name _ _],_::_,h=>first|exact aa h|cases h
    | [_,.BoolOp ..],_,h=>first|exact aa h|cases h
    | [_,.NamedExpr ..],_,h=>first|exact aa h|cases h
    | [_,.BinOp ..],_,h=>first|exact aa h|cases h
    | [_,.UnaryOp ..],_,h=>first|exact aa h|cases h
    | [_,.Lambda ..],_,h=>first|exact aa h|cases h
    | [_,.IfExp ..],_,h=>first|exact aa h|cases h
    | [_,.Dict ..],_,h=>first|exact aa h|cases h
    | [_,.Set ..],_,h=>first|exact aa h|cases h
    | [_,.ListComp ..],_,h=>first|exact aa h|cases h
    | [_,.SetComp ..],_,h=>first|exact aa h|cases h
    | [_,.DictComp ..],_,h=>first|exact aa h|cases h
    | [_,.GeneratorExp ..],_,h=>first|exact aa h|cases h
    | [_,.Await ..],_,h=>first|exact aa h|cases h
    | [_,.Yield ..],_,h=>first|exact aa h|cases h
    | [_,.YieldFrom ..],_,h=>first|exact aa h|cases h
    | [_,.Compare ..],_,h=>first|exact aa h|cases h
    | [_,.Call ..],_,h=>first|exact aa h|cases h
    | [_,.FormattedValue ..],_,h=>first|exact aa h|cases h
    | [_,.JoinedStr ..],_,h=>first|exact aa h|cases h
    | [_,.Constant ..],_,h=>first|exact aa h|cases h
    | [_,.Attribute ..],_,h=>first|exact aa h|cases h
    | [_,.Subscript ..],_,h=>first|exact aa h|cases h
    | [_,.Starred ..],_,h=>first|exact aa h|cases h
    | [_,.Slice ..],_,h=>first|exact aa h|cases h
    | [_,.List ..],_,h=>first|exact aa h|cases h
    | [_,.Tuple ..],_,h=>first|exact aa h|cases h
   | _=>first|exact aa h|cases h
  | _=>first|exact aa h|cases h
 | .Il m o es,X,ex,G,e,g,h=>by
  cases e with
  | Call fn args CI pos=>
   cases fn with
   | Attribute oe name apos=>
    match args,CI,h with
    | a::args,[],h=>
     have h':(name == d7 m&&ed oe&&apos.endLine == pos.line&&(decide ((a::args).length < 29)&&(G.cm||jf m))&&A9 Z G o oe&&aF Z G es (a::args))=true:=h
     simp only[Bool.and_eq_true] at h'
     have e1:name=d7 m:=eq_of_beq h'.1.1.1.1.1
     subst e1
     exact both (xU g h'.1.1.1.1.2 h'.1.1.1.2 (of_decide_eq_true h'.1.1.2.1) h'.1.1.2.2 h'.2 (snd o X ex G oe g h'.1.2).1 (jl es X ex G _ g h'.2))
    | [],_,h=>first|exact aa h|cases h
    | _::_,_::_,h=>first|exact aa h|cases h
   | _=>first|exact aa h|cases h
  | _=>first|exact aa h|cases h
 | .comp G' fr tg src ifs elt,X,ex,G,e,g,h=>by
  cases e with
  | ListComp el gens scope pos=>
   have h:lq gens (fun t it fs=>ba Z G scope G' fr&&bA G' tg t&&(CZ tg).all (fun i=>decide (fr.length<=i))&&(bL Z G src it&&dE src t)&&aF Z G' ifs fs&&A9 Z G' elt el)=true:=h
   obtain⟨t,it,fs,rfl,h⟩:=gc h
   have h':(ba Z G scope G' fr&&bA G' tg t&&(CZ tg).all (fun i=>decide (fr.length<=i))&&(bL Z G src it&&dE src t)&&aF Z G' ifs fs&&A9 Z G' elt el)=true:=h
   simp only[Bool.and_eq_true] at h'
   exact both (vK g (gh h'.1.1.1.1.1) h'.1.1.1.1.2 (fun i hi=>of_decide_eq_true (List.all_eq_true.mp h'.1.1.1.2 i hi)) (qL src X ex G it t g h'.1.1.2.1 h'.1.1.2.2)
    (fun X' g'=>qK ifs X' CJ G' fs g' h'.1.2) (fun X' g'=>(snd elt X' CJ G' el g' h'.2).1) (fun x=>bG h'.1.1.2.1 X.env x))
  | _=>first|exact aa h|cases h
theorem jl:∀ (as:List IR) (X:Cx) (ex:Str->Prop) (G:Gm) (l:List Expr),Bt Z CX cl xp X ex G->aF Z G as l=true->PA X l (RA X.K ex (aj as) (ay cl as))
 | [],X,ex,G,l,g,h=>by
  cases l with
  | nil=>exact fT bx fun σ H Q ⟨S,τ,hs,q⟩=>q.ok _ _ (.refl _) .nil
  | cons _ _=>first|exact aa h|cases h
 | a::as,X,ex,G,l,g,h=>by
  cases l with
  | nil=>first|exact aa h|cases h
  | cons e l=>
   have h':(notStar e&&A9 Z G a e&&aF Z G as l)=true:=h
   simp only[Bool.and_eq_true] at h'
   refine fT (aL (snd a X ex G e g h'.1.2).1 (jl as X ex G l g h'.2) (ai h'.1.1 _ _)) fun σ H Q ⟨S,τ,hs,q⟩=>?_
   refine aH (.refl _) hs.left (AZ.j' q) fun x v H1 e1 _ m1 q1=>?_
   refine ji e1 hs.right (AZ.j' q1) fun ds vs H2 e2 BK m2 q2=>?_
   exact q2.ok _ _ e2 (.cons (m1.later BK) m2)
theorem qJ:∀ (o:Option IR) (X:Cx) (ex:Str->Prop) (G:Gm) (e:Option Expr),Bt Z CX cl xp X ex G->jh Z G o e=true->PO X e (Iz X.K ex (mn o) (fZ cl o))
 | none,X,ex,G,e,g,h=>by
  cases e with
  | none=>
   intro pins s σ H Q I ⟨S,τ,hs,q⟩
   exact p8 pins s σ H Q I (q.ok H (.refl _))
  | some _=>first|exact aa h|cases h
 | some a,X,ex,G,e,g,h=>by
  cases e with
  | none=>first|exact aa h|cases h
  | some e=>
   intro pins s σ H Q I ⟨S,τ,hs,q⟩
   refine p9 (snd a X ex G e g h).1 pins s σ H Q I ?_
   refine aH (.refl _) hs (AZ.j' q) fun x v H1 e1 _ m1 q1=>?_
   cases x with
   | int i=>cases m1.Bj;exact⟨i,rfl,q1.ok _ e1⟩
   | _=>exact q1.no.elim
theorem qK:∀ (as:List IR) (X:Cx) (ex:Str->Prop) (G:Gm) (l:List Expr),Bt Z CX cl xp X ex G->aF Z G as l=true->FD X l (RT X.K ex (aj as) (cG cl as))
 | [],X,ex,G,l,g,h=>by
  cases l with
  | nil=>intro pins s σ H Q I ⟨S,τ,hs,q⟩;exact qf pins s σ H Q I (q.ok H (.refl _))
  | cons _ _=>first|exact aa h|cases h
 | a::as,X,ex,G,l,g,h=>by
  cases l with
  | nil=>first|exact aa h|cases h
  | cons e l=>
   have h':(notStar e&&A9 Z G a e&&aF Z G as l)=true:=h
   simp only[Bool.and_eq_true] at h'
   intro pins s σ H Q I ⟨S,τ,hs,q⟩
   refine l7 (snd a X ex G e g h'.1.2).2 (qK as X ex G l g h'.2) pins s σ H Q I ?_
   refine cU (.refl _) hs.left (AZ.j' q) fun r H2 e2 _ k=>?_
   cases r with
   | true=>rw[if_pos rfl] at k ⊢;exact cU e2 hs.right k fun b H3 e3 _ z=>z H3 e3
   | false=>rw[if_neg Bool.false_ne_true] at k ⊢;exact k.ok H2 e2
theorem qL:∀ (s:Sr) (X:Cx) (ex:Str->Prop) (G:Gm) (e tg:Expr),Bt Z CX cl xp X ex G->bL Z G s e=true->dE s tg=true->PI X tg e (RI X.K ex (cP s) (bZ cl s))
 | .B4 n,X,ex,G,e,tg,g,h,ht=>by
  cases e with
  | Call fn args CI pos=>
   cases fn with
   | Name x p=>
    match args,CI,h with
    | [a],[],h=>
     have h':(x == "range"&&G.gl.contains 15&&notStar a&&A9 Z G n a)=true:=h
     simp only[Bool.and_eq_true] at h'
     have e1:x = "range":=eq_of_beq h'.1.1.1
     subst e1
     exact vJ g h'.1.1.2 h'.1.2 (snd n X ex G a g h'.2).1
    | [],_,h=>first|exact aa h|cases h
    | [_],_::_,h=>first|exact aa h|cases h
    | _::_::_,_,h=>first|exact aa h|cases h
   | _=>first|exact aa h|cases h
  | _=>first|exact aa h|cases h
 | .C7 a b,X,ex,G,e,tg,g,h,ht=>by cases e<;>exact aa h
 | .val a,X,ex,G,e,tg,g,h,ht=>xZ (snd a X ex G e g h).1
 | .rev a,X,ex,G,e,tg,g,h,ht=>by
  cases e with
  | Call fn args CI pos=>
   cases fn with
   | Name x p=>
    match args,CI,h with
    | [l],[],h=>
     have h':(x == "reversed"&&G.gl.contains 18&&notStar l&&A9 Z G a l)=true:=h
     simp only[Bool.and_eq_true] at h'
     have e1:x = "reversed":=eq_of_beq h'.1.1.1
     subst e1
     exact yf g h'.1.1.2 h'.1.2 (snd a X ex G l g h'.2).1
    | [],_,h=>first|exact aa h|cases h
    | [_],_::_,h=>first|exact aa h|cases h
    | _::_::_,_,h=>first|exact aa h|cases h
   | _=>first|exact aa h|cases h
  | _=>first|exact aa h|cases h
 | .DR a,X,ex,G,e,tg,g,h,ht=>by
  cases tg with
  | Tuple Po tc tp=>
   cases e with
   | Call fn args CI pos=>
    cases fn with
    | Name x p=>
     match args,CI,h with
     | [l],[],h=>
      have h':(x == "enumerate"&&G.gl.contains 20&&notStar l&&A9 Z G a l)=true:=h
      simp only[Bool.and_eq_true] at h'
      have e1:x = "enumerate":=eq_of_beq h'.1.1.1
      subst e1
      exact yd g h'.1.1.2 h'.1.2 (snd a X ex G l g h'.2).1
     | [],_,h=>first|exact aa h|cases h
     | [_],_::_,h=>first|exact aa h|cases h
     | _::_::_,_,h=>first|exact aa h|cases h
    | _=>first|exact aa h|cases h
   | _=>first|exact aa h|cases h
  | _=>exact aa ht
 | .zip a b,X,ex,G,e,tg,g,h,ht=>by
  cases tg with
  | Tuple Po tc tp=>
   cases e with
   | Call fn args CI pos=>
    cases fn with
    | Name x p=>
     match args,CI,h with
     | [l,r],[],h=>
      have h':(x == "zip"&&G.gl.contains 17&&notStar l&&notStar r&&A9 Z G a l&&A9 Z G b r)=true:=h
      simp only[Bool.and_eq_true] at h'
      have e1:x = "zip":=eq_of_beq h'.1.1.1.1.1
      subst e1
      exact yb g h'.1.1.1.1.2 h'.1.1.1.2 h'.1.1.2 (snd a X ex G l g h'.1.2).1 (snd b X ex G r g h'.2).1
     | [],_,h=>first|exact aa h|cases h
     | [_],_,h=>first|exact aa h|cases h
     | [_,_],_::_,h=>first|exact aa h|cases h
     | _::_::_::_,_,h=>first|exact aa h|cases h
    | _=>first|exact aa h|cases h
   | _=>first|exact aa h|cases h
  | _=>exact aa ht
end
end
inductive Bq (K:PySem.W.Frag)(F:Addr->Prop)(H:Hp):St->Ev->List Addr->Prop where
 | nil:Bq K F H [] [] []
 | none {o:Option V}{σ:St}{τ:Ev}{f:List Addr}:Bq K F H σ τ f->Bq K F H (o::σ) (.none::τ) f
 | some {v:V}{d:D}{f:List Addr}{σ:St}{τ:Ev}{g:List Addr}:Ba K F H v d f->Bq K F H σ τ g->Bq K F H (.some v::σ) (.some d::τ) (f++g)
section
variable {K:PySem.W.Frag}{F F':Addr->Prop}{H H':Hp}{σ:St}{τ:Ev}{f:List Addr}
theorem Bq.step (hl:∀ a (u:LD),F a->Rd H a u.o->F' a/\Rd H' a u.o)(ht:∀ a xs,BI K H a xs->BI K H' a xs):∀ {σ:St}{τ:Ev}{f:List Addr},(∀ a∈f,¬ F a->H a≠Option.none->¬ F' a/\H' a=H a)->Bq K F H σ τ f->Bq K F' H' σ τ f
 | _,_,_,_,.nil=>.nil
 | _,_,_,k,.none h=>.none (Bq.step hl ht k h)
 | _,_,_,k,.some m h=>.some (m.step hl ht fun a ha=>k a (List.mem_append_left _ ha)) (Bq.step hl ht (fun a ha=>k a (List.mem_append_right _ ha)) h)
theorem Bq.own:∀ {σ:St}{τ:Ev}{f:List Addr},Bq K F H σ τ f->∀ a∈f,¬ F a/\∃ u,H a=.some u
 | _,_,_,.nil=>fun _ h=>absurd h (by simp)
 | _,_,_,.none h=>Bq.own h
 | _,_,_,.some m h=>fun a ha=>by
  rcases List.mem_append.mp ha with ha|ha
  ·exact m.own a ha
  ·exact Bq.own h a ha
theorem aT {o:Option D}{τ:Ev}{i:Nat}:ah (o::τ) (i+1)=ah τ i:=by unfold ah;simp
theorem br {o:Option D}{τ:Ev}:ah (o::τ) 0=o:=by unfold ah;simp
theorem Bq.at:∀ {σ:St}{τ:Ev}{f:List Addr}{i:Nat}{d:D},Bq K F H σ τ f->ah τ i=.some d->∃ v fv g,σ[i]? = .some (.some v)/\Ba K F H v d fv/\Bq K F H σ (τ.set i .none) g/\f.Perm (fv++g)
 | _,_,_,i,d,.nil,h=>by simp[ah] at h
 | _,_,_,0,d,.none _,h=>by rw[br] at h;cases h
 | _,_,_,0,d,.some m h',h=>by
  rw[br] at h
  cases h
  exact⟨_,_,_,rfl,m,.none h',.refl _⟩
 | _,_,_,i+1,d,.none h',h=>by
  rw[aT] at h
  obtain⟨v,fv,g,h1,h2,h3,h4⟩:=Bq.at h' h
  exact⟨v,fv,g,by simpa using h1,h2,.none h3,h4⟩
 | _,_,_,i+1,d,.some (f:=f0) m h',h=>by
  rw[aT] at h
  obtain⟨v,fv,g,h1,h2,h3,h4⟩:=Bq.at h' h
  refine⟨v,fv,f0++g,by simpa using h1,h2,.some m h3,?_⟩
  refine(List.Perm.append_left f0 h4).trans ?_
  rw[<- List.append_assoc,<- List.append_assoc]
  exact List.Perm.append_right g List.perm_append_comm
theorem Bq.put:∀ {σ:St}{τ:Ev}{f:List Addr} (i:Nat) {v:V}{d:D}{fv:List Addr},Bq K F H σ τ f->Ba K F H v d fv->∃ g h,Bq K F H (σ.set i (.some v)) (τ.set i (.some d)) g/\(g++h).Perm (fv++f)
 | _,_,_,i,v,d,fv,.nil,m=>⟨[],_,.nil,.refl _⟩
 | _,_,_,0,v,d,fv,.none h,m=>⟨_,[],.some m h,by rw[List.append_nil]⟩
 | _,_,_,0,v,d,fv,.some (f:=f0) (g:=g0) m' h,m=>⟨_,f0,.some m h,by rw[List.append_assoc];exact List.Perm.append_left _ List.perm_append_comm⟩
 | _,_,_,i+1,v,d,fv,.none h,m=>by
  obtain⟨g,h',h1,h2⟩:=Bq.put i h m
  exact⟨g,h',.none h1,h2⟩
 | _,_,_,i+1,v,d,fv,.some (f:=f0) (g:=g0) m' h,m=>by
  obtain⟨g,h',h1,h2⟩:=Bq.put i h m
  refine⟨f0++g,h',.some m' h1,?_⟩
  rw[List.append_assoc]
  refine(List.Perm.append_left f0 h2).trans ?_
  rw[<- List.append_assoc,<- List.append_assoc]
  exact List.Perm.append_right g0 List.perm_append_comm
theorem Bq.slots {S:Addr->Prop}{is:List Nat}(h:Bq K F H σ τ f)(hF:∀ a,F a->S a)(hf:∀ a∈f,S a):Slots K S H σ τ is:=fun i hi d z=>by
 obtain⟨v,fv,g,h1,h2,h3,h4⟩:=h.at z
 exact⟨v,h1,h2.read hF fun a ha=>hf a (h4.mem_iff.mpr (List.mem_append_left _ ha))⟩
theorem Bq.freeze (is:List Nat):∀ {σ:St}{τ:Ev}{f:List Addr} (k:Nat),Bq K F H σ τ f->∃ fi g,f.Perm (fi++g)/\(∀ F':Addr->Prop,(∀ a,F a->F' a)->(∀ a∈fi,F' a)->(∀ a∈g,¬ F a->¬ F' a)->Bq K F' H σ (dt is k τ) g)/\
  ∀ F':Addr->Prop,(∀ a,F a->F' a)->(∀ a∈fi,F' a)->∀ i,is.contains (k+i)=true->∀ d,ah τ i=.some d->∃ v,σ[i]? = .some (.some v)/\A1 K F' H v d
 | _,_,_,k,.nil=>⟨[],[],.refl _,fun _ _ _ _=>.nil,fun _ _ _ i _ d z=>by simp[ah] at z⟩
 | _,_,_,k,.none h=>by
  obtain⟨fi,g,h1,h2,h3⟩:=Bq.freeze is (k+1) h
  refine⟨fi,g,h1,fun F' a b c=>?_,fun F' a b i hi d z=>?_⟩
  ·unfold dt
   have e:(if is.contains k=true then Option.map er (Option.none:Option D) else Option.none)=Option.none:=by split<;>rfl
   rw[e]
   exact .none (h2 F' a b c)
  ·cases i with
   | zero=>rw[br] at z;cases z
   | succ i=>
    rw[aT] at z
    obtain⟨v,q1,q2⟩:=h3 F' a b i (by rw[show k+1+i=k+(i+1) by omega];exact hi) d z
    exact⟨v,by simpa using q1,q2⟩
 | _,_,_,k,.some (v:=v) (d:=d0) (f:=f0) (g:=g0) m h=>by
  obtain⟨fi,g,h1,h2,h3⟩:=Bq.freeze is (k+1) h
  by_cases hc:is.contains k=true
  ·refine⟨f0++fi,g,by rw[List.append_assoc];exact List.Perm.append_left _ h1,fun F' a b c=>?_,fun F' a b i hi d z=>?_⟩
   ·unfold dt
    rw[if_pos hc]
    exact .some (f:=[]) ((m.read a fun x hx=>b x (List.mem_append_left _ hx)).frozen) (h2 F' a (fun x hx=>b x (List.mem_append_right _ hx)) c)
   ·cases i with
    | zero=>
     rw[br] at z
     cases z
     exact⟨v,rfl,m.read a fun x hx=>b x (List.mem_append_left _ hx)⟩
    | succ i=>
     rw[aT] at z
     obtain⟨v,q1,q2⟩:=h3 F' a (fun x hx=>b x (List.mem_append_right _ hx)) i (by rw[show k+1+i=k+(i+1) by omega];exact hi) d z
     exact⟨v,by simpa using q1,q2⟩
  ·refine⟨fi,f0++g,?_,fun F' a b c=>?_,fun F' a b i hi d z=>?_⟩
   ·refine(List.Perm.append_left f0 h1).trans ?_
    rw[<- List.append_assoc,<- List.append_assoc]
    exact List.Perm.append_right g List.perm_append_comm
   ·unfold dt
    rw[if_neg hc]
    exact .some (m.step (fun x xs q r=>⟨a x q,r⟩) (fun x xs q=>q) fun x hx n _=>⟨c x (List.mem_append_left _ hx) n,rfl⟩) (h2 F' a b fun x hx=>c x (List.mem_append_right _ hx))
   ·cases i with
    | zero=>exact absurd hi hc
    | succ i=>
     rw[aT] at z
     obtain⟨v,q1,q2⟩:=h3 F' a b i (by rw[show k+1+i=k+(i+1) by omega];exact hi) d z
     exact⟨v,by simpa using q1,q2⟩
end
structure D8 (F:Addr->Prop)(H:Hp)(f:List Addr)(F':Addr->Prop)(H':Hp):Prop where
 same:aq H H'
 Ct:∀ a,F a->F' a
 out:∀ a,F' a->F a∨a∈f∨H a=none
structure Ow (K:PySem.W.Frag)(F:Addr->Prop)(H:Hp)(f:List Addr)(F':Addr->Prop)(H':Hp)(σ:St)(v:V)(d:D)(fv:List Addr)(A7:Ev)(f':List Addr):Prop where
 C9:D8 F H f F' H'
 Bh:C8 F' H'
 rep:Ba K F' H' v d fv
 BR:Bq K F' H' σ A7 f'
 BG:(fv++f').Nodup
 mem:∀ a∈fv++f',a∈f∨H a=none
structure Pp (K:PySem.W.Frag)(F:Addr->Prop)(H:Hp)(f:List Addr)(F':Addr->Prop)(H':Hp)(σ:St)(v:List V)(d:List D)(fv:List Addr)(A7:Ev)(f':List Addr):Prop where
 C9:D8 F H f F' H'
 Bh:C8 F' H'
 rep:A2 K F' H' v d fv
 BR:Bq K F' H' σ A7 f'
 BG:(fv++f').Nodup
 mem:∀ a∈fv++f',a∈f∨H a=none
section
variable {K:PySem.W.Frag}{F F' Ku:Addr->Prop}{H H' Kv:Hp}{f f':List Addr}
theorem D8.refl:D8 F H f F H:=⟨.refl _,fun _ h=>h,fun _ h=>.inl h⟩
theorem D8.trans (a:D8 F H f F' H')(b:D8 F' H' f' Ku Kv)(hf:∀ x∈f',x∈f∨H x=none):D8 F H f Ku Kv:=⟨a.same.trans b.same,fun x h=>b.Ct x (a.Ct x h),fun x h=>by
 rcases b.out x h with h|h|h
 ·exact a.out x h
 ·rcases hf x h with h|h
  ·exact .inr (.inl h)
  ·exact .inr (.inr h)
 ·exact .inr (.inr (a.same.free h))⟩
theorem Ba.C9 {v:V}{d:D}{fv:List Addr}(m:Ba K F H v d fv)(s:D8 F H f F' H')(h:∀ a∈fv,a∉f):Ba K F' H' v d fv:=
 m.step (fun a xs q r=>⟨s.Ct a q,s.same.rd r⟩) (fun a xs q=>s.same.CF q) fun a ha n hn=>by
  obtain⟨_,xs,e⟩:=m.own a ha
  refine⟨fun z=>?_,(s.same _ _ e).trans e.symm⟩
  rcases s.out a z with z|z|z
  ·exact n z
  ·exact h a ha z
  ·exact hn z
theorem A2.C9 {v:List V}{d:List D}{fv:List Addr}(m:A2 K F H v d fv)(s:D8 F H f F' H')(h:∀ a∈fv,a∉f):A2 K F' H' v d fv:=
 m.step (fun a xs q r=>⟨s.Ct a q,s.same.rd r⟩) (fun a xs q=>s.same.CF q) fun a ha n hn=>by
  obtain⟨_,xs,e⟩:=m.own a ha
  refine⟨fun z=>?_,(s.same _ _ e).trans e.symm⟩
  rcases s.out a z with z|z|z
  ·exact n z
  ·exact h a ha z
  ·exact hn z
end
def RO (K:PySem.W.Frag)(ex:Str->Prop)(g:Ev->Res (D×Ev)):TE:=fun σ H Q=>∃ F τ f,C8 F H/\Bq K F H σ τ f/\f.Nodup/\AZ ex (g τ) fun p=>∀ v H' F' fv f',Ow K F H f F' H' σ v p.1 fv p.2 f'->Q v H'
def IC (K:PySem.W.Frag)(ex:Str->Prop)(g:Ev->Res (List D×Ev)):TA:=fun σ H Q=>∃ F τ f,C8 F H/\Bq K F H σ τ f/\f.Nodup/\AZ ex (g τ) fun p=>∀ v H' F' fv f',Pp K F H f F' H' σ v p.1 fv p.2 f'->Q v H'
abbrev Kn (K:PySem.W.Frag)(S:Addr->Prop)(H:Hp)(Q:VK):List D->Prop:=fun ds=>∀ p ys H',aq H H'->H p=none->H' p=some (.lst ys)->AY K (fun a=>nw S H a/\a≠p) H' ys ds->Q (.ref p) H'
def RN (K:PySem.W.Frag)(ex:Str->Prop)(is:List Nat)(f:Ev->Res (List D)):TE:=fun σ H Q=>∃ S τ,Slots K S H σ τ is/\AZ ex (f τ) (Kn K S H Q)
noncomputable def cY:D->Res (List D)
 | .lst _ ds=>.ok ds
 | _=>A5
section
variable {K:PySem.W.Frag}{F F':Addr->Prop}{H H':Hp}{σ:St}{τ:Ev}{f:List Addr}{ex:Str->Prop}{S:Addr->Prop}
theorem vL {vs ws:List V}{ds:List D}{p:Addr}{H2:Hp}(m:AY K (nw S H) H2 vs ds)(hp:H2 p=none):AY K (fun a=>nw S H a/\a≠p) (upd H2 p (.lst ws)) vs ds:=
 m.step (fun a xs h r=>by
  have Ey:a≠p:=fun z=>r.some (by rw[z];exact hp)
  refine⟨⟨h,Ey⟩,?_⟩
  unfold Rd
  rw[ak Ey]
  exact r) fun a xs h=>(aq.upd hp).CF h
theorem grow (P:Addr->Prop)(Bh:C8 F H)(r:Bq K F H σ τ f)(e:aq H H') :
  C8 (fun a=>F a∨(P a/\H a=none/\H' a≠none)) H'/\Bq K (fun a=>F a∨(P a/\H a=none/\H' a≠none)) H' σ τ f/\D8 F H f (fun a=>F a∨(P a/\H a=none/\H' a≠none)) H':=by
 refine⟨fun a h=>?_,r.step (fun a xs q rd=>⟨.inl q,e.rd rd⟩) (fun a xs q=>e.CF q) fun a ha n hn=>⟨fun z=>?_,?_⟩,⟨e,fun a h=>.inl h,fun a h=>?_⟩⟩
 ·rcases h with h|h
  ·intro z
   exact Bh a h (e.free z)
  ·exact h.2.2
 ·rcases z with z|z
  ·exact n z
  ·exact hn z.2.1
 ·obtain⟨_,xs,q⟩:=r.own a ha
  exact(e _ _ q).trans q.symm
 ·rcases h with h|h
  ·exact .inl h
  ·exact .inr (.inr h.2.1)
theorem cZ (Bh:C8 F H)(r:Bq K F H σ τ f)(e:aq H H'):C8 F H'/\Bq K F H' σ τ f/\D8 F H f F H':=by
 refine⟨fun a h z=>Bh a h (e.free z),r.step (fun a xs q rd=>⟨q,e.rd rd⟩) (fun a xs q=>e.CF q) fun a ha n hn=>⟨n,?_⟩,⟨e,fun a h=>h,fun a h=>.inl h⟩⟩
 obtain⟨_,xs,q⟩:=r.own a ha
 exact(e _ _ q).trans q.symm
theorem b8 (is:List Nat)(Bh:C8 F H)(r:Bq K F H σ τ f)(nd:f.Nodup):∃ F1 g,C8 F1 H/\Bq K F1 H σ (Bb is τ) g/\g.Nodup/\D8 F H f F1 H/\(∀ a∈g,a∈f)/\Slots K F1 H σ τ is:=by
 obtain⟨fi,g,h1,h2,h3⟩:=r.freeze is 0
 have Fp:(fi++g).Nodup:=h1.nodup_iff.mp nd
 have ID:∀ a∈g,a∉fi:=fun a ha hb=>(List.nodup_append.mp Fp).2.2 a hb a ha rfl
 have Nd:∀ a∈fi,a∈f:=fun a ha=>h1.mem_iff.mpr (List.mem_append_left _ ha)
 have Pq:∀ a∈g,a∈f:=fun a ha=>h1.mem_iff.mpr (List.mem_append_right _ ha)
 refine⟨fun a=>F a∨a∈fi,g,fun a h=>?_,h2 _ (fun a h=>.inl h) (fun a h=>.inr h) (fun a ha n z=>?_),(List.nodup_append.mp Fp).2.1,⟨.refl _,fun a h=>.inl h,fun a h=>?_⟩,Pq,fun i hi d z=>?_⟩
 ·rcases h with h|h
  ·exact Bh a h
  ·obtain⟨_,xs,q⟩:=r.own a (Nd a h)
   rw[q];simp
 ·rcases z with z|z
  ·exact n z
  ·exact ID a ha z
 ·rcases h with h|h
  ·exact .inl h
  ·exact .inr (.inl (Nd a h))
 ·exact h3 _ (fun a h=>.inl h) (fun a h=>.inr h) i (by simpa using hi) d z
theorem aR {is:List Nat}(r:Bq K F H σ τ f):Slots K (fun _=>True) H σ τ is:=r.slots (fun _ _=>trivial) fun _ _=>trivial
theorem A1.fix {v:V}{d:D}(m:A1 K (L2.nw F H) H' v d):A1 K (fun a=>F a∨(True/\H a=none/\H' a≠none)) H' v d:=m.step (fun a xs h r=>⟨h.elim (fun z=>.inl z) fun z=>.inr ⟨trivial,z,r.some⟩,r⟩) fun a xs h=>h
end
section
variable {X:Cx}{ex:Str->Prop}{cl:Nat->List D->Res D}
theorem Kw {i:Nat}{e:Expr}(he:PE X e (pT i))(mv:Bool):PE X e (RO X.K ex (BF cl mv (.v i))):=by
 refine ax he fun σ H Q ⟨F,τ,f,Bh,r,nd,q⟩=>?_
 rw[xE] at q
 cases z:ah τ i with
 | none=>rw[z] at q;exact q.no.elim
 | some d=>
  rw[z] at q
  obtain⟨v,fv,g,h1,h2,h3,h4⟩:=r.at z
  have Fp:(fv++g).Nodup:=h4.nodup_iff.mp nd
  cases mv with
  | true=>
   have q':=(show AZ ex (.ok (d,τ.set i none):Res (D×Ev)) _ from q).ok
   exact⟨v,h1,q' v H F fv g ⟨.refl,Bh,h2,h3,Fp,fun a ha=>.inl (h4.mem_iff.mpr ha)⟩⟩
  | false=>
   have q':=(show AZ ex (.ok (er d,τ.set i (some (er d))):Res (D×Ev)) _ from q).ok
   have ID:∀ a∈g,a∉fv:=fun a ha hb=>(List.nodup_append.mp Fp).2.2 a hb a ha rfl
   have m1:Ba X.K (fun a=>F a∨a∈fv) H v (er d) []:=(h2.read (fun a h=>.inl h) (fun a h=>.inr h)).frozen
   have r1:Bq X.K (fun a=>F a∨a∈fv) H σ (τ.set i none) g:=h3.step (fun a xs h r=>⟨.inl h,r⟩) (fun a xs h=>h) fun a ha n _=>⟨fun z=>z.elim n (ID a ha),rfl⟩
   obtain⟨g',h',r2,p2⟩:=r1.put i m1
   have B8:σ.set i (some v)=σ:=by
    apply List.ext_getElem?
    intro j
    rw[List.getElem?_set]
    by_cases hj:i=j
    ·subst hj
     have BM:i < σ.length:=(List.getElem?_eq_some_iff.mp h1).1
     rw[if_pos rfl,if_pos BM,h1]
    ·rw[if_neg hj]
   rw[B8,List.set_set] at r2
   rw[List.nil_append] at p2
   have Hb:(g'++h').Nodup:=p2.nodup_iff.mpr (List.nodup_append.mp Fp).2.1
   refine⟨v,h1,q' v H _ [] g' ⟨⟨.refl _,fun a h=>.inl h,fun a h=>?_⟩,fun a h=>?_,m1,r2,(List.nodup_append.mp Hb).1,fun a ha=>?_⟩⟩
   ·exact h.elim (fun z=>.inl z) fun z=>.inr (.inl (h4.mem_iff.mpr (List.mem_append_left _ z)))
   ·rcases h with h|h
    ·exact Bh a h
    ·obtain⟨_,xs,e⟩:=h2.own a h
     rw[e];simp
   ·have:a∈g:=p2.mem_iff.mp (List.mem_append_left _ (by simpa using ha))
    exact .inl (h4.mem_iff.mpr (List.mem_append_right _ this))
theorem El {l:List Expr}{n:Nat}{pos:Pos}{g:Ev->Res (List D×Ev)}(h:PA X l (IC X.K ex g)):PE X (.Tuple l n pos) (RO X.K ex fun τ=>j' (g τ) fun p=>A4 (aU p.1.length) (.ok (.tup p.1,p.2))):=by
 refine ax (lZ h) fun σ H Q ⟨F,τ,f,Bh,r,nd,q⟩=>⟨F,τ,f,Bh,r,nd,(AZ.j' q).mono fun p hp vs H1 F1 fv f1 o=>?_⟩
 obtain⟨gd,hp⟩:=AZ.A4 hp
 refine⟨by rw[o.rep.length];exact aZ gd,fun p' FV=>hp.ok _ _ F1 fv f1 ?_⟩
 have e:aq H1 (upd H1 p' (.tup vs)):=.upd FV
 obtain⟨k1,k2,k3⟩:=cZ o.Bh o.BR e
 refine⟨o.C9.trans k3 (fun x hx=>o.mem x (List.mem_append_right _ hx)),k1,.tup (.inl (.inl aw)) (o.rep.C9 k3 fun a ha hb=>(List.nodup_append.mp o.BG).2.2 a ha a hb rfl),k2,o.BG,o.mem⟩
theorem Em {l:List Expr}{pos:Pos}{g:Ev->Res (List D×Ev)}(h:PA X l (IC X.K ex g)):PE X (.List l pos) (RO X.K ex fun τ=>j' (g τ) fun p=>A4 (aU p.1.length) (.ok (.lst true p.1,p.2))):=by
 refine ax (l0 h) fun σ H Q ⟨F,τ,f,Bh,r,nd,q⟩=>⟨F,τ,f,Bh,r,nd,(AZ.j' q).mono fun p hp vs H1 F1 fv f1 o=>?_⟩
 obtain⟨gd,hp⟩:=AZ.A4 hp
 refine⟨by rw[o.rep.length];exact aZ gd,fun p' FV=>hp.ok _ _ F1 (p'::fv) f1 ?_⟩
 have e:aq H1 (upd H1 p' (.lst vs)):=.upd FV
 obtain⟨k1,k2,k3⟩:=cZ o.Bh o.BR e
 refine⟨o.C9.trans k3 (fun x hx=>o.mem x (List.mem_append_right _ hx)),k1,.CB (fun z=>o.Bh _ z FV) aw (o.rep.C9 k3 fun a ha hb=>(List.nodup_append.mp o.BG).2.2 a ha a hb rfl),k2,?_,fun a ha=>?_⟩
 ·rw[List.cons_append,List.nodup_cons]
  refine⟨fun z=>?_,o.BG⟩
  rcases List.mem_append.mp z with z|z
  ·obtain⟨_,xs,e⟩:=o.rep.own _ z
   rw[FV] at e;cases e
  ·obtain⟨_,xs,e⟩:=o.BR.own _ z
   rw[FV] at e;cases e
 ·rw[List.cons_append] at ha
  rcases List.mem_cons.mp ha with rfl|ha
  ·exact .inr (o.C9.same.free FV)
  ·exact o.mem a ha
theorem En {c a b:Expr}{pos:Pos}{vc:List Nat}{fc:Ev->Res Bool}{fa fb:Ev->Res (D×Ev)}(hc:PT X c (RT X.K ex vc fc))(ha:PE X a (RO X.K ex fa))(hb:PE X b (RO X.K ex fb)) :
  PE X (.IfExp c a b pos) (RO X.K ex fun τ=>j' (fc τ) fun r=>if r=true then fa τ else fb τ):=by
 refine ax (gL hc ha hb) fun σ H Q ⟨F,τ,f,Bh,r,nd,q⟩=>?_
 refine cU (.refl _) (aR r) (AZ.j' q) fun x H2 e2 _ k=>?_
 obtain⟨k1,k2,k3⟩:=cZ Bh r e2
 have go:∀ {g:Ev->Res (D×Ev)},AZ ex (g τ) (fun p=>∀ v H' F' fv f',Ow X.K F H f F' H' σ v p.1 fv p.2 f'->Q v H')->RO X.K ex g σ H2 Q:=fun hg=>
  ⟨F,τ,f,k1,k2,nd,hg.mono fun p hp v H' F' fv f' o=>hp v H' F' fv f' ⟨k3.trans o.C9 (fun x hx=>.inl hx),o.Bh,o.rep,o.BR,o.BG,fun a ha=>(o.mem a ha).elim (fun z=>.inl z) fun z=>.inr (e2.free z)⟩⟩
 cases x with
 | true=>rw[if_pos rfl] at k ⊢;exact go k
 | false=>rw[if_neg Bool.false_ne_true] at k ⊢;exact go k
theorem vM:PA X [] (IC X.K ex fun τ=>.ok ([],τ)):=fT bx fun σ H Q ⟨F,τ,f,Bh,r,nd,q⟩=>q.ok [] H F [] f ⟨.refl,Bh,.nil,r,nd,fun a ha=>.inl ha⟩
theorem qM {e:Expr}{l:List Expr}{ga:Ev->Res (D×Ev)}{gs:Ev->Res (List D×Ev)}(hn:notStar e=true)(ha:PE X e (RO X.K ex ga))(hr:PA X l (IC X.K ex gs)) :
  PA X (e::l) (IC X.K ex fun τ=>j' (ga τ) fun p=>j' (gs p.2) fun q=>.ok (p.1::q.1,q.2)):=by
 refine fT (aL ha hr (ai hn _ _)) fun σ H Q ⟨F,τ,f,Bh,r,nd,q⟩=>⟨F,τ,f,Bh,r,nd,(AZ.j' q).mono fun p hp v H1 F1 fv f1 o=>?_⟩
 refine⟨F1,p.2,f1,o.Bh,o.BR,(List.nodup_append.mp o.BG).2.1,(AZ.j' hp).mono fun p' FV vs H2 F2 Pr f2 o2=>?_⟩
 have ID:∀ a∈fv,a∉f1:=fun a h1 h2=>(List.nodup_append.mp o.BG).2.2 a h1 a h2 rfl
 have m2:=o.rep.C9 o2.C9 ID
 refine FV.ok (v::vs) H2 F2 (fv++Pr) f2 ⟨o.C9.trans o2.C9 (fun x hx=>o.mem x (List.mem_append_right _ hx)),o2.Bh,.cons m2 o2.rep,o2.BR,?_,fun a ha=>?_⟩
 ·rw[List.append_assoc]
  refine List.nodup_append.mpr ⟨(List.nodup_append.mp o.BG).1,o2.BG,fun a h1 b h2 e=>?_⟩
  subst e
  rcases o2.mem a h2 with z|z
  ·exact ID a h1 z
  ·obtain⟨_,xs,e⟩:=o.rep.own a h1
   rw[z] at e;cases e
 ·rw[List.append_assoc] at ha
  rcases List.mem_append.mp ha with ha|ha
  ·exact o.mem a (List.mem_append_left _ ha)
  ·rcases o2.mem a ha with z|z
   ·exact o.mem a (List.mem_append_right _ z)
   ·exact .inr (o.C9.same.free z)
end
section
variable {Z:Sg}{CX:Ci}{cl:Nat->List D->Res D}{xp:XK->Hp->Str->Prop}{X:Cx}{ex:Str->Prop}{G:Gm}
def LH (K:PySem.W.Frag)(ex:Str->Prop)(cl:Nat->List D->Res D)(f:Nat)(vs:List V)(H:Hp)(Q:VK):Prop:=∃ F ds,C8 F H/\AY K F H vs ds/\AZ ex (cl f (A6 ds)) fun d=>∀ v H' F' fv,Out K F H F' H' v d fv->Q v H'
theorem mP (g:Bt Z CX cl xp X ex G){f:Nat}{x:Str}{p pos:Pos}{es:List IR}{args:List Expr}{t:TA}(h1:bz Z G f x=true)(h2:Z.Gr G f=true)(Bu:aF Z G es args=true)(h:PA X args t)
  (h0:args=[]->∀ σ H (Q:List V->Hp->Prop),t σ H Q->Q [] H):PE X (.Call (.Name x p) args [] pos) (fun σ H Q=>t σ H fun vs H1=>LH X.K ex cl f vs H1 Q):=by
 obtain⟨k1,k2,k3,k4⟩:=ip g h1
 obtain⟨k,IA,fd,ps,hm,EB,hb,F,hr,hlen⟩:=(g.fns f (gb h2).1 (gb h2).2 x k2).ex
 obtain⟨E,hP,hE⟩:=g.Ly
 intro pins s σ H Q I q
 have fin:∀ (us:List Value) (s1:Shared) (vs:List V) (H1:Hp),Inv X pins σ H1 s1->Vals vs us->LH X.K ex cl f vs H1 Q->wpAny (model X.prog X.w) X.A (call (.ref IA) us) (EP X pins σ Q) X.xe s1:=by
  intro us s1 vs H1 I1 r ⟨Fc,ds,Bh,m,q1⟩
  have hl:=hlen ex _ _ q1
  rw[bh] at hl
  refine jN F hr hb hP g.Ko I1 r (by rw[m.length];exact hl) Bh m ?_
  cases z:cl f (A6 ds) with
  | error er=>
   rw[z] at q1
   cases er with
   | stuck=>exact q1.no.elim
   | exc c=>exact hE c _ q1
  | ok d=>
   rw[z] at q1
   exact q1.ok
 refine wpAny_Call_Name_kw (cM I k1 hm ?_ k4)
 cases args with
 | nil=>
  cases es with
  | cons _ _=>cases Bu
  | nil=>exact PySem.W.callWith_K0 I.Df EB (fin [] s [] H I .nil (h0 rfl σ H _ q))
 | cons e l=>
  cases es with
  | nil=>cases Bu
  | cons a es=>
   have Bv:(notStar e&&A9 Z G a e&&aF Z G es l)=true:=Bu
   simp only[Bool.and_eq_true] at Bv
   refine PySem.W.callWith_K (h₀:=X.base) I.ok.mod.HX EB (Bg (h pos pins s σ H _ I q) fun us s1 ⟨vs,H1,I1,r,q1⟩=>⟨I1.Df,?_⟩) (ai Bv.1.1 l X.env) (bq Z G (es:=es) pos X.env Bv.2)
   exact fin us s1 vs H1 I1 r q1
theorem Ba.EE {K:PySem.W.Frag}{F F':Addr->Prop}{H:Hp}{v:V}{d:D}{fv:List Addr}(m:Ba K F H v d fv)(n:ao d=true):Ba K F' H v d []:=(m.read (S:=fun _=>True) (fun _ _=>trivial) fun _ _=>trivial).free n
theorem Dq (g:Bt Z CX cl xp X ex G){f:Nat}{x:Str}{p pos:Pos}{es:List IR}{args:List Expr}(h1:bz Z G f x=true)(h2:Z.Gr G f=true)(Bu:aF Z G es args=true)(mv:Bool) :
  PE X (.Call (.Name x p) args [] pos) (RO X.K ex (BF cl mv (.call f es))):=by
 have pa:=jl es X ex G args g Bu
 have pe:=mP (p:=p) (pos:=pos) g h1 h2 Bu pa (fun e σ H Q ⟨S,τ,hs,q⟩=>by
  subst e
  cases es with
  | nil=>exact q.ok [] H (.refl _) .nil
  | cons _ _=>cases Bu)
 refine ax pe fun σ H Q ⟨F,τ,fo,Bh,r,nd,q⟩=>?_
 have q':AZ ex (j' (ay cl es τ) fun ds=>j' (cl f (A6 ds)) fun d=>if ao d=true then .ok (d,τ) else .ok (d,Bb (aj es) τ)) (fun p=>∀ v H' F' fv f',Ow X.K F H fo F' H' σ v p.1 fv p.2 f'->Q v H'):=q
 -- read without LI up
 have borrow:(∀ ds,ay cl es τ=.ok ds->AZ ex (cl f (A6 ds)) fun d=>ao d=true/\∀ v H' F' fv f',Ow X.K F H fo F' H' σ v d fv τ f'->Q v H')->AZ ex (ay cl es τ) (fun _=>True)->RA X.K ex (aj es) (ay cl es) σ H (fun vs H1=>LH X.K ex cl f vs H1 Q):=by
  intro hk Be
  refine ji (.refl _) (aR r) Be.eq fun ds vs H1 e1 _ m1 q1=>?_
  refine⟨fun a=>H1 a≠none,ds,fun a h=>h,m1.step (fun a xs h rd=>⟨rd.some,rd⟩) fun a xs h=>h,(hk ds q1.1).mono fun d hd v H' F' fv o=>?_⟩
  obtain⟨k1,k2,k3⟩:=cZ Bh r (e1.trans o.same)
  exact hd.2 v H' F [] fo ⟨k3,k1,o.rep.EE hd.1,k2,by simpa using nd,fun a ha=>.inl (by simpa using ha)⟩
 cases z:ay cl es τ with
 | error er=>
  rw[z] at q'
  cases er with
  | stuck=>exact q'.no.elim
  | exc c=>exact borrow (fun ds h=>by rw[z] at h;cases h) (by rw[z];exact q')
 | ok ds=>
  rw[z] at q'
  have q1:AZ ex (j' (cl f (A6 ds)) fun d=>if ao d=true then .ok (d,τ) else .ok (d,Bb (aj es) τ)) (fun p=>∀ v H' F' fv f',Ow X.K F H fo F' H' σ v p.1 fv p.2 f'->Q v H'):=q'
  cases zc:cl f (A6 ds) with
  | error er=>
   rw[zc] at q1
   cases er with
   | stuck=>exact q1.no.elim
   | exc c=>exact borrow (fun ds' h=>by rw[z] at h;cases h;rw[zc];exact q1) (by rw[z];trivial)
  | ok d=>
   rw[zc] at q1
   have q2:AZ ex (if ao d=true then .ok (d,τ) else .ok (d,Bb (aj es) τ)) (fun p=>∀ v H' F' fv f',Ow X.K F H fo F' H' σ v p.1 fv p.2 f'->Q v H'):=q1
   by_cases hl:ao d=true
   ·rw[if_pos hl] at q2
    exact borrow (fun ds' h=>by rw[z] at h;cases h;rw[zc];exact⟨hl,q2.ok⟩) (by rw[z];trivial)
   ·rw[if_neg hl] at q2
    obtain⟨F1,gg,b1,b2,b3,b4,b5,b6⟩:=b8 (aj es) Bh r nd
    refine ji (Kt:=fun ds'=>ds'=ds) (.refl _) b6 (by rw[z];rfl) fun ds' vs H1 e1 _ m1 e=>?_
    subst e
    have hm:AY X.K (fun a=>F1 a∨(True/\H a=none/\H1 a≠none)) H1 vs ds':=m1.step (fun a xs h r=>⟨h.elim (fun z=>.inl z) fun z=>.inr ⟨trivial,z,r.some⟩,r⟩) fun a xs h=>h
    obtain⟨c1,c2,c3⟩:=grow (fun _=>True) b1 b2 e1
    refine⟨_,ds',c1,hm,?_⟩
    rw[zc]
    intro v H' F' fv o
    have s1:D8 (fun a=>F1 a∨(True/\H a=none/\H1 a≠none)) H1 gg F' H':=⟨o.same,o.Ct,fun a h=>(o.out a h).elim (fun z=>.inl z) fun z=>.inr (.inr z)⟩
    have r2:Bq X.K F' H' σ (Bb (aj es) τ) gg:=c2.step (fun a xs q rd=>⟨o.Ct a q,o.same.rd rd⟩) (fun a xs q=>o.same.CF q) fun a ha n hn=>by
     obtain⟨_,xs,e⟩:=c2.own a ha
     refine⟨fun z=>?_,(o.same _ _ e).trans e.symm⟩
     rcases o.out a z with z|z
     ·exact n z
     ·exact hn z
    refine q2.ok v H' F' fv gg ⟨(b4.trans c3 (fun x hx=>.inl (b5 x hx))).trans s1 (fun x hx=>.inl (b5 x hx)),o.Bh,o.rep,r2,?_,fun a ha=>?_⟩
    ·refine List.nodup_append.mpr ⟨o.BG,b3,fun a h1 b h2 e=>?_⟩
     subst e
     obtain⟨_,xs,e⟩:=c2.own a h2
     rw[o.new a h1] at e
     cases e
    ·rcases List.mem_append.mp ha with ha|ha
     ·exact .inr (e1.free (o.new a ha))
     ·exact .inl (b5 a ha)
theorem aG {a:IR}{e:Expr}(he:PE X e (RD X.K ex (vars a) (A3 cl a)))(hN:aX a=true->PE X e (RN X.K ex (vars a) fun τ=>j' (A3 cl a τ) cY)):PE X e (RO X.K ex fun τ=>j' (A3 cl a τ) fun d=>.ok (aB a d τ)):=by
 intro pins s σ H Q I h
 obtain⟨F,τ,fo,Bh,r,nd,q⟩:=h
 replace q:AZ ex (j' (A3 cl a τ) fun d=>.ok (aB a d τ)) (fun p=>∀ v H' F' fv f',Ow X.K F H fo F' H' σ v p.1 fv p.2 f'->Q v H'):=q
 have rd:RD X.K ex (vars a) (A3 cl a) σ H Q->wpAny (model X.prog X.w) X.A (eval e X.env) (EP X pins σ Q) X.xe s:=fun h=>he pins s σ H Q I h
 cases z:A3 cl a τ with
 | error er=>
  rw[z] at q
  cases er with
  | stuck=>exact q.no.elim
  | exc c=>exact rd ⟨fun _=>True,τ,aR r,by rw[z];exact q⟩
 | ok d=>
  rw[z] at q
  have q1:∀ v H' F' fv f',Ow X.K F H fo F' H' σ v (aB a d τ).1 fv (aB a d τ).2 f'->Q v H':=q
  by_cases hl:ao d=true
  ·unfold aB at q1
   rw[if_pos hl] at q1
   refine rd ⟨fun _=>True,τ,aR r,?_⟩
   rw[z]
   intro v H' e m
   obtain⟨k1,k2,k3⟩:=cZ Bh r e
   exact q1 v H' F [] fo ⟨k3,k1,m.free hl,k2,by simpa using nd,fun a ha=>.inl (by simpa using ha)⟩
  ·have other:aB a d τ=(er d,Bb (vars a) τ)->wpAny (model X.prog X.w) X.A (eval e X.env) (EP X pins σ Q) X.xe s:=fun hk=>by
    rw[hk] at q1
    obtain⟨F1,gg,b1,b2,b3,b4,b5,b6⟩:=b8 (vars a) Bh r nd
    refine rd ⟨F1,τ,b6,?_⟩
    rw[z]
    intro v H' e m
    obtain⟨c1,c2,c3⟩:=grow (fun _=>True) b1 b2 e
    exact q1 v H' _ [] gg ⟨b4.trans c3 (fun x hx=>.inl (b5 x hx)),c1,m.fix.frozen,c2,by simpa using b3,fun a ha=>.inl (b5 a (by simpa using ha))⟩
   by_cases hn:aX a=true
   ·cases d with
    | lst o ds=>
     by_cases hi:af ds=true
     ·have hk:aB a (.lst o ds) τ=(.lst true ds,τ):=by
       unfold aB
       rw[if_neg hl,hn]
       show (if af ds=true then _ else _)=_
       rw[if_pos hi]
      rw[hk] at q1
      refine hN hn pins s σ H Q I ⟨fun _=>True,τ,aR r,?_⟩
      show AZ ex (j' (A3 cl a τ) cY) _
      rw[z]
      intro p ys H' e hp hy m
      obtain⟨k1,k2,k3⟩:=cZ Bh r e
      refine q1 (.ref p) H' F [p] fo ⟨k3,k1,.CB (fun zz=>Bh p zz hp) hy (m.free hi),k2,?_,fun a ha=>?_⟩
      ·rw[List.singleton_append,List.nodup_cons]
       refine⟨fun zz=>?_,nd⟩
       obtain⟨_,xs,e⟩:=r.own p zz
       rw[hp] at e;cases e
      ·rw[List.singleton_append] at ha
       rcases List.mem_cons.mp ha with rfl|ha
       ·exact .inr hp
       ·exact .inl ha
     ·have hk:aB a (.lst o ds) τ=(.lst true (A6 ds),Bb (vars a) τ):=by
       unfold aB
       rw[if_neg hl,hn]
       show (if af ds=true then _ else _)=_
       rw[if_neg hi]
      rw[hk] at q1
      obtain⟨F1,gg,b1,b2,b3,b4,b5,b6⟩:=b8 (vars a) Bh r nd
      refine hN hn pins s σ H Q I ⟨F1,τ,b6,?_⟩
      show AZ ex (j' (A3 cl a τ) cY) _
      rw[z]
      intro p ys H' e hp hy m
      obtain⟨c1,c2,c3⟩:=grow (fun a=>a≠p) b1 b2 e
      have m2:AY X.K (fun a=>F1 a∨(a≠p/\H a=none/\H' a≠none)) H' ys ds:=m.step (fun a xs h r=>⟨h.1.elim (fun z=>.inl z) fun z=>.inr ⟨h.2,z,r.some⟩,r⟩) fun a xs h=>h
      refine q1 (.ref p) H' _ [p] gg ⟨b4.trans c3 (fun x hx=>.inl (b5 x hx)),c1,.CB (fun zz=>?_) hy m2.frozen,c2,?_,fun a ha=>?_⟩
      ·rcases zz with zz|zz
       ·exact b1 p zz hp
       ·exact zz.1 rfl
      ·rw[List.singleton_append,List.nodup_cons]
       refine⟨fun zz=>?_,b3⟩
       obtain⟨_,xs,e⟩:=b2.own p zz
       rw[hp] at e;cases e
      ·rw[List.singleton_append] at ha
       rcases List.mem_cons.mp ha with rfl|ha
       ·exact .inr hp
       ·exact .inl (b5 a ha)
    | _=>
     refine other ?_
     unfold aB
     rw[if_neg hl,hn]
   ·have DU:aX a=false:=by simpa using hn
    refine other ?_
    unfold aB
    rw[if_neg hl,DU]
theorem yh {a b:Expr}{pos:Pos}{va vb:List Nat}{fa fb:Ev->Res D}(ha:PE X a (RD X.K ex va fa))(hb:PE X b (RD X.K ex vb fb)) :
  PE X (.BinOp a .Add b pos) (RN X.K ex (va++vb) fun τ=>j' (j' (fa τ) fun x=>j' (fb τ) fun y=>C1 .add x y) cY):=by
 refine ax (lU jF ha hb) fun σ H Q ⟨S,τ,hs,q⟩=>?_
 refine aH (.refl _) hs.left (AZ.j' (AZ.j' q)) fun x v H1 e1 _ m1 q1=>?_
 refine aH e1 hs.right (AZ.j' q1) fun y w H2 e2 BK m2 q2=>?_
 have stuck:∀ {P:Prop},C1 .add x y=A5->P:=fun z=>by rw[z] at q2;exact q2.no.elim
 cases x with
 | int a=>cases y with
  | int b=>exact q2.ok.no.elim
  | _=>exact stuck rfl
 | str a=>cases y with
  | str b=>exact(AZ.A4 q2).2.ok.no.elim
  | _=>exact stuck rfl
 | lst o a=>cases y with
  | lst o' b=>
   obtain⟨p,xs,rfl,h1,n1⟩:=m1.Ez
   obtain⟨p',ys,rfl,h2,n2⟩:=m2.Ez
   obtain⟨gd,q3⟩:=AZ.A4 q2
   have g':=aZ gd
   have l1:=n1.length
   have l2:=n2.length
   have JC:Ls X.K H2 p xs:=h1.elim (fun z=>.inl (BK.rd z)) .inr
   exact⟨p,p',xs,ys,rfl,rfl,JC,h2,by omega,fun z hz=>q3.ok.ok z _ _ (e2.trans (.upd hz)) (e2.free hz) aw (vL ((n1.later BK).append n2) hz)⟩
  | _=>exact stuck rfl
 | _=>exact stuck rfl
theorem yi {a b:Expr}{pos:Pos}{va vb:List Nat}{fa fb:Ev->Res D}(ha:PE X a (RD X.K ex va fa))(hb:PE X b (RD X.K ex vb fb)) :
  PE X (.BinOp a .Mult b pos) (RN X.K ex (va++vb) fun τ=>j' (j' (fa τ) fun x=>j' (fb τ) fun y=>C1 .mul x y) cY):=by
 refine ax (lU jG ha hb) fun σ H Q ⟨S,τ,hs,q⟩=>?_
 refine aH (.refl _) hs.left (AZ.j' (AZ.j' q)) fun x v H1 e1 _ m1 q1=>?_
 refine aH e1 hs.right (AZ.j' q1) fun y w H2 e2 BK m2 q2=>?_
 have stuck:∀ {P:Prop},C1 .mul x y=A5->P:=fun z=>by rw[z] at q2;exact q2.no.elim
 cases y with
 | int b=>
  cases m2
  cases x with
  | int a=>exact(AZ.A4 q2).2.ok.no.elim
  | str a=>exact(AZ.A4 q2).2.ok.no.elim
  | lst o a=>
   obtain⟨p,xs,rfl,h1,n1⟩:=m1.Ez
   obtain⟨gd,q3⟩:=AZ.A4 q2
   have gd:=of_decide_eq_true gd
   have JC:Ls X.K H2 p xs:=h1.elim (fun z=>.inl (BK.rd z)) .inr
   exact⟨p,b,xs,rfl,rfl,JC,gd.1,gd.2.1,by rw[n1.length];exact gd.2.2,fun z hz=>q3.ok.ok z _ _ (e2.trans (.upd hz)) (e2.free hz) aw (vL ((n1.later BK).rep b.toNat) hz)⟩
  | _=>exact stuck rfl
 | _=>cases x<;>exact stuck rfl
theorem AS {a:Expr}{lo hi:Option Expr}{pos p2:Pos}{va vl vh:List Nat}{fa:Ev->Res D}{fl fh:Ev->Res (Option Int)}(ha:PE X a (RD X.K ex va fa))(hl:PO X lo (Iz X.K ex vl fl))(hh:PO X hi (Iz X.K ex vh fh)) :
  PE X (.Subscript a (.Slice lo hi none p2) pos) (RN X.K ex (va++vl++vh) fun τ=>j' (j' (fa τ) fun x=>j' (fl τ) fun l=>j' (fh τ) fun h=>i4 x l h) cY):=by
 refine ax (gR jA ha hl hh) fun σ H Q ⟨S,τ,hs,q⟩=>?_
 refine aH (.refl _) hs.left.left (AZ.j' (AZ.j' q)) fun x v H1 e1 _ m1 q1=>?_
 refine qE e1 hs.left.right (AZ.j' q1) fun l H2 e2 BK q2=>?_
 refine qE e2 hs.right (AZ.j' q2) fun h H3 e3 Ek q3=>?_
 cases x with
 | lst o ds=>
  obtain⟨p,xs,rfl,h1,n1⟩:=m1.BP
  exact⟨p,xs,rfl,(BK.trans Ek).seq h1,fun z hz=>q3.ok.ok z _ _ (e3.trans (.upd hz)) (e3.free hz) aw (vL (jJ l h (n1.later (BK.trans Ek))) hz)⟩
 | str _=>exact(AZ.A4 q3).2.ok.no.elim
 | _=>exact q3.no.elim
end
section
variable {Z:Sg}{CX:Ci}{cl:Nat->List D->Res D}{xp:XK->Hp->Str->Prop}
theorem fA {X:Cx}{ex:Str->Prop}{G:Gm}(g:Bt Z CX cl xp X ex G){i:Nat}{x:Str}{pos:Pos}(h:cg G i x=true):PE X (.Name x pos) (pT i):=by
 unfold cg at h
 rw[Bool.and_eq_true] at h
 have hx:G.N[i]? = some x:=eq_of_beq h.1
 have hk:=g.kd i x hx
 have hv:IK X.env.scope x:=by
  have h2:=h.2
  rw[Bool.or_eq_true,Bool.or_eq_true] at h2
  rcases h2 with (h2|h2)|h2
  ·exact .inl (hk.trans (eq_of_beq h2))
  ·exact .inr (.inl (hk.trans (eq_of_beq h2)))
  ·exact .inr (.inr (hk.trans (eq_of_beq h2)))
 exact lI (i:=i) (by rw[g.N];exact hx) hv (g.Fm i x hx).1 (g.Fm i x hx).2
theorem vN {X:Cx}{ex:Str->Prop}{G G':Gm}{fr:List Nat}(g:Bt Z CX cl xp X ex G){scope:Scope}{tg iter elt:Expr}{ifs:List Expr}{pos:Pos}{T:Tg}{s:Sr}{I:List IR}{E:IR}(hs:EC Z G scope G' fr)(hT:bA G' T tg=true)(ha:∀ i∈CZ T,fr.length<=i)
  (hi:bL Z G s iter=true/\dE s tg=true) (ht:aF Z G' I ifs=true) (he:A9 Z G' E elt=true) :
  PE X (.ListComp elt [⟨tg,iter,ifs,0⟩] scope pos) (RN X.K ex (vars (.comp G' fr T s I E)) fun τ=>j' (A3 cl (.comp G' fr T s I E) τ) cY):=by
 intro pins s' σ H Q Iv h
 obtain⟨Cc,S⟩:=dy g Iv.ok hs
 have p:=jB (pos:=pos) (elt:=elt) (ifs:=ifs) (tg:=tg) (g:=gT X.K T) (tt:=RT X.K CJ (aj I) (cG cl I)) (te:=RD X.K CJ (vars E) (A3 cl E)) (g.calm hs.cm) S (qL s X ex G iter tg g hi.1 hi.2) (fun C s H fp=>G8 (bb g hs Cc C s H fp) T tg hT)
  (fun C s H fp=>qK I _ CJ G' ifs (bb g hs Cc C s H fp) ht) (fun C s H fp=>(snd E _ CJ G' elt (bb g hs Cc C s H fp) he).1) (fun x=>bG hi.1 X.env x)
 refine p pins s' σ H Q Iv ?_
 obtain⟨S0,τ,LG,q⟩:=h
 have q':=AZ.j' (show AZ ex (j' (A3 cl (.comp G' fr T s I E) τ) cY) _ from q)
 rw[eA] at q'
 exact bU hs.JB ha LG q' fun A ys ds H' e hA Gv m k=>k.ok A ys H' e hA Gv m
theorem CP:∀ (a:IR) (X:Cx) (ex:Str->Prop) (G:Gm) (e:Expr),Bt Z CX cl xp X ex G->A9 Z G a e=true->aX a=true->PE X e (RN X.K ex (vars a) fun τ=>j' (A3 cl a τ) cY):=by
 intro a X ex G e g h n
 cases a with
 | bin op a b=>
  cases op with
  | add=>
   cases e with
   | BinOp l o r pos=>
    have h':(o == FR .add&&A9 Z G a l&&A9 Z G b r)=true:=h
    simp only[Bool.and_eq_true] at h'
    have e1:o=FR .add:=eq_of_beq h'.1.1
    subst e1
    exact yh (snd a X ex G l g h'.1.2).1 (snd b X ex G r g h'.2).1
   | _=>first|exact aa h|cases h
  | mul=>
   cases e with
   | BinOp l o r pos=>
    have h':(o == FR .mul&&A9 Z G a l&&A9 Z G b r)=true:=h
    simp only[Bool.and_eq_true] at h'
    have e1:o=FR .mul:=eq_of_beq h'.1.1
    subst e1
    exact yi (snd a X ex G l g h'.1.2).1 (snd b X ex G r g h'.2).1
   | _=>first|exact aa h|cases h
  | _=>cases n
 | sl a lo hi=>
  cases e with
  | Subscript o s pos=>
   cases s with
   | Slice l u st p=>
    cases st with
    | none=>
     have h':(A9 Z G a o&&jh Z G lo l&&jh Z G hi u)=true:=h
     simp only[Bool.and_eq_true] at h'
     exact AS (snd a X ex G o g h'.1.1).1 (qJ lo X ex G l g h'.1.2) (qJ hi X ex G u g h'.2)
    | some _=>first|exact aa h|cases h
   | _=>first|exact aa h|cases h
  | _=>first|exact aa h|cases h
 | bi f es=>cases n
 | comp G' fr tg src ifs elt=>
  cases e with
  | ListComp el gens scope pos=>
   have h:lq gens (fun t it fs=>ba Z G scope G' fr&&bA G' tg t&&(CZ tg).all (fun i=>decide (fr.length<=i))&&(bL Z G src it&&dE src t)&&aF Z G' ifs fs&&A9 Z G' elt el)=true:=h
   obtain⟨t,it,fs,rfl,h⟩:=gc h
   have h':(ba Z G scope G' fr&&bA G' tg t&&(CZ tg).all (fun i=>decide (fr.length<=i))&&(bL Z G src it&&dE src t)&&aF Z G' ifs fs&&A9 Z G' elt el)=true:=h
   simp only[Bool.and_eq_true] at h'
   exact vN g (gh h'.1.1.1.1.1) h'.1.1.1.1.2 (fun i hi=>of_decide_eq_true (List.all_eq_true.mp h'.1.1.1.2 i hi)) h'.1.1.2 h'.1.2 h'.2
  | _=>first|exact aa h|cases h
 | _=>cases n
theorem Dr {X:Cx}{ex:Str->Prop}{pos:Pos}(mv:Bool):PE X (.Dict [] [] pos) (RO X.K ex (BF cl mv .CW)):=by
 refine ax dY fun σ H Q ⟨F,τ,fo,Bh,r,nd,q⟩=>fun p hp=>?_
 have q':∀ v H' F' fv f',Ow X.K F H fo F' H' σ v (.A0 true [] []) fv τ f'->Q v H':=q
 have e:aq H (upd H p (.dK [])):=.upd hp
 obtain⟨k1,k2,k3⟩:=cZ Bh r e
 have nF:¬ F p:=fun z=>Bh p z hp
 have Pt:p∉fo:=fun z=>by
  obtain⟨_,u,eu⟩:=r.own p z
  rw[hp] at eu;cases eu
 exact q' _ _ F [p] fo ⟨k3,k1,.D3 (kvs:=[]) nF aw rfl .nil,k2,by rw[List.singleton_append,List.nodup_cons];exact⟨Pt,nd⟩,fun a ha=>by
  rcases List.mem_append.mp ha with ha|ha
  ·rw[List.mem_singleton.mp ha];exact .inr hp
  ·exact .inl ha⟩
mutual
theorem Gw:∀ (a:IR) (mv:Bool) (X:Cx) (ex:Str->Prop) (G:Gm) (e:Expr),Bt Z CX cl xp X ex G->A9 Z G a e=true->PE X e (RO X.K ex (BF cl mv a))
 | .v i,mv,X,ex,G,e,g,h=>by
  cases e with
  | Name x pos=>exact Kw (fA g h) mv
  | _=>first|exact aa h|cases h
 | .tup es,mv,X,ex,G,e,g,h=>by
  cases e with
  | Tuple l n pos=>exact El (vO es mv X ex G l g h)
  | _=>first|exact aa h|cases h
 | .lst es,mv,X,ex,G,e,g,h=>by
  cases e with
  | List l pos=>exact Em (vO es mv X ex G l g h)
  | _=>first|exact aa h|cases h
 | .ite t a b,mv,X,ex,G,e,g,h=>by
  cases e with
  | IfExp c x y pos=>
   have h':(A9 Z G t c&&A9 Z G a x&&A9 Z G b y)=true:=h
   simp only[Bool.and_eq_true] at h'
   exact En (snd t X ex G c g h'.1.1).2 (Gw a mv X ex G x g h'.1.2) (Gw b mv X ex G y g h'.2)
  | _=>first|exact aa h|cases h
 | .call f es,mv,X,ex,G,e,g,h=>by
  cases e with
  | Call fn args CI pos=>
   cases fn with
   | Name x p=>
    cases CI with
    | nil=>
     have h':(bz Z G f x&&Z.Gr G f&&aF Z G es args)=true:=h
     simp only[Bool.and_eq_true] at h'
     exact Dq g h'.1.1 h'.1.2 h'.2 mv
    | cons _ _=>first|exact aa h|cases h
   | _=>first|exact aa h|cases h
  | _=>first|exact aa h|cases h
 | .c d,mv,X,ex,G,e,g,h=>aG (snd _ X ex G e g h).1 (CP _ X ex G e g h)
 | .g n d,mv,X,ex,G,e,g,h=>aG (snd _ X ex G e g h).1 (CP _ X ex G e g h)
 | .bin op a b,mv,X,ex,G,e,g,h=>aG (snd _ X ex G e g h).1 (CP _ X ex G e g h)
 | .neg a,mv,X,ex,G,e,g,h=>aG (snd _ X ex G e g h).1 (CP _ X ex G e g h)
 | .cmp op a b,mv,X,ex,G,e,g,h=>aG (snd _ X ex G e g h).1 (CP _ X ex G e g h)
 | .chain op BH a b c,mv,X,ex,G,e,g,h=>aG (snd _ X ex G e g h).1 (CP _ X ex G e g h)
 | .BB a b,mv,X,ex,G,e,g,h=>aG (snd _ X ex G e g h).1 (CP _ X ex G e g h)
 | .E1 a b,mv,X,ex,G,e,g,h=>aG (snd _ X ex G e g h).1 (CP _ X ex G e g h)
 | .BU a,mv,X,ex,G,e,g,h=>aG (snd _ X ex G e g h).1 (CP _ X ex G e g h)
 | .idx a i,mv,X,ex,G,e,g,h=>aG (snd _ X ex G e g h).1 (CP _ X ex G e g h)
 | .sl a lo hi,mv,X,ex,G,e,g,h=>aG (snd _ X ex G e g h).1 (CP _ X ex G e g h)
 | .bi f es,mv,X,ex,G,e,g,h=>aG (snd _ X ex G e g h).1 (CP _ X ex G e g h)
 | .Kf a ns tb,mv,X,ex,G,e,g,h=>aG (snd _ X ex G e g h).1 (CP _ X ex G e g h)
 | .BW a k,mv,X,ex,G,e,g,h=>aG (snd _ X ex G e g h).1 (CP _ X ex G e g h)
 | .Kg x a y,mv,X,ex,G,e,g,h=>aG (snd _ X ex G e g h).1 (CP _ X ex G e g h)
 | .B3 a k,mv,X,ex,G,e,g,h=>aG (snd _ X ex G e g h).1 (CP _ X ex G e g h)
 | .GX n k a,mv,X,ex,G,e,g,h=>aG (snd _ X ex G e g h).1 (CP _ X ex G e g h)
 | .sset a,mv,X,ex,G,e,g,h=>aG (snd _ X ex G e g h).1 (CP _ X ex G e g h)
 | .DY a,mv,X,ex,G,e,g,h=>aG (snd _ X ex G e g h).1 (CP _ X ex G e g h)
 | .FO a,mv,X,ex,G,e,g,h=>aG (snd _ X ex G e g h).1 (CP _ X ex G e g h)
 | .Ef a k d,mv,X,ex,G,e,g,h=>aG (snd _ X ex G e g h).1 (CP _ X ex G e g h)
 | .CW,mv,X,ex,G,e,g,h=>by
  have h:Gs e=true:=by cases e<;>exact h
  obtain⟨pos,rfl⟩:=jg h
  exact Dr mv
 | .FN a,mv,X,ex,G,e,g,h=>aG (snd _ X ex G e g h).1 (CP _ X ex G e g h)
 | .Il m o es,mv,X,ex,G,e,g,h=>aG (snd _ X ex G e g h).1 (CP _ X ex G e g h)
 | .comp G' fr tg src ifs elt,mv,X,ex,G,e,g,h=>aG (snd _ X ex G e g h).1 (CP _ X ex G e g h)
theorem vO:∀ (as:List IR) (mv:Bool) (X:Cx) (ex:Str->Prop) (G:Gm) (l:List Expr),Bt Z CX cl xp X ex G->aF Z G as l=true->PA X l (IC X.K ex (d6 cl mv as))
 | [],mv,X,ex,G,l,g,h=>by
  cases l with
  | nil=>exact vM
  | cons _ _=>first|exact aa h|cases h
 | a::as,mv,X,ex,G,l,g,h=>by
  cases l with
  | nil=>first|exact aa h|cases h
  | cons e l=>
   have h':(notStar e&&A9 Z G a e&&aF Z G as l)=true:=h
   simp only[Bool.and_eq_true] at h'
   exact qM h'.1.1 (Gw a mv X ex G e g h'.1.2) (vO as mv X ex G l g h'.2)
end
end
structure Bs (io:Option Nat) where
 F:Addr->Prop
 H:Hp
 L:Addr->LD->Prop
 T:Addr->List V ⊕ Str->Prop
 N:Option Addr:=none
structure BC (K:PySem.W.Frag){io:Option Nat}(B:Bs io)(F:Addr->Prop)(H:Hp)(σ:St)(τ:Ev)(f:List Addr):Prop where
 Bh:C8 F H
 BR:Bq K F H σ τ f
 BG:f.Nodup
 same:aq B.H H
 own:∀ a∈f,B.H a=none
 Ct:∀ a,B.F a->F a
 out:∀ a,F a->B.F a∨B.H a=none
 pin:∀ a xs,B.L a xs->F a/\Rd H a xs.o
 Fq:∀ a xs,B.T a xs->BI K H a xs
 nm:∀ j a,io=some j->B.N=some a->σ[j]? = some (some (.ref a))
noncomputable def Fk (K:PySem.W.Frag){io:Option Nat}(B:Bs io)(Dn:Ends):Fl->Prop
 | .nx τ=>∀ σ H F f,BC K B F H σ τ f->Dn.nx σ H
 | .bk τ=>∀ σ H F f,BC K B F H σ τ f->Dn.bk σ H
 | .ct τ=>∀ σ H F f,BC K B F H σ τ f->Dn.ct σ H
 | .rt d=>∀ v H F fv,Out K B.F B.H F H v d fv->Dn.rt v H
 | .ri d ks es=>∀ v H F fv kvs a,(∀ a',B.N=some a'->a'=a)->Out K B.F B.H F H v d fv->¬ F a->a∉fv->H a=some (.dK kvs)->kvs.map (·.1)=ks->AY K F H (kvs.map (·.2)) es->Dn.rt v H
def RS (K:PySem.W.Frag)(io:Option Nat)(ex:Str->Prop)(g:Ev->Res Fl):TS:=fun Dn σ H=>∃ (B:Bs io),∃ F τ f,BC K B F H σ τ f/\AZ ex (g τ) (Fk K B Dn)
section
variable {K:PySem.W.Frag}{io:Option Nat}{B:Bs io}{F F':Addr->Prop}{H H':Hp}{σ:St}{τ A7:Ev}{f f':List Addr}{ex:Str->Prop}
theorem BC.C9 (m:BC K B F H σ τ f)(s:D8 F H f F' H')(Bh:C8 F' H')(r:Bq K F' H' σ A7 f')(nd:f'.Nodup)(hm:∀ a∈f',a∈f∨H a=none):BC K B F' H' σ A7 f' where
 Bh:=Bh
 BR:=r
 BG:=nd
 same:=m.same.trans s.same
 own:=fun a ha=>(hm a ha).elim (m.own a) fun z=>m.same.free z
 Ct:=fun a h=>s.Ct a (m.Ct a h)
 out:=fun a h=>by
  rcases s.out a h with h|h|h
  ·exact m.out a h
  ·exact .inr (m.own a h)
  ·exact .inr (m.same.free h)
 pin:=fun a xs h=>⟨s.Ct a (m.pin a xs h).1,s.same.rd (m.pin a xs h).2⟩
 Fq:=fun a xs h=>s.same.CF (m.Fq a xs h)
 nm:=m.nm
theorem BC.ow {v:V}{d:D}{fv:List Addr}(m:BC K B F H σ τ f)(o:Ow K F H f F' H' σ v d fv A7 f'):BC K B F' H' σ A7 f'/\∀ a∈fv,B.H a=none:=
 ⟨m.C9 o.C9 o.Bh o.BR (List.nodup_append.mp o.BG).2.1 fun a ha=>o.mem a (List.mem_append_right _ ha),fun a ha=>(o.mem a (List.mem_append_left _ ha)).elim (m.own a) fun z=>m.same.free z⟩
theorem BC.grow (m:BC K B F H σ τ f)(e:aq H H'):BC K B F H' σ τ f:=by
 obtain⟨k1,k2,k3⟩:=cZ m.Bh m.BR e
 exact m.C9 k3 k1 k2 m.BG fun a ha=>.inl ha
theorem BC.ro {g:Ev->Res (D×Ev)}{Kt:D×Ev->Prop}{Q:VK}(m:BC K B F H σ τ f)(h:AZ ex (g τ) Kt)(k:∀ p v H' F' fv f',Ow K F H f F' H' σ v p.1 fv p.2 f'->Kt p->Q v H'):RO K ex g σ H Q:=
 ⟨F,τ,f,m.Bh,m.BR,m.BG,h.mono fun p hp v H' F' fv f' o=>k p v H' F' fv f' o hp⟩
theorem BC.rt {is:List Nat}{g:Ev->Res Bool}{Kt:Bool->Prop}{Q:Bool->Hp->Prop}(m:BC K B F H σ τ f)(h:AZ ex (g τ) Kt)(k:∀ b H',BC K B F H' σ τ f->aq H H'->Kt b->Q b H'):RT K ex is g σ H Q:=
 cU (.refl _) (aR m.BR) h fun b H2 e2 _ hb=>k b H2 (m.grow e2) e2 hb
theorem BC.rd {is:List Nat}{g:Ev->Res D}{Kt:D->Prop}{Q:VK}(m:BC K B F H σ τ f)(h:AZ ex (g τ) Kt)(k:∀ d v H',BC K B F H' σ τ f->aq H H'->A1 K (nw (fun _=>True) H) H' v d->Kt d->Q v H'):RD K ex is g σ H Q:=
 aH (.refl _) (aR m.BR) h fun b v H2 e2 _ mv hb=>k b v H2 (m.grow e2) e2 mv hb
mutual
theorem mQ:∀ (t:Tg) {σ:St}{τ:Ev}{f:List Addr}{v:V}{d:D}{fv:List Addr}{Kt:Ev->Prop}{Q:St->Hp->Prop},Bq K F H σ τ f->Ba K F H v d fv->(fv++f).Nodup->AZ ex (bp t d τ) Kt->
  (∀ A7 Bc f',Bq K F H Bc A7 f'->f'.Nodup->(∀ a∈f',a∈fv++f)->(∀ j,j∉CZ t->Bc[j]? = σ[j]?)->Kt A7->Q Bc H)->gT K t v σ H Q
 | .nm i,σ,τ,f,v,d,fv,Kt,Q,r,m,nd,h,k=>by
  obtain⟨g,h',r2,p2⟩:=r.put i m
  have Hb:(g++h').Nodup:=p2.nodup_iff.mpr nd
  exact k (τ.set i (some d)) (σ.set i (some v)) g r2 (List.nodup_append.mp Hb).1 (fun a ha=>p2.mem_iff.mp (List.mem_append_left _ ha)) (fun j hj=>List.getElem?_set_ne (fun z=>hj (by rw[<- z];exact List.mem_singleton.mpr rfl))) h.ok
 | .tp ts,σ,τ,f,v,d,fv,Kt,Q,r,m,nd,h,k=>by
  cases m with
  | tup h1 h2=>
   obtain⟨gd,h⟩:=AZ.A4 h
   have g':=of_decide_eq_true gd
   exact⟨_,_,rfl,.inl h1,by rw[h2.length];exact g',c5 ts r h2 nd h k⟩
  | D2 h0 h1 h2=>
   obtain⟨gd,h⟩:=AZ.A4 h
   have g':=of_decide_eq_true gd
   exact⟨_,_,rfl,.inr (.inl h1),by rw[h2.length];exact g',c5 ts r h2 nd h k⟩
  | lstK h1 h2=>
   obtain⟨gd,h⟩:=AZ.A4 h
   have g':=of_decide_eq_true gd
   exact⟨_,_,rfl,.inr h1.sq,by rw[h2.length];exact g',c5 ts r h2 nd h k⟩
  | CB h0 h1 h2=>
   obtain⟨gd,h⟩:=AZ.A4 h
   have g':=of_decide_eq_true gd
   rw[List.cons_append,List.nodup_cons] at nd
   exact⟨_,_,rfl,.inr (.inl (.inl h1)),by rw[h2.length];exact g',c5 ts r h2 nd.2 h fun A7 Bc f' a1 a2 a3 a5 a4=>k A7 Bc f' a1 a2 (fun x hx=>by rw[List.cons_append];exact List.mem_cons_of_mem _ (a3 x hx)) a5 a4⟩
  | _=>exact h.no.elim
theorem c5:∀ (ts:List Tg) {σ:St}{τ:Ev}{f:List Addr}{vs:List V}{ds:List D}{fv:List Addr}{Kt:Ev->Prop}{Q:St->Hp->Prop},Bq K F H σ τ f->A2 K F H vs ds fv->(fv++f).Nodup->AZ ex (cO ts ds τ) Kt->
  (∀ A7 Bc f',Bq K F H Bc A7 f'->f'.Nodup->(∀ a∈f',a∈fv++f)->(∀ j,j∉ik ts->Bc[j]? = σ[j]?)->Kt A7->Q Bc H)->JA K ts vs σ H Q
 | [],σ,τ,f,vs,ds,fv,Kt,Q,r,m,nd,h,k=>by
  cases m with
  | nil=>exact⟨rfl,k τ σ f r (by simpa using nd) (fun a ha=>by simpa using ha) (fun _ _=>rfl) h.ok⟩
  | cons _ _=>exact h.no.elim
 | t::ts,σ,τ,f,vs,ds,fv,Kt,Q,r,m,nd,h,k=>by
  cases m with
  | nil=>exact h.no.elim
  | cons m1 m2=>
   rename_i v d f1 vs ds f2
   have Fp:(f2++(f1++f)).Nodup:=by
    refine(List.Perm.nodup_iff ?_).mp nd
    rw[<- List.append_assoc]
    exact List.Perm.append_right f List.perm_append_comm
   refine⟨_,_,rfl,mQ t r m1 (List.nodup_append.mp Fp).2.1 (AZ.j' h) fun A7 Bc f' r' LJ Hd Kr h'=>?_⟩
   refine c5 ts r' m2 (List.nodup_append.mpr ⟨(List.nodup_append.mp Fp).1,LJ,fun a h1 b h2 e=>(List.nodup_append.mp Fp).2.2 a h1 b (Hd b h2) e⟩) h' fun G9 Ha JE Pu LK LM LN LC=>k G9 Ha JE Pu LK (fun a ha=>?_) (fun j hj=>(LN j fun z=>hj (List.mem_append_right _ z)).trans (Kr j fun z=>hj (List.mem_append_left _ z))) LC
   rcases List.mem_append.mp (LM a ha) with z|z
   ·exact List.mem_append_left _ (List.mem_append_right _ z)
   ·rcases List.mem_append.mp (Hd a z) with z|z
    ·exact List.mem_append_left _ (List.mem_append_left _ z)
    ·exact List.mem_append_right _ z
end
theorem BC.gT {t:Tg}{v:V}{d:D}{fv:List Addr}{Kt:Ev->Prop}{Q:St->Hp->Prop}(m:BC K B F H σ τ f)(mv:Ba K F H v d fv)(nd:(fv++f).Nodup)(hb:∀ a∈fv,B.H a=none)(E8:∀ j∈CZ t,io≠some j)(h:AZ ex (bp t d τ) Kt)
  (k:∀ A7 Bc f',BC K B F H Bc A7 f'->Kt A7->Q Bc H):L2.gT K t v σ H Q:=
 mQ t m.BR mv nd h fun A7 Bc f' r' LJ hm hj h'=>k A7 Bc f' ⟨m.Bh,r',LJ,m.same,fun a ha=>(List.mem_append.mp (hm a ha)).elim (hb a) (m.own a),m.Ct,m.out,m.pin,m.Fq,fun j a e1 e2=>(hj j fun z=>E8 j z e1).trans (m.nm j a e1 e2)⟩ h'
theorem BC.write {i:Nat}{ds ds':List D}{w:V}{d:D}{fv:List Addr}{l:Addr}{xs ys:List V}(m:BC K B F H σ τ f)(hs:ah τ i=some (.lst true ds))(B8:σ[i]? = some (some (.ref l)))(hl:H l=some (.lst xs))(mw:Ba K F H w d fv)(nd:(fv++f).Nodup)(hb:∀ a∈fv,B.H a=none)
  (hy:∀ fi,A2 K F H xs ds fi->∃ fl h,A2 K F H ys ds' fl/\(fl++h).Perm (fv++fi)):∃ f',BC K B F (upd H l (.lst ys)) σ (τ.set i (some (.lst true ds'))) f':=by
 obtain⟨v,fs,g,h1,h2,h3,h4⟩:=m.BR.at hs
 rw[B8] at h1
 cases h1
 cases h2 with
 | @CB a M0 Nf fi hF hH hm=>
  rw[hl] at hH
  cases hH
  obtain⟨fl,h,Hd,hp⟩:=hy fi hm
  have He:((l::fi)++g).Nodup:=h4.nodup_iff.mp m.BG
  have Kx:(fv++((l::fi)++g)).Nodup:=(List.Perm.append_left fv h4).nodup_iff.mp nd
  have lg:l∉g:=by
   rw[List.cons_append,List.nodup_cons] at He
   exact fun z=>He.1 (List.mem_append_right _ z)
  have Pw:l∉fi:=by
   rw[List.cons_append,List.nodup_cons] at He
   exact fun z=>He.1 (List.mem_append_left _ z)
  have Px:l∉fv:=fun z=>(List.nodup_append.mp Kx).2.2 l z l (by simp) rfl
  have Hf:∀ a∈fl,a∈fv++fi:=fun a ha=>hp.mem_iff.mp (List.mem_append_left _ ha)
  have E9:l∉fl:=fun z=>(List.mem_append.mp (Hf l z)).elim Px Pw
  have sl:∀ a (u:LD),F a->Rd H a u.o->F a/\Rd (upd H l (.lst ys)) a u.o:=fun a xs h r=>by
   refine⟨h,?_⟩
   have:a≠l:=fun z=>hF (by rw[<- z];exact h)
   unfold Rd
   rw[ak this]
   exact r
  have st:∀ a xs,BI K H a xs->BI K (upd H l (.lst ys)) a xs:=fun a xs h=>h.upd hl
  have r1:Bq K F (upd H l (.lst ys)) σ (τ.set i none) g:=h3.step sl st fun a ha n _=>⟨n,ak fun z=>lg (by rw[<- z];exact ha)⟩
  have m1:Ba K F (upd H l (.lst ys)) (.ref l) (.lst true ds') (l::fl):=.CB hF aw (Hd.step sl st fun a ha n _=>⟨n,ak fun z=>E9 (by rw[<- z];exact ha)⟩)
  obtain⟨g',h',r2,p2⟩:=r1.put i m1
  have EF:σ.set i (some (.ref l))=σ:=by
   apply List.ext_getElem?
   intro j
   rw[List.getElem?_set]
   by_cases hj:i=j
   ·subst hj
    have BM:i < σ.length:=(List.getElem?_eq_some_iff.mp B8).1
    rw[if_pos rfl,if_pos BM,B8]
   ·rw[if_neg hj]
  rw[EF,List.set_set] at r2
  have Ky:((l::fl)++g).Nodup:=by
   rw[List.cons_append,List.nodup_cons]
   refine⟨fun z=>(List.mem_append.mp z).elim E9 lg,List.nodup_append.mpr ⟨?_,(List.nodup_append.mp He).2.1,fun a h1 b h2 e=>?_⟩⟩
   ·have:(fl++h).Nodup:=hp.nodup_iff.mpr (List.nodup_append.mpr ⟨(List.nodup_append.mp Kx).1,(List.nodup_cons.mp (List.nodup_append.mp He).1).2,fun a h1 b h2 e=>(List.nodup_append.mp Kx).2.2 a h1 b (List.mem_append_left _ (List.mem_cons_of_mem _ h2)) e⟩)
    exact(List.nodup_append.mp this).1
   ·subst e
    rcases List.mem_append.mp (Hf a h1) with z|z
    ·exact(List.nodup_append.mp Kx).2.2 a z a (List.mem_append_right _ h2) rfl
    ·exact(List.nodup_append.mp He).2.2 a (List.mem_cons_of_mem _ z) a h2 rfl
  have Hb:(g'++h').Nodup:=p2.nodup_iff.mpr Ky
  have lB:B.H l=none:=m.own l (h4.mem_iff.mpr (by simp))
  refine⟨g',fun a h=>?_,r2,(List.nodup_append.mp Hb).1,fun b o Hg=>?_,fun a ha=>?_,m.Ct,m.out,fun a xs h=>⟨(m.pin a xs h).1,(sl a xs (m.pin a xs h).1 (m.pin a xs h).2).2⟩,fun a xs h=>st a xs (m.Fq a xs h),m.nm⟩
  ·have:a≠l:=fun z=>hF (by rw[<- z];exact h)
   rw[ak this]
   exact m.Bh a h
  ·have:b≠l:=fun z=>by rw[z,lB] at Hg;cases Hg
   rw[ak this]
   exact m.same _ _ Hg
  ·have:a∈(l::fl)++g:=p2.mem_iff.mp (List.mem_append_left _ ha)
   rcases List.mem_append.mp this with z|z
   ·rcases List.mem_cons.mp z with rfl|z
    ·exact lB
    ·rcases List.mem_append.mp (Hf a z) with z|z
     ·exact hb a z
     ·exact m.own a (h4.mem_iff.mpr (List.mem_append_left _ (List.mem_cons_of_mem _ z)))
   ·exact m.own a (h4.mem_iff.mpr (List.mem_append_right _ z))
theorem A2.snoc {w:V}{d:D}{fv:List Addr}(mw:Ba K F H w d fv){xs:List V}{ds:List D}{fi:List Addr}(m:A2 K F H xs ds fi):∃ fl h,A2 K F H (xs++[w]) (ds++[d]) fl/\(fl++h).Perm (fv++fi):=
 ⟨fi++(fv++[]),[],m.append (.cons mw .nil),by rw[List.append_nil,List.append_nil];exact List.perm_append_comm⟩
end
noncomputable def notTuple:Expr->Bool
 | .Tuple ..=>false
 | _=>true
noncomputable def gj:Expr->Bool
 | .ListComp ..=>false
 | .SetComp ..=>false
 | .DictComp ..=>false
 | _=>true
noncomputable def isName:Expr->Bool
 | .Name ..=>true
 | _=>false
noncomputable def isTup:Expr->Bool
 | .Tuple ..=>true
 | _=>false
noncomputable def JF:Stmt->(Expr->Str->List Expr->Bool)->Bool
 | .Assign [t] (.Call (.Name xf _) args [] _) _,k=>k t xf args
 | _,_=>false
theorem vP {s:Stmt}{k:Expr->Str->List Expr->Bool}(h:JF s k=true):∃ t xf p args q pos,s=.Assign [t] (.Call (.Name xf p) args [] q) pos/\k t xf args=true:=by
 unfold JF at h
 split at h
 ·exact⟨_,_,_,_,_,_,rfl,h⟩
 ·cases h
noncomputable def JG:Stmt->(Str->List Expr->Bool)->Bool
 | .Return (some (.Call (.Name xf _) args [] _)) _,k=>k xf args
 | _,_=>false
theorem vQ {s:Stmt}{k:Str->List Expr->Bool}(h:JG s k=true):∃ xf p args q pos,s=.Return (some (.Call (.Name xf p) args [] q)) pos/\k xf args=true:=by
 unfold JG at h
 split at h
 ·exact⟨_,_,_,_,_,rfl,h⟩
 ·cases h
noncomputable def JH:Stmt->(Str->Expr->Str->List Expr->Bool)->Bool
 | .Assign [.Subscript (.Name x _) s _] (.Call (.Name xf _) args [] _) _,k=>k x s xf args
 | _,_=>false
theorem vR {s:Stmt}{k:Str->Expr->Str->List Expr->Bool}(h:JH s k=true):∃ x p e sp xf p' args q pos,s=.Assign [.Subscript (.Name x p) e sp] (.Call (.Name xf p') args [] q) pos/\k x e xf args=true:=by
 unfold JH at h
 split at h
 ·exact⟨_,_,_,_,_,_,_,_,_,rfl,h⟩
 ·cases h
noncomputable def Kz:Stmt->(Str->List Expr->Expr->Expr->List Stmt->List Stmt->Bool)->Bool
 | .If (.Compare (.Subscript (.Call (.Name xf _) args [] _) s _) [.NotEq] [r] _) x y _,k=>k xf args s r x y
 | _,_=>false
theorem vS {s:Stmt}{k:Str->List Expr->Expr->Expr->List Stmt->List Stmt->Bool}(h:Kz s k=true):∃ xf p args q e sp r cp x y pos,s=.If (.Compare (.Subscript (.Call (.Name xf p) args [] q) e sp) [.NotEq] [r] cp) x y pos/\k xf args e r x y=true:=by
 unfold Kz at h
 split at h
 ·exact⟨_,_,_,_,_,_,_,_,_,_,_,rfl,h⟩
 ·cases h
noncomputable def eQ (Z:Sg)(G:Gm):List IR->List Expr->Bool
 | [],[e]=>notStar e&&Gs e
 | a::es,e::l=>notStar e&&A9 Z G a e&&eQ Z G es l
 | _,_=>false
mutual
noncomputable def mR (Z:Sg)(G:Gm):IS->Stmt->Bool
 | .asg tg e,.Assign [t] v _=>bA G tg t&&A9 Z G e v&&(isName t||(isTup t&&notTuple v))
 | .Cf i k e,.Assign [.Subscript (.Name x _) s _] v _=>cg G i x&&aI s&&A9 Z G k s&&A9 Z G e v
 | .Im f es,s=>JG s fun xf args=>G.cm&&(bz Z G f xf&&Z.Cs.contains f)&&eQ Z G es args
 | .Cb i e,.Return (some v) _=>G.io == some i&&A9 Z G e v
 | .D4 i k f es,s=>JH s fun x sx xf args=>cg G i x&&aI sx&&A9 Z G k sx&&G.cm&&(bz Z G f xf&&Z.Cs.contains f)&&aF Z G (es++[.v i]) args&&!(aj es).contains i
 | .DL f es i k e a b,s=>Kz s fun xf args sx r x y=>aI sx&&A9 Z G k sx&&A9 Z G e r&&G.cm&&(bz Z G f xf&&Z.Cs.contains f)&&aF Z G (es++[.v i]) args&&!(aj es).contains i&&bD Z G a x&&bD Z G b y
 | .ins i k e,.Expr (.Call (.Attribute (.Name x _) name apos) [s,v] [] Bo) _=>cg G i x&&name == "insert"&&apos.endLine == Bo.line&&(notStar s&&notStar v)&&A9 Z G k s&&A9 Z G e v
 | .app i e,.Expr (.Call (.Attribute (.Name x _) name apos) [v] [] Bo) _=>cg G i x&&name == "append"&&apos.endLine == Bo.line&&notStar v&&A9 Z G e v
 | .GY j f es i,s=>JF s fun t xf args=>isName t&&bA G (.nm j) t&&G.cm&&(bz Z G f xf&&Z.Cs.contains f)&&aF Z G (es++[.v i]) args&&!(aj es).contains i&&decide (i≠j)
 | .pass,.Expr (.Constant (.str _) _ _) _=>true
 | .exp e,.Expr v _=>gj v&&A9 Z G e v
 | .ret e,.Return (some v) _=>A9 Z G e v
 | .FP,.Return none _=>true
 | .Bn t a b,.If c x y _=>A9 Z G t c&&bD Z G a x&&bD Z G b y
 | .BE tg s body,.For t it b [] _=>((G.cm&&G.rs)&&bA G tg t)&&(bL Z G s it&&dE s t)&&bD Z G body b
 | .brk,.Break _=>true
 | .cnt,.Continue _=>true
 | .pass,.Pass _=>true
 | .never,_=>true
 | _,_=>false
noncomputable def bD (Z:Sg)(G:Gm):List IS->List Stmt->Bool
 | [],[]=>true
 | a::as,s::ss=>mR Z G a s&&bD Z G as ss
 | _,_=>false
end
section
variable {Z:Sg}{CX:Ci}{cl:Nat->List D->Res D}{xp:XK->Hp->Str->Prop}{X:Cx}{ex:Str->Prop}{G:Gm}
theorem rW {tg:Tg}{t:Expr}(ht:bA G tg t=true){ga:Ev->Res (D×Ev)}{Dn:Ends}{σ:St}{H:Hp}(h:RS X.K G.io ex (fun τ=>j' (ga τ) fun p=>j' (bp tg p.1 p.2) fun A7=>.ok (.nx A7)) Dn σ H):uO (RO X.K ex ga) (gT X.K tg) Dn σ H:=by
 obtain⟨B,F,τ,f,m,q⟩:=h
 refine m.ro (AZ.j' q) fun p v H' F' fv f' o hp=>?_
 obtain⟨m',hb⟩:=m.ow o
 exact m'.gT o.rep o.BG hb (cX tg t ht) (AZ.j' hp) fun A7 Bc JE FW h'=>h'.ok _ _ _ _ FW
theorem Ds (g:Bt Z CX cl xp X ex G){tg:Tg}{e:IR}{t v:Expr}{pos:Pos}(ht:bA G tg t=true)(hv:A9 Z G e v=true)(hc:(isName t||(isTup t&&notTuple v))=true):PS X (.Assign [t] v pos) (RS X.K G.io ex (B6 cl (.asg tg e))):=by
 have pe:=Gw e false X ex G v g hv
 have pg:=G8 g tg t ht
 cases t with
 | Name x px=>
  cases tg with
  | tp _=>cases ht
  | nm i=>
   have EV:(G.N[i]? == some x&&(G.kd[i]? == some .local||(G.df&&G.kd[i]? == some .cell)))=true:=(Bool.and_eq_true_iff.mp ht).1
   rw[Bool.and_eq_true,Bool.or_eq_true,Bool.and_eq_true] at EV
   have hx:G.N[i]? = some x:=eq_of_beq EV.1
   have hk:=g.kd i x hx
   have Hh:Loc X.env.scope x:=EV.2.elim (fun z=>.inl (hk.trans (eq_of_beq z))) fun z=>.inr (hk.trans (eq_of_beq z.2))
   have GI:X.fn x=true∨X.env.scope.names.lookup x=some .local:=EV.2.elim (fun z=>.inr (hk.trans (eq_of_beq z))) fun z=>.inl (g.df z.1 x)
   have plain:swapsWith v (some (.Name x px)) pos.line X.env=pure false->PS X (.Assign [.Name x px] v pos) (RS X.K G.io ex (B6 cl (.asg (.nm i) e))):=fun hs=>
    aJ (lR (i:=i) (by rw[g.N];exact g.BG) (by rw[g.N];exact hx) Hh pe hs GI) fun Dn σ H h=>rW ht h
   cases v with
   | ListComp el gens scope FX=>
    have Jk:swapsWith (.ListComp el gens scope FX) (some (.Name x px)) pos.line X.env=pure (X.env.blockKind == .function&&X.env.kindOf x == some .local&&px.line == FX.line&&!(scope.names.any fun (n,k)=>n == x&&(k == .local||k == .cell))):=rfl
    cases hb:(X.env.blockKind == .function&&X.env.kindOf x == some .local&&px.line == FX.line&&!(scope.names.any fun (n,k)=>n == x&&(k == .local||k == .cell))) with
    | false=>exact plain (by rw[Jk,hb])
    | true=>
     rw[hb] at Jk
     have Py:X.env.kindOf x=some .local:=by
      simp only[Bool.and_eq_true] at hb
      exact eq_of_beq hb.1.1.2
     cases e with
     | comp G' fr T src ifs elt=>
      have hv:lq gens (fun t it fs=>ba Z G scope G' fr&&bA G' T t&&(CZ T).all (fun i=>decide (fr.length<=i))&&(bL Z G src it&&dE src t)&&aF Z G' ifs fs&&A9 Z G' elt el)=true:=hv
      obtain⟨t,it,fs,rfl,hv⟩:=gc hv
      have h':(ba Z G scope G' fr&&bA G' T t&&(CZ T).all (fun i=>decide (fr.length<=i))&&(bL Z G src it&&dE src t)&&aF Z G' ifs fs&&A9 Z G' elt el)=true:=hv
      simp only[Bool.and_eq_true] at h'
      have hs:=gh h'.1.1.1.1.1
      have hT:=h'.1.1.1.1.2
      have ha:∀ i∈CZ T,fr.length<=i:=fun i hi=>of_decide_eq_true (List.all_eq_true.mp h'.1.1.1.2 i hi)
      intro pins s' σ H Dn Iv h
      obtain⟨Cc,S⟩:=dy g Iv.ok hs
      have p:=qg (py:=px) (spos:=pos) (i:=i) (pos:=FX) (elt:=el) (ifs:=fs) (tg:=t) (g:=gT X.K T) (tt:=RT X.K CJ (aj ifs) (cG cl ifs)) (te:=RD X.K CJ (vars elt) (A3 cl elt)) (g.calm hs.cm) (by rw[g.N];exact g.BG) (by rw[g.N];exact hx) Py S (qL src X ex G it t g h'.1.1.2.1 h'.1.1.2.2) (fun C s H fp=>G8 (bb g hs Cc C s H fp) T t hT)
       (fun C s H fp=>qK ifs _ CJ G' fs (bb g hs Cc C s H fp) h'.1.2) (fun C s H fp=>(snd elt _ CJ G' el (bb g hs Cc C s H fp) h'.2).1) Jk (fun x=>bG h'.1.1.2.1 X.env x)
      refine p pins s' σ H Dn Iv ?_
      obtain⟨B,F,τ,f,m,q⟩:=h
      -- as one Pz is kept
      have q0:AZ ex (j' (j' (A3 cl (.comp G' fr T src ifs elt) τ) fun d=>.ok (aB (.comp G' fr T src ifs elt) d τ)) fun p=>j' (bp (.nm i) p.1 p.2) fun A7=>.ok (.nx A7)) (Fk X.K B Dn):=q
      have q1:=AZ.j' (AZ.j' q0)
      have fin:∀ (d:D) (v:V) (H':Hp) (F':Addr->Prop) (fv f':List Addr),Ow X.K F H f F' H' σ v (aB (.comp G' fr T src ifs elt) d τ).1 fv (aB (.comp G' fr T src ifs elt) d τ).2 f'->(∀ (p:D×Ev),p=aB (.comp G' fr T src ifs elt) d τ->AZ ex (j' (bp (.nm i) p.1 p.2) fun A7=>.ok (.nx A7)) (Fk X.K B Dn))->Dn.nx (σ.set i (some v)) H':=by
       intro d v H' F' fv f' o hp
       obtain⟨m',Ex⟩:=m.ow o
       have:=m'.gT (t:=.nm i) (Q:=Dn.nx) o.rep o.BG Ex (cX _ _ ht) (AZ.j' (hp _ rfl)) fun A7 Bc JE FW h'=>h'.ok _ _ _ _ FW
       exact this
      cases z:A3 cl (.comp G' fr T src ifs elt) τ with
      | error er=>
       rw[z] at q1
       cases er with
       | stuck=>exact q1.no.elim
       | exc c=>
        refine bU (S:=fun _=>True) (τ:=τ) (ex:=ex) (Kt:=fun _=>False) hs.JB ha (aR m.BR) ?_ fun A ys ds H' e hA Gv mm k=>k.elim
        show AZ ex (A3 cl (.comp G' fr T src ifs elt) τ) _
        rw[z]
        exact q1
      | ok d=>
       rw[z] at q1
       have q2:=q1.ok.ok
       obtain⟨o',ds,rfl⟩:∃ o ds,d=.lst o ds:=by
        have zz:=z
        rw[eA] at zz
        obtain⟨its,_,zz⟩:=bF zz
        obtain⟨_,zz⟩:=ja zz
        obtain⟨ds,_,zz⟩:=bF zz
        cases zz
        exact⟨true,ds,rfl⟩
       by_cases hi:af ds=true
       ·have EB:aB (.comp G' fr T src ifs elt) (.lst o' ds) τ=(.lst true ds,τ):=by
         unfold aB
         rw[if_neg (show ¬ ao (.lst o' ds)=true by intro z;cases z)]
         show (if af ds=true then _ else _)=_
         rw[if_pos hi]
        refine bU (S:=fun _=>True) (τ:=τ) (ex:=ex) (Kt:=fun d'=>∃ JI,d'=.lst JI ds) hs.JB ha (aR m.BR) ?_ fun A ys ds' H' e hA Gv mm k=>?_
        ·show AZ ex (A3 cl (.comp G' fr T src ifs elt) τ) _
         rw[z]
         exact⟨o',rfl⟩
        ·obtain⟨JI,k⟩:=k
         cases k
         obtain⟨k1,k2,k3⟩:=cZ m.Bh m.BR e
         refine fin (.lst o' ds) (.ref A) H' F [A] f ?_ (fun p hp=>by subst hp;exact q2)
         rw[EB]
         refine⟨k3,k1,.CB (fun zz=>m.Bh A zz hA) Gv (mm.free hi),k2,?_,fun a ha=>?_⟩
         ·rw[List.singleton_append,List.nodup_cons]
          refine⟨fun zz=>?_,m.BG⟩
          obtain⟨_,xs,e⟩:=m.BR.own A zz
          rw[hA] at e;cases e
         ·rw[List.singleton_append] at ha
          rcases List.mem_cons.mp ha with rfl|ha
          ·exact .inr hA
          ·exact .inl ha
       ·have EB:aB (.comp G' fr T src ifs elt) (.lst o' ds) τ=(.lst true (A6 ds),Bb (vars (.comp G' fr T src ifs elt)) τ):=by
         unfold aB
         rw[if_neg (show ¬ ao (.lst o' ds)=true by intro z;cases z)]
         show (if af ds=true then _ else _)=_
         rw[if_neg hi]
        obtain⟨F1,gg,b1,b2,b3,b4,b5,b6⟩:=b8 (vars (.comp G' fr T src ifs elt)) m.Bh m.BR m.BG
        refine bU (S:=F1) (τ:=τ) (ex:=ex) (Kt:=fun d'=>∃ JI,d'=.lst JI ds) hs.JB ha b6 ?_ fun A ys ds' H' e hA Gv mm k=>?_
        ·show AZ ex (A3 cl (.comp G' fr T src ifs elt) τ) _
         rw[z]
         exact⟨o',rfl⟩
        ·obtain⟨JI,k⟩:=k
         cases k
         obtain⟨c1,c2,c3⟩:=grow (fun a=>a≠A) b1 b2 e
         have m2:AY X.K (fun a=>F1 a∨(a≠A/\H a=none/\H' a≠none)) H' ys ds:=mm.step (fun a xs h r=>⟨h.1.elim (fun z=>.inl z) fun z=>.inr ⟨h.2,z,r.some⟩,r⟩) fun a xs h=>h
         refine fin (.lst o' ds) (.ref A) H' (fun a=>F1 a∨(a≠A/\H a=none/\H' a≠none)) [A] gg ?_ (fun p hp=>by subst hp;exact q2)
         rw[EB]
         refine⟨b4.trans c3 (fun x hx=>.inl (b5 x hx)),c1,.CB (fun zz=>?_) Gv m2.frozen,c2,?_,fun a ha=>?_⟩
         ·rcases zz with zz|zz
          ·exact b1 A zz hA
          ·exact zz.1 rfl
         ·rw[List.singleton_append,List.nodup_cons]
          refine⟨fun zz=>?_,b3⟩
          obtain⟨_,xs,e⟩:=b2.own A zz
          rw[hA] at e;cases e
         ·rw[List.singleton_append] at ha
          rcases List.mem_cons.mp ha with rfl|ha
          ·exact .inr hA
          ·exact .inl (b5 a ha)
     | _=>first|exact aa hv|cases hv
   | SetComp _ _ _ _=>cases e<;>first|exact aa hv|cases hv
   | DictComp _ _ _ _ _=>cases e<;>first|exact aa hv|cases hv
   | _=>exact plain rfl
 | Tuple ts k px=>
  have HY:notTuple v=true:=hc
  refine aJ (uP pe pg ?_ ?_ rfl) fun Dn σ H h=>rW ht h
  ·cases v<;>rfl
  ·cases v<;>first|rfl|cases HY
 | _=>cases hc
end
theorem BI.LO {K:PySem.W.Frag}{H:Hp}{a l:Addr}{xs:List V ⊕ Str}{ys zs:List (Key×V)}(hl:H l=some (.dK ys))(h:BI K H a xs):BI K (L2.upd H l (.dK zs)) a xs:=by
 cases xs with
 | inl xs=>
  rcases h with h|h
  ·have:a≠l:=by
    rintro rfl
    rcases h with h|⟨o,h⟩<;>(rw[hl] at h;cases h)
   refine .inl ?_
   unfold Rd
   rw[ak this]
   exact h
  ·exact .inr h
 | inr c=>
  obtain⟨C,o,vs,h0,h1,h2,h3⟩:=h
  have:a≠l:=by
   rintro rfl
   rw[hl] at h2;cases h2
  exact⟨C,o,vs,h0,h1,by rw[ak this];exact h2,h3⟩
theorem A2.PB {K:PySem.W.Frag}{F:Addr->Prop}{H:Hp}{vs:List V}{ds:List D}{f:List Addr}(h:A2 K F H vs ds f)(n:af ds=true):f=[]:=by
 refine A2.rec (motive_1:=fun _ d f _=>ao d=true->f=[]) (motive_2:=fun _ d f _=>af d=true->f=[]) (fun _=>rfl) (fun _ _=>rfl) (fun _ _=>rfl) (fun _ _=>rfl) (fun _ _=>rfl) (fun _ _ i z=>i z) (fun _ _ _ _ _=>rfl) (fun _ _ _ _=>rfl) (fun _ _ _ _ z=>aa z) (fun _ _ _ _ _ _=>rfl) (fun _ _ _ _ _ z=>aa z) (fun _=>rfl) (fun {v d f vs ds g} _ _ i j z=>?_) h n
 have z':=Bool.and_eq_true_iff.mp (show (ao d&&af ds)=true from z)
 rw[i z'.1,j z'.2]
 rfl
theorem c6 {K:PySem.W.Frag}{F:Addr->Prop}{H:Hp}{σ:St}{τ:Ev}{f:List Addr}{i:Nat}{ks:List Key}{ds:List D}(r:Bq K F H σ τ f)(hs:ah τ i=some (.A0 true ks ds))(n:af ds=true) :
  ∃ l kvs g,σ[i]? = some (some (.ref l))/\¬ F l/\H l=some (.dK kvs)/\kvs.map (·.1)=ks/\A2 K F H (kvs.map (·.2)) ds []/\Bq K F H σ (τ.set i none) g/\f.Perm (l::g):=by
 obtain⟨v,fs,g,h1,h2,h3,h4⟩:=r.at hs
 cases h2 with
 | @D3 a kvs _ _ fi hF hH hk hm=>
  have e:=hm.PB n
  subst e
  exact⟨a,kvs,g,h1,hF,hH,hk,hm,h3,h4⟩
theorem BC.Fb {K:PySem.W.Frag}{io:Option Nat}{B:Bs io}{F:Addr->Prop}{H:Hp}{σ:St}{τ:Ev}{f g:List Addr}{i:Nat}{l:Addr}{kvs Bz:List (Key×V)}{DS:List Key}{ds':List D}(m:BC K B F H σ τ f)(B8:σ[i]? = some (some (.ref l)))(hF:¬ F l)(hl:H l=some (.dK kvs))(hr:Bq K F H σ (τ.set i none) g)(h4:f.Perm (l::g))
  (hk:Bz.map (·.1)=DS) (hm:A2 K F H (Bz.map (·.2)) ds' []):∃ f',BC K B F (upd H l (.dK Bz)) σ (τ.set i (some (.A0 true DS ds'))) f':=by
 have Hk:(l::g).Nodup:=h4.nodup_iff.mp m.BG
 have lg:l∉g:=(List.nodup_cons.mp Hk).1
 have sl:∀ a (u:LD),F a->Rd H a u.o->F a/\Rd (upd H l (.dK Bz)) a u.o:=fun a xs h r=>by
  refine⟨h,?_⟩
  have:a≠l:=fun z=>hF (by rw[<- z];exact h)
  unfold Rd
  rw[ak this]
  exact r
 have st:∀ a xs,BI K H a xs->BI K (upd H l (.dK Bz)) a xs:=fun a xs h=>h.LO hl
 have r1:Bq K F (upd H l (.dK Bz)) σ (τ.set i none) g:=hr.step sl st fun a ha n _=>⟨n,ak fun z=>lg (by rw[<- z];exact ha)⟩
 have m1:Ba K F (upd H l (.dK Bz)) (.ref l) (.A0 true DS ds') [l]:=.D3 hF aw hk (hm.step sl st a8)
 obtain⟨g',h',r2,p2⟩:=r1.put i m1
 have EF:σ.set i (some (.ref l))=σ:=by
  apply List.ext_getElem?
  intro j
  rw[List.getElem?_set]
  by_cases hj:i=j
  ·subst hj
   rw[if_pos rfl,if_pos (List.getElem?_eq_some_iff.mp B8).1,B8]
  ·rw[if_neg hj]
 rw[EF,List.set_set] at r2
 have Hb:(g'++h').Nodup:=p2.nodup_iff.mpr Hk
 have lB:B.H l=none:=m.own l (h4.mem_iff.mpr (by simp))
 refine⟨g',fun a h=>?_,r2,(List.nodup_append.mp Hb).1,fun b o Hg=>?_,fun a ha=>m.own a (h4.mem_iff.mpr (p2.mem_iff.mp (List.mem_append_left _ ha))),m.Ct,m.out,fun a xs h=>⟨(m.pin a xs h).1,(sl a xs (m.pin a xs h).1 (m.pin a xs h).2).2⟩,fun a xs h=>st a xs (m.Fq a xs h),m.nm⟩
 ·have:a≠l:=fun z=>hF (by rw[<- z];exact h)
  rw[ak this]
  exact m.Bh a h
 ·have:b≠l:=fun z=>by rw[z,lB] at Hg;cases Hg
  rw[ak this]
  exact m.same _ _ Hg
section
variable {K:PySem.W.Frag}{S:Addr->Prop}{H:Hp}
theorem has_any (kvs:List (Key×V))(q:Key):(kvs.any fun kv=>decide (kv.1=q))=g9 (kvs.map (·.1)) q:=by
 unfold g9
 rw[List.any_map]
 rfl
theorem rX (kvs:List (Key×V))(q:Key)(v:V):(putK kvs q v).map (·.1)=bK (kvs.map (·.1)) q:=by
 unfold putK bK
 rw[has_any]
 by_cases h:g9 (kvs.map (·.1)) q=true
 ·rw[if_pos h,if_pos h,List.map_map]
  refine List.map_congr_left fun kv _=>?_
  show (if kv.1=q then (kv.1,v) else kv).1=kv.1
  split<;>rfl
 ·rw[if_neg h,if_neg h,List.map_append]
  rfl
theorem rY (q:Key){v:V}{d:D}(mv:A1 K S H v d){kvs:List (Key×V)}{ds:List D}(m:AY K S H (kvs.map (·.2)) ds):AY K S H ((putK kvs q v).map (·.2)) (bc (kvs.map (·.1)) ds q d):=by
 unfold putK bc
 rw[has_any]
 by_cases h:g9 (kvs.map (·.1)) q=true
 ·rw[if_pos h,if_pos h,List.map_map]
  clear h
  induction kvs generalizing ds with
  | nil=>
   cases m
   exact .nil
  | cons p kvs ih=>
   rw[List.map_cons] at m
   cases ds with
   | nil=>exact absurd m.length (by simp)
   | cons e ds=>
    cases m with
    | cons m1 m2=>
     rw[List.map_cons,List.map_cons,List.zipWith_cons_cons]
     refine .cons ?_ (ih m2)
     show A1 K S H (if p.1=q then (p.1,v) else p).2 (if p.1=q then d else e)
     split
     ·exact mv
     ·exact m1
 ·rw[if_neg h,if_neg h,List.map_append]
  exact m.append (.cons mv .nil)
theorem mS {ks:List Key}{ds:List D}{q:Key}{d:D}(h1:af ds=true)(h2:ao d=true):af (bc ks ds q d)=true:=by
 unfold bc
 rw[aS] at h1
 rw[aS,List.all_eq_true]
 rw[List.all_eq_true] at h1
 intro x hx
 split at hx
 ·rw[List.mem_iff_getElem?] at hx
  obtain⟨i,hi⟩:=hx
  rw[List.getElem?_zipWith] at hi
  split at hi
  ·rename_i a b e1 e2
   cases hi
   split
   ·exact h2
   ·exact h1 _ (List.mem_of_getElem? e2)
  ·cases hi
 ·rcases List.mem_append.mp hx with hx|hx
  ·exact h1 x hx
  ·rw[List.mem_singleton.mp hx];exact h2
end
section
variable {Z:Sg}{CX:Ci}{cl:Nat->List D->Res D}{xp:XK->Hp->Str->Prop}{X:Cx}{ex:Str->Prop}{G:Gm}
theorem CQ (g:Bt Z CX cl xp X ex G){i:Nat}{k e:IR}{x:Str}{p sp pos:Pos}{s v:Expr}(h1:cg G i x=true)(h2:aI s=true)(h3:A9 Z G k s=true)(h4:A9 Z G e v=true) :
  PS X (.Assign [.Subscript (.Name x p) s sp] v pos) (RS X.K G.io ex (B6 cl (.Cf i k e))):=by
 have hu:=g.un
 refine aJ (jD (by omega) (fA g h1) (snd k X ex G s g h3).1 (snd e X ex G v g h4).1 (by cases v<;>rfl)) fun Dn σ H h=>?_
 obtain⟨B,F,τ,f,m,q⟩:=h
 have q0:AZ ex (j' (A3 cl e τ) fun d=>match ah τ i with|some (.A0 true ks ds)=>j' (A3 cl k τ) fun y=>(match bO y with|some q=>A4 (ao d&&af ds&&bj ks.length) (.ok (.nx (τ.set i (some (.A0 true (bK ks q) (bc ks ds q d))))))|none=>A5)|_=>A5) (Fk X.K B Dn):=q
 refine m.rd (AZ.j' q0) fun d w H1 m1 e1 mw q1=>?_
 cases z0:ah τ i with
 | none=>rw[z0] at q1;exact q1.no.elim
 | some d0=>
  rw[z0] at q1
  cases d0 with
  | A0 ow ks ds=>
   cases ow with
   | false=>exact q1.no.elim
   | true=>
    obtain⟨v0,Hl,_⟩:∃ v0,σ[i]? = some (some v0)/\True:=by
     obtain⟨v0,_,_,h,_⟩:=m1.BR.at z0
     exact⟨v0,h,trivial⟩
    refine⟨v0,Hl,m1.rd (AZ.j' q1) fun y w2 H2 m2 e2 JJ q2=>?_⟩
    cases hk:bO y with
    | none=>simp only[hk] at q2;exact q2.no.elim
    | some qk=>
     simp only[hk] at q2
     obtain⟨gd,q2⟩:=AZ.A4 q2
     rw[Bool.and_eq_true,Bool.and_eq_true] at gd
     obtain⟨l,kvs,g0,B8,hF,hl,FY,hm,hr,hp⟩:=c6 m2.BR z0 gd.1.2
     rw[Hl] at B8
     cases B8
     subst FY
     have LP:AY X.K (fun _=>True) H2 (kvs.map (·.2)) ds:=hm.read (fun _ _=>trivial) fun _ _=>trivial
     have JK:A1 X.K (fun _=>True) H2 w d:=mw.mono (fun _ _=>trivial) e2
     have LQ:A2 X.K F H2 ((putK kvs qk w).map (·.2)) (bc (kvs.map (·.1)) ds qk d) []:=(rY qk JK LP).free (mS gd.1.2 gd.1.1)
     obtain⟨f',m3⟩:=m2.Fb Hl hF hl hr hp (rX kvs qk w) LQ
     have hlen:kvs.length < sizeLine:=by
      have:=cR gd.2
      rwa [List.length_map] at this
     exact⟨l,_,rfl,.inl ⟨kvs,qk,hl,cV JJ hk,hlen,rfl⟩,q2.ok _ _ _ _ m3⟩
  | _=>exact q1.no.elim
theorem cJ (is:List Nat):∀ (τ:Ev) (k i:Nat),is.contains (k+i)=false->ah (dt is k τ) i=ah τ i
 | [],k,i,h=>rfl
 | o::τ,k,0,h=>by
  unfold dt
  rw[br,br,if_neg (by rw[show k=k+0 from rfl,h];simp)]
 | o::τ,k,i+1,h=>by
  unfold dt
  rw[aT,aT]
  exact cJ is τ (k+1) i (by rw[<- h];congr 1;omega)
end
section
variable {K:PySem.W.Frag}{F:Addr->Prop}{H:Hp}
theorem Ba.parts {v:V}{o:Bool}{es:List D}{fv:List Addr}(h:Ba K F H v (.lst o es) fv):∃ b zs fe h',v=.ref b/\BS K H b zs/\A2 K F H zs es fe/\(fe++h').Perm fv:=by
 cases h with
 | D2 h0 h1 h2=>exact⟨_,_,[],[],rfl,.inl h1,h2,.refl _⟩
 | lstK h1 h2=>exact⟨_,_,[],[],rfl,h1.sq,h2,.refl _⟩
 | @CB a xs ds f h0 h1 h2=>exact⟨a,_,f,[a],rfl,.inl (.inl h1),h2,List.perm_append_comm (l₁:=f) (l₂:=[a])⟩
theorem A2.split (n:Nat){vs:List V}{ds:List D}{f:List Addr}(h:A2 K F H vs ds f):∃ f1 f2,A2 K F H (vs.take n) (ds.take n) f1/\A2 K F H (vs.drop n) (ds.drop n) f2/\f1++f2=f:=by
 revert n
 refine A2.ind (P:=fun vs ds f=>∀ n,∃ f1 f2,A2 K F H (vs.take n) (ds.take n) f1/\A2 K F H (vs.drop n) (ds.drop n) f2/\f1++f2=f) (fun n=>⟨[],[],by rw[List.take_nil,List.take_nil];exact .nil,by rw[List.drop_nil,List.drop_nil];exact .nil,rfl⟩) (fun v d f vs ds g a b j n=>?_) h
 cases n with
 | zero=>exact⟨[],f++g,.nil,.cons a b,rfl⟩
 | succ n=>
  obtain⟨f1,f2,h1,h2,h3⟩:=j n
  exact⟨f++f1,f2,.cons a h1,h2,by rw[List.append_assoc,h3]⟩
end
section
variable {Z:Sg}{CX:Ci}{cl:Nat->List D->Res D}{xp:XK->Hp->Str->Prop}{X:Cx}{ex:Str->Prop}{G:Gm}
theorem mT {K:PySem.W.Frag}{F:Addr->Prop}{H:Hp}{σ:St}{τ:Ev}{f:List Addr}{i:Nat}{ds:List D}(r:Bq K F H σ τ f)(hs:ah τ i=some (.lst true ds)):∃ l xs,σ[i]? = some (some (.ref l))/\H l=some (.lst xs)/\xs.length=ds.length:=by
 obtain⟨v,fs,g,h1,h2,h3,h4⟩:=r.at hs
 cases h2 with
 | CB hF hH hm=>exact⟨_,_,h1,hH,hm.length⟩
theorem Dt (g:Bt Z CX cl xp X ex G){i:Nat}{k e:IR}{x:Str}{p apos Bo pos:Pos}{s v:Expr}(h1:cg G i x=true)(h2:(apos.endLine == Bo.line)=true)(h3:notStar s=true)(LR:notStar v=true)(h4:A9 Z G k s=true)(h5:A9 Z G e v=true) :
  PS X (.Expr (.Call (.Attribute (.Name x p) "insert" apos) [s,v] [] Bo) pos) (RS X.K G.io ex (B6 cl (.ins i k e))):=by
 have pa:PA X [s,v] (cz (RD X.K ex (vars k) (A3 cl k)) (cz (RO X.K ex (BF cl false e)) kP)):=aL (snd k X ex G s g h4).1 (aL (Gw e false X ex G v g h5) bx (ai LR _ _)) (ai h3 _ _)
 have Di:((backTo Bo (starEach [s,v] X.env)).all (fun x=>!x.1)&&(backToKw Bo (keywordEach [] X.env)).all (fun x=>x.1.isSome)&&decide ([s,v].length+([]:List Keyword).length+(if ([]:List Keyword).isEmpty then 0 else 1) < 30))=true:=by
  rw[ai h3,ai LR]
  rfl
 refine aJ (fQ (gU PySem.F.plainAttrs_list PySem.F.slot_list_insert PySem.F.type_list_insert vk (fA g h1) pa rfl Di h2 (ai h3 _ _) (by rw[ai LR];rfl))) fun Dn σ H h=>?_
 obtain⟨B,F,τ,f,m,q⟩:=h
 have q0:AZ ex (match ah τ i with|some (.lst _ _)=>(j' (A3 cl k τ) fun y=>j' (BF cl false e τ) fun p=>(match y,ah p.2 i with|.int z,some (.lst true ds)=>A4 (decide (0<=z/\z.toNat<=ds.length)&&bj ds.length) (.ok (.nx (p.2.set i (some (.lst true (ds.take z.toNat++p.1::ds.drop z.toNat))))))|_,_=>A5))|_=>A5) (Fk X.K B Dn):=q
 cases z0:ah τ i with
 | none=>rw[z0] at q0;exact q0.no.elim
 | some d0=>
  rw[z0] at q0
  cases d0 with
  | lst o0 Nf=>
   obtain⟨v0,PD,g0,a1,a2,a3,a4⟩:=m.BR.at z0
   obtain⟨l,LS,_,_,rfl,hq,_⟩:=a2.parts
   refine⟨.ref l,a1,.inl ⟨rfl,LS,hq⟩,m.rd (AZ.j' q0) fun y w H1 m1 e1 mw q1=>?_⟩
   refine m1.ro (AZ.j' q1) fun p v H' F' fv f' o hp=>?_
   obtain⟨m',hb⟩:=m1.ow o
   cases y with
   | int z=>
    cases mw.Bj
    cases zs:ah p.2 i with
    | none=>simp only[zs] at hp;exact hp.no.elim
    | some d=>
     simp only[zs] at hp
     cases d with
     | lst ow ds=>
      cases ow with
      | false=>exact hp.no.elim
      | true=>
       obtain⟨gd,hp⟩:=AZ.A4 hp
       rw[Bool.and_eq_true] at gd
       have gz:0<=z/\z.toNat<=ds.length:=of_decide_eq_true gd.1
       obtain⟨l',xs,B8,hl,hlen⟩:=mT m'.BR zs
       rw[a1] at B8
       cases B8
       obtain⟨JE,m3⟩:=m'.write (ys:=xs.take z.toNat++v::xs.drop z.toNat) (ds':=ds.take z.toNat++p.1::ds.drop z.toNat) zs a1 hl o.rep o.BG hb fun fi hm=>by
        obtain⟨f1,f2,s1,s2,s3⟩:=hm.split z.toNat
        refine⟨f1++(fv++f2),[],s1.append (.cons o.rep s2),?_⟩
        rw[List.append_nil,<- s3,<- List.append_assoc,<- List.append_assoc]
        exact List.Perm.append_right _ List.perm_append_comm
       exact⟨l,xs,z,v,rfl,rfl,hl,gz.1,by rw[hlen];exact gz.2,by rw[hlen];exact cR gd.2,hp.ok _ _ _ _ m3⟩
     | _=>exact hp.no.elim
   | _=>exact hp.no.elim
  | _=>exact q0.no.elim
end
theorem ix {K:PySem.W.Frag}{F:Addr->Prop}{H:Hp}:∀ {σ:St}{n:Nat},σ.length=n->Bq K F H σ (List.replicate n none) []
 | [],0,_=>.nil
 | _::σ,n+1,h=>.none (ix (by simpa using h))
section
variable {Z:Sg}{CX:Ci}{cl:Nat->List D->Res D}{xp:XK->Hp->Str->Prop}{X:Cx}{ex:Str->Prop}{G:Gm}{pins:List (Addr×Obj)}
theorem BC.put {io:Option Nat}{B:Bs io}{F:Addr->Prop}{H:Hp}{σ:St}{τ:Ev}{f fv:List Addr}{v:V}{d:D}(i:Nat)(m:BC X.K B F H σ τ f)(mv:Ba X.K F H v d fv)(nd:(fv++f).Nodup)(hb:∀ a∈fv,B.H a=none)(E8:io≠some i):∃ f',BC X.K B F H (σ.set i (some v)) (τ.set i (some d)) f':=by
 obtain⟨g',h',r0,p0⟩:=m.BR.put i mv
 have Hk:(g'++h').Nodup:=p0.nodup_iff.mpr nd
 exact⟨g',m.Bh,r0,(List.nodup_append.mp Hk).1,m.same,fun b Ex=>(List.mem_append.mp (p0.subset (List.mem_append_left _ Ex))).elim (hb b) (m.own b),m.Ct,m.out,m.pin,m.Fq,fun j a e1 e2=>(List.getElem?_set_ne (fun z=>E8 (by rw[z];exact e1))).trans (m.nm j a e1 e2)⟩
end
theorem aQ {a b:Addr}{H:Hp}(h:b≠a):rm a H b=H b:=if_neg h
theorem bN {a:Addr}{H:Hp}:rm a H a=none:=if_pos rfl
theorem jR {a b:Addr}{H:Hp}{u:HO}(h:rm a H b=some u):H b=some u/\b≠a:=by
 by_cases e:b=a
 ·rw[e,bN] at h;cases h
 ·rw[aQ e] at h;exact⟨h,e⟩
theorem yj {a:Addr}{H:Hp}:aq (rm a H) H:=fun b u h=>(jR h).1
section
variable {P:Program}{w:World}{H H':Hp}{h g:Heap}{a:Addr}{kvs:List (Key×V)}
theorem rZ (x:Bw P w H h)(e:H a=some (.dK kvs)):Bw P w (rm a H) h:=fun b o q=>by
 obtain⟨q1,q2⟩:=jR q
 refine(x b o q1).CD (fun _ _ _ z=>z) (fun c z=>?_) fun c xs z=>?_
 ·rw[aQ (by rintro rfl;rw[e] at z;cases z)];exact z
 ·rw[aQ (by rintro rfl;rw[e] at z;cases z)];exact z
theorem r6 (x:Bw P w H h)(n:H a=none)(y:aM P w H' h a (.dK kvs)):Bw P w (upd H a (.dK kvs)) h:=fun b o q=>by
 by_cases hb:b=a
 ·subst hb
  rw[aw] at q
  cases q
  exact cS rfl y
 ·rw[ak hb] at q
  exact(x b o q).CD (fun _ _ _ z=>z) (fun c z=>by rw[ak (aC z n)];exact z) fun c xs z=>by rw[ak (aC z n)];exact z
theorem r9 (n:H a=none):rm a (upd H a (.dK kvs))=H:=by
 funext b
 by_cases hb:b=a
 ·rw[hb,bN,n]
 ·rw[aQ hb,ak hb]
end
section
variable {K:PySem.W.Frag}{F F':Addr->Prop}{H H':Hp}{a:Addr}{kvs:List (Key×V)}
theorem gk (e:H a=some (.dK kvs)){b:Addr}{xs:List V ⊕ Str}(h:BI K H b xs):BI K (rm a H) b xs:=by
 cases xs with
 | inl xs=>
  rcases h with h|h
  ·have:b≠a:=by
    rintro rfl
    rcases h with h|⟨o,h⟩<;>(rw[e] at h;cases h)
   refine .inl ?_
   unfold Rd
   rw[aQ this]
   exact h
  ·exact .inr h
 | inr c=>
  obtain⟨C,o,vs,h0,h1,h2,h3⟩:=h
  have:b≠a:=by
   rintro rfl
   rw[e] at h2;cases h2
  exact⟨C,o,vs,h0,h1,by rw[aQ this];exact h2,h3⟩
theorem jS {b:Addr}{u:HO}(n:b≠a)(h:Rd H b u):Rd (rm a H) b u:=by
 unfold Rd
 rw[aQ n]
 exact h
theorem mU {v:V}{d:D}{fv:List Addr}(o:Out K F H F' H' v d fv)(hs:aq H (rm a H'))(nF:¬ F' a)(nf:a∉fv)(e:H' a=some (.dK kvs)):Out K F H F' (rm a H') v d fv:=by
 have ne:∀ b,F' b->b≠a:=fun b hb z=>nF (z ▸ hb)
 refine⟨fun b hb=>by rw[aQ (ne b hb)];exact o.Bh b hb,hs,o.rep.step (fun b u hb r=>⟨hb,jS (ne b hb) r⟩) (fun b xs r=>gk e r) fun b hb n1 n2=>⟨n1,aQ fun z=>nf (z ▸ hb)⟩,o.BG,o.new,o.Ct,o.out⟩
theorem vT {v:V}{d:D}{fv:List Addr}(o:Out K F H F' H' v d fv)(n:H' a=none):Out K F H F' (upd H' a (.dK kvs)) v d fv:=by
 have e:aq H' (upd H' a (.dK kvs)):=.upd n
 refine⟨fun b hb z=>o.Bh b hb (e.free z),o.same.trans e,o.rep.step (fun b u hb r=>⟨hb,e.rd r⟩) (fun b xs r=>e.CF r) fun b hb n1 n2=>⟨n1,ak fun z=>n2 (z ▸ n)⟩,o.BG,o.new,o.Ct,o.out⟩
end
theorem AY.lf {K:PySem.W.Frag}{S S':Addr->Prop}{H:Hp}{vs:List V}{ds:List D}(h:AY K S H vs ds)(s:af ds=true):AY K S' H vs ds:=
 (AY.free (F:=S') s h).read (fun _ z=>z) fun _ z=>absurd z (by simp)
theorem mV {P:Program}{w:World}{K:PySem.W.Frag}{Fc F':Addr->Prop}{H H':Hp}{h:Heap}{v:V}{d:D}{fv:List Addr}(x:Bw P w H h)(Bh:C8 Fc H)(p:Dm h (az h H) H')(o:Out K (fun a=>Fc a/\az h H a≠none) (az h H) F' H' v d fv){vs:List V}{ds:List D}(m:AY K F' H' vs ds)(s:af ds=true) :
  AY K (fun a=>Fc a∨F' a) (bS H H') vs ds:=by
 revert s
 refine AY.ind (P:=fun vs ds=>af ds=true->AY K (fun a=>Fc a∨F' a) (bS H H') vs ds) (fun _=>.nil) (fun v d vs ds a b j s=>?_) m
 have h':(ao d&&af ds)=true:=s
 rw[Bool.and_eq_true] at h'
 exact .cons ((dG x Bh p ⟨o.Bh,o.same,A1.free h'.1 a,List.nodup_nil,fun a ha=>absurd ha (by simp),o.Ct,o.out⟩).rep.read (fun _ z=>z) fun _ z=>absurd z (by simp)) (j h'.2)
noncomputable def JL (K:PySem.W.Frag)(ex:Str->Prop)(cl:Nat->List D->Res D)(i:Nat):List IR->TA
 | []=>cz (pT i) kP
 | e::es=>cz (RD K ex (vars e) (A3 cl e)) (JL K ex cl i es)
theorem mW {K:PySem.W.Frag}{ex:Str->Prop}{cl:Nat->List D->Res D}{i:Nat}{v0:V}{S:Addr->Prop}{σ:St}{τ:Ev}{H:Hp}(hv:σ[i]? = some (some v0)):∀ (es:List IR) {H1:Hp}{Kt:List D->Prop}{Q:List V->Hp->Prop},aq H H1->Slots K S H σ τ (aj es)->AZ ex (ay cl es τ) Kt->
  (∀ ds vs H2,aq H H2->aq H1 H2->AY K (nw S H) H2 vs ds->Kt ds->Q (vs++[v0]) H2)->JL K ex cl i es σ H1 Q
 | [],H1,Kt,Q,e,hs,h,k=>⟨v0,hv,k [] [] H1 e (.refl _) .nil h.ok⟩
 | a::es,H1,Kt,Q,e,hs,h,k=>by
  refine aH e hs.left (AZ.j' (show AZ ex (j' (A3 cl a τ) fun d=>j' (ay cl es τ) fun ds=>.ok (d::ds)) Kt from h)) fun x v H2 e2 BK m q=>?_
  exact mW hv es e2 hs.right (AZ.j' q) fun ds vs H3 e3 Ek ms kt=>k (x::ds) (v::vs) H3 e3 (BK.trans Ek) (.cons (m.mono (fun _ z=>z) Ek) ms) kt.ok
section
variable {Z:Sg}{CX:Ci}{cl:Nat->List D->Res D}{xp:XK->Hp->Str->Prop}{X:Cx}{ex:Str->Prop}{G:Gm}
theorem sa (g:Bt Z CX cl xp X ex G){i:Nat}:∀ (es:List IR) (args:List Expr),aF Z G (es++[.v i]) args=true->PA X args (JL X.K ex cl i es)
 | [],args,h=>by
  match args,h with
  | [e],h=>
   have h':(notStar e&&A9 Z G (.v i) e&&aF Z G [] [])=true:=h
   simp only[Bool.and_eq_true] at h'
   cases e with
   | Name x p=>exact aL (fA g h'.1.2) bx (ai h'.1.1 _ _)
   | _=>exact aa h'.1.2
  | [],h=>cases h
  | _::_::_,h=>
   have h':=(Bool.and_eq_true_iff.mp h).2
   cases h'
 | a::es,args,h=>by
  match args,h with
  | e::l,h=>
   have h':(notStar e&&A9 Z G a e&&aF Z G (es++[.v i]) l)=true:=h
   simp only[Bool.and_eq_true] at h'
   exact aL (snd a X ex G e g h'.1.2).1 (sa g es l h'.2) (ai h'.1.1 _ _)
  | [],h=>cases h
def KA (K:PySem.W.Frag)(cl:Nat->List D->Res D)(f:Nat)(vs:List V)(H:Hp)(Q:VK):Prop:=∃ a F ws ds kvs es,vs=ws++[.ref a]/\Ju K a F H ws ds kvs es/\
 ∃ d DS C4,cl f (A6 ds++[.A0 false (kvs.map (·.1)) es])=.ok (.tup [d,.A0 false DS C4])/\af C4=true/\∀ v H' F' fv Bz,FU K a F H F' H' v d fv Bz DS C4->Q v H'
theorem iy (g:Bt Z CX cl xp X ex G){k:Nat}{f:Nat}{fa:Addr}{fd:FuncData}{ps:List Str}{pins:List (Addr×Obj)}{σ:St}{H:Hp}{s:Shared}{Q:VK}{us:List Value}{vs:List V}
  (F:Cp X.prog X.w X.K X.mg X.base CX k fa fd ps (Jv X.K cl f ps)) (hr:B1 k X.A) (hb:Binds X.K fd ps []) (hlen:∀ ds r,cl f ds=.ok r->ds.length=ps.length)
  (I:Inv X pins σ H s) (r:Vals vs us) (q:KA X.K cl f vs H Q):wpAny (model X.prog X.w) X.A (call (.ref fa) us) (EP X pins σ Q) X.xe s:=by
 obtain⟨a,Fc,ws,ds,kvs,es,rfl,A,d,DS,C4,hc,LU,q⟩:=q
 have hl:(ws++[V.ref a]).length=ps.length:=by
  have:=hlen _ _ hc
  rw[List.length_append,bh] at this
  rw[List.length_append,A.ws.length]
  exact this
 have x1:Bw X.prog X.w (rm a H) s.heap:=rZ I.Be A.at_
 have na:az s.heap (rm a H) a=none:=aY bN
 have x2:Bw X.prog X.w (upd (az s.heap (rm a H)) a (.dK kvs)) s.heap:=r6 (jd x1) na (I.Be a _ A.at_)
 have nb:∀ b,H b=none->upd (az s.heap (rm a H)) a (.dK kvs) b=none:=fun b e=>by
  have hb:b≠a:=by rintro rfl;rw[A.at_] at e;cases e
  rw[ak hb]
  exact aY (by rw[aQ hb];exact e)
 have e0:=I.CT
 have env:DX X.prog X.w X.K X.mg X.base X.A X.stack s (upd (az s.heap (rm a H)) a (.dK kvs)):=⟨e0.frames,e0.mod,fun b o e=>⟨(e0.bs b o e).1,nb b (e0.bs b o e).2⟩,e0.Fh,e0.Ce,fun b hb=>nb b (e0.D9 b hb),x2,e0.bare⟩
 have KC:∀ b,Fc b->b≠a:=fun b hb z=>A.nF (z ▸ hb)
 have JM:∀ {vs:List V}{ds:List D},AY X.K Fc H vs ds->AY X.K (fun b=>Fc b/\az s.heap (rm a H) b≠none) (upd (az s.heap (rm a H)) a (.dK kvs)) vs ds:=fun m=>
  (gf x1 (m.step (S':=Fc) (H':=rm a H) (fun b u hb rd=>⟨hb,jS (KC b hb) rd⟩) fun b xs h=>gk A.at_ h)).mono (fun _ h=>h) (.upd na)
 have Ki:(us++([]:List Value)).length=ps.length:=by rw[List.append_nil,<- r.length];exact hl
 have bd:=hb s us I.Df Ki
 rw[List.append_nil] at bd
 have DA:Jv X.K cl f ps (ws++[.ref a]) (upd (az s.heap (rm a H)) a (.dK kvs)) (fun v H'=>∃ F' fv Bz,FU X.K a (fun b=>Fc b/\az s.heap (rm a H) b≠none) (upd (az s.heap (rm a H)) a (.dK kvs)) F' H' v d fv Bz DS C4) (fun _ _ _=>False):=
  ⟨hl,a,_,ws,ds,kvs,es,rfl,⟨fun b hb=>by rw[ak (KC b hb.1)];exact hb.2,fun z=>A.nF z.1,aw,JM A.ws,JM A.vs,A.lf⟩,d,DS,C4,hc,LU,fun v H' F' fv Bz o=>⟨F',fv,Bz,o⟩⟩
 refine wpAny_call (codeAny_mono (F.run X.A X.stack s _ ⟨us,[]⟩ us _ _ _ hr env bd r DA) fun r' s' hq=>?_)
 cases r' with
 | error e=>exact(g.Kp _ _ _ _ _ hq).elim
 | ok fl=>
  cases fl with
  | ret u=>
   obtain⟨v,H',a1,a2,a3,a4,a5,F',fv,Bz,o⟩:=hq
   have oo:=o.out
   rw[r9 na] at oo
   have KD:aq (az s.heap (rm a H)) (rm a H'):=fun b u e=>by
    have hb:b≠a:=by rintro rfl;rw[na] at e;cases e
    rw[aQ hb]
    exact oo.same b u e
   have p:Dm s.heap (az s.heap (rm a H)) (rm a H'):=⟨fun b o u e=>KD _ _ e,fun b xs e=>KD _ _ e,fun b o e n=>by
    by_cases hb:b=a
    ·rw[hb];exact bN
    ·rw[aQ hb]
     exact a3.free b o e (by rw[ak hb];exact n) (by simp)⟩
   have o2:=dG x1 (fun b hb=>by rw[aQ (KC b hb)];exact A.Bh b hb) p (mU oo KD o.nF o.nf o.at_)
   have nr:bS (rm a H) (rm a H') a=none:=by rw[res_none bN];exact bN
   have o3:=vT (kvs:=Bz) o2 nr
   have hE:∀ b,b≠a->H b=none->H' b=upd (bS (rm a H) (rm a H')) a (.dK Bz) b:=fun b hb e=>by
    rw[ak hb,res_none (by rw[aQ hb];exact e),aQ hb]
   have JN:∀ b,H b=none->b≠a:=fun b e z=>by rw[z,A.at_] at e;cases e
   have un:Un (BZ X.stack) [] H (upd (bS (rm a H) (rm a H')) a (.dK Bz)) s.heap s'.heap:=⟨fun b o e n=>a3.keep b o e (nb b n),fun b o e n=>a3.slot b o e (nb b n),fun b o e n hx=>by
    rw[<- hE b (JN b n) n]
    exact a3.free b o e (nb b n) hx,a3.there,fun b xs e=>?_,fun b o u e=>?_,fun b ps e=>⟨#[],?_⟩⟩
   ·have Be:Bw X.prog X.w (upd (bS (rm a H) (rm a H')) a (.dK Bz)) s'.heap:=
     r6 (f9 x1 (rZ a4 o.at_) p (fs:=BZ X.stack) (fun b o hH e n f=>a3.keep b o e (by
      have hb:b≠a:=by rintro rfl;exact hH bN
      rw[ak hb];exact n) f (by simp)) fun b hb=>by rw[aQ (JN b (e0.D9 b hb))];exact e0.D9 b hb) nr (a4 a _ o.at_)
    refine I.after (Q:=Q) ⟨v,_,a1,a2,un,Be,a5,q v _ _ fv Bz ⟨o3,fun z=>z.elim A.nF o.nF,o.nf,aw,o.ks,?_⟩⟩
    exact(mV x1 (fun b hb=>by rw[aQ (KC b hb)];exact A.Bh b hb) p (mU oo KD o.nF o.nf o.at_) (o.vs.step (S':=F') (H':=rm a H') (fun b u hb r=>⟨hb,jS (fun (z:b=a)=>o.nF (z ▸ hb)) r⟩) fun b xs r=>gk o.at_ r) LU).mono (fun _ z=>z) (.upd nr)
   ·rw[ak (by rintro rfl;rw[A.at_] at e;cases e),res_some (by rw[aQ (by rintro rfl;rw[A.at_] at e;cases e)];exact e)]
   ·rw[ak (by rintro rfl;rw[A.at_] at e;cases e),res_some (by rw[aQ (by rintro rfl;rw[A.at_] at e;cases e)];exact e)]
   ·rw[ak (by rintro rfl;rw[A.at_] at e;cases e),res_some (by rw[aQ (by rintro rfl;rw[A.at_] at e;cases e)];exact e)]
    simp
  | next=>exact False.elim hq
  | brk=>exact False.elim hq
  | cont=>exact False.elim hq
theorem eB (g:Bt Z CX cl xp X ex G){f i:Nat}{x:Str}{p pos:Pos}{es:List IR}{args:List Expr}(h1:bz Z G f x=true)(hf:f∈Z.Cs)(CO:G.cm=true)(Bu:aF Z G (es++[.v i]) args=true) :
  PE X (.Call (.Name x p) args [] pos) (fun σ H Q=>JL X.K ex cl i es σ H fun vs H1=>KA X.K cl f vs H1 Q):=by
 obtain⟨k1,k2,k3,k4⟩:=ip g h1
 obtain⟨k,IA,fd,ps,hm,EB,hb,F,hr,hlen⟩:=(g.Cs f hf CO x k2).ex
 intro pins s σ H Q I q
 have pa:=sa g es args Bu
 refine wpAny_Call_Name_kw (cM I k1 hm ?_ k4)
 obtain⟨a,r,he⟩:∃ a r,es++[.v i]=a::r:=by cases es<;>exact⟨_,_,rfl⟩
 rw[he] at Bu
 cases args with
 | nil=>cases Bu
 | cons e l=>
  have Bv:(notStar e&&A9 Z G a e&&aF Z G r l)=true:=Bu
  simp only[Bool.and_eq_true] at Bv
  refine PySem.W.callWith_K (h₀:=X.base) I.ok.mod.HX EB (Bg (pa pos pins s σ H _ I q) fun us s1 ⟨vs,H1,I1,r,q1⟩=>⟨I1.Df,?_⟩) (ai Bv.1.1 l X.env) (bq Z G (es:=r) pos X.env Bv.2)
  exact iy g F hr hb hlen I1 r q1
theorem qN {io:Option Nat}{B:Bs io}{F2 F':Addr->Prop}{H2 H':Hp}{σ:St}{FZ:Ev}{gg g0 fv:List Addr}{a:Addr}{i:Nat}{kvs Fd:List (Key×V)}{ks1:List Key}{BD:List D}{v:V}{d:D}(m2:BC X.K B F2 H2 σ FZ gg)(B8:σ[i]? = some (some (.ref a)))(KG:¬ F2 a)
  (JO:H2 a=some (.dK kvs)) (r0:Bq X.K F2 H2 σ (FZ.set i none) g0) (p0:gg.Perm (a::g0)) (o:FU X.K a F2 H2 F' H' v d fv Fd ks1 BD) (Eo:af BD=true) :
  ∃ g',BC X.K B F' H' σ (FZ.set i (some (.A0 true ks1 BD))) g'/\(fv++g').Nodup/\∀ b∈fv,B.H b=none:=by
 have Hk:(a::g0).Nodup:=p0.nodup_iff.mp m2.BG
 have ag:a∉g0:=(List.nodup_cons.mp Hk).1
 have hl:∀ b (u:LD),(F2 b)->Rd H2 b u.o->F' b/\Rd H' b u.o:=fun b u hb r=>⟨o.out.Ct b hb,o.out.same.rd (jS (fun z=>KG (z ▸ hb)) r)⟩
 have ht:∀ b xs,BI X.K H2 b xs->BI X.K H' b xs:=fun b xs h=>o.out.same.CF (gk JO h)
 have r3:Bq X.K F' H' σ (FZ.set i none) g0:=r0.step hl ht fun b hb n1 n2=>by
  have IE:b≠a:=fun z=>ag (z ▸ hb)
  refine⟨fun z=>?_,?_⟩
  ·rcases o.out.out b z with z|z
   ·exact n1 z
   ·rw[aQ IE] at z;exact n2 z
  ·obtain⟨_,u,hu⟩:=r0.own b hb
   rw[hu]
   exact o.out.same b u (by rw[aQ IE];exact hu)
 have m1:Ba X.K F' H' (.ref a) (.A0 true ks1 BD) [a]:=.D3 o.nF o.at_ o.ks (AY.free Eo o.vs)
 obtain⟨g',h',r4,p4⟩:=r3.put i m1
 have LV:σ.set i (some (.ref a))=σ:=by
  apply List.ext_getElem?
  intro j
  rw[List.getElem?_set]
  by_cases hj:i=j
  ·subst hj
   rw[if_pos rfl,if_pos (List.getElem?_eq_some_iff.mp B8).1,B8]
  ·rw[if_neg hj]
 rw[LV,List.set_set] at r4
 have Ng:(g'++h').Nodup:=p4.nodup_iff.mpr Hk
 have in4:∀ b∈g',b=a∨b∈g0:=fun b hb=>List.mem_cons.mp (p4.mem_iff.mp (List.mem_append_left _ hb))
 have Hm:∀ b,b=a∨b∈g0->B.H b=none/\∃ u,H2 b=some u:=fun b hb=>by
  have Nh:b∈gg:=p0.mem_iff.mpr (List.mem_cons.mpr hb)
  exact⟨m2.own b Nh,(m2.BR.own b Nh).2⟩
 have mF:BC X.K B F' H' σ (FZ.set i (some (.A0 true ks1 BD))) g':=⟨o.out.Bh,r4,(List.nodup_append.mp Ng).1,fun b u e=>o.out.same b u (by
   rw[aQ (fun z=>by rw[z,(Hm a (.inl rfl)).1] at e;cases e)]
   exact m2.same b u e),fun b hb=>(Hm b (in4 b hb)).1,fun b hb=>o.out.Ct b (m2.Ct b hb),fun b hb=>by
   rcases o.out.out b hb with z|z
   ·exact m2.out b z
   ·have IE:b≠a:=fun y=>o.nF (by rw[<- y];exact hb)
    rw[aQ IE] at z
    exact .inr (m2.same.free z),fun b xs hb=>hl b xs (m2.pin b xs hb).1 (m2.pin b xs hb).2,fun b xs hb=>ht b xs (m2.Fq b xs hb),m2.nm⟩
 have JP:∀ b∈fv,H2 b=none:=fun b hb=>by
  have:=o.out.new b hb
  have IE:b≠a:=fun z=>o.nf (by rw[<- z];exact hb)
  rwa [aQ IE] at this
 refine⟨g',mF,List.nodup_append.mpr ⟨o.out.BG,(List.nodup_append.mp Ng).1,fun b h1 c h2 e=>?_⟩,fun b hb=>m2.same.free (JP b hb)⟩
 subst e
 obtain⟨u,hu⟩:=(Hm b (in4 b h2)).2
 rw[JP b h1] at hu
 cases hu
theorem gm {io:Option Nat}{B:Bs io}{F:Addr->Prop}{H:Hp}{σ:St}{τ:Ev}{fo:List Addr}{f i:Nat}{es:List IR}{ks:List Key}{Ep:List D}{Q:VK}(Er:(aj es).contains i=false)(m:BC X.K B F H σ τ fo)(zs:ah τ i=some (.A0 true ks Ep))(gd:af Ep=true)
  (q1:AZ ex (ay cl es τ) fun ds=>∃ d ks1 BD,cl f (A6 ds++[.A0 false ks Ep])=.ok (.tup [d,.A0 false ks1 BD])/\af BD=true/\∀ v H' F' fv g',BC X.K B F' H' σ ((Bb (aj es) τ).set i (some (.A0 true ks1 BD))) g'->Ba X.K F' H' v d fv->(fv++g').Nodup->(∀ b∈fv,B.H b=none)->Q v H') :
  JL X.K ex cl i es σ H fun vs H1=>KA X.K cl f vs H1 Q:=by
 obtain⟨F1,gg,b1,b2,b3,b4,b5,b6⟩:=b8 (aj es) m.Bh m.BR m.BG
 have zf:ah (Bb (aj es) τ) i=some (.A0 true ks Ep):=(cJ (aj es) τ 0 i (by rw[Nat.zero_add];exact Er)).trans zs
 obtain⟨a,kvs,g1,B8,RE,PF,FY,Ni,_,_⟩:=c6 b2 zf gd
 refine mW B8 es (.refl _) b6 q1 fun ds ws H2 e2 _ ms q2=>?_
 obtain⟨c1,c2,c3⟩:=grow (fun _=>True) b1 b2 e2
 obtain⟨a',Bz,g0,EF,KG,JO,PH,LW,r0,p0⟩:=c6 c2 zf gd
 rw[B8] at EF
 cases EF
 have Nj:=e2 _ _ PF
 rw[JO] at Nj
 cases Nj
 have m2:BC X.K B (fun b=>F1 b∨(True/\H b=none/\H2 b≠none)) H2 σ (Bb (aj es) τ) gg:=m.C9 (b4.trans c3 (fun x hx=>.inl (b5 x hx))) c1 c2 b3 fun b hb=>.inl (b5 b hb)
 obtain⟨d,ks1,BD,zc,Eo,q3⟩:=q2
 refine⟨a,_,ws,ds,kvs,Ep,rfl,⟨c1,KG,JO,ms.step (fun b xs h r=>⟨h.elim (fun z=>.inl z) fun z=>.inr ⟨trivial,z,r.some⟩,r⟩) fun b xs h=>h,(LW.read (S:=fun _=>True) (fun _ _=>trivial) fun _ _=>trivial).lf gd,gd⟩,d,ks1,BD,by rw[FY];exact zc,Eo,fun v H' F' fv Fd o=>?_⟩
 obtain⟨g',mF,JQ,JR⟩:=qN m2 B8 KG JO r0 p0 o Eo
 exact q3 v H' F' fv g' mF o.out.rep JQ JR
theorem mX {τ:Ev}{i:Nat}{d:D}{o:Option D}(h:ah τ i=some d):ah (τ.set i o) i=o:=by
 rw[fy]
 by_cases hl:i < τ.length
 ·rw[if_pos ⟨rfl,hl⟩]
 ·unfold ah at h
  rw[List.getElem?_eq_none (by omega)] at h
  cases h
theorem gn {f:Nat}{R:D->Res Fl}{ds:List D}{ks:List Key}{Ep:List D}{Kt:Fl->Prop}(hR:∀ r,(∃ d ks1 BD,r=.tup [d,.A0 false ks1 BD])∨R r=A5)(q:AZ ex (j' (B5 (cl f (A6 ds++[.A0 false ks Ep]))) R) Kt) :
  ∃ d ks1 BD,cl f (A6 ds++[.A0 false ks Ep])=.ok (.tup [d,.A0 false ks1 BD])/\AZ ex (R (.tup [d,.A0 false ks1 BD])) Kt:=by
 cases zc:cl f (A6 ds++[.A0 false ks Ep]) with
 | error er=>rw[zc] at q;exact q.no.elim
 | ok rr=>
  rw[zc] at q
  have q3:AZ ex (R rr) Kt:=q
  rcases hR rr with ⟨d,ks1,BD,rfl⟩|h
  ·exact⟨d,ks1,BD,rfl,q3⟩
  ·rw[h] at q3;exact q3.no.elim
theorem gp {i:Nat}{τ:Ev}{R:List Key->List D->Res Fl}{Kt:Fl->Prop}(q:AZ ex (match ah τ i with|some (.A0 true ks vs)=>A4 (af vs) (R ks vs)|_=>A5) Kt) :
  ∃ ks vs,ah τ i=some (.A0 true ks vs)/\af vs=true/\AZ ex (R ks vs) Kt:=by
 cases zs:ah τ i with
 | none=>rw[zs] at q;exact q.no.elim
 | some dd=>
  rw[zs] at q
  cases dd with
  | A0 ow ks Ep=>
   cases ow with
   | false=>exact q.no.elim
   | true=>
    obtain⟨gd,q1⟩:=AZ.A4 q
    exact⟨ks,Ep,rfl,gd,q1⟩
  | _=>exact q.no.elim
theorem gq {R:D->Res Fl}(h:∀ r,(∀ d ks1 BD,r≠.tup [d,.A0 false ks1 BD])->R r=A5)(r:D):(∃ d ks1 BD,r=.tup [d,.A0 false ks1 BD])∨R r=A5:=by
 by_cases e:∃ d ks1 BD,r=.tup [d,.A0 false ks1 BD]
 ·exact .inl e
 ·exact .inr (h r fun d ks1 BD z=>e ⟨d,ks1,BD,z⟩)
theorem CC (g:Bt Z CX cl xp X ex G){j f i:Nat}{es:List IR}{st:Stmt}(h:JF st (fun t xf args=>isName t&&bA G (.nm j) t&&G.cm&&(bz Z G f xf&&Z.Cs.contains f)&&aF Z G (es++[.v i]) args&&!(aj es).contains i&&decide (i≠j))=true) :
  PS X st (RS X.K G.io ex (B6 cl (.GY j f es i))):=by
 obtain⟨t,xf,p,args,qp,pos,rfl,h0⟩:=vP h
 simp only[Bool.and_eq_true] at h0
 obtain⟨⟨⟨⟨⟨⟨hn,hT⟩,CO⟩,hf,F0⟩,Bu⟩,Er⟩,RF⟩:=h0
 cases t with
 | Name y py=>
  have EV:(G.N[j]? == some y&&(G.kd[j]? == some .local||(G.df&&G.kd[j]? == some .cell)))=true:=(Bool.and_eq_true_iff.mp hT).1
  have PJ:G.io≠some j:=by simpa using(Bool.and_eq_true_iff.mp hT).2
  rw[Bool.and_eq_true,Bool.or_eq_true,Bool.and_eq_true] at EV
  have hx:G.N[j]? = some y:=eq_of_beq EV.1
  have hk:=g.kd j y hx
  have Hh:Loc X.env.scope y:=EV.2.elim (fun z=>.inl (hk.trans (eq_of_beq z))) fun z=>.inr (hk.trans (eq_of_beq z.2))
  have GI:X.fn y=true∨X.env.scope.names.lookup y=some .local:=EV.2.elim (fun z=>.inr (hk.trans (eq_of_beq z))) fun z=>.inl (g.df z.1 y)
  have Er:(aj es).contains i=false:=by simpa using Er
  refine aJ (lR (i:=j) (by rw[g.N];exact g.BG) (by rw[g.N];exact hx) Hh (eB (p:=p) (pos:=qp) g hf (by simpa using F0) CO Bu) rfl GI) fun Dn σ H hh=>?_
  obtain⟨B,F,τ,fo,m,q⟩:=hh
  obtain⟨ks,Ep,zs,gd,q1⟩:=gp (R:=fun ks vs=>j' (ay cl es τ) fun ds=>j' (B5 (cl f (A6 ds++[.A0 false ks vs]))) (mq j i (Bb (aj es) τ))) q
  refine gm Er m zs gd ((AZ.j' q1).mono fun ds q2=>?_)
  obtain⟨d,ks1,BD,zc,q3⟩:=gn (gq fun r n=>by unfold mq;split;(exact absurd rfl (n _ _ _));rfl) q2
  obtain⟨Eo,q4⟩:=AZ.A4 (show AZ ex (A4 (af BD) (.ok (.nx (((Bb (aj es) τ).set i (some (.A0 true ks1 BD))).set j (some d))))) (Fk X.K B Dn) from q3)
  refine⟨d,ks1,BD,zc,Eo,fun v H' F' fv g' mF mv JQ JR=>?_⟩
  obtain⟨f5,m5⟩:=mF.put j mv JQ JR PJ
  exact q4.ok _ _ _ _ m5
 | _=>cases hn
theorem B9 (g:Bt Z CX cl xp X ex G){i f:Nat}{k:IR}{es:List IR}{st:Stmt}(h:JH st (fun x sx xf args=>cg G i x&&aI sx&&A9 Z G k sx&&G.cm&&(bz Z G f xf&&Z.Cs.contains f)&&aF Z G (es++[.v i]) args&&!(aj es).contains i)=true) :
  PS X st (RS X.K G.io ex (B6 cl (.D4 i k f es))):=by
 obtain⟨x,p,sx,sp,xf,p',args,qp,pos,rfl,h0⟩:=vR h
 simp only[Bool.and_eq_true] at h0
 obtain⟨⟨⟨⟨⟨⟨h1,h2⟩,h3⟩,CO⟩,hf,F0⟩,Bu⟩,Er⟩:=h0
 have Er:(aj es).contains i=false:=by simpa using Er
 have hu:=g.un
 refine aJ (jD (by omega) (fA g h1) (snd k X ex G sx g h3).1 (eB (p:=p') (pos:=qp) g hf (by simpa using F0) CO Bu) rfl) fun Dn σ H hh=>?_
 obtain⟨B,F,τ,fo,m,q⟩:=hh
 obtain⟨ks,Ep,zs,gd,q1⟩:=gp (R:=fun ks vs=>j' (ay cl es τ) fun ds=>j' (B5 (cl f (A6 ds++[.A0 false ks vs]))) (ib cl i k (Bb (aj es) τ))) q
 refine gm Er m zs gd ((AZ.j' q1).mono fun ds q2=>?_)
 obtain⟨d,ks1,BD,zc,q3⟩:=gn (gq fun r n=>by unfold ib;split;(exact absurd rfl (n _ _ _));rfl) q2
 obtain⟨Eo,q4⟩:=AZ.A4 (show AZ ex (A4 (af BD) (j' (A3 cl k ((Bb (aj es) τ).set i (some (.A0 true ks1 BD)))) fun y=>rS i ((Bb (aj es) τ).set i (some (.A0 true ks1 BD))) d ks1 BD (bO y))) (Fk X.K B Dn) from q3)
 refine⟨d,ks1,BD,zc,Eo,fun w H' F' fv g' mF mw JQ JR=>?_⟩
 have z0:ah ((Bb (aj es) τ).set i (some (.A0 true ks1 BD))) i=some (.A0 true ks1 BD):=mX ((cJ (aj es) τ 0 i (by rw[Nat.zero_add];exact Er)).trans zs)
 obtain⟨v0,Hl,_⟩:∃ v0,σ[i]? = some (some v0)/\True:=by
  obtain⟨v0,_,_,h,_⟩:=mF.BR.at z0
  exact⟨v0,h,trivial⟩
 refine⟨v0,Hl,mF.rd (AZ.j' q4) fun y w2 H2 m2 e2 JJ q5=>?_⟩
 cases hk:bO y with
 | none=>rw[hk] at q5;exact q5.no.elim
 | some qk=>
  rw[hk] at q5
  obtain⟨LX,q6⟩:=AZ.A4 (show AZ ex (A4 (ao d&&bj ks1.length) (.ok (.nx (((Bb (aj es) τ).set i (some (.A0 true ks1 BD))).set i (some (.A0 true (bK ks1 qk) (bc ks1 BD qk d))))))) (Fk X.K B Dn) from q5)
  rw[Bool.and_eq_true] at LX
  obtain⟨l,kvs,g0,B8,hF,hl,FY,hm,hr,hp⟩:=c6 m2.BR z0 Eo
  rw[Hl] at B8
  cases B8
  subst FY
  have LP:AY X.K (fun _=>True) H2 (kvs.map (·.2)) BD:=hm.read (fun _ _=>trivial) fun _ _=>trivial
  have JK:A1 X.K (fun _=>True) H2 w d:=(mw.read (S:=fun _=>True) (fun _ _=>trivial) fun _ _=>trivial).mono (fun _ _=>trivial) e2
  have LQ:A2 X.K F' H2 ((putK kvs qk w).map (·.2)) (bc (kvs.map (·.1)) BD qk d) []:=(rY qk JK LP).free (mS Eo LX.1)
  obtain⟨f',m3⟩:=m2.Fb Hl hF hl hr hp (rX kvs qk w) LQ
  have hlen:kvs.length < sizeLine:=by
   have:=cR LX.2
   rwa [List.length_map] at this
  exact⟨l,_,rfl,.inl ⟨kvs,qk,hl,cV JJ hk,hlen,rfl⟩,q6.ok _ _ _ _ m3⟩
theorem Cu (g:Bt Z CX cl xp X ex G){i f:Nat}{k e:IR}{es:List IR}{a b:List IS}{xf:Str}{p q cp sp pos:Pos}{args:List Expr}{sx r:Expr}{x y:List Stmt}(hs:aI sx=true)(h1:A9 Z G k sx=true)(h2:A9 Z G e r=true)(CO:G.cm=true)(hf:bz Z G f xf=true)(F0:f∈Z.Cs)(Bu:aF Z G (es++[.v i]) args=true)(Er:(aj es).contains i=false)
  (ha:DD X x (RS X.K G.io ex (aD cl a))) (hb:DD X y (RS X.K G.io ex (aD cl b))):PS X (.If (.Compare (.Subscript (.Call (.Name xf p) args [] q) sx sp) [.NotEq] [r] cp) x y pos) (RS X.K G.io ex (B6 cl (.DL f es i k e a b))):=by
 have p1:=rN (pos:=sp) (jI (ex:=ex)) (eB (p:=p) (pos:=q) g hf F0 CO Bu) (snd k X ex G sx g h1).1 (fun o i=>by cases sx<;>first|rfl|cases hs)
 have p2:=jz (pos:=cp) (cH (ex:=ex) g.un .ne) p1 (snd e X ex G r g h2).1 (uX r)
 refine aJ (rJ p2 ha hb) fun Dn σ H hh=>?_
 obtain⟨B,F,τ,fo,m,q⟩:=hh
 obtain⟨ks,Ep,zs,gd,q1⟩:=gp (R:=fun ks vs=>j' (ay cl es τ) fun ds=>j' (B5 (cl f (A6 ds++[.A0 false ks vs]))) fun d=>j' (ic cl i k e (Bb (aj es) τ) d) fun p=>if p.1=true then aD cl a p.2 else aD cl b p.2) q
 refine gm Er m zs gd ((AZ.j' q1).mono fun ds q2=>?_)
 obtain⟨d,ks1,BD,zc,q3⟩:=gn (gq fun r n=>by unfold ic;split;(exact absurd rfl (n _ _ _));rfl) q2
 obtain⟨Eo,q4⟩:=AZ.A4 (AZ.j' q3)
 refine⟨d,ks1,BD,zc,Eo,fun w H' F' fv g' mF mw JQ JR=>?_⟩
 refine mF.rd (AZ.j' q4) fun y1 w1 H1 m1 e1 JK q5=>?_
 have PK:A1 X.K (fun _=>True) H1 w d:=(mw.read (S:=fun _=>True) (fun _ _=>trivial) fun _ _=>trivial).mono (fun _ _=>trivial) e1
 refine⟨fun _=>True,d,y1,PK,JK.mono (fun _ _=>trivial) (.refl _),(AZ.j' q5).mono fun x1 q6 vx RG Ic mx=>?_⟩
 have m1:=m1.grow Ic
 refine m1.rd (AZ.j' q6) fun z1 w2 H2 m2 e2 JJ q7=>?_
 refine⟨fun _=>True,x1,z1,mx.mono (fun _ _=>trivial) e2,JJ.mono (fun _ _=>trivial) (.refl _),(AZ.j' q7).mono fun r hr=>⟨r,rfl,?_⟩⟩
 have hr:=hr.ok
 cases r with
 | true=>exact⟨B,_,_,_,m2,hr⟩
 | false=>exact⟨B,_,_,_,m2,hr⟩
def PL:TE:=fun σ H Q=>∀ p,H p=none->Q (.ref p) (upd H p (.dK []))
noncomputable def qO (K:PySem.W.Frag)(ex:Str->Prop)(cl:Nat->List D->Res D):List IR->TA
 | []=>cz PL kP
 | e::es=>cz (RD K ex (vars e) (A3 cl e)) (qO K ex cl es)
theorem jT {K:PySem.W.Frag}{ex:Str->Prop}{cl:Nat->List D->Res D}{S:Addr->Prop}{σ:St}{τ:Ev}{H:Hp}:∀ (es:List IR) {H1:Hp}{Kt:List D->Prop}{Q:List V->Hp->Prop},aq H H1->Slots K S H σ τ (aj es)->AZ ex (ay cl es τ) Kt->
  (∀ ds vs H2 p,aq H H2->aq H1 H2->AY K (nw S H) H2 vs ds->Kt ds->H2 p=none->Q (vs++[.ref p]) (upd H2 p (.dK [])))->qO K ex cl es σ H1 Q
 | [],H1,Kt,Q,e,hs,h,k=>fun p hp=>k [] [] H1 p e (.refl _) .nil h.ok hp
 | a::es,H1,Kt,Q,e,hs,h,k=>by
  refine aH e hs.left (AZ.j' (show AZ ex (j' (A3 cl a τ) fun d=>j' (ay cl es τ) fun ds=>.ok (d::ds)) Kt from h)) fun x v H2 e2 BK m q=>?_
  exact jT es e2 hs.right (AZ.j' q) fun ds vs H3 p e3 Ek ms kt hp=>k (x::ds) (v::vs) H3 p e3 (BK.trans Ek) (.cons (m.mono (fun _ z=>z) Ek) ms) kt.ok hp
theorem mY (g:Bt Z CX cl xp X ex G):∀ (es:List IR) (args:List Expr),eQ Z G es args=true->PA X args (qO X.K ex cl es)
 | [],args,h=>by
  match args,h with
  | [e],h=>
   have h':=Bool.and_eq_true_iff.mp (show (notStar e&&Gs e)=true from h)
   obtain⟨p,rfl⟩:=jg h'.2
   exact aL (fun pins s σ H Q I q=>dY pins s σ H Q I q) bx (ai h'.1 _ _)
  | [],h=>cases h
  | _::_::_,h=>cases h
 | a::es,args,h=>by
  match args,h with
  | e::l,h=>
   have h':(notStar e&&A9 Z G a e&&eQ Z G es l)=true:=h
   simp only[Bool.and_eq_true] at h'
   exact aL (snd a X ex G e g h'.1.2).1 (mY g es l h'.2) (ai h'.1.1 _ _)
  | [],h=>cases h
theorem mZ (Z:Sg)(G:Gm):∀ {es:List IR}{l:List Expr} (p:Pos) (env:Env),eQ Z G es l=true->(backTo p (starEach l env)).any (·.1)=false
 | [],[e],p,env,h=>by
  have h':=Bool.and_eq_true_iff.mp (show (notStar e&&Gs e)=true from h)
  rw[ai h'.1]
  rfl
 | a::es,e::l,p,env,h=>by
  have h':(notStar e&&A9 Z G a e&&eQ Z G es l)=true:=h
  simp only[Bool.and_eq_true] at h'
  rw[ai h'.1.1]
  have ih:=mZ Z G (es:=es) (l:=l) p env h'.2
  show (false||(backTo p (starEach l env)).any (·.1))=false
  rw[ih]
  rfl
 | [],[],_,_,h=>by cases h
 | [],_::_::_,_,_,h=>by cases h
 | _::_,[],_,_,h=>by cases h
theorem m4 (g:Bt Z CX cl xp X ex G){f:Nat}{x:Str}{p pos:Pos}{es:List IR}{args:List Expr}(h1:bz Z G f x=true)(hf:f∈Z.Cs)(CO:G.cm=true)(Bu:eQ Z G es args=true) :
  PE X (.Call (.Name x p) args [] pos) (fun σ H Q=>qO X.K ex cl es σ H fun vs H1=>KA X.K cl f vs H1 Q):=by
 obtain⟨k1,k2,k3,k4⟩:=ip g h1
 obtain⟨k,IA,fd,ps,hm,EB,hb,F,hr,hlen⟩:=(g.Cs f hf CO x k2).ex
 intro pins s σ H Q I q
 have pa:=mY g es args Bu
 refine wpAny_Call_Name_kw (cM I k1 hm ?_ k4)
 have fin:∀ (e:Expr) (l:List Expr),args=e::l->notStar e=true->(backTo pos (starEach l X.env)).any (·.1)=false->wpAny (model X.prog X.w) X.A (callWith pos (.ref IA) [] (backTo pos (starEach args X.env)) []) (EP X pins σ Q) X.xe s:=by
  rintro e l rfl h1 h2
  refine PySem.W.callWith_K (h₀:=X.base) I.ok.mod.HX EB (Bg (pa pos pins s σ H _ I q) fun us s1 ⟨vs,H1,I1,r,q1⟩=>⟨I1.Df,?_⟩) (ai h1 l X.env) h2
  exact iy g F hr hb hlen I1 r q1
 match es,args,Bu with
 | [],[e],Bu=>exact fin e [] rfl (Bool.and_eq_true_iff.mp (show (notStar e&&Gs e)=true from Bu)).1 rfl
 | a::es,e::l,Bu=>
  have Bv:(notStar e&&A9 Z G a e&&eQ Z G es l)=true:=Bu
  simp only[Bool.and_eq_true] at Bv
  exact fin e l rfl Bv.1.1 (mZ Z G (es:=es) pos X.env Bv.2)
 | [],[],Bu=>cases Bu
 | [],_::_::_,Bu=>cases Bu
 | _::_,[],Bu=>cases Bu
theorem Du (g:Bt Z CX cl xp X ex G){f:Nat}{es:List IR}{st:Stmt}(h:JG st (fun xf args=>G.cm&&(bz Z G f xf&&Z.Cs.contains f)&&eQ Z G es args)=true) :
  PS X st (RS X.K G.io ex (B6 cl (.Im f es))):=by
 obtain⟨xf,p,args,qp,pos,rfl,h0⟩:=vQ h
 simp only[Bool.and_eq_true] at h0
 obtain⟨⟨CO,hf,F0⟩,Bu⟩:=h0
 refine aJ (iV (m4 (p:=p) (pos:=qp) g hf (by simpa using F0) CO Bu)) fun Dn σ H hh=>?_
 obtain⟨B,F,τ,fo,m,q⟩:=hh
 have q0:AZ ex (j' (ay cl es τ) fun ds=>j' (B5 (cl f (A6 ds++[.A0 false [] []]))) i9) (Fk X.K B Dn):=q
 obtain⟨F1,gg,b1,b2,b3,b4,b5,b6⟩:=b8 (aj es) m.Bh m.BR m.BG
 refine jT es (.refl _) b6 (AZ.j' q0) fun ds ws H2 a e2 _ ms q2 ha=>?_
 obtain⟨c1,c2,c3⟩:=grow (fun _=>True) b1 b2 e2
 have m2:BC X.K B (fun b=>F1 b∨(True/\H b=none/\H2 b≠none)) H2 σ (Bb (aj es) τ) gg:=m.C9 (b4.trans c3 (fun x hx=>.inl (b5 x hx))) c1 c2 b3 fun b hb=>.inl (b5 b hb)
 cases zc:cl f (A6 ds++[.A0 false [] []]) with
 | error er=>rw[zc] at q2;exact q2.no.elim
 | ok rr=>
  rw[zc] at q2
  have q3:AZ ex (i9 rr) (Fk X.K B Dn):=q2
  obtain⟨d,ks1,BD,rfl⟩:∃ d ks1 BD,rr=.tup [d,.A0 false ks1 BD]:=by
   unfold i9 at q3
   split at q3
   ·exact⟨_,_,_,rfl⟩
   ·exact q3.no.elim
  obtain⟨Eo,q4⟩:=AZ.A4 (show AZ ex (A4 (af BD) (.ok (.rt d))) (Fk X.K B Dn) from q3)
  have q4:Fk X.K B Dn (.rt d):=q4.ok
  have nF:¬ (F1 a∨(True/\H a=none/\H2 a≠none)):=fun z=>c1 a z ha
  have up:aq H2 (upd H2 a (.dK [])):=.upd ha
  refine⟨a,fun b=>F1 b∨(True/\H b=none/\H2 b≠none),ws,ds,[],[],rfl,⟨fun b hb z=>c1 b hb (up.free z),nF,aw,(ms.step (S':=fun b=>F1 b∨(True/\H b=none/\H2 b≠none)) (H':=H2) (fun b xs h r=>⟨h.elim (fun z=>.inl z) fun z=>.inr ⟨trivial,z,r.some⟩,r⟩) fun b xs h=>h).mono (fun _ z=>z) up,.nil,rfl⟩,d,ks1,BD,zc,Eo,fun v H' F' fv Fd o=>?_⟩
  have ot:=o.out
  rw[r9 ha] at ot
  exact q4 v H' F' fv ⟨ot.Bh,m2.same.trans ot.same,ot.rep,ot.BG,fun b hb=>m2.same.free (ot.new b hb),fun b hb=>ot.Ct b (m2.Ct b hb),fun b hb=>(ot.out b hb).elim (m2.out b) fun z=>.inr (m2.same.free z)⟩
end
section
variable {Z:Sg}{CX:Ci}{cl:Nat->List D->Res D}{xp:XK->Hp->Str->Prop}{X:Cx}{ex:Str->Prop}{G:Gm}
theorem Dv (g:Bt Z CX cl xp X ex G){i:Nat}{e:IR}{x:Str}{p apos Bo pos:Pos}{v:Expr}(h1:cg G i x=true)(h2:(apos.endLine == Bo.line)=true)(h3:notStar v=true)(h4:A9 Z G e v=true) :
  PS X (.Expr (.Call (.Attribute (.Name x p) "append" apos) [v] [] Bo) pos) (RS X.K G.io ex (B6 cl (.app i e))):=by
 have pa:PA X [v] (cz (RO X.K ex (BF cl false e)) kP):=aL (Gw e false X ex G v g h4) bx (ai h3 _ _)
 have Di:((backTo Bo (starEach [v] X.env)).all (fun x=>!x.1)&&(backToKw Bo (keywordEach [] X.env)).all (fun x=>x.1.isSome)&&decide ([v].length+([]:List Keyword).length+(if ([]:List Keyword).isEmpty then 0 else 1) < 30))=true:=by
  rw[ai h3]
  rfl
 refine aJ (fQ (gU PySem.F.plainAttrs_list PySem.F.slot_list_append PySem.F.type_list_append e9 (fA g h1) pa rfl Di h2 (ai h3 _ _) rfl)) fun Dn σ H h=>?_
 obtain⟨B,F,τ,f,m,q⟩:=h
 have q0:AZ ex (match ah τ i with|some (.lst _ _)=>(j' (BF cl false e τ) fun p=>(match ah p.2 i with|some (.lst true ds)=>A4 (bj ds.length) (.ok (.nx (p.2.set i (some (.lst true (ds++[p.1]))))))|_=>A5))|_=>A5) (Fk X.K B Dn):=q
 cases z0:ah τ i with
 | none=>rw[z0] at q0;exact q0.no.elim
 | some d0=>
  rw[z0] at q0
  cases d0 with
  | lst o0 Nf=>
   obtain⟨v0,PD,g0,a1,a2,a3,a4⟩:=m.BR.at z0
   have hq:∃ l xs,v0=.ref l/\BS X.K H l xs:=by
    cases a2 with
    | D2 _ b1 _=>exact⟨_,_,rfl,.inl b1⟩
    | lstK b1 _=>exact⟨_,_,rfl,b1.sq⟩
    | CB _ b1 _=>exact⟨_,_,rfl,.inl (.inl b1)⟩
   obtain⟨l,LS,rfl,hq⟩:=hq
   refine⟨.ref l,a1,.inl ⟨rfl,LS,hq⟩,m.ro (AZ.j' q0) fun p v H' F' fv f' o hp=>?_⟩
   obtain⟨m',hb⟩:=m.ow o
   cases zs:ah p.2 i with
   | none=>rw[zs] at hp;exact hp.no.elim
   | some d=>
    rw[zs] at hp
    cases d with
    | lst ow ds=>
     cases ow with
     | false=>exact hp.no.elim
     | true=>
      obtain⟨gd,hp⟩:=AZ.A4 hp
      obtain⟨l',xs,B8,hl,hlen⟩:=mT m'.BR zs
      rw[a1] at B8
      cases B8
      obtain⟨JE,m3⟩:=m'.write (ys:=xs++[v]) (ds':=ds++[p.1]) zs a1 hl o.rep o.BG hb fun fi hm=>hm.snoc o.rep
      exact⟨l,xs,v,rfl,rfl,hl,by rw[hlen];exact cR gd,hp.ok _ _ _ _ m3⟩
    | _=>exact hp.no.elim
  | _=>exact q0.no.elim
theorem Fk.Gx {K:PySem.W.Frag}{io:Option Nat}{B:Bs io}{F F':Addr->Prop}{H H':Hp}{σ:St}{τ A7:Ev}{f f':List Addr}{v:V}{d:D}{fv:List Addr}(m:BC K B F H σ τ f)(o:Ow K F H f F' H' σ v d fv A7 f'):Out K B.F B.H F' H' v d fv:=by
 obtain⟨m',hb⟩:=m.ow o
 exact⟨m'.Bh,m'.same,o.rep,(List.nodup_append.mp o.BG).1,hb,m'.Ct,m'.out⟩
theorem Dw (g:Bt Z CX cl xp X ex G){e:IR}{v:Expr}{pos:Pos}(h:A9 Z G e v=true):PS X (.Return (some v) pos) (RS X.K G.io ex (B6 cl (.ret e))):=by
 refine aJ (iV (Gw e true X ex G v g h)) fun Dn σ H ⟨B,F,τ,f,m,q⟩=>?_
 exact m.ro (AZ.j' q) fun p v H' F' fv f' o hp=>hp.ok _ _ _ _ (Fk.Gx m o)
theorem CS (g:Bt Z CX cl xp X ex G){i:Nat}{e:IR}{v:Expr}{pos:Pos}(E8:G.io=some i)(h:A9 Z G e v=true):PS X (.Return (some v) pos) (RS X.K G.io ex (B6 cl (.Cb i e))):=by
 refine aJ (iV (Gw e true X ex G v g h)) fun Dn σ H ⟨B,F,τ,f,m,q⟩=>?_
 have q0:AZ ex (j' (BF cl true e τ) (ia i)) (Fk X.K B Dn):=q
 refine m.ro (AZ.j' q0) fun p v H' F' fv f' o hp=>?_
 unfold ia at hp
 split at hp
 ·rename_i ks vs zs
  obtain⟨gs,hp⟩:=AZ.A4 hp
  obtain⟨mo,hb⟩:=m.ow o
  obtain⟨l,kvs,g1,B8,hF,hH,FY,Ni,hr,PM⟩:=c6 mo.BR zs gs
  refine hp.ok v H' F' fv kvs l (fun a' e'=>?_) (Fk.Gx m o) hF (fun z=>?_) hH FY ((Ni.read (S:=fun _=>True) (fun _ _=>trivial) fun _ _=>trivial).lf gs)
  ·have Nk:=mo.nm _ _ E8 e'
   rw[B8] at Nk
   cases Nk
   rfl
  ·exact(List.nodup_append.mp o.BG).2.2 _ z _ (PM.mem_iff.mpr (List.mem_cons.mpr (.inl rfl))) rfl
 ·exact hp.no.elim
theorem qP {pos:Pos}:PS X (.Return none pos) (RS X.K G.io ex (B6 cl .FP)):=
 aJ pY fun Dn σ H ⟨B,F,τ,f,m,q⟩=>q.ok .A8 H F [] ⟨m.Bh,m.same,.A8,List.nodup_nil,fun a ha=>absurd ha (by simp),m.Ct,m.out⟩
theorem Dx (g:Bt Z CX cl xp X ex G){e:IR}{v:Expr}{pos:Pos}(hc:gj v=true)(h:A9 Z G e v=true):PS X (.Expr v pos) (RS X.K G.io ex (B6 cl (.exp e))):=by
 refine aJ (fQ (snd e X ex G v g h).1 (by cases v<;>first|rfl|cases hc)) fun Dn σ H ⟨B,F,τ,f,m,q⟩=>?_
 exact m.rd (AZ.j' q) fun d v H' m' _ _ hd=>hd.ok _ _ _ _ m'
theorem Es {c:Expr}{x y:List Stmt}{pos:Pos}{t:IR}{a b:List IS}(hc:PT X c (RT X.K ex (vars t) fun τ=>j' (A3 cl t τ) aE))(ha:DD X x (RS X.K G.io ex (aD cl a)))(hb:DD X y (RS X.K G.io ex (aD cl b))):PS X (.If c x y pos) (RS X.K G.io ex (B6 cl (.Bn t a b))):=by
 refine aJ (rJ hc ha hb) fun Dn σ H ⟨B,F,τ,f,m,q⟩=>?_
 refine m.rt (AZ.j' q) fun r H' m' _ hr=>?_
 cases r with
 | true=>rw[if_pos rfl] at hr ⊢;exact⟨B,F,τ,f,m',hr⟩
 | false=>rw[if_neg Bool.false_ne_true] at hr ⊢;exact⟨B,F,τ,f,m',hr⟩
theorem BC.less {K:PySem.W.Frag}{io:Option Nat}{B:Bs io}{L:Addr->LD->Prop}{T:Addr->List V ⊕ Str->Prop}{F:Addr->Prop}{H:Hp}{σ:St}{τ:Ev}{f:List Addr}(m:BC K (⟨B.F,B.H,fun a xs=>B.L a xs∨L a xs,fun a xs=>B.T a xs∨T a xs,B.N⟩:Bs io) F H σ τ f):BC K B F H σ τ f:=
 ⟨m.Bh,m.BR,m.BG,m.same,m.own,m.Ct,m.out,fun a xs h=>m.pin a xs (.inl h),fun a xs h=>m.Fq a xs (.inl h),m.nm⟩
theorem iz:∀ (ds:List D) (i:Nat),(A6 ds).drop i=A6 (ds.drop i):=by
 intro ds i
 rw[a9,a9,List.map_drop]
theorem iA {J:It}{K:PySem.W.Frag}{io:Option Nat}{B:Bs io}{F:Addr->Prop}{H:Hp}{σ:St}{τ:Ev}{f:List Addr}{T:Tg}{body:List IS}{its:List D}{Dn:Ends}(E8:∀ j∈CZ T,io≠some j)(m:BC K B F H σ τ f)(w:CH K F H J its)
  (q:AZ ex (forM (fun x τ=>j' (bp T x τ) fun A7=>aD cl body A7) (A6 its) τ) (Fk K B Dn)) :
  ∃ W:Nat->Nat->St->Hp->Prop,(∃ m,W 0 m σ H)/\∀ i m σ H,W i m σ H->(J.stop i H/\Dn.nx σ H)∨(J.go i H/\∃ N:St->Hp->Prop,(∀ Bc H',N Bc H'->∃ m',m' < m/\W (i+1) m' Bc H')/\
   ∀ x H',J.Fv i H x H'->gT K T x σ H' fun DG H2=>RS K io ex (aD cl body) {Dn with nx:=N,ct:=N,bk:=Dn.nx} DG H2):=by
 let B':Bs io:=⟨B.F,B.H,fun a xs=>B.L a xs∨(F a/\Rd H a xs.o),fun a xs=>B.T a xs∨BI K H a xs,B.N⟩
 have m0:BC K B' F H σ τ f:=⟨m.Bh,m.BR,m.BG,m.same,m.own,m.Ct,m.out,fun a xs h=>h.elim (m.pin a xs) id,fun a xs h=>h.elim (m.Fq a xs) id,m.nm⟩
 let bd:D->Ev->Res Fl:=fun x τ=>j' (bp T x τ) fun A7=>aD cl body A7
 refine⟨fun i n σ H=>n=its.length - i/\i<=its.length/\∃ F τ f,BC K B' F H σ τ f/\AZ ex (forM bd ((A6 its).drop i) τ) (Fk K B Dn),⟨its.length,by simp,Nat.zero_le _,F,τ,f,m0,by rw[List.drop_zero];exact q⟩,?_⟩
 rintro i n MC H1 ⟨rfl,hi,F1,Fj,f1,m1,q1⟩
 have w1:CH K F1 H1 J its:=w.step (fun a xs h r=>m1.pin a xs (.inr ⟨h,r⟩)) fun a xs h=>m1.Fq a xs (.inr h)
 by_cases BM:i < its.length
 ·refine .inr ⟨w1.go BM,fun σ H=>∃ F τ f,BC K B' F H σ τ f/\AZ ex (forM bd ((A6 its).drop (i+1)) τ) (Fk K B Dn),fun Bc H' h=>⟨its.length - (i+1),by omega,rfl,BM,h⟩,fun x H' y=>?_⟩
  obtain⟨eH,mx⟩:=w1.Fv y (d:=its[i]) (by simp[BM])
  have m1:=m1.grow eH
  have hd:(A6 its).drop i=er its[i]::(A6 its).drop (i+1):=by
   rw[iz,List.drop_eq_getElem_cons BM,A6,iz]
  rw[hd] at q1
  have q2:=AZ.j' q1
  refine m1.gT mx.frozen (by simpa using m1.BG) (fun a ha=>absurd ha (by simp)) E8 (AZ.j' q2) fun A7 Bc f' m' h'=>?_
  refine⟨B',F1,A7,f',m',h'.mono fun r hr=>?_⟩
  cases r with
  | nx A7=>exact fun Bc H' F' f' FW=>⟨F',A7,f',FW,hr⟩
  | ct A7=>exact fun Bc H' F' f' FW=>⟨F',A7,f',FW,hr⟩
  | bk A7=>exact fun Bc H' F' f' FW=>hr.ok _ _ _ _ FW.less
  | rt d=>exact fun v H' F' fv o=>hr.ok _ _ _ _ o
  | ri d ks es=>exact hr.ok
 ·have e:i=its.length:=by omega
  subst e
  refine .inl ⟨w1.stop rfl,?_⟩
  have:(A6 its).drop its.length=[]:=by rw[<- bh its,List.drop_length]
  rw[this] at q1
  exact q1.ok _ _ _ _ m1.less
theorem qQ (a b:Int):A6 (bE a b)=bE a b:=by
 unfold bE
 rw[a9,List.map_map]
 rfl
noncomputable def sd (cl:Nat->List D->Res D):Sr->Ev->Res (Int×Int)
 | .B4 n,τ=>j' (A3 cl n τ) fun|.int i=>A4 (bC i) (.ok (0,i))|_=>A5
 | .C7 a b,τ=>j' (A3 cl a τ) fun x=>j' (A3 cl b τ) fun y=>match x,y with|.int i,.int j=>A4 (bC i&&bC j) (.ok (i,j))|_,_=>A5
 | _,_=>A5
def PN (K:PySem.W.Frag)(ex:Str->Prop)(is:List Nat)(f:Ev->Res (Int×Int)):TI:=fun σ H R=>∃ S τ,Slots K S H σ τ is/\AZ ex (f τ) fun p=>∀ H',aq H H'->R (IU p.1 (p.2 - p.1).toNat) H'
noncomputable def m7:Sr->Bool
 | .B4 _=>true
 | .C7 _ _=>true
 | _=>false
theorem m8 {s:Sr}(h:m7 s=true){τ:Ev}{k:List D->Prop}(q:AZ ex (bZ cl s τ) k):AZ ex (sd cl s τ) fun p=>k (bE p.1 p.2):=by
 cases s with
 | B4 n=>
  refine AZ.mk ((AZ.j' (show AZ ex (j' (A3 cl n τ) fun|.int i=>A4 (bC i) (.ok (bE 0 i))|_=>A5) k from q)).mono fun d hd=>?_)
  cases d with
  | int i=>
   obtain⟨gd,hd⟩:=AZ.A4 hd
   show AZ ex (A4 (bC i) (.ok (0,i))) _
   unfold A4
   rw[if_pos gd]
   exact hd.ok
  | _=>exact hd.no.elim
 | C7 a b=>
  refine AZ.mk ((AZ.j' (show AZ ex (j' (A3 cl a τ) fun x=>j' (A3 cl b τ) fun y=>match x,y with|.int i,.int j=>A4 (bC i&&bC j) (.ok (bE i j))|_,_=>A5) k from q)).mono fun d hd=>AZ.mk ((AZ.j' hd).mono fun e he=>?_))
  cases d with
  | int i=>
   cases e with
   | int j=>
    obtain⟨gd,he⟩:=AZ.A4 he
    show AZ ex (A4 (bC i&&bC j) (.ok (i,j))) _
    unfold A4
    rw[if_pos gd]
    exact he.ok
   | _=>exact he.no.elim
  | _=>cases e<;>exact he.no.elim
 | _=>first|exact aa h|cases h
theorem AU:∀ (s:Sr) (X:Cx) (ex:Str->Prop) (G:Gm) (e tg:Expr),Bt Z CX cl xp X ex G->bL Z G s e=true->m7 s=true->PI X tg e (PN X.K ex (cP s) (sd cl s)):=by
 intro s X ex G e tg g h hr
 cases s with
 | B4 n=>
  cases e with
  | Call fn args CI pos=>
   cases fn with
   | Name x p=>
    match args,CI,h with
    | [a],[],h=>
     have h':(x == "range"&&G.gl.contains 15&&notStar a&&A9 Z G n a)=true:=h
     simp only[Bool.and_eq_true] at h'
     have e1:x = "range":=eq_of_beq h'.1.1.1
     subst e1
     obtain⟨k1,k2,_,_⟩:=dC g (show aV[15]? = some ("range" : Str) from rfl) h'.1.1.2
     refine dQ (eU k1 k2 (aL (snd n X ex G a g h'.2).1 bx (ai h'.1.2 _ _)) (ai h'.1.2 _ _)) fun σ H Q ⟨S,τ,hs,q⟩=>?_
     refine aH (.refl _) hs (AZ.j' q) fun x v H1 e1 _ m1 q1=>?_
     cases x with
     | int i=>
      cases m1.Bj
      obtain⟨gd,q1⟩:=AZ.A4 q1
      have Fo : -(2 ^ 62)<=i/\i < 2 ^ 62:=of_decide_eq_true gd
      refine⟨i,rfl,Fo.1,Fo.2,?_⟩
      have:=q1.ok _ e1
      rw[show (0,i).2 - (0,i).1=i from Int.sub_zero i] at this
      exact this
     | _=>exact q1.no.elim
    | [],_,h=>first|exact aa h|cases h
    | [_],_::_,h=>first|exact aa h|cases h
    | _::_::_,_,h=>first|exact aa h|cases h
   | _=>first|exact aa h|cases h
  | _=>first|exact aa h|cases h
 | C7 a b=>cases e<;>exact aa h
 | _=>cases hr
theorem Dy (g:Bt Z CX cl xp X ex G){t it:Expr}{x:List Stmt}{pos:Pos}{T:Tg}{s:Sr}{a:List IS}(JS:(G.cm=true/\G.rs=true)/\bA G T t=true)(ER:bL Z G s it=true/\dE s t=true)(ha:DD X x (RS X.K G.io ex (aD cl a))):PS X (.For t it x [] pos) (RS X.K G.io ex (B6 cl (.BE T s a))):=by
 have hT:=JS.2
 have hs:=ER.1
 by_cases hr:m7 s=true
 ·refine aJ (lT (g.own JS.1.2) (g.calm JS.1.1) (AU s X ex G it t g hs hr) (G8 g T t hT) ha (fun x=>bG hs X.env x)) fun Dn σ H ⟨B,F,τ,f,m,q⟩=>?_
  have q0:AZ ex (j' (hU cl s τ) fun p=>forM (fun x τ=>j' (bp T x τ) fun A7=>aD cl a A7) p.1 p.2) (Fk X.K B Dn):=q
  have base:AZ ex (bZ cl s τ) fun its=>AZ ex (forM (fun x τ=>j' (bp T x τ) fun A7=>aD cl a A7) its τ) (Fk X.K B Dn):=by
   cases s with
   | B4 u=>exact(AZ.j' (show AZ ex (j' (bZ cl (.B4 u) τ) fun its=>.ok (its,τ)) _ from AZ.j' q0)).mono fun its h=>h.ok
   | C7 u v=>exact(AZ.j' (show AZ ex (j' (bZ cl (.C7 u v) τ) fun its=>.ok (its,τ)) _ from AZ.j' q0)).mono fun its h=>h.ok
   | _=>cases hr
  exact⟨fun _=>True,τ,aR m.BR,(m8 hr base).mono fun p hp H1 e1=>iA (cX T t hT) (m.grow e1) (.EI p.1 p.2) (by rw[qQ];exact hp)⟩
 ·refine aJ (lT (g.own JS.1.2) (g.calm JS.1.1) (qL s X ex G it t g hs ER.2) (G8 g T t hT) ha (fun x=>bG hs X.env x)) fun Dn σ H ⟨B,F,τ,f,m,q⟩=>?_
  have q0:AZ ex (j' (hU cl s τ) fun p=>forM (fun x τ=>j' (bp T x τ) fun A7=>aD cl a A7) p.1 p.2) (Fk X.K B Dn):=q
  have q1:=AZ.j' q0
  have LY:hU cl s τ=(j' (bZ cl s τ) fun its=>.ok (A6 its,Bb (cP s) τ)):=by
   cases s with
   | val u=>rfl
   | zip u v=>rfl
   | DR u=>rfl
   | rev u=>rfl
   | _=>exact absurd rfl hr
  rw[LY] at q1
  obtain⟨F1,gg,b1,b2,b3,b4,b5,b6⟩:=b8 (cP s) m.Bh m.BR m.BG
  refine xY (.refl _) b6 (AZ.j' q1) fun its J H1 e1 _ w1 hk=>?_
  obtain⟨c1,c2,c3⟩:=grow (fun _=>True) b1 b2 e1
  have m2:BC X.K B (fun a=>F1 a∨(True/\H a=none/\H1 a≠none)) H1 σ (Bb (cP s) τ) gg:=m.C9 (b4.trans c3 (fun x hx=>.inl (b5 x hx))) c1 c2 b3 fun a ha=>.inl (b5 a ha)
  exact iA (cX T t hT) m2 (w1.step (fun a xs h r=>⟨h.elim (fun z=>.inl z) fun z=>.inr ⟨trivial,z,r.some⟩,r⟩) fun a xs h=>h) hk.ok
mutual
theorem Nl:∀ (a:IS) (X:Cx) (ex:Str->Prop) (G:Gm) (s:Stmt),Bt Z CX cl xp X ex G->mR Z G a s=true->PS X s (RS X.K G.io ex (B6 cl a))
 | .asg tg e,X,ex,G,s,g,h=>by
  cases s with
  | Assign ts v pos=>
   match ts,h with
   | [t],h=>
    have h':(bA G tg t&&A9 Z G e v&&(isName t||(isTup t&&notTuple v)))=true:=h
    simp only[Bool.and_eq_true] at h'
    exact Ds g h'.1.1 h'.1.2 h'.2
   | [],h=>first|exact aa h|cases h
   | _::_::_,h=>first|exact aa h|cases h
  | _=>first|exact aa h|cases h
 | .par i j a b,X,ex,G,s,g,h=>by cases s<;>first|exact aa h|cases h
 | .Gj i k e,X,ex,G,s,g,h=>by cases s<;>first|exact aa h|cases h
 | .Cf i k e,X,ex,G,s,g,h=>by
  cases s with
  | Assign ts v pos=>
   cases ts with
   | nil=>first|exact aa h|cases h
   | cons t ts=>
    cases ts with
    | cons _ _=>cases t<;>first|exact aa h|cases h|(rename_i o _ _;cases o<;>cases h)
    | nil=>
     cases t with
     | Subscript o s sp=>
      cases o with
      | Name x p=>
       have h':(cg G i x&&aI s&&A9 Z G k s&&A9 Z G e v)=true:=h
       simp only[Bool.and_eq_true] at h'
       exact CQ g h'.1.1.1 h'.1.1.2 h'.1.2 h'.2
      | _=>first|exact aa h|cases h
     | _=>first|exact aa h|cases h
  | _=>first|exact aa h|cases h
 | .Gk i k e,X,ex,G,s,g,h=>by cases s<;>first|exact aa h|cases h
 | .Cb i e,X,ex,G,s,g,h=>by
  cases s with
  | Return v pos=>
   cases v with
   | none=>first|exact aa h|cases h
   | some v=>
    have h':(G.io == some i&&A9 Z G e v)=true:=h
    rw[Bool.and_eq_true] at h'
    exact CS g (eq_of_beq h'.1) h'.2
  | _=>first|exact aa h|cases h
 | .D4 i k f es,X,ex,G,s,g,h=>by
  have h1:JH s (fun x sx xf args=>cg G i x&&aI sx&&A9 Z G k sx&&G.cm&&(bz Z G f xf&&Z.Cs.contains f)&&aF Z G (es++[.v i]) args&&!(aj es).contains i)=true:=by cases s<;>exact h
  exact B9 g h1
 | .DL f es i k e a b,X,ex,G,s,g,h=>by
  have h1:Kz s (fun xf args sx r x y=>aI sx&&A9 Z G k sx&&A9 Z G e r&&G.cm&&(bz Z G f xf&&Z.Cs.contains f)&&aF Z G (es++[.v i]) args&&!(aj es).contains i&&bD Z G a x&&bD Z G b y)=true:=by cases s<;>exact h
  obtain⟨xf,p,args,q,sx,sp,r,cp,x,y,pos,rfl,h0⟩:=vS h1
  simp only[Bool.and_eq_true] at h0
  obtain⟨⟨⟨⟨⟨⟨⟨⟨hs,hk⟩,he⟩,CO⟩,hf,F0⟩,Bu⟩,Er⟩,ha⟩,hb⟩:=h0
  exact Cu g hs hk he CO hf (by simpa using F0) Bu (by simpa using Er) (jm a X ex G x g ha) (jm b X ex G y g hb)
 | .Im f es,X,ex,G,s,g,h=>by
  have h1:JG s (fun xf args=>G.cm&&(bz Z G f xf&&Z.Cs.contains f)&&eQ Z G es args)=true:=by cases s<;>exact h
  exact Du g h1
 | .Jm j i body,X,ex,G,s,g,h=>by cases s<;>first|exact aa h|cases h
 | .ext i e,X,ex,G,s,g,h=>by cases s<;>first|exact aa h|cases h
 | .ins i k e,X,ex,G,s,g,h=>by
  cases s with
  | Expr v pos=>
   cases v with
   | Call fn args CI Bo=>
    cases fn with
    | Attribute o name apos=>
     cases o with
     | Name x p=>
      match args,CI,h with
      | [s,v],[],h=>
       have h':(cg G i x&&name == "insert"&&apos.endLine == Bo.line&&(notStar s&&notStar v)&&A9 Z G k s&&A9 Z G e v)=true:=h
       simp only[Bool.and_eq_true] at h'
       have e1:name = "insert":=eq_of_beq h'.1.1.1.1.2
       subst e1
       exact Dt g h'.1.1.1.1.1 h'.1.1.1.2 h'.1.1.2.1 h'.1.1.2.2 h'.1.2 h'.2
      | [],_,h=>first|exact aa h|cases h
      | [_],_,h=>first|exact aa h|cases h
      | [_,_],_::_,h=>first|exact aa h|cases h
      | _::_::_::_,_,h=>first|exact aa h|cases h
     | _=>first|exact aa h|cases h
    | _=>first|exact aa h|cases h
   | _=>first|exact aa h|cases h
  | _=>first|exact aa h|cases h
 | .app i e,X,ex,G,s,g,h=>by
  cases s with
  | Expr v pos=>
   cases v with
   | Call fn args CI Bo=>
    cases fn with
    | Attribute o name apos=>
     cases o with
     | Name x p=>
      match args,CI,h with
      | [v],[],h=>
       have h':(cg G i x&&name == "append"&&apos.endLine == Bo.line&&notStar v&&A9 Z G e v)=true:=h
       simp only[Bool.and_eq_true] at h'
       have e1:name = "append":=eq_of_beq h'.1.1.1.2
       subst e1
       exact Dv g h'.1.1.1.1 h'.1.1.2 h'.1.2 h'.2
      | [],_,h=>first|exact aa h|cases h
      | [_],_::_,h=>first|exact aa h|cases h
      | _::_::_,_,h=>first|exact aa h|cases h
     | _=>first|exact aa h|cases h
    | _=>first|exact aa h|cases h
   | _=>first|exact aa h|cases h
  | _=>first|exact aa h|cases h
 | .M3 i,X,ex,G,s,g,h=>by cases s<;>first|exact aa h|cases h
 | .pop j i,X,ex,G,s,g,h=>by cases s<;>first|exact aa h|cases h
 | .M4 j e,X,ex,G,s,g,h=>by cases s<;>first|exact aa h|cases h
 | .Jo i j,X,ex,G,s,g,h=>by cases s<;>first|exact aa h|cases h
 | .GY j f es i,X,ex,G,s,g,h=>by
  have h1:JF s (fun t xf args=>isName t&&bA G (.nm j) t&&G.cm&&(bz Z G f xf&&Z.Cs.contains f)&&aF Z G (es++[.v i]) args&&!(aj es).contains i&&decide (i≠j))=true:=by cases s<;>exact h
  exact CC g h1
 | .Jn j g0 a f es i,X,ex,G,s,g,h=>by cases s<;>first|exact aa h|cases h
 | .M5 i,X,ex,G,s,g,h=>by cases s<;>first|exact aa h|cases h
 | .Jl _ _ _,X,ex,G,s,g,h=>by cases s<;>first|exact aa h|cases h
 | .exp e,X,ex,G,s,g,h=>by
  cases s with
  | Expr v pos=>
   have h':(gj v&&A9 Z G e v)=true:=by cases v<;>first|exact h|(rename_i c _ _;cases c<;>exact h)
   simp only[Bool.and_eq_true] at h'
   exact Dx g h'.1 h'.2
  | _=>first|exact aa h|cases h
 | .ret e,X,ex,G,s,g,h=>by
  cases s with
  | Return v pos=>
   cases v with
   | none=>first|exact aa h|cases h
   | some v=>exact Dw g h
  | _=>first|exact aa h|cases h
 | .FP,X,ex,G,s,g,h=>by
  cases s with
  | Return v pos=>
   cases v with
   | none=>exact qP
   | some v=>first|exact aa h|cases h
  | _=>first|exact aa h|cases h
 | .Bn t a b,X,ex,G,s,g,h=>by
  cases s with
  | If c x y pos=>
   have h':(A9 Z G t c&&bD Z G a x&&bD Z G b y)=true:=h
   simp only[Bool.and_eq_true] at h'
   exact Es (snd t X ex G c g h'.1.1).2 (jm a X ex G x g h'.1.2) (jm b X ex G y g h'.2)
  | _=>first|exact aa h|cases h
 | .BE tg s body,X,ex,G,st,g,h=>by
  cases st with
  | For t it b PQ pos=>
   cases PQ with
   | cons _ _=>first|exact aa h|cases h
   | nil=>
    have h':(((G.cm&&G.rs)&&bA G tg t)&&(bL Z G s it&&dE s t)&&bD Z G body b)=true:=h
    simp only[Bool.and_eq_true] at h'
    exact Dy g h'.1.1 h'.1.2 (jm body X ex G b g h'.2)
  | _=>first|exact aa h|cases h
 | .E2 t body,X,ex,G,s,g,h=>by cases s<;>first|exact aa h|cases h
 | .brk,X,ex,G,s,g,h=>by
  cases s with
  | Break pos=>exact aJ lN fun Dn σ H ⟨B,F,τ,f,m,q⟩=>q.ok _ _ _ _ m
  | _=>first|exact aa h|cases h
 | .cnt,X,ex,G,s,g,h=>by
  cases s with
  | Continue pos=>exact aJ gN fun Dn σ H ⟨B,F,τ,f,m,q⟩=>q.ok _ _ _ _ m
  | _=>first|exact aa h|cases h
 | .pass,X,ex,G,s,g,h=>by
  cases s with
  | Pass pos=>exact aJ pX fun Dn σ H ⟨B,F,τ,f,m,q⟩=>q.ok _ _ _ _ m
  | Expr v pos=>
   cases v with
   | Constant c j p=>
    cases c with
    | str z=>exact aJ uM fun Dn σ H ⟨B,F,τ,f,m,q⟩=>q.ok _ _ _ _ m
    | _=>first|exact aa h|cases h
   | _=>first|exact aa h|cases h
  | _=>first|exact aa h|cases h
 | .E3 n c w,X,ex,G,s,g,h=>by cases s<;>first|exact aa h|cases h
 | .Jq body n cs i hd,X,ex,G,s,g,h=>by cases s<;>exact aa h
 | .E4 n c e,X,ex,G,s,g,h=>by cases s<;>first|exact aa h|cases h
 | .Jp i f es n cs k hd,X,ex,G,s,g,h=>by cases s<;>first|exact aa h|cases h
 | .never,X,ex,G,s,g,h=>aJ lO fun Dn σ H ⟨B,F,τ,f,m,q⟩=>q.no.elim
theorem jm:∀ (as:List IS) (X:Cx) (ex:Str->Prop) (G:Gm) (ss:List Stmt),Bt Z CX cl xp X ex G->bD Z G as ss=true->DD X ss (RS X.K G.io ex (aD cl as))
 | [],X,ex,G,ss,g,h=>by
  cases ss with
  | nil=>exact cN jy fun Dn σ H ⟨B,F,τ,f,m,q⟩=>q.ok _ _ _ _ m
  | cons _ _=>first|exact aa h|cases h
 | a::as,X,ex,G,ss,g,h=>by
  cases ss with
  | nil=>first|exact aa h|cases h
  | cons s ss=>
   have h':(mR Z G a s&&bD Z G as ss)=true:=h
   simp only[Bool.and_eq_true] at h'
   refine cN (gM (Nl a X ex G s g h'.1) (jm as X ex G ss g h'.2)) fun Dn σ H ⟨B,F,τ,f,m,q⟩=>?_
   refine⟨B,F,τ,f,m,(AZ.j' q).mono fun r hr=>?_⟩
   cases r with
   | nx A7=>exact fun Bc H' F' f' m'=>⟨B,F',A7,f',m',hr⟩
   | ct A7=>exact hr.ok
   | bk A7=>exact hr.ok
   | rt d=>exact hr.ok
   | ri d ks es=>exact hr.ok
end
end
section
variable {P:Program}{w:World}
theorem gr {outer:List Env}{H:Hp}{s:Shared}{E:XK}{e:Value}{s':Shared}(x:Bw P w H s.heap)(fr:∀ b∈BZ outer,H b=none)(h:Cg P w outer (az s.heap H) s E e s'):Cg P w outer H s E e s':=by
 obtain⟨a,cls,a0,H',B,h1,h2,h3,h4,h5,_,h6,h7,h8⟩:=h
 exact⟨a,cls,a0,bS H H',B,h1,h2,h3,je x h4,f9 x h5 (cT h4) (fun b o _=>h6 b o) fr,ij,fun b o e n f=>h6 b o e (aY n) f,h7,h8⟩
theorem gu {outer:List Env}{H:Hp}{s:Shared}{e:Value}{s':Shared}:¬ Cg P w outer H s (fun _ _ _=>False) e s':=fun ⟨_,_,_,_,_,_,_,_,_,_,_,_,_,z⟩=>z
variable {K:PySem.W.Frag}{mg:Str->Option Value}{base:Heap}{N:List Str}{qual:Str}{scope:Scope}{f:Addr}{cd:Value}{A:Around}{outer:List Env}{s:Shared}{H:Hp}{E:XK}
theorem se {H':Hp}{B:Heap}{s2:Shared}{a:Addr}{cls a0:Value}(lt:G2 H)(os:s2.os=s.os)(bare:AllBare s2.gens)(fl:Heap.FlyingW B outer a cls a0 s2.heap)(hB:Bw P w H' B)
  (kB:∀ b o,s.heap.get? b=some o->H b=none->b∉BZ outer->B.get? b=some o) (hs:∀ b o,s.heap.get? b=some o->H b=none->b∈BZ outer->∃ sl,s2.heap.get? b=some {o with slots:=sl})
  (fr:∀ b o,s.heap.get? b=some o->H b=none->H' b=none) (pz:∀ b o u,H b=some (.Bb o u)->H' b=some (.Bb o u)) (pt:∀ b xs,H b=some (.tup xs)->H' b=some (.tup xs)) (hE:E cls none H0):Cg P w outer H s E (.ref a) s2:=by
 refine⟨a,cls,a0,H',B,rfl,os,bare,⟨fun b o e n nf _=>fl.1 _ _ (kB b o e n nf),fun b o e n hf _=>hs b o e n hf,fun b o e n _=>fr b o e n,fun b o e _=>?_,pt,pz,fun b ps e=>?_⟩,hB,fun b o e=>(lt b o e).elim (fun ⟨ob,u,z⟩=>by subst z;exact pz _ _ _ e) fun ⟨xs,z⟩=>by subst z;exact pt _ _ e,kB,fl,hE⟩
 ·cases q:H b with
  | none=>
   by_cases hf:b∈BZ outer
   ·obtain⟨sl,h⟩:=hs b o e q hf
    exact⟨_,h⟩
   ·exact⟨_,fl.1 _ _ (kB b o e q hf)⟩
  | some u=>
   have:∃ u',H' b=some u':=by
    rcases lt b u q with ⟨ob,v,rfl⟩|⟨xs,rfl⟩
    ·exact⟨_,pz _ _ _ q⟩
    ·exact⟨_,pt _ _ q⟩
   obtain⟨u',hu⟩:=this
   obtain⟨ob,ho⟩:=(hB b u' hu).at
   exact⟨_,fl.1 _ _ ho⟩
 ·rcases lt b _ e with ⟨ob,v,z⟩|⟨xs,z⟩<;>cases z
theorem sf {b:Addr}{o:Obj}(e:s.heap.get? b=some o)(n:b∉BZ outer):b∉BZ (envOfC qual scope s.heap.objs.size f cd::outer):=fun z=>by
 unfold BZ at z n
 rcases List.mem_filterMap.mp z with ⟨env,hm,hf⟩
 rcases List.mem_cons.mp hm with rfl|hm
 ·have h1:s.heap.objs.size=b:=Option.some.inj hf
  have h2:=Heap.lt_size e
  rw[h1] at h2
  exact Nat.lt_irrefl _ h2
 ·exact n (List.mem_filterMap.mpr ⟨env,hm,hf⟩)
theorem qR (lt:G2 H){ex:Str->Prop}(hE:∀ c C,ex c->PySem.W.nsIn K mainGlobals c=some (some (.ref C))->E (.ref C) none H0) :
  Passes (Cg P w) (bX (Cg P w) P w K mg base N qual scope f cd A outer s H E) (fun cls _ _=>∃ c C,ex c/\PySem.W.nsIn K mainGlobals c=some (some (.ref C))/\cls=.ref C):=by
 intro pins σ H1 s1 e s' I ⟨a,cls,a0,H',B,he,os,bare,un,hB,_,kB,fl,c,C,hc,hn,GH⟩
 subst he GH
 have I':=I.F9 os un (hB.kept fl.1) bare (fun b z=>absurd z (by simp))
 show wpAny _ _ (leaving _ (.ref a)) _ _ s'
 refine wpAny_leaves_onW (show (A.deeper (envOfC qual scope s.heap.objs.size f cd)).frames=some (envOfC qual scope s.heap.objs.size f cd::outer) from I.ok.frames) rfl fl fun h' PR up=>?_
 refine se lt I'.os I'.bare PR hB (fun b o e n nf=>?_) (fun b o e n hf=>?_) (fun b o e n=>I'.base.free b o e n (by simp[bX])) I'.base.BY I'.base.Ck (hE c C hc hn)
 ·exact kB b o (I.base.keep b o e n nf (by simp[bX])) (I.base.free b o e n (by simp[bX])) (sf e nf)
 ·obtain⟨sl,h1⟩:=I'.base.slot b o e n hf (by simp[bX])
  obtain⟨_,o',C3,nf⟩:=I.ok.Ce.mem hf
  have C3:s.heap.get? b=some o':=C3
  rw[e] at C3
  cases C3
  obtain⟨IM,h2⟩:=up b _ h1 nf
  exact⟨IM,h2⟩
theorem m9 (lt:G2 H){pins:List (Addr×Obj)}{σ:St}{H1:Hp}{s1:Shared}{C e:Addr}{h':Heap}{vs:List Value}(hE:E (.ref C) none H0)
  (I:Inv (bX (Cg P w) P w K mg base N qual scope f cd A outer s H E) pins σ H1 s1) (hx:Heap.MadeExcOf s1.heap h' e (.ref C) vs) :
  (bX (Cg P w) P w K mg base N qual scope f cd A outer s H E).xe (.ref e) {s1 with heap:=h'}:=by
 have PV:∀ env∈(bX (Cg P w) P w K mg base N qual scope f cd A outer s H E).stack,∀ b,env.frame=some b->b∈BZ (bX (Cg P w) P w K mg base N qual scope f cd A outer s H E).stack:=fun env he b hb=>List.mem_filterMap.mpr ⟨env,he,hb⟩
 show wpAny _ _ (leaving _ (.ref e)) _ _ _
 refine wpAny_leaves_madeW (base:=PySem.W.hideAll s1.heap (BZ (bX (Cg P w) P w K mg base N qual scope f cd A outer s H E).stack)) (h:=s1.heap) (show (A.deeper (envOfC qual scope s.heap.objs.size f cd)).frames=some (envOfC qual scope s.heap.objs.size f cd::outer) from I.ok.frames) rfl (fun b o q=>PySem.W.of_hideAll _ q) (PySem.W.funFrames_hide I.stack PV) hx fun h2 t fl _ _ up=>?_
 have GF:∀ b u o,H1 b=some u->s1.heap.get? b=some o->(PySem.W.hideAll s1.heap (BZ (bX (Cg P w) P w K mg base N qual scope f cd A outer s H E).stack)).get? b=some o:=fun b u o hu ho=>PySem.W.hideAll_get _ ho fun z=>by
  rw[I.Dg b z] at hu;cases hu
 refine se (H':=H1) lt I.os I.bare fl (fun b o hb=>?_) (fun b o he n nf=>?_) (fun b o he n hf=>?_) (fun b o e n=>I.base.free b o e n (by simp[bX])) I.base.BY I.base.Ck hE
 ·refine(I.Be b o hb).CD (fun c u hc hu=>?_) (fun _ z=>z) fun _ _ z=>z
  rcases hc with rfl|hc
  ·exact GF _ _ _ hb hu
  ·exact GF _ _ _ hc hu
 ·exact PySem.W.hideAll_get _ (I.base.keep b o he n nf (by simp[bX])) (sf he nf)
 ·obtain⟨sl,h1⟩:=I.base.slot b o he n hf (by simp[bX])
  obtain⟨_,o',C3,nf⟩:=I.ok.Ce.mem hf
  have C3:s.heap.get? b=some o':=C3
  rw[he] at C3
  cases C3
  obtain⟨IM,h3⟩:=up b _ (hx.keeps b _ h1) nf
  exact⟨IM,h3⟩
end
def LZ (K:PySem.W.Frag){io:Option Nat}(B:Bs io)(ex:Str->Prop)(g:Ev->Res Fl):TS:=fun Dn σ H=>∃ F τ f,BC K B F H σ τ f/\AZ ex (g τ) (Fk K B Dn)
noncomputable def nc (Z:Sg)(G:Gm):List IS->List Stmt->Bool
 | [],[]=>true
 | a::as,s::ss=>mR Z G a s&&nc Z G as ss
 | _,_=>false
section
variable {Z:Sg}{cl:Nat->List D->Res D}{X:Cx}{ex:Str->Prop}{G:Gm}
theorem Nm (g:Bt Z (Cg X.prog X.w) cl (Ej X.K) X ex G)(Bu:X.stack=X.env::X.outer)(PX:X.env.frame=some X.env.locals)(lt:G2 X.De)(Fx:∀ a:Addr,∀ f∈Z.fns,f∈Z.pl->∀ x,Z.name f=some x->G5 X.prog X.w X.K X.mg X.base (Cg X.prog X.w) (X.A.mark (some (.ref a))) cl (Ej X.K) f x)
  {B0:Bs G.io} (PY:B0.N=none) (PZ:B0.H=X.De) (P0:C8 B0.F B0.H) (P1:∀ a xs,¬ B0.L a xs) (P2:∀ a xs,¬ B0.T a xs):∀ (as:List IS) (ss:List Stmt),nc Z G as ss=true->DD X ss (LZ X.K B0 ex (aD cl as))
 | [],ss,h=>by
  cases ss with
  | nil=>exact cN jy fun Dn σ H ⟨F,τ,f,m,q⟩=>q.ok _ _ _ _ m
  | cons _ _=>cases h
 | a::as,ss,h=>by
  cases ss with
  | nil=>cases h
  | cons s ss=>
   have h':(mR Z G a s&&nc Z G as ss)=true:=h
   rw[Bool.and_eq_true] at h'
   have p1:PS X s (LZ X.K B0 ex (B6 cl a)):=by
    exact aJ (Nl a X ex G s g h'.1) fun Dn σ H ⟨F,τ,f,m,q⟩=>⟨B0,F,τ,f,m,q⟩
   refine cN (gM p1 (Nm g Bu PX lt Fx PY PZ P0 P1 P2 as ss h'.2)) fun Dn σ H ⟨F,τ,f,m,q⟩=>?_
   refine⟨F,τ,f,m,(AZ.j' q).mono fun r hr=>?_⟩
   cases r with
   | nx A7=>exact fun Bc H' F' f' m'=>⟨F',A7,f',m',hr⟩
   | ct A7=>exact hr.ok
   | bk A7=>exact hr.ok
   | rt d=>exact hr.ok
   | ri d ks es=>exact hr.ok
end
noncomputable def jU (Z:Sg)(fn:Fn)(ps:List Str)(st:Stmt):Bool:=
 (ar st).kind == .function&&!(ar st).isCoroutine&&!(ar st).isGenerator&&decide (fn.G.N.Nodup)&&fn.G.N.take ps.length == ps
&&ps.all (fun x=>(ar st).names.lookup x == some .local||(ar st).names.lookup x == some .cell)&&(ar st).names.all (fun y=>y.2 != .free)
&&(List.range fn.G.N.length).all (fun i=>(fn.G.N[i]?).bind ((ar st).names.lookup ·) == fn.G.kd[i]?)
&&fn.G.N.all (fun x=>!(x == "__debug__")&&!(x == "__classdict__"))
&&fn.G.gl.all (fun n=>match Z.name n with|some x=>(ar st).names.lookup x == some .globalImplicit|none=>false)
&&decide (ps.length=fn.np)
noncomputable def av (Z:Sg)(fn:Fn)(ps:List Str)(st:Stmt):Bool:=jU Z fn ps st&&(!fn.io&&nc Z fn.G fn.body (aO st))
noncomputable def cv (Z:Sg)(fn:Fn)(ps:List Str)(st:Stmt):Bool:=jU Z fn ps st&&(fn.io&&bD Z fn.G fn.body (aO st)&&fn.G.io == some (fn.np - 1)&&decide (0 < fn.np)&&!fn.G.tr)
structure Fe (Z:Sg)(fn:Fn)(ps:List Str)(st:Stmt):Prop where
 sc:Dh fn.G.N ps (ar st)
 kd:∀ (i:Nat) (x:Str),fn.G.N[i]? = some x->(ar st).names.lookup x=fn.G.kd[i]?
 Fm:∀ x∈fn.G.N,(x == ("__debug__" : Str))=false/\(x == ("__classdict__" : Str))=false
 gl:∀ n∈fn.G.gl,∀ x,Z.name n=some x->(ar st).names.lookup x=some .globalImplicit
 np:ps.length=fn.np
structure Et (Z:Sg)(fn:Fn)(ps:List Str)(st:Stmt):Prop extends Fe Z fn ps st where
 pl:fn.io=false
 body:nc Z fn.G fn.body (aO st)=true
structure Ff (Z:Sg)(fn:Fn)(ps:List Str)(st:Stmt):Prop extends Fe Z fn ps st where
 io:fn.io=true
 body:bD Z fn.G fn.body (aO st)=true
 P4:fn.G.io=some (fn.np - 1)
 pos:0 < fn.np
 P5:fn.G.tr=false
theorem iB {Z:Sg}{fn:Fn}{ps:List Str}{st:Stmt}(h:jU Z fn ps st=true):Fe Z fn ps st:=by
 unfold jU at h
 simp only[Bool.and_eq_true] at h
 obtain⟨⟨⟨⟨⟨⟨⟨⟨⟨⟨h1,h2⟩,h3⟩,h4⟩,h5⟩,h6⟩,h7⟩,h8⟩,h9⟩,Gi⟩,Ig⟩:=h
 rw[List.all_eq_true] at h6 h7 h8 h9 Gi
 refine⟨⟨eq_of_beq h1,by simpa using h2,by simpa using h3,of_decide_eq_true h4,eq_of_beq h5,fun x hx=>?_,fun y hy=>by simpa using h7 y hy⟩,fun i x hx=>?_,fun x hx=>by simpa using h9 x hx,fun n hn x hx=>?_,of_decide_eq_true Ig⟩
 ·have:=h6 x hx
  rw[Bool.or_eq_true] at this
  exact this.elim (fun z=>.inl (eq_of_beq z)) fun z=>.inr (eq_of_beq z)
 ·have BM:i < fn.G.N.length:=(List.getElem?_eq_some_iff.mp hx).1
  have:=eq_of_beq (h8 i (List.mem_range.mpr BM))
  rw[hx] at this
  exact this
 ·have:=Gi n hn
  rw[hx] at this
  exact eq_of_beq this
theorem iC {Z:Sg}{fn:Fn}{ps:List Str}{st:Stmt}(h:av Z fn ps st=true):Et Z fn ps st:=by
 unfold av at h
 rw[Bool.and_eq_true,Bool.and_eq_true] at h
 exact⟨iB h.1,by simpa using h.2.1,h.2.2⟩
theorem ng {Z:Sg}{fn:Fn}{ps:List Str}{st:Stmt}(h:cv Z fn ps st=true):Ff Z fn ps st:=by
 unfold cv at h
 simp only[Bool.and_eq_true] at h
 obtain⟨h1,⟨⟨⟨h2,h3⟩,h4⟩,h5⟩,h6⟩:=h
 exact⟨iB h1,h2,h3,eq_of_beq h4,of_decide_eq_true h5,by simpa using h6⟩
structure DN (K:PySem.W.Frag)(mg:Str->Option Value)(Z:Sg)(T:Tb)(f:Nat)(x:Str):Prop where
 ex:∃ (fn:Fn) (st:Stmt) (fa:Addr) (fd:FuncData) (ps:List Str),T f=some fn/\Gf K x x st fa fd/\mg x=some (.ref fa)/\Binds K fd ps []/\Ff Z fn ps st
structure Bd (K:PySem.W.Frag)(mg:Str->Option Value)(Z:Sg)(T:Tb)(f:Nat)(x:Str):Prop where
 ex:∃ (fn:Fn) (st:Stmt) (fa:Addr) (fd:FuncData) (ps:List Str),T f=some fn/\Gf K x x st fa fd/\mg x=some (.ref fa)/\Binds K fd ps []/\Et Z fn ps st
section
variable {P:Program}{w:World}{K:PySem.W.Frag}{mg:Str->Option Value}{base:Heap}{Z:Sg}{T:Tb}
def Nn (mg:Str->Option Value)(x:Str)(v:V):Prop:=(∃ C,v=.ref C/\mg x=some (.ref C))∨(∃ T,v=.ty T/\mg x=none/\bootBuiltins x=some (.type T))
structure Dc (K:PySem.W.Frag)(mg:Str->Option Value)(Z:Sg)(T:Tb):Prop where
 Gu:∀ n x,Z.name n=some x->x≠"__name__"/\(x == ("__debug__" : Str))=false
 blt:∀ (n:Nat) (x:Str),aV[n]? = some x->mg x=none
 cst:∀ n d x,(n,d)∈Z.Iq->Z.name n=some x->∃ u v,mg x=some u/\RelV v u/\∀ S H,A1 K S H v d
 fns:∀ f∈Z.fns,∀ x,Z.name f=some x->Bd K mg Z T f x
 Cs:∀ f∈Z.Cs,∀ x,Z.name f=some x->DN K mg Z T f x
 Fg:∀ f∈Z.pl,∀ fn,T f=some fn->fn.G.cm=false
 Ir:∀ n∈Z.cls,∀ x,Z.name n=some x->∃ v,Nn mg x v
 Iu:∀ c n b x,(c,n,b)∈Z.xt->Z.name n=some x->∃ C,PySem.W.nsIn K mainGlobals c=some (some (.ref C))/\ExcAt K C/\∀ v,Nn mg x v->PySem.W.kitOne K (.ref C) (vv v)=some b
 Iw:∀ c n x,(c,n)∈Z.xm->Z.name n=some x->∃ C C',PySem.W.nsIn K mainGlobals c=some (some (.ref C))/\PySem.W.nsIn K mainGlobals x=some (some (.ref C'))/\nameIn K C=some c/\mg x=some (.ref C')/\PySem.W.exmOne K (.ref C) (.ref C')=some true
 Iy:∀ n c,(n,c)∈Z.rc->Z.name n=some c/\∃ C,mg c=some (.ref C)/\PySem.W.nsIn K mainGlobals c=some (some (.ref C))/\PySem.W.excIn K C M8 "ValueError.__new__" = true
theorem fB {F:Addr->Prop}{H:Hp}:∀ {vs:List V}{ds:List D} (n:Nat),AY K F H vs ds->Bq K F H (vs.map some++List.replicate n none) ((A6 ds).map some++List.replicate n none) []
 | [],[],n,.nil=>by
  induction n with
  | zero=>exact .nil
  | succ n ih=>exact .none ih
 | v::vs,d::ds,n,.cons h1 h2=>.some (f:=[]) h1.frozen (fB n h2)
structure Rm (n:Nat)(A:Around):Prop where
 dp:A.depth+3*n+5 < recursionLimit
 un:A.units+16*n+200 < cLine
theorem Rm.room {n:Nat}{A:Around}(r:Rm n A)(hn:n < 900)(h:A.handled=none):B1 n A:=⟨fun _=>h,by have:=r.dp;rw[Nat.mod_eq_of_lt (by omega)];exact this,by have:=r.un;rw[Nat.mod_eq_of_lt (by omega)];exact this⟩
theorem Rm.Gy {n:Nat}{A:Around}(r:Rm n A)(hn:n < 900):B1 (1000+n) A:=⟨fun z=>by omega,by have:=r.dp;rw[show (1000+n) % 1000=n by omega];exact this,by have:=r.un;rw[show (1000+n) % 1000=n by omega];exact this⟩
theorem Rm.of {n k:Nat}{A:Around}(r:B1 k A)(h:k % 1000=n):Rm n A:=⟨by have:=r.dp;rw[h] at this;exact this,by have:=r.un;rw[h] at this;exact this⟩
theorem gv (t:Dc K mg Z T){n k:Nat}{f:Nat}{fn:Fn}{x:Str}{st:Stmt}{fa:Addr}{fd:FuncData}{ps:List Str}(hk:k % 1000=n)(hn:n < 900)(h1:T f=some fn)(h2:Gf K x x st fa fd)(h5:Et Z fn ps st)(hp:k < 1000∨fn.G.cm=false)
  (ih:∀ (A:Around),Rm n A->∀ f∈Z.fns,(A.handled=none∨f∈Z.pl)->∀ x,Z.name f=some x->G5 P w K mg base (Cg P w) A (ae T n) (Ej K) f x)
  (F3:∀ (A:Around),Rm n A->∀ f∈Z.Cs,A.handled=none->∀ x,Z.name f=some x->Km P w K mg base (Cg P w) A (ae T n) f x) :
  Cp P w K mg base (Cg P w) (k+1) fa fd ps (G4 K (ae T (n+1)) (Ej K) f ps):=by
 have C0:∀ ds,ae T (n+1) f ds=b9 (ae T n) fn ds:=fun ds=>by
  show (match T f with|some fn=>(match fn.io with|false=>b9 (ae T n) fn ds|true=>cb (ae T n) fn ds)|none=>A5)=_
  rw[h1]
  show (match fn.io with|false=>b9 (ae T n) fn ds|true=>cb (ae T n) fn ds)=_
  rw[h5.pl]
 obtain⟨oc,od,kV,doc,pm,an,CU,ct,Fy,rfl,lk,ES⟩:=h2.ex
 refine rM lk ES h5.sc (by omega) (fun vs H Q E h=>h.1) fun A outer s H vs Q E hr DA=>?_
 obtain⟨hl,lt,F,ds,Bh,m,q⟩:=DA
 have CO:fn.G.cm=true->A.handled=none:=fun z=>hp.elim (fun h=>hr.hd h) fun h=>by rw[h] at z;cases z
 refine⟨_,Nm (Z:=Z) (cl:=ae T n) (ex:=Ej K E H) (G:=fn.G) (B0:=⟨F,H,fun _ _=>False,fun _ _=>False,none⟩) ?_ rfl rfl lt (fun a f' DO Hn x' Cw=>ih ((A.deeper (envOfC x (ar st) s.heap.objs.size fa CU)).mark (some (.ref a))) ⟨(Rm.of hr hk).dp,(Rm.of hr hk).un⟩ f' DO (.inr Hn) x' Cw) rfl rfl Bh (fun _ _ z=>z) (fun _ _ z=>z) fn.body (aO st) h5.body,?_⟩
 ·refine⟨rfl,h5.sc.nd,fun z=>by show A.handled.isNone=true;rw[CO z];rfl,h5.sc.kind,?_,fun _=>PassesOwn.leaving,fun i y hy=>h5.kd i y hy,fun i y hy=>h5.Fm y (List.mem_of_getElem? hy),fun m hm y hy=>h5.gl m hm y hy,t.Gu,fun _ _=>rfl,t.blt,t.cst,?_,fun f' DO z x' Cw=>F3 _ (Rm.of hr hk) f' DO (CO z) x' Cw,t.Ir,t.Iu,t.Iw,t.Iy,?_,?_,?_,?_,?_⟩
  ·have:=hr.un
   show (A.deeper _).units+42 < cLine
   omega
  ·exact fun f' DO hc x' Cw=>ih _ (Rm.of hr hk) f' DO (hc.elim (fun z=>.inl (CO z)) .inr) x' Cw
  ·exact fun _ pins σ H1 s1 c C h' e vs I hex hn hx=>m9 lt (hex C hn) I hx
  ·exact fun _=>⟨rfl,rfl,lt,fun a f' DO Hn x' Cw=>ih ((A.deeper (envOfC x (ar st) s.heap.objs.size fa CU)).mark (some (.ref a))) ⟨(Rm.of hr hk).dp,(Rm.of hr hk).un⟩ f' DO (.inr Hn) x' Cw,fun _ _ _ _ _ _ z=>z,fun c C H' hC RH Np=>by rw[hC] at Np;cases Np;rfl⟩
  ·exact⟨_,qR (ex:=Ej K E H) lt fun c C hc hn=>hc C hn,fun c H' hc C hn=>⟨c,C,hc,hn,rfl⟩⟩
  ·exact fun outer H s E e s' x fr h=>gr x fr h
  ·exact fun H outer s e s'=>gu
 ·rw[C0] at q
  obtain⟨gd,q⟩:=AZ.A4 q
  have Fo:(A6 ds).length=fn.np:=of_decide_eq_true gd
  have DU:fn.G.N.length - vs.length=fn.G.N.length - fn.np:=by rw[m.length,<- bh ds,Fo]
  refine⟨F,(A6 ds).map some++List.replicate (fn.G.N.length - fn.np) none,[],⟨Bh,?_,List.nodup_nil,.refl _,fun a ha=>absurd ha (by simp),fun a h=>h,fun a h=>.inl h,fun a xs h=>h.elim,fun a xs h=>h.elim,fun _ _ _ z=>by cases z⟩,(AZ.j' q).mono fun r hr=>?_⟩
  ·show Bq K F H (start fn.G.N vs) _ []
   unfold start
   rw[DU]
   exact fB _ m
  ·cases r with
   | nx A7=>exact fun Bc H' F' f' m'=>hr.ok .A8 H' F' [] ⟨m'.Bh,m'.same,.A8,List.nodup_nil,fun a ha=>absurd ha (by simp),m'.Ct,m'.out⟩
   | rt d=>exact fun v H' F' fv o=>hr.ok v H' F' fv o
   | bk A7=>exact hr.no.elim
   | ct A7=>exact hr.no.elim
   | ri d ks es=>exact hr.no.elim
theorem iD {F:Addr->Prop}{H:Hp}{a:Addr}{d:D}(hd:Ba K F H (.ref a) d [a]):∀ {vs:List V}{ds:List D} (n:Nat),AY K F H vs ds->Bq K F H ((vs++[V.ref a]).map some++List.replicate n none) ((A6 ds++[d]).map some++List.replicate n none) [a]
 | [],[],n,.nil=>by
  have h0:Bq K F H (List.replicate n none) (List.replicate n none) []:=ix (by simp)
  exact .some (f:=[a]) (g:=[]) hd h0
 | v::vs,d::ds,n,.cons h1 h2=>.some (f:=[]) h1.frozen (iD hd n h2)
theorem fC (o:Bool)(ks:List Key)(es:List D):∀ ds:List D,mr (ds++[.A0 o ks es])=ds++[.A0 true ks es]
 | []=>rfl
 | [d]=>rfl
 | d::d'::ds=>by
  show d::mr (d'::ds++[.A0 o ks es])=_
  rw[fC o ks es (d'::ds)]
  rfl
theorem P6 {CX:Ci}{cl:Nat->List D->Res D}{xp:XK->Hp->Str->Prop}{X:Cx}{ex:Str->Prop}{G:Gm}(g:Bt Z CX cl xp X ex G)(B:Bs G.io){as:List IS}{ss:List Stmt}(h:bD Z G as ss=true):DD X ss (LZ X.K B ex (aD cl as)):=
 cN (jm as X ex G ss g h) fun Dn σ H ⟨F,τ,f,m,q⟩=>⟨B,F,τ,f,m,q⟩
theorem nh (t:Dc K mg Z T){n k:Nat}{f:Nat}{fn:Fn}{x:Str}{st:Stmt}{fa:Addr}{fd:FuncData}{ps:List Str}(hk:k % 1000=n)(hn:n < 900)(h1:T f=some fn)(h2:Gf K x x st fa fd)(h5:Ff Z fn ps st)(hp:k < 1000)
  (ih:∀ (A:Around),Rm n A->∀ f∈Z.fns,(A.handled=none∨f∈Z.pl)->∀ x,Z.name f=some x->G5 P w K mg base (Cg P w) A (ae T n) (Ej K) f x)
  (F3:∀ (A:Around),Rm n A->∀ f∈Z.Cs,A.handled=none->∀ x,Z.name f=some x->Km P w K mg base (Cg P w) A (ae T n) f x) :
  Cp P w K mg base (Cg P w) (k+1) fa fd ps (Jv K (ae T (n+1)) f ps):=by
 have P7:=h5.P4
 have L0:=h5.pos
 have P8:=h5.P5
 have C0:∀ ds,ae T (n+1) f ds=cb (ae T n) fn ds:=fun ds=>by
  show (match T f with|some fn=>(match fn.io with|false=>b9 (ae T n) fn ds|true=>cb (ae T n) fn ds)|none=>A5)=_
  rw[h1]
  show (match fn.io with|false=>b9 (ae T n) fn ds|true=>cb (ae T n) fn ds)=_
  rw[h5.io]
 obtain⟨oc,od,kV,doc,pm,an,CU,ct,Fy,rfl,lk,ES⟩:=h2.ex
 refine rM lk ES h5.sc (by omega) (fun vs H Q E h=>h.1) fun A outer s H vs Q E hr DA=>?_
 obtain⟨hl,a,F,ws,ds,kvs,es,rfl,AI,d,DS,C4,hc,LU,q⟩:=DA
 have CO:A.handled=none:=hr.hd hp
 refine⟨_,P6 (Z:=Z) (CX:=Cg P w) (cl:=ae T n) (xp:=Ej K) (ex:=CJ) (G:=fn.G) ?_ ⟨F,rm a H,fun _ _=>False,fun _ _=>False,some a⟩ h5.body,?_⟩
 ·refine⟨rfl,h5.sc.nd,fun z=>by show A.handled.isNone=true;rw[CO];rfl,h5.sc.kind,?_,fun _=>PassesOwn.leaving,fun i y hy=>h5.kd i y hy,fun i y hy=>h5.Fm y (List.mem_of_getElem? hy),fun m hm y hy=>h5.gl m hm y hy,t.Gu,fun _ _=>rfl,t.blt,t.cst,fun f' DO hc x' Cw=>ih _ (Rm.of hr hk) f' DO (.inl CO) x' Cw,fun f' DO z x' Cw=>F3 _ (Rm.of hr hk) f' DO CO x' Cw,t.Ir,t.Iu,t.Iw,t.Iy,fun _ pins σ H1 s1 c C h' e vs I hex hn hx=>hex.elim,(fun z=>by rw[P8] at z;cases z),⟨fun _ _ _=>False,fun pins σ H s e s' _ h=>(gu h).elim,fun c H z=>z.elim⟩,fun outer H s E e s' x fr h=>gr x fr h,fun H outer s e s'=>gu⟩
  have:=hr.un
  show (A.deeper _).units+42 < cLine
  omega
 ·rw[C0] at hc
  unfold cb at hc
  obtain⟨gd,hc⟩:=ja hc
  have Fo:(A6 ds++[D.A0 false (kvs.map (·.1)) es]).length=fn.np:=of_decide_eq_true gd
  rw[fC] at hc
  obtain⟨r,P9,hc⟩:=bF hc
  have Nq:ws.length=fn.np - 1:=by
   rw[List.length_append,bh] at Fo
   rw[AI.ws.length,<- Fo]
   simp
  have DU:fn.G.N.length - (ws++[V.ref a]).length=fn.G.N.length - fn.np:=by
   rw[List.length_append,Nq]
   show fn.G.N.length - (fn.np - 1+1)=_
   rw[Nat.sub_add_cancel L0]
  have m0:Ba K F H (.ref a) (.A0 true (kvs.map (·.1)) es) [a]:=.D3 AI.nF AI.at_ rfl (AY.free AI.lf AI.vs)
  refine⟨F,(A6 ds++[D.A0 true (kvs.map (·.1)) es]).map some++List.replicate (fn.G.N.length - fn.np) none,[a],⟨AI.Bh,?_,by simp,yj,fun b hb=>by rw[List.mem_singleton.mp hb];exact bN,fun b h=>h,fun b h=>.inl h,fun b xs h=>h.elim,fun b xs h=>h.elim,fun j b e1 e2=>?_⟩,?_⟩
  ·show Bq K F H (start fn.G.N (ws++[.ref a])) _ [a]
   unfold start
   rw[DU]
   exact iD m0 _ AI.ws
  ·rw[P7] at e1
   cases e1
   cases e2
   show (start fn.G.N (ws++[.ref a]))[fn.np - 1]? = _
   unfold start
   rw[<- Nq,List.map_append,List.append_assoc,List.getElem?_append_right (by simp)]
   simp
  ·rw[P9]
   cases r with
   | ri d1 ks1 BD=>
    cases hc
    intro v Kv Ku fv Fd l hN ot hF P' hH FY Qa
    have e:=hN a rfl
    subst e
    exact q v Kv Ku fv Fd ⟨ot,hF,P',hH,FY,Qa⟩
   | nx _=>cases hc
   | bk _=>cases hc
   | ct _=>cases hc
   | rt _=>cases hc
theorem eC (t:Dc K mg Z T):∀ (n:Nat),n < 900->(∀ (A:Around),Rm n A->∀ f∈Z.fns,(A.handled=none∨f∈Z.pl)->∀ x,Z.name f=some x->G5 P w K mg base (Cg P w) A (ae T n) (Ej K) f x)/\
  ∀ (A:Around),Rm n A->∀ f∈Z.Cs,A.handled=none->∀ x,Z.name f=some x->Km P w K mg base (Cg P w) A (ae T n) f x
 | 0,h9=>by
  refine⟨fun A hr f hf hc x hx=>?_,fun A hr f hf hc x hx=>?_⟩
  ·obtain⟨fn,st,fa,fd,ps,h1,h2,h3,h4,h5⟩:=(t.fns f hf x hx).ex
   have no:∀ vs H Q E,¬ G4 K (ae T 0) (Ej K) f ps vs H Q E:=fun vs H Q E ⟨_,_,F,ds,_,_,h⟩=>h
   exact⟨1000+0,fa,fd,ps,h3,h2.kp,h4,⟨fun vs H Q E h=>h.1,fun A outer s H args us vs Q E _ _ _ _ h=>(no _ _ _ _ h).elim⟩,hr.Gy h9,fun ex ds k h=>h.elim⟩
  ·obtain⟨fn,st,fa,fd,ps,h1,h2,h3,h4,h5⟩:=(t.Cs f hf x hx).ex
   have no:∀ vs H Q E,¬ Jv K (ae T 0) f ps vs H Q E:=fun vs H Q E ⟨_,a,F,ws,ds,kvs,es,_,_,d,DS,C4,h,_⟩=>by cases h
   exact⟨0,fa,fd,ps,h3,h2.kp,h4,⟨fun vs H Q E h=>h.1,fun A outer s H args us vs Q E _ _ _ _ h=>(no _ _ _ _ h).elim⟩,hr.room h9 hc,fun ds r h=>by cases h⟩
 | n+1,h9=>by
  obtain⟨ih,F3⟩:=eC t n (by omega)
  refine⟨fun A hr f hf hc x hx=>?_,fun A hr f hf hc x hx=>?_⟩
  ·obtain⟨fn,st,fa,fd,ps,h1,h2,h3,h4,h5⟩:=(t.fns f hf x hx).ex
   have hlen:∀ (ex:Str->Prop) ds (k:D->Prop),AZ ex (ae T (n+1) f ds) k->ds.length=ps.length:=fun ex ds k h=>by
    have C0:ae T (n+1) f ds=b9 (ae T n) fn ds:=by
     show (match T f with|some fn=>(match fn.io with|false=>b9 (ae T n) fn ds|true=>cb (ae T n) fn ds)|none=>A5)=_
     rw[h1]
     show (match fn.io with|false=>b9 (ae T n) fn ds|true=>cb (ae T n) fn ds)=_
     rw[h5.pl]
    rw[C0] at h
    obtain⟨gd,_⟩:=AZ.A4 h
    rw[of_decide_eq_true gd,h5.np]
   by_cases Fx:f∈Z.pl
   ·exact⟨1000+n+1,fa,fd,ps,h3,h2.kp,h4,gv t (k:=1000+n) (n:=n) (by omega) (by omega) h1 h2 h5 (.inr (t.Fg f Fx fn h1)) ih F3,hr.Gy h9,hlen⟩
   ·exact⟨n+1,fa,fd,ps,h3,h2.kp,h4,gv t (k:=n) (n:=n) (by omega) (by omega) h1 h2 h5 (.inl (by omega)) ih F3,hr.room h9 (hc.elim id fun z=>absurd z Fx),hlen⟩
  ·obtain⟨fn,st,fa,fd,ps,h1,h2,h3,h4,h5⟩:=(t.Cs f hf x hx).ex
   refine⟨n+1,fa,fd,ps,h3,h2.kp,h4,nh t (k:=n) (n:=n) (by omega) (by omega) h1 h2 h5 (by omega) ih F3,hr.room h9 hc,fun ds r h=>?_⟩
   have C0:ae T (n+1) f ds=cb (ae T n) fn ds:=by
    show (match T f with|some fn=>(match fn.io with|false=>b9 (ae T n) fn ds|true=>cb (ae T n) fn ds)|none=>A5)=_
    rw[h1]
    show (match fn.io with|false=>b9 (ae T n) fn ds|true=>cb (ae T n) fn ds)=_
    rw[h5.io]
   rw[C0] at h
   obtain⟨gd,_⟩:=ja h
   rw[of_decide_eq_true gd,h5.np]
theorem qS (t:Dc K mg Z T)(n:Nat)(hn:n < 900):∀ (A:Around),Rm n A->∀ f∈Z.fns,(A.handled=none∨f∈Z.pl)->∀ x,Z.name f=some x->G5 P w K mg base (Cg P w) A (ae T n) (Ej K) f x:=(eC t n hn).1
end
section
variable {P:Program}{w:World}{K:PySem.W.Frag}{mg:Str->Option Value}{base:Heap}{Z:Sg}{T:Tb}
noncomputable def IF (K:PySem.W.Frag)(cl:Nat->List D->Res D)(f:Nat)(ps:List Str):Sp:=fun vs H Q E=>vs.length=ps.length/\∃ F ds,C8 F H/\AY K F H vs ds/\
 AZ CJ (cl f (A6 ds)) fun d=>∀ v H' F' fv,Out K F H F' H' v d fv->Q v H'
theorem ni {cl:Nat->List D->Res D}{k f:Nat}{fa:Addr}{fd:FuncData}{ps:List Str}(F:Cp P w K mg base (Cg P w) k fa fd ps (G4 K cl (Ej K) f ps)):Cp P w K mg base (Cg P w) k fa fd ps (IF K cl f ps):=by
 refine⟨fun vs H Q E h=>h.1,fun A outer s H args us vs Q E hr e0 bd r DA=>?_⟩
 obtain⟨hl,Fc,ds,Bh,m,q⟩:=DA
 have e1:DX P w K mg base A outer s (az s.heap H):=⟨e0.frames,e0.mod,fun b o e=>⟨(e0.bs b o e).1,aY (e0.bs b o e).2⟩,e0.Fh,e0.Ce,fun b hb=>aY (e0.D9 b hb),jd e0.Be,e0.bare⟩
 have hq:AZ (Ej K E (az s.heap H)) (cl f (A6 ds)) fun d=>∀ v H' F' fv,Out K Fc H F' H' v d fv->Q v H':=by
  cases z:cl f (A6 ds) with
  | ok d=>rw[z] at q;exact q
  | error er=>
   rw[z] at q
   cases er with
   | stuck=>exact q.no.elim
   | exc c=>exact False.elim q
 have hs:G4 K cl (Ej K) f ps vs (az s.heap H) (fun v H'=>Dm s.heap (az s.heap H) H'->Q v (bS H H')) E:=
  ⟨hl,mI _ _,_,ds,fun a h=>h.2,gf e0.Be m,hq.mono fun d hd v H' F' fv o p=>hd v _ _ fv (dG e0.Be Bh p o)⟩
 refine codeAny_mono (F.run A outer s (az s.heap H) args us vs _ E hr e1 bd r hs) fun r' s' hq=>?_
 cases r' with
 | error e=>exact gr e0.Be e0.D9 hq
 | ok fl=>
  cases fl with
  | ret u=>
   obtain⟨v,H',a1,a2,a3,a4,a5,a6⟩:=hq
   exact⟨v,bS H H',a1,a2,je e0.Be a3,f9 e0.Be a4 (cT a3) (fs:=BZ outer) (fun b o _ e n f=>a3.keep b o e n f (by simp)) e0.D9,a5,a6 (cT a3)⟩
  | next=>exact hq
  | brk=>exact hq
  | cont=>exact hq
theorem vU (t:Dc K mg Z T)(n:Nat)(hn:n < 900){f:Nat}{fn:Fn}{x:Str}{st:Stmt}{fa:Addr}{fd:FuncData}{ps:List Str}(h1:T f=some fn)(h2:Gf K x x st fa fd)(h5:Et Z fn ps st):Cp P w K mg base (Cg P w) (n+1) fa fd ps (IF K (ae T (n+1)) f ps):=
 ni (gv t (k:=n) (n:=n) (by omega) hn h1 h2 h5 (.inl (by omega)) (qS t n hn) (eC t n hn).2)
theorem vV {f n:Nat}{x:Str}{a:Addr}{H:Hp}{ns:List Int}(hS:Ls K H a (ns.map V.int))(hl:ae T n f [.lst false (ns.map .int)]=.ok (.bl true)) :
  IF K (ae T n) f [x] [.ref a] H (fun v _=>v=.bl true) fun _ _ _=>False:=by
 have m:AY K (fun a=>H a≠none) H [.ref a] [.lst false (ns.map .int)]:=by
  refine .cons ?_ .nil
  rcases hS with hS|hS
  ·exact .lst hS.some hS (AY.ofInts ns)
  ·exact .lstK hS (AY.ofInts ns)
 refine⟨rfl,fun a=>H a≠none,[.lst false (ns.map .int)],fun a h=>h,m,?_⟩
 have he:A6 [.lst false (ns.map .int)]=[D.lst false (ns.map .int)]:=by
  rw[A6,A6,er,a9,List.map_map]
  rfl
 rw[he,hl]
 intro v H' F' fv o
 cases o.rep
 rfl
theorem nj {l:PySem.W.OpenLaw}{q:Program}{loose:List Str}{XP:(Str->Option Value)->Heap->Prop}{YP:World->Heap->Prop}{d:DefRec}{K:Params->PySem.W.Frag}{T:Tb}{n f:Nat}{x:Str}(hn:l.most=some 63)(Jb:d.params.defaults=[])(hr:B1 (n+1) callerA)
  (hY:∀ (w:World) (h:Heap),YP w h->(K w.params).In h)
  (F:∀ (w:World) (mg:Str->Option Value) (fa:Addr) (h:Heap),(K w.params).In h->h.Ns mainGlobals mg->mg d.name=some (.ref fa)->
   ∃ fd:FuncData,(∀ (s:Shared) (u:Value),BindsTo s fd ⟨[u],[]⟩ [(x,u)])/\∀ base:Heap,(K w.params).In base->base.Ns mainGlobals mg->Cp l.prog w (K w.params) mg base (Cg l.prog w) (n+1) fa fd [x] (IF (K w.params) (ae T (n+1)) f [x]))
  (hl:∀ ns:List Int,ns.length<=63->ae T (n+1) f [.lst false (ns.map .int)]=.ok (.bl true)) :
  PySem.W.WalkO q loose XP YP l.row.toRowW d [] (fun f vs=>PySem.call f vs):=
 L2.qe (n:=63) (k:=n+1) (x:=x) (CX:=fun w=>Cg l.prog w) (sp:=fun w=>IF (K w.params) (ae T (n+1)) f [x]) hn (by decide) Jb hr hY F (fun w H a ns h1 _ hS=>vV hS (hl ns h1)) fun _ _ _ _ _ z=>gu z
end
namespace Ev
section
variable {α β:Type}{cl:Nat->List D->Res D}{τ:Ev}{mv:Bool}
theorem jV {a:α}{f:α->Res β}:j' (.ok a) f=f a:=rfl
theorem sg {x:Res α}:A4 true x=x:=rfl
theorem Nr {d:D}:A3 cl (.c d) τ=.ok d:=rfl
theorem Nt {n:Nat}{d:D}:A3 cl (.g n d) τ=.ok d:=rfl
theorem Nu {i:Nat}:A3 cl (.v i) τ=(match ah τ i with|some d=>.ok d|none=>A5):=rfl
noncomputable def yk (cl:Nat->List D->Res D)(op:EZ)(b:IR)(τ:Ev)(x:D):Res D:=j' (A3 cl b τ) (C1 op x)
theorem nk {op:EZ}{b:IR}{x:D}:yk cl op b τ x=j' (A3 cl b τ) (C1 op x):=rfl
theorem sh {op:EZ}{a b:IR}:A3 cl (.bin op a b) τ=j' (A3 cl a τ) (yk cl op b τ):=rfl
noncomputable def L1 (r:Bool):Res D:=.ok (.bl r)
theorem si {r:Bool}:L1 r=.ok (.bl r):=rfl
noncomputable def iE (op:C6)(x y:D):Res D:=j' (Cj op x y) L1
theorem jW {op:C6}{x y:D}:iE op x y=j' (Cj op x y) L1:=rfl
noncomputable def yl (cl:Nat->List D->Res D)(op:C6)(b:IR)(τ:Ev)(x:D):Res D:=j' (A3 cl b τ) (iE op x)
theorem nq {op:C6}{b:IR}{x:D}:yl cl op b τ x=j' (A3 cl b τ) (iE op x):=rfl
theorem sj {op:C6}{a b:IR}:A3 cl (.cmp op a b) τ=j' (A3 cl a τ) (yl cl op b τ):=rfl
noncomputable def vW (cl:Nat->List D->Res D)(BH:C6)(c:IR)(τ:Ev)(y:D)(r:Bool):Res D:=if r=true then j' (A3 cl c τ) (iE BH y) else .ok (.bl false)
theorem nt {BH:C6}{c:IR}{y:D}{r:Bool}:vW cl BH c τ y r=if r=true then j' (A3 cl c τ) (iE BH y) else .ok (.bl false):=rfl
noncomputable def vX (cl:Nat->List D->Res D)(op BH:C6)(c:IR)(τ:Ev)(x y:D):Res D:=j' (Cj op x y) (vW cl BH c τ y)
theorem nu {op BH:C6}{c:IR}{x y:D}:vX cl op BH c τ x y=j' (Cj op x y) (vW cl BH c τ y):=rfl
noncomputable def Nv (cl:Nat->List D->Res D)(op BH:C6)(b c:IR)(τ:Ev)(x:D):Res D:=j' (A3 cl b τ) (vX cl op BH c τ x)
theorem sk {op BH:C6}{b c:IR}{x:D}:Nv cl op BH b c τ x=j' (A3 cl b τ) (vX cl op BH c τ x):=rfl
theorem jX {op BH:C6}{a b c:IR}:A3 cl (.chain op BH a b c) τ=j' (A3 cl a τ) (Nv cl op BH b c τ):=rfl
noncomputable def nv (cl:Nat->List D->Res D)(b:IR)(τ:Ev)(x:D)(r:Bool):Res D:=if r=true then A3 cl b τ else .ok x
theorem jY {b:IR}{x:D}{r:Bool}:nv cl b τ x r=if r=true then A3 cl b τ else .ok x:=rfl
noncomputable def ym (cl:Nat->List D->Res D)(b:IR)(τ:Ev)(x:D):Res D:=j' (aE x) (nv cl b τ x)
theorem ny {b:IR}{x:D}:ym cl b τ x=j' (aE x) (nv cl b τ x):=rfl
theorem so {a b:IR}:A3 cl (.BB a b) τ=j' (A3 cl a τ) (ym cl b τ):=rfl
noncomputable def vY (cl:Nat->List D->Res D)(b:IR)(τ:Ev)(x:D)(r:Bool):Res D:=if r=true then .ok x else A3 cl b τ
theorem nA {b:IR}{x:D}{r:Bool}:vY cl b τ x r=if r=true then .ok x else A3 cl b τ:=rfl
noncomputable def Nw (cl:Nat->List D->Res D)(b:IR)(τ:Ev)(x:D):Res D:=j' (aE x) (vY cl b τ x)
theorem sr {b:IR}{x:D}:Nw cl b τ x=j' (aE x) (vY cl b τ x):=rfl
theorem yn {a b:IR}:A3 cl (.E1 a b) τ=j' (A3 cl a τ) (Nw cl b τ):=rfl
noncomputable def nB (r:Bool):Res D:=.ok (.bl !r)
theorem jZ {r:Bool}:nB r=.ok (.bl !r):=rfl
noncomputable def yo (x:D):Res D:=j' (aE x) nB
theorem nC {x:D}:yo x=j' (aE x) nB:=rfl
theorem su {a:IR}:A3 cl (.BU a) τ=j' (A3 cl a τ) yo:=rfl
noncomputable def tupK (ds:List D):Res D:=A4 (aU ds.length) (.ok (.tup ds))
theorem nD {ds:List D}:tupK ds=A4 (aU ds.length) (.ok (.tup ds)):=rfl
theorem sv {es:List IR}:A3 cl (.tup es) τ=j' (ay cl es τ) tupK:=rfl
noncomputable def lstK (ds:List D):Res D:=A4 (aU ds.length) (.ok (.lst true ds))
theorem nE {ds:List D}:lstK ds=A4 (aU ds.length) (.ok (.lst true ds)):=rfl
theorem sy {es:List IR}:A3 cl (.lst es) τ=j' (ay cl es τ) lstK:=rfl
noncomputable def yp (cl:Nat->List D->Res D)(i:IR)(τ:Ev)(x:D):Res D:=j' (A3 cl i τ) (au x)
theorem nG {i:IR}{x:D}:yp cl i τ x=j' (A3 cl i τ) (au x):=rfl
theorem sA {a i:IR}:A3 cl (.idx a i) τ=j' (A3 cl a τ) (yp cl i τ):=rfl
noncomputable def vZ (cl:Nat->List D->Res D)(hi:Option IR)(τ:Ev)(x:D)(l:Option Int):Res D:=j' (fZ cl hi τ) (i4 x l)
theorem nH {hi:Option IR}{x:D}{l:Option Int}:vZ cl hi τ x l=j' (fZ cl hi τ) (i4 x l):=rfl
noncomputable def Nx (cl:Nat->List D->Res D)(lo hi:Option IR)(τ:Ev)(x:D):Res D:=j' (fZ cl lo τ) (vZ cl hi τ x)
theorem sC {lo hi:Option IR}{x:D}:Nx cl lo hi τ x=j' (fZ cl lo τ) (vZ cl hi τ x):=rfl
theorem yq {a:IR}{lo hi:Option IR}:A3 cl (.sl a lo hi) τ=j' (A3 cl a τ) (Nx cl lo hi τ):=rfl
noncomputable def sD (cl:Nat->List D->Res D)(f:Nat)(ds:List D):Res D:=cl f (A6 ds)
theorem j0 {f:Nat}{ds:List D}:sD cl f ds=cl f (A6 ds):=rfl
theorem nI {f:Nat}{es:List IR}:A3 cl (.call f es) τ=j' (ay cl es τ) (sD cl f):=rfl
theorem yr {f:Bi}{es:List IR}:A3 cl (.bi f es) τ=j' (ay cl es τ) (cy f):=rfl
noncomputable def yt (k:Kd)(x:D):Res D:=A4 (dm x) (.ok (.bl (aW k x)))
theorem nJ {k:Kd}{x:D}:yt k x=A4 (dm x) (.ok (.bl (aW k x))):=rfl
theorem yu:dm .A8=true:=rfl
theorem yv {b:Bool}:dm (.bl b)=true:=rfl
theorem yy {i:Int}:dm (.int i)=true:=rfl
theorem yz {x:Str}:dm (.str x)=true:=rfl
theorem yB {ds:List D}:dm (.tup ds)=true:=rfl
theorem yC {o:Bool}{ds:List D}:dm (.lst o ds)=true:=rfl
noncomputable def sF (cl:Nat->List D->Res D)(k:IR)(τ:Ev)(x:D):Res D:=j' (A3 cl k τ) (hG x)
theorem j5 {k:IR}{x:D}:sF cl k τ x=j' (A3 cl k τ) (hG x):=rfl
theorem nK {a k:IR}:A3 cl (.B3 a k) τ=j' (A3 cl a τ) (sF cl k τ):=rfl
noncomputable def v3 (n:Bool)(y x:D):Res D:=hJ n x y
theorem nL {n o:Bool}{x:Str}{ks:List Key}{ds:List D}:v3 n (.str x) (.A0 o ks ds)=.ok (.bl (n != (look ks ds (.inr x)).isSome)):=rfl
noncomputable def yD (cl:Nat->List D->Res D)(n:Bool)(a:IR)(τ:Ev)(y:D):Res D:=j' (A3 cl a τ) (v3 n y)
theorem nM {n:Bool}{a:IR}{y:D}:yD cl n a τ y=j' (A3 cl a τ) (v3 n y):=rfl
theorem sG {n:Bool}{k a:IR}:A3 cl (.GX n k a) τ=j' (A3 cl k τ) (yD cl n a τ):=rfl
theorem sH {a:IR}{k:Kd}:A3 cl (.BW a k) τ=j' (A3 cl a τ) (yt k):=rfl
noncomputable def v5 (ds:List D):Res D:=.ok (.lst true ds)
theorem nN {ds:List D}:v5 ds=.ok (.lst true ds):=rfl
noncomputable def sI (cl:Nat->List D->Res D)(G:Gm)(fr:List Nat)(T:Tg)(I:List IR)(E:IR)(τ:Ev)(its:List D):Res D:=A4 (bj its.length) (j' (B5 (aP (bf cl T I E (D7 G fr τ)) its)) v5)
theorem j6 {G:Gm}{fr:List Nat}{T:Tg}{I:List IR}{E:IR}{its:List D}:sI cl G fr T I E τ its=A4 (bj its.length) (j' (B5 (aP (bf cl T I E (D7 G fr τ)) its)) v5):=rfl
theorem nO {G:Gm}{fr:List Nat}{T:Tg}{s:Sr}{I:List IR}{E:IR}:A3 cl (.comp G fr T s I E) τ=j' (bZ cl s τ) (sI cl G fr T I E τ):=rfl
theorem yE:ay cl [] τ=.ok []:=rfl
noncomputable def nP (d:D)(ds:List D):Res (List D):=.ok (d::ds)
theorem j7 {d:D}{ds:List D}:nP d ds=.ok (d::ds):=rfl
noncomputable def Ny (cl:Nat->List D->Res D)(es:List IR)(τ:Ev)(d:D):Res (List D):=j' (ay cl es τ) (nP d)
theorem sJ {es:List IR}{d:D}:Ny cl es τ d=j' (ay cl es τ) (nP d):=rfl
theorem yF {e:IR}{es:List IR}:ay cl (e::es) τ=j' (A3 cl e τ) (Ny cl es τ):=rfl
noncomputable def yG:D->Res (Option Int)
 | .int i=>.ok (some i)
 | _=>A5
theorem nQ {i:Int}:yG (.int i)=.ok (some i):=rfl
theorem yI:fZ cl none τ=.ok none:=rfl
theorem yJ {e:IR}:fZ cl (some e) τ=j' (A3 cl e τ) yG:=rfl
theorem yL:cG cl [] τ=.ok true:=rfl
noncomputable def Nz (cl:Nat->List D->Res D)(es:List IR)(τ:Ev)(r:Bool):Res Bool:=if r=true then cG cl es τ else .ok false
theorem sL {es:List IR}{r:Bool}:Nz cl es τ r=if r=true then cG cl es τ else .ok false:=rfl
theorem yM {e:IR}{es:List IR}:cG cl (e::es) τ=j' (j' (A3 cl e τ) aE) (Nz cl es τ):=rfl
noncomputable def sM:D->Res (List D)
 | .int i=>A4 (bC i) (.ok (bE 0 i))
 | _=>A5
theorem j8 {i:Int}:sM (.int i)=A4 (bC i) (.ok (bE 0 i)):=rfl
theorem yN {n:IR}:bZ cl (.B4 n) τ=j' (A3 cl n τ) sM:=rfl
noncomputable def yO (cl:Nat->List D->Res D)(τ:Ev)(b:IR)(x:D):Res (List D):=j' (A3 cl b τ) fun y=>qv x y
noncomputable def nR (x y:D):Res (List D):=qv x y
theorem nS {b:IR}{x:D}:yO cl τ b x=j' (A3 cl b τ) (nR x):=rfl
theorem iF {o o':Bool}{ds es:List D}:nR (.lst o ds) (.lst o' es)=.ok (dq ds es):=rfl
theorem iG {ds es:List D}:nR (.tup ds) (.tup es)=.ok (dq ds es):=rfl
theorem nT {o:Bool}{ds:List D}:qt (.lst o ds)=.ok (fY ds):=rfl
theorem sN {a:IR}:bZ cl (.DR a) τ=j' (A3 cl a τ) qt:=rfl
theorem nU {o:Bool}{ds:List D}:qu (.lst o ds)=.ok ds.reverse:=rfl
theorem sO {a:IR}:bZ cl (.rev a) τ=j' (A3 cl a τ) qu:=rfl
theorem sP {a b:IR}:bZ cl (.zip a b) τ=j' (A3 cl a τ) (yO cl τ b):=rfl
theorem sQ {e:IR}:bZ cl (.val e) τ=j' (A3 cl e τ) dn:=rfl
theorem yQ {o:Bool}{ds:List D}:dn (.lst o ds)=.ok ds:=rfl
theorem yR {ds:List D}:dn (.tup ds)=.ok ds:=rfl
theorem yS {x:Str}:dn (.str x)=A4 (aU x.length) (.ok (bo x)):=rfl
theorem NA {t:IR}:Io cl t τ=j' (A3 cl t τ) aE:=rfl
theorem Kw {i:Nat}:BF cl mv (.v i) τ=(match ah τ i with|some d=>if mv=true then .ok (d,τ.set i none) else .ok (er d,τ.set i (some (er d)))|none=>A5):=rfl
noncomputable def sR (p:List D×Ev):Res (D×Ev):=A4 (aU p.1.length) (.ok (.tup p.1,p.2))
theorem j9 {p:List D×Ev}:sR p=A4 (aU p.1.length) (.ok (.tup p.1,p.2)):=rfl
theorem El {es:List IR}:BF cl mv (.tup es) τ=j' (d6 cl mv es τ) sR:=rfl
noncomputable def sS (p:List D×Ev):Res (D×Ev):=A4 (aU p.1.length) (.ok (.lst true p.1,p.2))
theorem ka {p:List D×Ev}:sS p=A4 (aU p.1.length) (.ok (.lst true p.1,p.2)):=rfl
theorem Em {es:List IR}:BF cl mv (.lst es) τ=j' (d6 cl mv es τ) sS:=rfl
noncomputable def sT (cl:Nat->List D->Res D)(mv:Bool)(a b:IR)(τ:Ev)(r:Bool):Res (D×Ev):=if r=true then BF cl mv a τ else BF cl mv b τ
theorem kb {a b:IR}{r:Bool}:sT cl mv a b τ r=if r=true then BF cl mv a τ else BF cl mv b τ:=rfl
theorem En {t a b:IR}:BF cl mv (.ite t a b) τ=j' (Io cl t τ) (sT cl mv a b τ):=rfl
noncomputable def gw (es:List IR)(τ:Ev)(d:D):Res (D×Ev):=if ao d=true then .ok (d,τ) else .ok (d,Bb (aj es) τ)
theorem fD {es:List IR}{d:D}:gw es τ d=if ao d=true then .ok (d,τ) else .ok (d,Bb (aj es) τ):=rfl
noncomputable def nV (cl:Nat->List D->Res D)(f:Nat)(es:List IR)(τ:Ev)(ds:List D):Res (D×Ev):=j' (cl f (A6 ds)) (gw es τ)
theorem iH {f:Nat}{es:List IR}{ds:List D}:nV cl f es τ ds=j' (cl f (A6 ds)) (gw es τ):=rfl
theorem Dq {f:Nat}{es:List IR}:BF cl mv (.call f es) τ=j' (ay cl es τ) (nV cl f es τ):=rfl
noncomputable def cB (e:IR)(τ:Ev)(d:D):Res (D×Ev):=.ok (aB e d τ)
theorem kc {e:IR}{d:D}:cB e τ d=.ok (aB e d τ):=rfl
theorem NB {d:D}:BF cl mv (.c d) τ=j' (A3 cl (.c d) τ) (cB (.c d) τ):=rfl
theorem sU {op:EZ}{a b:IR}:BF cl mv (.bin op a b) τ=j' (A3 cl (.bin op a b) τ) (cB (.bin op a b) τ):=rfl
theorem sV {op:C6}{a b:IR}:BF cl mv (.cmp op a b) τ=j' (A3 cl (.cmp op a b) τ) (cB (.cmp op a b) τ):=rfl
theorem sW {a b:IR}:BF cl mv (.BB a b) τ=j' (A3 cl (.BB a b) τ) (cB (.BB a b) τ):=rfl
theorem sX {a i:IR}:BF cl mv (.idx a i) τ=j' (A3 cl (.idx a i) τ) (cB (.idx a i) τ):=rfl
theorem yT {a:IR}{lo hi:Option IR}:BF cl mv (.sl a lo hi) τ=j' (A3 cl (.sl a lo hi) τ) (cB (.sl a lo hi) τ):=rfl
theorem yU {f:Bi}{es:List IR}:BF cl mv (.bi f es) τ=j' (A3 cl (.bi f es) τ) (cB (.bi f es) τ):=rfl
theorem Dr:BF cl mv .CW τ=.ok (.A0 true [] [],τ):=rfl
theorem nW {a k:IR}:BF cl mv (.B3 a k) τ=j' (A3 cl (.B3 a k) τ) (cB (.B3 a k) τ):=rfl
theorem nX {G:Gm}{fr:List Nat}{T:Tg}{s:Sr}{I:List IR}{E:IR}:BF cl mv (.comp G fr T s I E) τ=j' (A3 cl (.comp G fr T s I E) τ) (cB (.comp G fr T s I E) τ):=rfl
theorem yV:d6 cl mv [] τ=.ok ([],τ):=rfl
noncomputable def v7 (d:D)(q:List D×Ev):Res (List D×Ev):=.ok (d::q.1,q.2)
theorem nY {d:D}{q:List D×Ev}:v7 d q=.ok (d::q.1,q.2):=rfl
noncomputable def NC (cl:Nat->List D->Res D)(mv:Bool)(es:List IR)(p:D×Ev):Res (List D×Ev):=j' (d6 cl mv es p.2) (v7 p.1)
theorem sY {es:List IR}{p:D×Ev}:NC cl mv es p=j' (d6 cl mv es p.2) (v7 p.1):=rfl
theorem yW {e:IR}{es:List IR}:d6 cl mv (e::es) τ=j' (BF cl mv e τ) (NC cl mv es):=rfl
noncomputable def L3 (d:D):Res (Option D):=.ok (some d)
theorem sZ {d:D}:L3 d=.ok (some d):=rfl
noncomputable def v8 (cl:Nat->List D->Res D)(E:IR)(τ:Ev)(r:Bool):Res (Option D):=if r=true then j' (A3 cl E τ) L3 else .ok none
theorem nZ {E:IR}{r:Bool}:v8 cl E τ r=if r=true then j' (A3 cl E τ) L3 else .ok none:=rfl
noncomputable def NF (cl:Nat->List D->Res D)(I:List IR)(E:IR)(τ:Ev):Res (Option D):=j' (cG cl I τ) (v8 cl E τ)
theorem tf {I:List IR}{E:IR}:NF cl I E τ=j' (cG cl I τ) (v8 cl E τ):=rfl
theorem ke {T:Tg}{I:List IR}{E:IR}{x:D}:bf cl T I E τ x=j' (bp T x τ) (NF cl I E):=rfl
theorem n0 {G:Gm}{fr:List Nat}:D7 G fr τ=fr.map (ah τ)++List.replicate (G.N.length - fr.length) none:=rfl
theorem NG {e:IR}{i:Int}:aB e (.int i) τ=(.int i,τ):=rfl
theorem NH {e:IR}{x:Str}:aB e (.str x) τ=(.str x,τ):=rfl
theorem NI {e:IR}{b:Bool}:aB e (.bl b) τ=(.bl b,τ):=rfl
theorem NJ {e:IR}:aB e .A8 τ=(.A8,τ):=rfl
noncomputable def L4 (A7:Ev):Res Fl:=.ok (.nx A7)
theorem ti:L4 τ=.ok (.nx τ):=rfl
noncomputable def yX (tg:Tg)(p:D×Ev):Res Fl:=j' (bp tg p.1 p.2) L4
theorem n6 {tg:Tg}{p:D×Ev}:yX tg p=j' (bp tg p.1 p.2) L4:=rfl
theorem Ds {tg:Tg}{e:IR}:B6 cl (.asg tg e) τ=j' (BF cl false e τ) (yX tg):=rfl
noncomputable def v9 (i:Nat)(p:D×Ev):Option D->Res Fl
 | some (.lst true ds)=>A4 (bj ds.length) (.ok (.nx (p.2.set i (some (.lst true (ds++[p.1]))))))
 | _=>A5
noncomputable def wa (i:Nat)(p:D×Ev):Res Fl:=v9 i p (ah p.2 i)
theorem n8 {i:Nat}{p:D×Ev}:wa i p=v9 i p (ah p.2 i):=rfl
noncomputable def yY (cl:Nat->List D->Res D)(i:Nat)(e:IR)(τ:Ev):Option D->Res Fl
 | some (.lst _ _)=>j' (BF cl false e τ) (wa i)
 | _=>A5
theorem n9 {i:Nat}{e:IR}{o:Bool}{ds:List D}:yY cl i e τ (some (.lst o ds))=j' (BF cl false e τ) (wa i):=rfl
theorem og {i:Nat}{p:D×Ev}{ds:List D}:v9 i p (some (.lst true ds))=A4 (bj ds.length) (.ok (.nx (p.2.set i (some (.lst true (ds++[p.1])))))):=rfl
noncomputable def qT (i:Nat)(p:D×Ev)(z:Int):Option D->Res Fl
 | some (.lst true ds)=>A4 (decide (0<=z/\z.toNat<=ds.length)&&bj ds.length) (.ok (.nx (p.2.set i (some (.lst true (ds.take z.toNat++p.1::ds.drop z.toNat))))))
 | _=>A5
theorem oh {i:Nat}{p:D×Ev}{z:Int}{ds:List D}:qT i p z (some (.lst true ds))=A4 (decide (0<=z/\z.toNat<=ds.length)&&bj ds.length) (.ok (.nx (p.2.set i (some (.lst true (ds.take z.toNat++p.1::ds.drop z.toNat)))))):=rfl
noncomputable def wb (i:Nat):D->D×Ev->Res Fl
 | .int z,p=>qT i p z (ah p.2 i)
 | _,_=>A5
theorem oj {i:Nat}{z:Int}{p:D×Ev}:wb i (.int z) p=qT i p z (ah p.2 i):=rfl
noncomputable def wc (cl:Nat->List D->Res D)(i:Nat)(e:IR)(τ:Ev)(y:D):Res Fl:=j' (BF cl false e τ) (wb i y)
theorem om {i:Nat}{e:IR}{y:D}:wc cl i e τ y=j' (BF cl false e τ) (wb i y):=rfl
noncomputable def yZ (cl:Nat->List D->Res D)(i:Nat)(k e:IR)(τ:Ev):Option D->Res Fl
 | some (.lst _ _)=>j' (A3 cl k τ) (wc cl i e τ)
 | _=>A5
theorem oq {i:Nat}{k e:IR}{o:Bool}{ds:List D}:yZ cl i k e τ (some (.lst o ds))=j' (A3 cl k τ) (wc cl i e τ):=rfl
theorem Dt {i:Nat}{k e:IR}:B6 cl (.ins i k e) τ=yZ cl i k e τ (ah τ i):=by
 show (match ah τ i with|some (.lst _ _)=>(j' (A3 cl k τ) fun y=>j' (BF cl false e τ) fun p=>(match y,ah p.2 i with|.int z,some (.lst true ds)=>A4 (decide (0<=z/\z.toNat<=ds.length)&&bj ds.length) (.ok (Fl.nx (p.2.set i (some (.lst true (ds.take z.toNat++p.1::ds.drop z.toNat))))))|_,_=>A5))|_=>A5)=_
 cases ah τ i with
 | none=>rfl
 | some d=>
  cases d with
  | lst o ds=>
   refine congrArg (j' (A3 cl k τ)) (funext fun y=>congrArg (j' (BF cl false e τ)) (funext fun p=>?_))
   cases y with
   | int z=>
    show (match D.int z,ah p.2 i with|.int z,some (.lst true ds)=>A4 (decide (0<=z/\z.toNat<=ds.length)&&bj ds.length) (.ok (.nx (p.2.set i (some (.lst true (ds.take z.toNat++p.1::ds.drop z.toNat))))))|_,_=>A5)=qT i p z (ah p.2 i)
    cases ah p.2 i with
    | none=>rfl
    | some d2=>cases d2<;>first|rfl|(rename_i b _;cases b<;>rfl)
   | _=>rfl
  | _=>rfl
noncomputable def kg (cl:Nat->List D->Res D)(i:Nat)(k:IR)(τ:Ev)(d:D):Option D->Res Fl
 | some (.A0 true ks ds)=>j' (A3 cl k τ) fun y=>(match bO y with|some q=>A4 (ao d&&af ds&&bj ks.length) (.ok (.nx (τ.set i (some (.A0 true (bK ks q) (bc ks ds q d))))))|none=>A5)
 | _=>A5
theorem gx {i:Nat}{k:IR}{d:D}{ks:List Key}{ds:List D}{x:Str}(h:A3 cl k τ=.ok (.str x))(hl:(ao d&&af ds&&bj ks.length)=true):kg cl i k τ d (some (.A0 true ks ds))=.ok (.nx (τ.set i (some (.A0 true (bK ks (.inr x)) (bc ks ds (.inr x) d))))):=by
 show (j' (A3 cl k τ) fun y=>(match bO y with|some q=>A4 (ao d&&af ds&&bj ks.length) (.ok (Fl.nx (τ.set i (some (.A0 true (bK ks q) (bc ks ds q d))))))|none=>A5))=_
 rw[h]
 show A4 _ _=_
 rw[hl]
 rfl
noncomputable def tj (cl:Nat->List D->Res D)(i:Nat)(k:IR)(τ:Ev)(d:D):Res Fl:=kg cl i k τ d (ah τ i)
theorem kh {i:Nat}{k:IR}{d:D}:tj cl i k τ d=kg cl i k τ d (ah τ i):=rfl
theorem CQ {i:Nat}{k e:IR}:B6 cl (.Cf i k e) τ=j' (A3 cl e τ) (tj cl i k τ):=rfl
noncomputable def y3 (cl:Nat->List D->Res D)(f:Nat)(ds:List D):Res Fl:=j' (B5 (cl f (A6 ds++[.A0 false [] []]))) i9
theorem ou {f:Nat}{ds:List D}:y3 cl f ds=j' (B5 (cl f (A6 ds++[.A0 false [] []]))) i9:=rfl
theorem ox {d:D}{ks:List Key}{vs:List D}:i9 (.tup [d,.A0 false ks vs])=A4 (af vs) (.ok (.rt d)):=rfl
noncomputable def tm (d:D):Option D->Res Fl
 | some (.A0 true ks vs)=>A4 (af vs) (.ok (.ri d ks vs))
 | _=>A5
theorem ki {d:D}{ks:List Key}{vs:List D}:tm d (some (.A0 true ks vs))=A4 (af vs) (.ok (.ri d ks vs)):=rfl
theorem kj {i:Nat}{d:D}:ia i (d,τ)=tm d (ah τ i):=rfl
theorem CS {i:Nat}{e:IR}:B6 cl (.Cb i e) τ=j' (BF cl true e τ) (ia i):=rfl
noncomputable def tq (cl:Nat->List D->Res D)(i:Nat)(k:IR)(f:Nat)(es:List IR)(τ:Ev):Option D->Res Fl
 | some (.A0 true ks vs)=>A4 (af vs) (j' (ay cl es τ) fun ds=>j' (B5 (cl f (A6 ds++[D.A0 false ks vs]))) (ib cl i k (Bb (aj es) τ)))
 | _=>A5
theorem B9 {i:Nat}{k:IR}{f:Nat}{es:List IR}:B6 cl (.D4 i k f es) τ=tq cl i k f es τ (ah τ i):=by
 show (match ah τ i with|some (.A0 true ks vs)=>A4 (af vs) (j' (ay cl es τ) fun ds=>j' (B5 (cl f (A6 ds++[D.A0 false ks vs]))) (ib cl i k (Bb (aj es) τ)))|_=>A5)=_
 rcases ah τ i with _|d
 ·rfl
 ·cases d<;>first|rfl|(rename_i o ks ds;cases o<;>rfl)
noncomputable def za (cl:Nat->List D->Res D)(a b:List IS)(p:Bool×Ev):Res Fl:=if p.1=true then aD cl a p.2 else aD cl b p.2
noncomputable def zb (cl:Nat->List D->Res D)(i:Nat)(k e:IR)(a b:List IS)(τ:Ev)(d:D):Res Fl:=j' (ic cl i k e τ d) (za cl a b)
noncomputable def zd (cl:Nat->List D->Res D)(f:Nat)(es:List IR)(i:Nat)(k e:IR)(a b:List IS)(τ:Ev):Option D->Res Fl
 | some (.A0 true ks vs)=>A4 (af vs) (j' (ay cl es τ) fun ds=>j' (B5 (cl f (A6 ds++[D.A0 false ks vs]))) (zb cl i k e a b (Bb (aj es) τ)))
 | _=>A5
theorem Cu {f:Nat}{es:List IR}{i:Nat}{k e:IR}{a b:List IS}:B6 cl (.DL f es i k e a b) τ=zd cl f es i k e a b τ (ah τ i):=by
 show (match ah τ i with|some (.A0 true ks vs)=>A4 (af vs) (j' (ay cl es τ) fun ds=>j' (B5 (cl f (A6 ds++[D.A0 false ks vs]))) fun d=>j' (ic cl i k e (Bb (aj es) τ) d) fun p=>if p.1=true then aD cl a p.2 else aD cl b p.2)|_=>A5)=_
 rcases ah τ i with _|d
 ·rfl
 ·cases d<;>first|rfl|(rename_i o ks ds;cases o<;>rfl)
theorem Du {f:Nat}{es:List IR}:B6 cl (.Im f es) τ=j' (ay cl es τ) (y3 cl f):=rfl
noncomputable def ze (cl:Nat->List D->Res D)(j f:Nat)(es:List IR)(i:Nat)(τ:Ev):Option D->Res Fl
 | some (.A0 true ks vs)=>A4 (af vs) (j' (ay cl es τ) fun ds=>j' (B5 (cl f (A6 ds++[D.A0 false ks vs]))) (mq j i (Bb (aj es) τ)))
 | _=>A5
theorem CC {j f:Nat}{es:List IR}{i:Nat}:B6 cl (.GY j f es i) τ=ze cl j f es i τ (ah τ i):=by
 show (match ah τ i with|some (.A0 true ks vs)=>A4 (af vs) (j' (ay cl es τ) fun ds=>j' (B5 (cl f (A6 ds++[D.A0 false ks vs]))) (mq j i (Bb (aj es) τ)))|_=>A5)=_
 rcases ah τ i with _|d
 ·rfl
 ·cases d<;>first|rfl|(rename_i o ks ds;cases o<;>rfl)
theorem Dv {i:Nat}{e:IR}:B6 cl (.app i e) τ=yY cl i e τ (ah τ i):=rfl
noncomputable def zg (τ:Ev)(d:D):Res Fl:=.ok (.nx τ)
theorem oy {d:D}:zg τ d=.ok (.nx τ):=rfl
theorem Dx {e:IR}:B6 cl (.exp e) τ=j' (A3 cl e τ) (zg τ):=rfl
noncomputable def NK (p:D×Ev):Res Fl:=.ok (.rt p.1)
theorem tw {p:D×Ev}:NK p=.ok (.rt p.1):=rfl
theorem Dw {e:IR}:B6 cl (.ret e) τ=j' (BF cl true e τ) NK:=rfl
noncomputable def NM (cl:Nat->List D->Res D)(a b:List IS)(τ:Ev)(r:Bool):Res Fl:=if r=true then aD cl a τ else aD cl b τ
theorem tx {a b:List IS}{r:Bool}:NM cl a b τ r=if r=true then aD cl a τ else aD cl b τ:=rfl
theorem Es {t:IR}{a b:List IS}:B6 cl (.Bn t a b) τ=j' (Io cl t τ) (NM cl a b τ):=rfl
noncomputable def turn (cl:Nat->List D->Res D)(tg:Tg)(body:List IS)(x:D)(τ:Ev):Res Fl:=j' (bp tg x τ) (aD cl body)
theorem aA {tg:Tg}{body:List IS}{x:D}:turn cl tg body x τ=j' (bp tg x τ) (aD cl body):=rfl
noncomputable def zh (cl:Nat->List D->Res D)(tg:Tg)(body:List IS)(p:List D×Ev):Res Fl:=forM (turn cl tg body) p.1 p.2
theorem oz {tg:Tg}{body:List IS}{p:List D×Ev}:zh cl tg body p=forM (turn cl tg body) p.1 p.2:=rfl
theorem Dy {tg:Tg}{s:Sr}{body:List IS}:B6 cl (.BE tg s body) τ=j' (hU cl s τ) (zh cl tg body):=rfl
noncomputable def qU (f:Ev->Res Fl):Fl->Res Fl
 | .nx A7=>f A7
 | .ct A7=>.ok (.ct A7)
 | .bk A7=>.ok (.bk A7)
 | .rt d=>.ok (.rt d)
 | .ri d ks vs=>.ok (.ri d ks vs)
theorem zi:aD cl [] τ=.ok (.nx τ):=rfl
theorem zj {s:IS}{r:List IS}:aD cl (s::r) τ=j' (B6 cl s τ) (qU (aD cl r)):=rfl
theorem tF {f:Ev->Res Fl}:qU f (.nx τ)=f τ:=rfl
theorem tH {f:Ev->Res Fl}{d:D}{ks:List Key}{vs:List D}:qU f (.ri d ks vs)=.ok (.ri d ks vs):=rfl
theorem tI {f:Ev->Res Fl}{d:D}:qU f (.rt d)=.ok (.rt d):=rfl
noncomputable def zk (τ:Ev)(its:List D):Res (List D×Ev):=.ok (its,τ)
theorem oA {its:List D}:zk τ its=.ok (its,τ):=rfl
noncomputable def oB (e:IR)(τ:Ev)(its:List D):Res (List D×Ev):=.ok (A6 its,Bb (vars e) τ)
theorem kl {e:IR}{its:List D}:oB e τ its=.ok (A6 its,Bb (vars e) τ):=rfl
theorem tJ {n:IR}:hU cl (.B4 n) τ=j' (bZ cl (.B4 n) τ) (zk τ):=rfl
theorem tK {e:IR}:hU cl (.rev e) τ=j' (bZ cl (.rev e) τ) (oB e τ):=rfl
theorem tM {e:IR}:hU cl (.val e) τ=j' (bZ cl (.val e) τ) (oB e τ):=rfl
noncomputable def wd (body:D->Ev->Res Fl)(xs:List D):Fl->Res Fl
 | .nx A7=>forM body xs A7
 | .ct A7=>forM body xs A7
 | .bk A7=>.ok (.nx A7)
 | .rt d=>.ok (.rt d)
 | .ri d ks vs=>.ok (.ri d ks vs)
theorem tN {body:D->Ev->Res Fl}:forM body [] τ=.ok (.nx τ):=rfl
theorem bV {body:D->Ev->Res Fl}{x:D}{xs:List D}:forM body (x::xs) τ=j' (body x τ) (wd body xs):=rfl
theorem km {body:D->Ev->Res Fl}{xs:List D}:wd body xs (.nx τ)=forM body xs τ:=rfl
theorem tO {body:D->Ev->Res Fl}{xs:List D}{d:D}:wd body xs (.rt d)=.ok (.rt d):=rfl
theorem zl {i:Nat}{d:D}:bp (.nm i) d τ=.ok (τ.set i (some d)):=rfl
theorem zm {ts:List Tg}{ds:List D}:bp (.tp ts) (.tup ds) τ=A4 (decide (ds.length=ts.length)) (cO ts ds τ):=rfl
theorem tP:cO [] [] τ=.ok τ:=rfl
theorem tQ {t:Tg}{ts:List Tg}{d:D}{ds:List D}:cO (t::ts) (d::ds) τ=j' (bp t d τ) (cO ts ds):=rfl
theorem zo {o:Option D}:ah (o::τ) 0=o:=by unfold ah;simp
theorem zp {o:Option D}{i:Nat}:ah (o::τ) (i+1)=ah τ i:=aT
theorem tR {o p:Option D}:(o::τ).set 0 p=p::τ:=rfl
theorem tS {o p:Option D}{i:Nat}:(o::τ).set (i+1) p=o::τ.set i p:=rfl
theorem tT {a b:Int}:C1 .add (.int a) (.int b)=.ok (.int (a+b)):=rfl
theorem jn {a b:Str}:C1 .add (.str a) (.str b)=A4 (aU (a.length+b.length)) (.ok (.str (a++b))):=rfl
theorem tV {a b:Int}:C1 .sub (.int a) (.int b)=.ok (.int (a - b)):=rfl
theorem tW {a b:Int}:C1 .mul (.int a) (.int b)=A4 (decide (-(2 ^ 64) < a/\a < 2 ^ 64)||decide (-(2 ^ 64) < b/\b < 2 ^ 64)) (.ok (.int (a*b))):=rfl
theorem we {a b:Int}:C1 .fdiv (.int a) (.int b)=A4 (decide (0 < b/\b < 1073741824)) (.ok (.int (a / b))):=rfl
theorem zq {a b:Int}:C1 .mod (.int a) (.int b)=A4 (decide (0 < b)) (.ok (.int (a % b))):=rfl
theorem tX {a b:Int}:C1 .pow (.int a) (.int b)=A4 (decide (0<=b/\b<=1000000/\a.natAbs < 2 ^ 64)) (.ok (.int (a ^ b.toNat))):=rfl
theorem L5 {o:Bool}{ds:List D}{i:Int}:au (.lst o ds) (.int i)=(match CL ds i with|some d=>.ok d|none=>A5):=rfl
theorem NN {ds:List D}{i:Int}:au (.tup ds) (.int i)=(match CL ds i with|some d=>.ok d|none=>A5):=rfl
theorem Qb {z:Str}{i:Int}:au (.str z) (.int i)=A4 (aU z.length) (match CL z.cps.toList i with|some c=>.ok (.str ⟨#[c]⟩)|none=>A5):=rfl
theorem zr {z:Str}{lo hi:Option Int}:i4 (.str z) lo hi=A4 (aU z.length) (.ok (.str (Txt.slice z lo hi))):=rfl
theorem zt {b:Bool}:aE (.bl b)=.ok b:=rfl
theorem zu {a b:D}:Cj .eq a b=BV 40 a b:=by cases a<;>cases b<;>rfl
noncomputable def zv (r:Bool):Res Bool:=.ok !r
theorem oC {r:Bool}:zv r=.ok !r:=rfl
theorem zw {a b:D}:Cj .ne a b=j' (BV 40 a b) zv:=by cases a<;>cases b<;>rfl
theorem zx {n:Nat}{a b:Int}:BV (n+1) (.int a) (.int b)=.ok (a == b):=rfl
theorem zA {n:Nat}{a b:Str}:BV (n+1) (.str a) (.str b)=.ok (a == b):=rfl
theorem zB {n:Nat}{a b:Bool}:BV (n+1) (.bl a) (.bl b)=.ok (a == b):=rfl
theorem zC {n:Nat}{a b:List D}:BV (n+1) (.tup a) (.tup b)=bQ (BV n) a b:=rfl
theorem zD {n:Nat}{o o':Bool}{a b:List D}:BV (n+1) (.lst o a) (.lst o' b)=bQ (BV n) a b:=rfl
theorem zE {a b:Int}:Cj .lt (.int a) (.int b)=.ok (decide (a < b)):=rfl
theorem zF {a b:Int}:Cj .le (.int a) (.int b)=.ok (decide (a<=b)):=rfl
theorem zG {a b:Int}:Cj .gt (.int a) (.int b)=.ok (decide (b < a)):=rfl
theorem tY {y x:Str}:Cj .EA (.str y) (.str x)=.ok (g8 x y):=rfl
theorem zH {a:D}:Cj .E0 a .A8=.ok (bJ a):=by cases a<;>rfl
theorem tZ {a:D}:Cj .EO a .A8=.ok (!bJ a):=by cases a<;>rfl
theorem NO:bJ .A8=true:=rfl
theorem NP {i:Int}:bJ (.int i)=false:=rfl
theorem NQ {i:Str}:bJ (.str i)=false:=rfl
theorem NR {b:Bool}:bJ (.bl b)=false:=rfl
theorem NT {ds:List D}:bJ (.tup ds)=false:=rfl
theorem NU {o:Bool}{ds:List D}:bJ (.lst o ds)=false:=rfl
theorem t4 {x:Str}:cy .len [.str x]=A4 (aU x.length) (.ok (.int x.length)):=rfl
theorem t5 {ds:List D}:cy .len [.tup ds]=.ok (.int ds.length):=rfl
theorem t6 {o:Bool}{ds:List D}:cy .len [.lst o ds]=.ok (.int ds.length):=rfl
theorem oD {x:Str}:cy .ord [.str x]=A4 (decide (x.length=1)) (.ok (.int (x.cps.getD 0 0:Nat))):=rfl
theorem kn {o:Bool}{ds:List D}:cy .tuple [.lst o ds]=.ok (.tup ds):=rfl
theorem qV (ns:List Bool):bB (ns.map .bl)=some ns:=by
 induction ns with
 | nil=>rfl
 | cons n ns ih=>
  show (bB (ns.map .bl)).map (n::·)=_
  rw[ih]
  rfl
theorem oE {o:Bool}{bs:List Bool}:cy .all [.lst o (bs.map .bl)]=.ok (.bl (bs.all id)):=by
 show (match bB (bs.map .bl) with|some bs=>.ok (.bl (bs.all id))|none=>A5)=(_:Res D)
 rw[qV]
theorem oG {x:Str}:aW .str (.str x)=true:=rfl
theorem oH {x:Int}:aW .int (.int x)=true:=rfl
theorem oI {x:Int}:aW .bool (.int x)=false:=rfl
theorem oJ {x:List D}:aW .tuple (.tup x)=true:=rfl
theorem iI {i:Int}:aW .str (.int i)=false:=rfl
theorem iJ {ds:List D}:aW .str (.tup ds)=false:=rfl
theorem iK {o:Bool}{ds:List D}:aW .str (.lst o ds)=false:=rfl
theorem iL {ds:List D}:aW .int (.tup ds)=false:=rfl
theorem iM {o:Bool}{ds:List D}:aW .int (.lst o ds)=false:=rfl
theorem fE {b:Bool}:aW .bool (.bl b)=true:=rfl
theorem fF {x:Str}:aW .bool (.str x)=false:=rfl
theorem fG {ds:List D}:aW .bool (.tup ds)=false:=rfl
theorem fH {o:Bool}{ds:List D}:aW .bool (.lst o ds)=false:=rfl
theorem fI:aW .list (.A8)=false:=rfl
theorem fJ {b:Bool}:aW .list (.bl b)=false:=rfl
theorem fK {i:Int}:aW .list (.int i)=false:=rfl
theorem fL {x:Str}:aW .list (.str x)=false:=rfl
theorem fM {ds:List D}:aW .list (.tup ds)=false:=rfl
theorem fN {o:Bool}{ds:List D}:aW .list (.lst o ds)=true:=rfl
theorem eE:aW .tuple (.A8)=false:=rfl
theorem eF {b:Bool}:aW .tuple (.bl b)=false:=rfl
theorem eG {i:Int}:aW .tuple (.int i)=false:=rfl
theorem eI {x:Str}:aW .tuple (.str x)=false:=rfl
theorem eJ {o:Bool}{ds:List D}:aW .tuple (.lst o ds)=false:=rfl
theorem AV (ns:List Int):af (ns.map .int)=true:=by
 rw[aS,List.all_map,List.all_eq_true]
 intro x _
 rfl
theorem qW (ns:List Str):af (ns.map .str)=true:=by
 rw[aS,List.all_map,List.all_eq_true]
 intro x _
 rfl
theorem zI {i:Int}:er (.int i)=.int i:=by rw[er]
theorem zJ {i:Str}:er (.str i)=.str i:=by rw[er]
theorem zK {i:Bool}:er (.bl i)=.bl i:=by rw[er]
theorem zL:er .A8=.A8:=by rw[er]
theorem zM {ds:List D}:er (.tup ds)=.tup (A6 ds):=by rw[er]
theorem zN {o:Bool}{ds:List D}:er (.lst o ds)=.lst false (A6 ds):=by rw[er]
theorem t7:A6 []=[]:=by rw[A6]
theorem t9 {d:D}{ds:List D}:A6 (d::ds)=er d::A6 ds:=by rw[A6]
theorem eK (ns:List Int):A6 (ns.map .int)=ns.map .int:=bY (AV ns)
theorem ck (ns:List Str):A6 (ns.map .str)=ns.map .str:=bY (qW ns)
theorem ua {i:Int}:ao (.int i)=true:=rfl
theorem ub {i:Str}:ao (.str i)=true:=rfl
theorem uc {i:Bool}:ao (.bl i)=true:=rfl
theorem ud:ao .A8=true:=rfl
theorem ue {ds:List D}:ao (.tup ds)=af ds:=rfl
theorem uf {o:Bool}{ds:List D}:ao (.lst o ds)=false:=rfl
theorem oK:af []=true:=rfl
theorem oM {d:D}{ds:List D}:af (d::ds)=(ao d&&af ds):=rfl
noncomputable def qX:Fl->Res D
 | .nx _=>.ok .A8
 | .rt d=>.ok d
 | _=>A5
theorem run {fn:Fn}{ds:List D}(h:ds.length=fn.np):b9 cl fn ds=j' (aD cl fn.body (ds.map some++List.replicate (fn.G.N.length - fn.np) none)) qX:=by
 unfold b9
 rw[decide_eq_true h]
 rfl
theorem oN:qX (.nx τ)=.ok .A8:=rfl
theorem oO {d:D}:qX (.rt d)=.ok d:=rfl
theorem call {T:Tb}{n f:Nat}{fn:Fn}{ds:List D}(h:T f=some fn)(h0:fn.io=false):ae T (n+1) f ds=b9 (ae T n) fn ds:=by
 show (match T f with|some fn=>(match fn.io with|false=>b9 (ae T n) fn ds|true=>cb (ae T n) fn ds)|none=>A5)=_
 rw[h]
 show (match fn.io with|false=>b9 (ae T n) fn ds|true=>cb (ae T n) fn ds)=_
 rw[h0]
noncomputable def NV:Fl->Res D
 | .ri d ks vs=>.ok (.tup [d,.A0 false ks vs])
 | _=>A5
theorem cC {d:D}{ks:List Key}{vs:List D}:NV (.ri d ks vs)=.ok (.tup [d,.A0 false ks vs]):=rfl
theorem L6 {T:Tb}{n f:Nat}{fn:Fn}{ds:List D}{m k:Nat}{body:List IS}(h:T f=some fn)(h0:fn.io=true)(h1:fn.np=m)(h2:fn.G.N.length=k)(h3:fn.body=body)(hl:ds.length=m) :
  ae T (n+1) f ds=j' (aD (ae T n) body ((mr ds).map some++List.replicate (k - m) none)) NV:=by
 show (match T f with|some fn=>(match fn.io with|false=>b9 (ae T n) fn ds|true=>cb (ae T n) fn ds)|none=>A5)=_
 rw[h]
 show (match fn.io with|false=>b9 (ae T n) fn ds|true=>cb (ae T n) fn ds)=_
 rw[h0]
 show cb (ae T n) fn ds=_
 unfold cb
 rw[decide_eq_true (show ds.length=fn.np by rw[hl,h1]),h1,h2,h3]
 show j' _ _=j' _ _
 congr 1
theorem go {T:Tb}{n f:Nat}{fn:Fn}{ds:List D}{m k:Nat}{body:List IS}(h:T f=some fn)(h0:fn.io=false)(h1:fn.np=m)(h2:fn.G.N.length=k)(h3:fn.body=body)(hl:ds.length=m) :
  ae T (n+1) f ds=j' (aD (ae T n) body (ds.map some++List.replicate (k - m) none)) qX:=by
 rw[call h h0,run (by rw[hl,h1]),h1,h2,h3]
end
end Ev
namespace Ev
section
variable {cl:Nat->List D->Res D}{τ:Ev}
theorem line:sizeLine=16777216:=sizeLine_eq
theorem oP {a b:Int}(h1 : -18446744073709551616 < a)(h2:a < 18446744073709551616):C1 .mul (.int a) (.int b)=.ok (.int (a*b)):=by
 rw[tW,decide_eq_true (show -(2 ^ 64) < a/\a < 2 ^ 64 from ⟨by omega,by omega⟩)]
 rfl
theorem oQ {a b:Int}(h1 : -18446744073709551616 < b)(h2:b < 18446744073709551616):C1 .mul (.int a) (.int b)=.ok (.int (a*b)):=by
 rw[tW,decide_eq_true (show -(2 ^ 64) < b/\b < 2 ^ 64 from ⟨by omega,by omega⟩),Bool.or_true]
 rfl
theorem oR {a b:Int}(h1:0 < b)(h2:b < 1073741824):C1 .fdiv (.int a) (.int b)=.ok (.int (a / b)):=by
 rw[we,decide_eq_true ⟨h1,h2⟩]
 rfl
theorem ug {a b:Int}(h1:0 < b):C1 .mod (.int a) (.int b)=.ok (.int (a % b)):=by
 rw[zq,decide_eq_true h1]
 rfl
theorem gA {n:Nat}(h:n<=16777216):aU n=true:=decide_eq_true (by rw[line];exact h)
theorem gB {n:Nat}(h:n < 16777216):bj n=true:=decide_eq_true (by rw[line];exact h)
theorem ko {i:Int}(h1 : -4611686018427387904<=i)(h2:i < 4611686018427387904):bC i=true:=decide_eq_true ⟨by omega,by omega⟩
theorem kq {α β:Type}(f:α->β)(xs:List α)(i:Int):CL (xs.map f) i=(CL xs i).map f:=by
 unfold CL
 rw[List.length_map]
 cases Ge xs.length i with
 | none=>rfl
 | some j=>exact List.getElem?_map ..
theorem gC {α:Type}{xs:List α}{i:Int}(d:α)(h0:0<=i)(h1:i < xs.length):CL xs i=some (xs.getD i.toNat d):=by
 unfold CL Ge
 rw[if_pos h0,if_pos h1]
 show xs[i.toNat]? = _
 have:i.toNat < xs.length:=by omega
 rw[List.getD_eq_getElem?_getD,List.getElem?_eq_getElem this]
 rfl
theorem NW {o:Bool}{xs:List Int}{i:Int}(h0:0<=i)(h1:i < xs.length):au (.lst o (xs.map .int)) (.int i)=.ok (.int (xs.getD i.toNat 0)):=by
 rw[L5,kq,gC 0 h0 h1]
 rfl
theorem wg {o:Bool}{xs:List Str}{i:Int}(h0:0<=i)(h1:i < xs.length):au (.lst o (xs.map .str)) (.int i)=.ok (.str (xs.getD i.toNat ⟨#[]⟩)):=by
 rw[L5,kq,gC ⟨#[]⟩ h0 h1]
 rfl
theorem L7 {z:Str}{i:Int}(h0:0<=i)(h1:i < z.length)(hz:z.length<=16777216):au (.str z) (.int i)=.ok (.str ⟨#[z.cps.toList.getD i.toNat 0]⟩):=by
 rw[Qb,gA hz]
 have hl:z.cps.toList.length=z.length:=by simp[Str.length]
 rw[gC 0 h0 (by rw[hl];exact h1)]
 rfl
noncomputable def fz:Bool->Option D->Option D
 | true,some d=>some (er d)
 | true,none=>none
 | false,o=>o
theorem zO {d:D}:fz true (some d)=some (er d):=rfl
theorem zP {o:Option D}:fz false o=o:=rfl
theorem uh {is:List Nat}{k:Nat}:dt is k []=[]:=rfl
theorem ui {is:List Nat}{k:Nat}{o:Option D}{τ:Ev}:dt is k (o::τ)=fz (is.contains k) o::dt is (k+1) τ:=by
 show (if is.contains k then o.map er else o)::dt is (k+1) τ=_
 cases is.contains k<;>cases o<;>rfl
theorem zQ {d:D}:vars (.c d)=[]:=rfl
theorem zR {n:Nat}{d:D}:vars (.g n d)=[]:=rfl
theorem zS {i:Nat}:vars (.v i)=[i]:=rfl
theorem oT {o:EZ}{a b:IR}:vars (.bin o a b)=vars a++vars b:=rfl
theorem oU {es:List IR}:vars (.lst es)=aj es:=rfl
theorem kr {f:Nat}{es:List IR}:vars (.call f es)=aj es:=rfl
theorem uj {f:Bi}{es:List IR}:vars (.bi f es)=aj es:=rfl
theorem oV {a i:IR}:vars (.idx a i)=vars a++vars i:=rfl
theorem uk:aj []=[]:=rfl
theorem um {e:IR}{es:List IR}:aj (e::es)=vars e++aj es:=rfl
theorem ku {G:Gm}{fr:List Nat}{t:Tg}{s:Sr}{i:List IR}{e:IR}:aX (.comp G fr t s i e)=true:=rfl
theorem oW {a i:IR}:aX (.idx a i)=false:=rfl
theorem zT {e:IR}{o:Bool}{ds:List D}{τ:Ev}:aB e (.lst o ds) τ=cond (aX e) (cond (af ds) (.lst true ds,τ) (.lst true (A6 ds),Bb (vars e) τ)) (.lst false (A6 ds),Bb (vars e) τ):=by
 unfold aB
 rw[if_neg (show ¬ ao (.lst o ds)=true by intro z;cases z)]
 cases aX e
 ·exact Prod.ext (by show er (.lst o ds)=_;rw[er];rfl) rfl
 ·show (if af ds=true then _ else _)=_
  cases af ds<;>rfl
theorem zU {e:IR}{ds:List D}{τ:Ev}:aB e (.tup ds) τ=cond (af ds) (.tup ds,τ) (.tup (A6 ds),Bb (vars e) τ):=by
 unfold aB
 cases h:af ds with
 | true=>rw[if_pos (show ao (.tup ds)=true from h)];rfl
 | false=>
  rw[if_neg (show ¬ ao (.tup ds)=true by intro z;rw[show ao (.tup ds)=af ds from rfl,h] at z;cases z)]
  cases aX e<;>exact Prod.ext (by show er (.tup ds)=_;rw[er];rfl) rfl
theorem kx {body:D->Ev->Res Fl}(P:Nat->Ev->Prop):∀ (its:List D) (k:Nat) (τ:Ev),P k τ->(∀ (i:Nat) (x:D) (τ:Ev),its[i]? = some x->P (k+i) τ->∃ A7,body x τ=.ok (.nx A7)/\P (k+i+1) A7)->∃ A7,forM body its τ=.ok (.nx A7)/\P (k+its.length) A7
 | [],k,τ,h,_=>⟨τ,rfl,h⟩
 | x::xs,k,τ,h,hb=>by
  obtain⟨Fj,e1,h1⟩:=hb 0 x τ rfl h
  obtain⟨FZ,e2,h2⟩:=kx P xs (k+1) Fj h1 fun i y σ hy hp=>by
   obtain⟨A7,e',h'⟩:=hb (i+1) y σ (by simpa using hy) (by rw[show k+(i+1)=k+1+i by omega];exact hp)
   exact⟨A7,e',by rw[show k+1+i+1=k+(i+1)+1 by omega];exact h'⟩
  refine⟨FZ,?_,by rw[List.length_cons,show k+(xs.length+1)=k+1+xs.length by omega];exact h2⟩
  rw[bV,e1,jV,km,e2]
theorem qY {body:D->Ev->Res Fl}(P:Nat->Ev->Prop){its:List D}{τ:Ev}(h:P 0 τ)(hb:∀ (i:Nat)(x:D)(τ:Ev),its[i]? = some x->P i τ->∃ A7,body x τ=.ok (.nx A7)/\P (i+1) A7):∃ A7,forM body its τ=.ok (.nx A7)/\P its.length A7:=by
 obtain⟨A7,h1,h2⟩:=kx P its 0 τ h fun i x τ hx hp=>by
  rw[Nat.zero_add] at hp ⊢
  exact hb i x τ hx hp
 exact⟨A7,h1,by rw[Nat.zero_add] at h2;exact h2⟩
theorem iN {α β:Type}{body:D->Ev->Res Fl}(f:β->α->β)(Eu:α->D)(st:β->Ev->Prop):∀ (xs:List α) (b:β) (τ:Ev),st b τ->(∀ (x:α) (b:β) (τ:Ev),x∈xs->st b τ->∃ A7,body (Eu x) τ=.ok (.nx A7)/\st (f b x) A7)->
  ∃ A7,forM body (xs.map Eu) τ=.ok (.nx A7)/\st (xs.foldl f b) A7
 | [],b,τ,h,_=>⟨τ,rfl,h⟩
 | x::xs,b,τ,h,hb=>by
  obtain⟨Fj,e1,h1⟩:=hb x b τ (by simp) h
  obtain⟨FZ,e2,h2⟩:=iN f Eu st xs (f b x) Fj h1 fun y b σ hy hp=>hb y b σ (List.mem_cons_of_mem _ hy) hp
  refine⟨FZ,?_,h2⟩
  rw[List.map_cons,bV,e1,jV,km,e2]
theorem c7 {α β:Type}{g:D->Res (Option D)}(Eu:α->D)(out:α->β)(Ho:β->D):∀ (xs:List α),(∀ x∈xs,g (Eu x)=.ok (some (Ho (out x))))->aP g (xs.map Eu)=.ok ((xs.map out).map Ho)
 | [],_=>rfl
 | x::xs,h=>by
  show j' (g (Eu x)) _=_
  rw[h x (by simp)]
  show j' (aP g (xs.map Eu)) _=_
  rw[c7 Eu out Ho xs fun y hy=>h y (List.mem_cons_of_mem _ hy)]
  rfl
theorem uo {α:Type}{a:α}:B5 (.ok a:Res α)=.ok a:=rfl
theorem oX (a b:Int):bE a b=((List.range (b - a).toNat).map fun k=>a+(k:Nat)).map .int:=by
 unfold bE
 rw[List.map_map]
 rfl
end
end Ev
theorem Bl:type_of% (And.intro (And.intro (And.intro (And.intro (And.intro (And.intro (And.intro (And.intro @Ev.jV @Ev.sg) (And.intro @Ev.Nr @Ev.Nt)) (And.intro (And.intro @Ev.Nu @Ev.nk) (And.intro @Ev.sh (And.intro @Ev.si @Ev.jW)))) (And.intro (And.intro (And.intro @Ev.nq @Ev.sj) (And.intro @Ev.nt @Ev.nu)) (And.intro (And.intro @Ev.sk @Ev.jX) (And.intro @Ev.jY (And.intro @Ev.ny @Ev.so))))) (And.intro (And.intro (And.intro (And.intro @Ev.nA @Ev.sr) (And.intro @Ev.yn @Ev.jZ)) (And.intro (And.intro @Ev.nC @Ev.su) (And.intro @Ev.nD (And.intro @Ev.sv @Ev.nE)))) (And.intro (And.intro (And.intro @Ev.sy @Ev.nG) (And.intro @Ev.sA (And.intro @Ev.nH @Ev.sC))) (And.intro (And.intro @Ev.yq @Ev.j0) (And.intro @Ev.nI (And.intro @Ev.yr @Ev.nJ)))))) (And.intro (And.intro (And.intro (And.intro (And.intro @Ev.yu @Ev.yv) (And.intro @Ev.yy @Ev.yz)) (And.intro (And.intro @Ev.yB @Ev.yC) (And.intro @Ev.j5 (And.intro @Ev.nK @Ev.nL)))) (And.intro (And.intro (And.intro @Ev.nM @Ev.sG) (And.intro @Ev.sH @Ev.nN)) (And.intro (And.intro @Ev.j6 @Ev.nO) (And.intro @Ev.yE (And.intro @Ev.j7 @Ev.sJ))))) (And.intro (And.intro (And.intro (And.intro @Ev.yF @Ev.nQ) (And.intro @Ev.yI @Ev.yJ)) (And.intro (And.intro @Ev.yL @Ev.sL) (And.intro @Ev.yM (And.intro @Ev.j8 @Ev.yN)))) (And.intro (And.intro (And.intro @Ev.nS @Ev.iF) (And.intro @Ev.iG (And.intro @Ev.nT @Ev.sN))) (And.intro (And.intro @Ev.nU @Ev.sO) (And.intro @Ev.sP (And.intro @Ev.sQ @Ev.yQ))))))) (And.intro (And.intro (And.intro (And.intro (And.intro (And.intro @Ev.yR @Ev.yS) (And.intro @Ev.NA @Ev.Kw)) (And.intro (And.intro @Ev.j9 @Ev.El) (And.intro @Ev.ka (And.intro @Ev.Em @Ev.kb)))) (And.intro (And.intro (And.intro @Ev.En @Ev.fD) (And.intro @Ev.iH @Ev.Dq)) (And.intro (And.intro @Ev.kc @Ev.NB) (And.intro @Ev.sU (And.intro @Ev.sV @Ev.sW))))) (And.intro (And.intro (And.intro (And.intro @Ev.sX @Ev.yT) (And.intro @Ev.yU @Ev.Dr)) (And.intro (And.intro @Ev.nW @Ev.nX) (And.intro @Ev.yV (And.intro @Ev.nY @Ev.sY)))) (And.intro (And.intro (And.intro @Ev.yW @Ev.sZ) (And.intro @Ev.nZ (And.intro @Ev.tf @Ev.ke))) (And.intro (And.intro @Ev.n0 @Ev.NG) (And.intro @Ev.NH (And.intro @Ev.NI @Ev.NJ)))))) (And.intro (And.intro (And.intro (And.intro (And.intro @Ev.ti @Ev.n6) (And.intro @Ev.Ds @Ev.n8)) (And.intro (And.intro @Ev.n9 @Ev.og) (And.intro @Ev.oh (And.intro @Ev.oj @Ev.om)))) (And.intro (And.intro (And.intro @Ev.oq @Ev.Dt) (And.intro @Ev.gx @Ev.kh)) (And.intro (And.intro @Ev.CQ @Ev.ou) (And.intro @Ev.ox (And.intro @Ev.ki @Ev.kj))))) (And.intro (And.intro (And.intro (And.intro @Ev.CS @Ev.B9) (And.intro @Ev.Cu @Ev.Du)) (And.intro (And.intro @Ev.CC @Ev.Dv) (And.intro @Ev.oy (And.intro @Ev.Dx @Ev.tw)))) (And.intro (And.intro (And.intro @Ev.Dw @Ev.tx) (And.intro @Ev.Es (And.intro @Ev.oz @Ev.Dy))) (And.intro (And.intro @Ev.zi @Ev.zj) (And.intro @Ev.tF (And.intro @Ev.tH @Ev.tI)))))))) (And.intro (And.intro (And.intro (And.intro (And.intro (And.intro (And.intro @Ev.oA @Ev.kl) (And.intro @Ev.tJ @Ev.tK)) (And.intro (And.intro @Ev.tM @Ev.tN) (And.intro @Ev.bV (And.intro @Ev.km @Ev.tO)))) (And.intro (And.intro (And.intro @Ev.zl @Ev.zm) (And.intro @Ev.tP @Ev.tQ)) (And.intro (And.intro @Ev.zo @Ev.zp) (And.intro @Ev.tR (And.intro @Ev.tS @Ev.tT))))) (And.intro (And.intro (And.intro (And.intro @Ev.jn @Ev.tV) (And.intro @Ev.tX @Ev.NN)) (And.intro (And.intro @Ev.zr @Ev.zt) (And.intro @Ev.zu (And.intro @Ev.oC @Ev.zw)))) (And.intro (And.intro (And.intro @Ev.zx @Ev.zA) (And.intro @Ev.zB (And.intro @Ev.zC @Ev.zD))) (And.intro (And.intro @Ev.zE @Ev.zF) (And.intro @Ev.zG (And.intro @Ev.tY @Ev.zH)))))) (And.intro (And.intro (And.intro (And.intro (And.intro @Ev.tZ @Ev.NO) (And.intro @Ev.NP @Ev.NQ)) (And.intro (And.intro @Ev.NR @Ev.NT) (And.intro @Ev.NU (And.intro @Ev.t4 @Ev.t5)))) (And.intro (And.intro (And.intro @Ev.t6 @Ev.oD) (And.intro @Ev.kn @Ev.oE)) (And.intro (And.intro @Ev.oG @Ev.oH) (And.intro @Ev.oI (And.intro @Ev.oJ @Ev.iI))))) (And.intro (And.intro (And.intro (And.intro @Ev.iJ @Ev.iK) (And.intro @Ev.iL @Ev.iM)) (And.intro (And.intro @Ev.fE @Ev.fF) (And.intro @Ev.fG (And.intro @Ev.fH @Ev.fI)))) (And.intro (And.intro (And.intro @Ev.fJ @Ev.fK) (And.intro @Ev.fL (And.intro @Ev.fM @Ev.fN))) (And.intro (And.intro @Ev.eE @Ev.eF) (And.intro @Ev.eG (And.intro @Ev.eI @Ev.eJ))))))) (And.intro (And.intro (And.intro (And.intro (And.intro (And.intro @Ev.zI @Ev.zJ) (And.intro @Ev.zK @Ev.zL)) (And.intro (And.intro @Ev.zM @Ev.zN) (And.intro @Ev.t7 (And.intro @Ev.t9 @Ev.eK)))) (And.intro (And.intro (And.intro @Ev.ck @Ev.ua) (And.intro @Ev.ub @Ev.uc)) (And.intro (And.intro @Ev.ud @Ev.ue) (And.intro @Ev.uf (And.intro @Ev.oK @Ev.oM))))) (And.intro (And.intro (And.intro (And.intro @Ev.oN @Ev.oO) (And.intro @Ev.cC @Ev.oP)) (And.intro (And.intro @Ev.oQ @Ev.oR) (And.intro @Ev.ug (And.intro @Ev.gA @Ev.gB)))) (And.intro (And.intro (And.intro @Ev.ko @Ev.NW) (And.intro @Ev.wg (And.intro @Ev.L7 @Ev.uo))) (And.intro (And.intro @Ev.zO @Ev.zP) (And.intro @Ev.uh (And.intro @Ev.ui @Ev.zQ)))))) (And.intro (And.intro (And.intro (And.intro (And.intro @Ev.zR @Ev.zS) (And.intro @Ev.oT @Ev.oU)) (And.intro (And.intro @Ev.kr @Ev.uj) (And.intro @Ev.oV (And.intro @Ev.uk @Ev.um)))) (And.intro (And.intro (And.intro @Ev.ku @Ev.oW) (And.intro @Ev.zT @Ev.zU)) (And.intro (And.intro @cond_true.{1} @cond_false.{1}) (And.intro @Ev.qW (And.intro @List.contains_cons.{0} @List.contains_nil.{0}))))) (And.intro (And.intro (And.intro (And.intro @Bool.or_false @Bool.or_true) (And.intro @List.map_cons.{0,0} @List.map_nil.{0,0})) (And.intro (And.intro @List.cons_append.{0} @List.nil_append.{0}) (And.intro @List.replicate_succ.{0} (And.intro @List.replicate_zero.{0} @List.length_cons.{0})))) (And.intro (And.intro (And.intro @List.length_nil.{0} @Nat.zero_add) (And.intro @decide_true (And.intro @Bool.and_self @Bool.not_true))) (And.intro (And.intro @Bool.not_false @beq_self_eq_true.{0}) (And.intro @if_true.{1} (And.intro @if_false.{1} @Bool.false_eq_true))))))))):=⟨⟨⟨⟨⟨⟨⟨⟨@Ev.jV,@Ev.sg⟩,⟨@Ev.Nr,@Ev.Nt⟩⟩,⟨⟨@Ev.Nu,@Ev.nk⟩,⟨@Ev.sh,⟨@Ev.si,@Ev.jW⟩⟩⟩⟩,⟨⟨⟨@Ev.nq,@Ev.sj⟩,⟨@Ev.nt,@Ev.nu⟩⟩,⟨⟨@Ev.sk,@Ev.jX⟩,⟨@Ev.jY,⟨@Ev.ny,@Ev.so⟩⟩⟩⟩⟩,⟨⟨⟨⟨@Ev.nA,@Ev.sr⟩,⟨@Ev.yn,@Ev.jZ⟩⟩,⟨⟨@Ev.nC,@Ev.su⟩,⟨@Ev.nD,⟨@Ev.sv,@Ev.nE⟩⟩⟩⟩,⟨⟨⟨@Ev.sy,@Ev.nG⟩,⟨@Ev.sA,⟨@Ev.nH,@Ev.sC⟩⟩⟩,⟨⟨@Ev.yq,@Ev.j0⟩,⟨@Ev.nI,⟨@Ev.yr,@Ev.nJ⟩⟩⟩⟩⟩⟩,⟨⟨⟨⟨⟨@Ev.yu,@Ev.yv⟩,⟨@Ev.yy,@Ev.yz⟩⟩,⟨⟨@Ev.yB,@Ev.yC⟩,⟨@Ev.j5,⟨@Ev.nK,@Ev.nL⟩⟩⟩⟩,⟨⟨⟨@Ev.nM,@Ev.sG⟩,⟨@Ev.sH,@Ev.nN⟩⟩,⟨⟨@Ev.j6,@Ev.nO⟩,⟨@Ev.yE,⟨@Ev.j7,@Ev.sJ⟩⟩⟩⟩⟩,⟨⟨⟨⟨@Ev.yF,@Ev.nQ⟩,⟨@Ev.yI,@Ev.yJ⟩⟩,⟨⟨@Ev.yL,@Ev.sL⟩,⟨@Ev.yM,⟨@Ev.j8,@Ev.yN⟩⟩⟩⟩,⟨⟨⟨@Ev.nS,@Ev.iF⟩,⟨@Ev.iG,⟨@Ev.nT,@Ev.sN⟩⟩⟩,⟨⟨@Ev.nU,@Ev.sO⟩,⟨@Ev.sP,⟨@Ev.sQ,@Ev.yQ⟩⟩⟩⟩⟩⟩⟩,⟨⟨⟨⟨⟨⟨@Ev.yR,@Ev.yS⟩,⟨@Ev.NA,@Ev.Kw⟩⟩,⟨⟨@Ev.j9,@Ev.El⟩,⟨@Ev.ka,⟨@Ev.Em,@Ev.kb⟩⟩⟩⟩,⟨⟨⟨@Ev.En,@Ev.fD⟩,⟨@Ev.iH,@Ev.Dq⟩⟩,⟨⟨@Ev.kc,@Ev.NB⟩,⟨@Ev.sU,⟨@Ev.sV,@Ev.sW⟩⟩⟩⟩⟩,⟨⟨⟨⟨@Ev.sX,@Ev.yT⟩,⟨@Ev.yU,@Ev.Dr⟩⟩,⟨⟨@Ev.nW,@Ev.nX⟩,⟨@Ev.yV,⟨@Ev.nY,@Ev.sY⟩⟩⟩⟩,⟨⟨⟨@Ev.yW,@Ev.sZ⟩,⟨@Ev.nZ,⟨@Ev.tf,@Ev.ke⟩⟩⟩,⟨⟨@Ev.n0,@Ev.NG⟩,⟨@Ev.NH,⟨@Ev.NI,@Ev.NJ⟩⟩⟩⟩⟩⟩,⟨⟨⟨⟨⟨@Ev.ti,@Ev.n6⟩,⟨@Ev.Ds,@Ev.n8⟩⟩,⟨⟨@Ev.n9,@Ev.og⟩,⟨@Ev.oh,⟨@Ev.oj,@Ev.om⟩⟩⟩⟩,⟨⟨⟨@Ev.oq,@Ev.Dt⟩,⟨@Ev.gx,@Ev.kh⟩⟩,⟨⟨@Ev.CQ,@Ev.ou⟩,⟨@Ev.ox,⟨@Ev.ki,@Ev.kj⟩⟩⟩⟩⟩,⟨⟨⟨⟨@Ev.CS,@Ev.B9⟩,⟨@Ev.Cu,@Ev.Du⟩⟩,⟨⟨@Ev.CC,@Ev.Dv⟩,⟨@Ev.oy,⟨@Ev.Dx,@Ev.tw⟩⟩⟩⟩,⟨⟨⟨@Ev.Dw,@Ev.tx⟩,⟨@Ev.Es,⟨@Ev.oz,@Ev.Dy⟩⟩⟩,⟨⟨@Ev.zi,@Ev.zj⟩,⟨@Ev.tF,⟨@Ev.tH,@Ev.tI⟩⟩⟩⟩⟩⟩⟩⟩,⟨⟨⟨⟨⟨⟨⟨@Ev.oA,@Ev.kl⟩,⟨@Ev.tJ,@Ev.tK⟩⟩,⟨⟨@Ev.tM,@Ev.tN⟩,⟨@Ev.bV,⟨@Ev.km,@Ev.tO⟩⟩⟩⟩,⟨⟨⟨@Ev.zl,@Ev.zm⟩,⟨@Ev.tP,@Ev.tQ⟩⟩,⟨⟨@Ev.zo,@Ev.zp⟩,⟨@Ev.tR,⟨@Ev.tS,@Ev.tT⟩⟩⟩⟩⟩,⟨⟨⟨⟨@Ev.jn,@Ev.tV⟩,⟨@Ev.tX,@Ev.NN⟩⟩,⟨⟨@Ev.zr,@Ev.zt⟩,⟨@Ev.zu,⟨@Ev.oC,@Ev.zw⟩⟩⟩⟩,⟨⟨⟨@Ev.zx,@Ev.zA⟩,⟨@Ev.zB,⟨@Ev.zC,@Ev.zD⟩⟩⟩,⟨⟨@Ev.zE,@Ev.zF⟩,⟨@Ev.zG,⟨@Ev.tY,@Ev.zH⟩⟩⟩⟩⟩⟩,⟨⟨⟨⟨⟨@Ev.tZ,@Ev.NO⟩,⟨@Ev.NP,@Ev.NQ⟩⟩,⟨⟨@Ev.NR,@Ev.NT⟩,⟨@Ev.NU,⟨@Ev.t4,@Ev.t5⟩⟩⟩⟩,⟨⟨⟨@Ev.t6,@Ev.oD⟩,⟨@Ev.kn,@Ev.oE⟩⟩,⟨⟨@Ev.oG,@Ev.oH⟩,⟨@Ev.oI,⟨@Ev.oJ,@Ev.iI⟩⟩⟩⟩⟩,⟨⟨⟨⟨@Ev.iJ,@Ev.iK⟩,⟨@Ev.iL,@Ev.iM⟩⟩,⟨⟨@Ev.fE,@Ev.fF⟩,⟨@Ev.fG,⟨@Ev.fH,@Ev.fI⟩⟩⟩⟩,⟨⟨⟨@Ev.fJ,@Ev.fK⟩,⟨@Ev.fL,⟨@Ev.fM,@Ev.fN⟩⟩⟩,⟨⟨@Ev.eE,@Ev.eF⟩,⟨@Ev.eG,⟨@Ev.eI,@Ev.eJ⟩⟩⟩⟩⟩⟩⟩,⟨⟨⟨⟨⟨⟨@Ev.zI,@Ev.zJ⟩,⟨@Ev.zK,@Ev.zL⟩⟩,⟨⟨@Ev.zM,@Ev.zN⟩,⟨@Ev.t7,⟨@Ev.t9,@Ev.eK⟩⟩⟩⟩,⟨⟨⟨@Ev.ck,@Ev.ua⟩,⟨@Ev.ub,@Ev.uc⟩⟩,⟨⟨@Ev.ud,@Ev.ue⟩,⟨@Ev.uf,⟨@Ev.oK,@Ev.oM⟩⟩⟩⟩⟩,⟨⟨⟨⟨@Ev.oN,@Ev.oO⟩,⟨@Ev.cC,@Ev.oP⟩⟩,⟨⟨@Ev.oQ,@Ev.oR⟩,⟨@Ev.ug,⟨@Ev.gA,@Ev.gB⟩⟩⟩⟩,⟨⟨⟨@Ev.ko,@Ev.NW⟩,⟨@Ev.wg,⟨@Ev.L7,@Ev.uo⟩⟩⟩,⟨⟨@Ev.zO,@Ev.zP⟩,⟨@Ev.uh,⟨@Ev.ui,@Ev.zQ⟩⟩⟩⟩⟩⟩,⟨⟨⟨⟨⟨@Ev.zR,@Ev.zS⟩,⟨@Ev.oT,@Ev.oU⟩⟩,⟨⟨@Ev.kr,@Ev.uj⟩,⟨@Ev.oV,⟨@Ev.uk,@Ev.um⟩⟩⟩⟩,⟨⟨⟨@Ev.ku,@Ev.oW⟩,⟨@Ev.zT,@Ev.zU⟩⟩,⟨⟨@cond_true.{1},@cond_false.{1}⟩,⟨@Ev.qW,⟨@List.contains_cons.{0},@List.contains_nil.{0}⟩⟩⟩⟩⟩,⟨⟨⟨⟨@Bool.or_false,@Bool.or_true⟩,⟨@List.map_cons.{0,0},@List.map_nil.{0,0}⟩⟩,⟨⟨@List.cons_append.{0},@List.nil_append.{0}⟩,⟨@List.replicate_succ.{0},⟨@List.replicate_zero.{0},@List.length_cons.{0}⟩⟩⟩⟩,⟨⟨⟨@List.length_nil.{0},@Nat.zero_add⟩,⟨@decide_true,⟨@Bool.and_self,@Bool.not_true⟩⟩⟩,⟨⟨@Bool.not_false,@beq_self_eq_true.{0}⟩,⟨@if_true.{1},⟨@if_false.{1},@Bool.false_eq_true⟩⟩⟩⟩⟩⟩⟩⟩⟩
namespace Fr
end Fr
end L2
namespace Law
open PySem L2
noncomputable def top (i:Nat):Stmt:=PySem.Challenge.pw_flagroll_k39_needs.main.body.getD i (.Pass ⟨0,0,0,0⟩)
noncomputable def Z:Sg:={nm:=(["LETTERS","PLACES","SALT_LENGTH","is_whole","is_text_of","mark_of","mark_holds","cond_holds","conds_hold","in_rows","in_group","check_salt","folded","lot_keys","place_of","run_index","face_at","share_at","outcome_face","rules_holding","decided_among","decide","entry_of","first_holdout","first_unmet_need"]:List Str)++(["reckoned_answer","answer_once","answer","_law_draw","_law_same","_law_copy","_law_names_of","_law_rules","_law_needs","_law_house","_law_due","law"]:List Str),Iq:=[(21,(.str "abcdefghijklmnopqrstuvwxyz")),(22,(.int 10007)),(23,(.int 12))],fns:=[24,25,26,27,28,29,30,31,32,33,34,35,36,37,38,39,40,41,42,43,44,48,49,50,51,52,53,54,55,56,57],cls:=[],xt:=[],pl:=[],rc:=[],xm:=[],Cs:=[47,45,46]}
noncomputable def Qc:List IS:=
 [(.ret (.BB (.BW (.v 0) .int) (.BU (.BW (.v 0) .bool))))]
noncomputable def NX:Fn:={np:=1,G:={N:=["thing"],kd:=[.local],gl:=[14,8,16],df:=true},body:=Qc}
noncomputable def L8:List IS:=
 [(.Bn (.BU (.BW (.v 0) .str)) [(.ret (.c (.bl false)))] []),(.Bn (.BU (.chain .le .le (.v 2) (.bi .len [(.v 0)]) (.v 3))) [(.ret (.c (.bl false)))] []),(.ret (.bi .all [(.comp {N:=["signs","sign"],kd:=[.cell,.local],gl:=[],df:=false} [1] (.nm 1) (.val (.v 0)) [] (.cmp .EA (.v 1) (.v 0)))]))]
noncomputable def Hq:Fn:={np:=4,G:={N:=["thing","signs","least","most"],kd:=[.local,.cell,.local,.local],gl:=[14,11,0,9],df:=true},body:=L8}
noncomputable def Qd:List IS:=
 [(.BE (.tp [(.nm 2),(.nm 3)]) (.val (.v 0)) [(.Bn (.cmp .eq (.v 2) (.v 1)) [(.ret (.v 3))] [])]),(.ret (.c .A8))]
noncomputable def NY:Fn:={np:=2,G:={N:=["marks","name","mark_name","thing"],kd:=[.local,.local,.local,.local],gl:=[],df:=true},body:=Qd}
noncomputable def Qe:List IS:=
 [(.Bn (.cmp .eq (.v 0) (.c (.str "is"))) [(.ret (.BB (.cmp .EO (.v 2) (.c .A8)) (.cmp .EA (.v 2) (.v 1))))] []),(.Bn (.cmp .eq (.v 0) (.c (.str "not"))) [(.ret (.E1 (.cmp .E0 (.v 2) (.c .A8)) (.cmp .Ik (.v 2) (.v 1))))] []),(.Bn (.cmp .eq (.v 0) (.c (.str "begins"))) [(.ret (.BB (.BW (.v 2) .str) (.bi .any [(.comp {N:=["mark","thing"],kd:=[.cell,.local],gl:=[],df:=false} [2] (.nm 1) (.val (.v 1)) [] (.Il .starts (.v 0) [(.v 1)]))])))] []),(.Bn (.cmp .eq (.v 0) (.c (.str "least"))) [(.ret (.BB (.call 24 [(.v 2)]) (.cmp .ge (.v 2) (.idx (.v 1) (.c (.int 0))))))] []),(.Bn (.cmp .eq (.v 0) (.c (.str "most"))) [(.ret (.BB (.call 24 [(.v 2)]) (.cmp .le (.v 2) (.idx (.v 1) (.c (.int 0))))))] []),(.Bn (.cmp .eq (.v 0) (.c (.str "has"))) [(.ret (.cmp .EO (.v 2) (.c .A8)))] []),(.ret (.cmp .E0 (.v 2) (.c .A8)))]
noncomputable def NZ:Fn:={np:=3,G:={N:=["word","things","mark"],kd:=[.local,.local,.cell],gl:=[14,11,10,24],df:=true},body:=Qe}
noncomputable def Qf:List IS:=
 [(.asg (.nm 3) (.idx (.v 1) (.c (.int 0)))),(.asg (.nm 4) (.idx (.v 1) (.c (.int 1)))),(.Bn (.cmp .eq (.v 4) (.c (.str "in"))) [(.ret (.call 31 [(.v 0),(.v 3),(.v 2)]))] []),(.Bn (.cmp .eq (.v 4) (.c (.str "out"))) [(.ret (.BU (.call 31 [(.v 0),(.v 3),(.v 2)])))] []),(.ret (.call 27 [(.v 4),(.idx (.v 1) (.c (.int 2))),(.call 26 [(.v 2),(.v 3)])]))]
noncomputable def N0:Fn:={np:=3,G:={N:=["groups","cond","marks","name","word"],kd:=[.local,.local,.local,.local,.local],gl:=[31,27,26],df:=true},body:=Qf}
noncomputable def L9:List IS:=
 [(.BE (.nm 3) (.val (.v 1)) [(.Bn (.BU (.call 28 [(.v 0),(.v 3),(.v 2)])) [(.ret (.c (.bl false)))] [])]),(.ret (.c (.bl true)))]
noncomputable def Hr:Fn:={np:=3,G:={N:=["groups","conds","marks","cond"],kd:=[.local,.local,.local,.local],gl:=[28],df:=true},body:=L9}
noncomputable def Qg:List IS:=
 [(.BE (.nm 3) (.val (.v 1)) [(.Bn (.call 29 [(.v 0),(.v 3),(.v 2)]) [(.ret (.c (.bl true)))] [])]),(.ret (.c (.bl false)))]
noncomputable def N1:Fn:={np:=3,G:={N:=["groups","rows","marks","row"],kd:=[.local,.local,.local,.local],gl:=[29],df:=true},body:=Qg}
noncomputable def Qh:List IS:=
 [(.BE (.tp [(.nm 3),(.nm 4)]) (.val (.v 0)) [(.Bn (.cmp .eq (.v 3) (.v 1)) [(.ret (.call 30 [(.v 0),(.v 4),(.v 2)]))] [])]),(.ret (.c (.bl false)))]
noncomputable def N2:Fn:={np:=3,G:={N:=["groups","name","marks","group_name","rows"],kd:=[.local,.local,.local,.local,.local],gl:=[30],df:=true},body:=Qh}
noncomputable def L':List IS:=
 [(.Bn (.BU (.call 25 [(.v 0),(.g 21 (.str "abcdefghijklmnopqrstuvwxyz")),(.c (.int 1)),(.g 23 (.int 12))])) [.never] [])]
noncomputable def Ht:Fn:={np:=1,G:={N:=["salt"],kd:=[.local],gl:=[25,21,23],df:=true},body:=L'}
noncomputable def Ma:List IS:=
 [(.asg (.nm 3) (.c (.int 0))),(.BE (.nm 4) (.val (.v 0)) [(.asg (.nm 3) (.bin .mod (.bin .add (.bin .mul (.v 3) (.v 1)) (.bi .ord [(.v 4)])) (.v 2)))]),(.ret (.v 3))]
noncomputable def Hu:Fn:={np:=3,G:={N:=["salt","factor","modulus","key","sign"],kd:=[.local,.local,.local,.local,.local],gl:=[7],df:=true},body:=Ma}
noncomputable def Mb:List IS:=
 [(.exp (.call 32 [(.v 0)])),(.asg (.nm 1) (.bin .add (.c (.int 1)) (.call 33 [(.v 0),(.c (.int 31)),(.bin .sub (.g 22 (.int 10007)) (.c (.int 1)))]))),(.asg (.nm 2) (.call 33 [(.v 0),(.c (.int 37)),(.g 22 (.int 10007))])),(.ret (.tup [(.v 1),(.v 2)]))]
noncomputable def Hv:Fn:={np:=1,G:={N:=["salt","a","b"],kd:=[.local,.local,.local],gl:=[32,33,22],df:=true},body:=Mb}
noncomputable def Mc:List IS:=
 [(.asg (.nm 2) (.call 34 [(.v 0)])),(.ret (.bin .mod (.bin .add (.bin .mul (.idx (.v 2) (.c (.int 0))) (.v 1)) (.idx (.v 2) (.c (.int 1)))) (.g 22 (.int 10007))))]
noncomputable def Hw:Fn:={np:=2,G:={N:=["salt","number","keys"],kd:=[.local,.local,.local],gl:=[34,22],df:=true},body:=Mc}
noncomputable def Md:List IS:=
 [(.asg (.nm 2) (.c (.int 0))),(.BE (.tp [(.nm 3),(.nm 4)]) (.val (.v 0)) [(.Bn (.chain .le .lt (.v 3) (.v 1) (.v 4)) [(.ret (.bin .sub (.bin .add (.v 2) (.v 1)) (.v 3)))] []),(.asg (.nm 2) (.bin .sub (.bin .add (.v 2) (.v 4)) (.v 3)))]),(.ret (.c .A8))]
noncomputable def Hx:Fn:={np:=2,G:={N:=["run","place","ahead","low","high"],kd:=[.local,.local,.local,.local,.local],gl:=[],df:=true},body:=Md}
noncomputable def Me:List IS:=
 [(.BE (.tp [(.nm 2),(.nm 3)]) (.val (.idx (.v 0) (.c (.int 0)))) [(.Bn (.cmp .EO (.call 36 [(.v 3),(.v 1)]) (.c .A8)) [(.ret (.v 2))] [])]),(.ret (.c .A8))]
noncomputable def Hy:Fn:={np:=2,G:={N:=["allot","place","face","run"],kd:=[.local,.local,.local,.local],gl:=[36],df:=true},body:=Me}
noncomputable def Mf:List IS:=
 [(.asg (.nm 2) (.c (.int 0))),(.BE (.tp [(.nm 3),(.nm 4)]) (.val (.v 0)) [(.Bn (.cmp .le (.v 3) (.v 1)) [(.asg (.nm 2) (.v 4))] [])]),(.ret (.v 2))]
noncomputable def Hz:Fn:={np:=2,G:={N:=["stages","day","share","first_day","places"],kd:=[.local,.local,.local,.local,.local],gl:=[],df:=true},body:=Mf}
noncomputable def HA:List IS:=
 [(.Bn (.cmp .eq (.idx (.v 0) (.c (.int 0))) (.c (.str "face"))) [(.ret (.idx (.v 0) (.c (.int 1))))] []),(.Bn (.cmp .eq (.idx (.v 0) (.c (.int 0))) (.c (.str "share"))) [(.ret (.ite (.cmp .lt (.v 3) (.call 38 [(.idx (.v 0) (.c (.int 2))),(.v 2)])) (.idx (.v 0) (.c (.int 1))) (.c .A8)))] []),(.ret (.call 37 [(.v 1),(.v 3)]))]
noncomputable def DP:Fn:={np:=4,G:={N:=["outcome","allot","day","place"],kd:=[.local,.local,.local,.local],gl:=[38,37],df:=true},body:=HA}
noncomputable def Mg:List IS:=
 [(.ret (.comp {N:=["groups","marks","number","rule"],kd:=[.cell,.cell,.local,.local],gl:=[29],df:=false} [0,2] (.tp [(.nm 2),(.nm 3)]) (.DR (.idx (.v 1) (.c (.int 2)))) [(.call 29 [(.v 0),(.idx (.v 3) (.c (.int 0))),(.v 1)])] (.v 2)))]
noncomputable def HB:Fn:={np:=3,G:={N:=["groups","switch","marks"],kd:=[.cell,.local,.cell],gl:=[20],df:=true},body:=Mg}
noncomputable def HC:List IS:=
 [(.BE (.nm 4) (.val (.v 2)) [(.asg (.nm 5) (.call 39 [(.idx (.idx (.idx (.v 0) (.c (.int 2))) (.v 4)) (.c (.int 1))),(.idx (.v 0) (.c (.int 3))),(.v 1),(.v 3)])),(.Bn (.cmp .EO (.v 5) (.c .A8)) [(.ret (.tup [(.v 5),(.v 4)]))] [])]),(.ret (.tup [(.idx (.v 0) (.c (.int 1))),(.bi .len [(.idx (.v 0) (.c (.int 2)))])]))]
noncomputable def DQ:Fn:={np:=4,G:={N:=["switch","day","numbers","place","number","face"],kd:=[.local,.local,.local,.local,.local,.local],gl:=[39,0],df:=true},body:=HC}
noncomputable def Mh:List IS:=
 [(.asg (.nm 4) (.call 40 [(.v 0),(.v 1),(.idx (.v 3) (.c (.int 1)))])),(.ret (.call 41 [(.v 1),(.v 2),(.v 4),(.call 35 [(.idx (.v 1) (.c (.int 0))),(.idx (.v 3) (.c (.int 0)))])]))]
noncomputable def HF:Fn:={np:=4,G:={N:=["groups","switch","day","visitor","numbers"],kd:=[.local,.local,.local,.local,.local],gl:=[40,41,35],df:=true},body:=Mh}
noncomputable def Mi:List IS:=
 [(.BE (.tp [(.nm 2),(.nm 3)]) (.val (.idx (.v 0) (.c (.int 2)))) [(.Bn (.cmp .eq (.v 2) (.v 1)) [(.ret (.v 3))] [])]),.never]
noncomputable def HG:Fn:={np:=2,G:={N:=["house","name","switch_name","entry"],kd:=[.local,.local,.local,.local],gl:=[],df:=true},body:=Mi}
noncomputable def Mj:List IS:=
 [(.BE (.tp [(.nm 3),(.nm 4),(.nm 5),(.nm 6)]) (.val (.idx (.v 0) (.c (.int 1)))) [(.Bn (.BB (.E1 (.cmp .E0 (.v 6) (.c .A8)) (.cmp .EA (.v 2) (.v 6))) (.cmp .lt (.call 35 [(.v 4),(.idx (.v 1) (.c (.int 0)))]) (.v 5))) [(.ret (.v 3))] [])]),(.ret (.c .A8))]
noncomputable def HH:Fn:={np:=3,G:={N:=["house","visitor","name","holdout_name","salt","places","names"],kd:=[.local,.local,.local,.local,.local,.local,.local],gl:=[35],df:=true},body:=Mj}
noncomputable def Qi:List IS:=
 [(.BE (.tp [(.nm 5),(.nm 6)]) (.val (.v 3)) [(.DL 47 [(.v 0),(.v 1),(.v 2),(.v 5)] 4 (.c (.int 0)) (.v 6) [(.Cb 4 (.v 5))] [])]),(.Cb 4 (.c .A8))]
noncomputable def HJ:Fn:={np:=5,G:={N:=["house","day","visitor","needs","told","name","face"],kd:=[.local,.local,.local,.local,.local,.local,.local],gl:=[47],df:=true,io:=some 4},body:=Qi,io:=true}
noncomputable def JT:List IS:=
 [(.asg (.nm 5) (.call 43 [(.v 0),(.v 3)])),(.asg (.nm 6) (.idx (.v 5) (.c (.int 0)))),(.Bn (.idx (.v 5) (.c (.int 2))) [(.Cb 4 (.tup [(.idx (.v 6) (.c (.int 1))),(.tup [(.c (.str "stopped"))])]))] []),(.asg (.nm 7) (.call 44 [(.v 0),(.v 2),(.v 3)])),(.Bn (.cmp .EO (.v 7) (.c .A8)) [(.Cb 4 (.tup [(.idx (.v 6) (.c (.int 1))),(.tup [(.c (.str "held")),(.v 7)])]))] []),(.GY 8 45 [(.v 0),(.v 1),(.v 2),(.idx (.v 5) (.c (.int 1)))] 4),(.Bn (.cmp .EO (.v 8) (.c .A8)) [(.Cb 4 (.tup [(.idx (.v 6) (.c (.int 1))),(.tup [(.c (.str "needs")),(.v 8)])]))] []),(.asg (.nm 9) (.call 42 [(.idx (.v 0) (.c (.int 0))),(.v 6),(.v 1),(.v 2)])),(.Bn (.cmp .eq (.idx (.v 9) (.c (.int 1))) (.bi .len [(.idx (.v 6) (.c (.int 2)))])) [(.Cb 4 (.tup [(.idx (.v 9) (.c (.int 0))),(.tup [(.c (.str "rest"))])]))] []),(.Cb 4 (.tup [(.idx (.v 9) (.c (.int 0))),(.tup [(.c (.str "rule")),(.idx (.v 9) (.c (.int 1)))])]))]
noncomputable def HK:Fn:={np:=5,G:={N:=["house","day","visitor","name","told","entry","switch","holdout_name","needed","decided"],kd:=[.local,.local,.local,.local,.local,.local,.local,.local,.local,.local],gl:=[43,44,45,42,0],df:=true,io:=some 4},body:=JT,io:=true}
noncomputable def KH:List IS:=
 [(.Bn (.GX true (.v 3) (.v 4)) [(.D4 4 (.v 3) 46 [(.v 0),(.v 1),(.v 2),(.v 3)])] []),(.Cb 4 (.B3 (.v 4) (.v 3)))]
noncomputable def HL:Fn:={np:=5,G:={N:=["house","day","visitor","name","told"],kd:=[.local,.local,.local,.local,.local],gl:=[46],df:=true,io:=some 4},body:=KH,io:=true}
noncomputable def Mk:List IS:=
 [(.Im 47 [(.v 0),(.v 1),(.v 2),(.v 3)])]
noncomputable def HM:Fn:={np:=4,G:={N:=["house","day","visitor","name"],kd:=[.local,.local,.local,.local],gl:=[47],df:=true},body:=Mk}
noncomputable def Ml:List IS:=
 [(.asg (.nm 3) (.c (.int 0))),(.Bn (.cmp .gt (.bi .len [(.v 0)]) (.c (.int 0))) [(.asg (.nm 3) (.bin .mod (.idx (.v 0) (.bin .mod (.v 1) (.bi .len [(.v 0)]))) (.c (.int 2147483647))))] []),(.asg (.nm 4) (.bin .add (.bin .mul (.v 3) (.bin .add (.c (.int 742938285)) (.bin .mul (.bin .mul (.c (.int 9973)) (.v 1)) (.v 1)))) (.bin .mul (.v 1) (.c (.int 630360016))))),(.ret (.bin .mod (.bin .fdiv (.bin .mod (.v 4) (.c (.int 2147483647))) (.c (.int 97))) (.v 2)))]
noncomputable def HN:Fn:={np:=3,G:={N:=["_law_script","_law_k","_law_many","_law_cell","_law_mixed"],kd:=[.local,.local,.local,.local,.local],gl:=[0],df:=true},body:=Ml}
noncomputable def Qj:List IS:=
 [(.Bn (.cmp .E0 (.v 1) (.c .A8)) [(.ret (.cmp .E0 (.v 0) (.c .A8)))] []),(.Bn (.E1 (.BW (.v 1) .bool) (.BW (.v 0) .bool)) [(.ret (.BB (.BW (.v 1) .bool) (.BB (.BW (.v 0) .bool) (.cmp .eq (.v 0) (.v 1)))))] []),(.Bn (.BW (.v 1) .str) [(.ret (.BB (.BW (.v 0) .str) (.cmp .eq (.v 0) (.v 1))))] []),(.Bn (.BW (.v 1) .int) [(.ret (.BB (.BW (.v 0) .int) (.cmp .eq (.v 0) (.v 1))))] []),(.Bn (.BW (.v 1) .tuple) [(.Bn (.BU (.BW (.v 0) .tuple)) [(.ret (.c (.bl false)))] [])] [(.Bn (.BU (.BW (.v 0) .list)) [(.ret (.c (.bl false)))] [])]),(.Bn (.cmp .ne (.bi .len [(.v 0)]) (.bi .len [(.v 1)])) [(.ret (.c (.bl false)))] []),(.ret (.bi .all [(.comp {N:=["_law_own","_law_part"],kd:=[.local,.local],gl:=[50],df:=false} [] (.tp [(.nm 0),(.nm 1)]) (.zip (.v 0) (.v 1)) [] (.call 50 [(.v 0),(.v 1)]))]))]
noncomputable def Mm:Fn:={np:=2,G:={N:=["_law_found","_law_due_here"],kd:=[.local,.local],gl:=[14,16,11,8,6,5,0,9,17],df:=true},body:=Qj}
noncomputable def Qk:List IS:=
 [(.Bn (.BW (.v 0) .list) [(.ret (.comp {N:=["_law_part"],kd:=[.local],gl:=[51],df:=false} [] (.nm 0) (.val (.v 0)) [] (.call 51 [(.v 0)])))] []),(.Bn (.BW (.v 0) .tuple) [(.ret (.bi .tuple [(.comp {N:=["_law_part"],kd:=[.local],gl:=[51],df:=false} [] (.nm 0) (.val (.v 0)) [] (.call 51 [(.v 0)]))]))] []),(.ret (.v 0))]
noncomputable def Mn:Fn:={np:=1,G:={N:=["_law_thing"],kd:=[.local],gl:=[14,5,6],df:=true},body:=Qk}
noncomputable def Mo:List IS:=
 [(.asg (.nm 2) (.c (.str "abcdefghijklmnopqrstuvwxyz"))),(.asg (.nm 3) (.call 49 [(.v 0),(.c (.int 0)),(.c (.int 26))])),(.asg (.nm 4) (.sl (.c (.str "bridges")) none (some (.call 49 [(.v 0),(.c (.int 1)),(.c (.int 8))])))),(.asg (.nm 5) (.call 49 [(.v 0),(.c (.int 2)),(.bin .add (.bi .len [(.v 4)]) (.c (.int 1)))])),(.asg (.nm 6) (.idx (.lst [(.c (.int 1)),(.c (.int 7)),(.c (.int 25)),(.c (.int 11))]) (.call 49 [(.v 0),(.c (.int 3)),(.c (.int 4))]))),(.ret (.comp {N:=["_law_body","_law_at","_law_letters","_law_start","_law_step","_law_j"],kd:=[.cell,.cell,.cell,.cell,.cell,.local],gl:=[],df:=false} [4,5,2,3,6] (.nm 5) (.B4 (.v 1)) [] (.bin .add (.bin .add (.sl (.v 0) none (some (.v 1))) (.idx (.v 2) (.bin .mod (.bin .add (.v 3) (.bin .mul (.v 4) (.v 5))) (.c (.int 26))))) (.sl (.v 0) (some (.v 1)) none))))]
noncomputable def HP:Fn:={np:=2,G:={N:=["_law_script","_law_many","_law_letters","_law_start","_law_body","_law_at","_law_step"],kd:=[.local,.local,.cell,.cell,.cell,.cell,.cell],gl:=[49,0,15],df:=true},body:=Mo}
noncomputable def F4:List IS:=
 [(.asg (.nm 3) (.call 49 [(.v 0),(.v 1),(.c (.int 5))])),(.Bn (.cmp .lt (.v 3) (.c (.int 2))) [(.ret (.lst [(.tup [(.lst []),(.tup [(.c (.str "face")),(.v 2)])])]))] []),(.Bn (.cmp .eq (.v 3) (.c (.int 2))) [(.ret (.lst [(.tup [(.lst []),(.tup [(.c (.str "share")),(.v 2),(.lst [(.tup [(.c (.int 3)),(.c (.int 10007))])])])])]))] []),(.Bn (.cmp .eq (.v 3) (.c (.int 3))) [(.ret (.lst [(.tup [(.lst []),(.tup [(.c (.str "share")),(.v 2),(.lst [(.tup [(.c (.int 3)),(.c (.int 0))])])])]),(.tup [(.lst []),(.tup [(.c (.str "lot"))])])]))] []),(.ret (.lst []))]
noncomputable def C2:Fn:={np:=3,G:={N:=["_law_script","_law_k","_law_face","_law_way"],kd:=[.local,.local,.local,.local],gl:=[49],df:=true},body:=F4}
noncomputable def EG:List IS:=
 [(.asg (.nm 4) (.lst [])),(.Bn (.cmp .lt (.bin .add (.v 1) (.c (.int 1))) (.bi .len [(.v 2)])) [(.app 4 (.tup [(.idx (.v 2) (.bin .add (.v 1) (.c (.int 1)))),(.idx (.v 3) (.call 49 [(.v 0),(.bin .add (.c (.int 60)) (.v 1)),(.c (.int 2))]))]))] []),(.Bn (.BB (.cmp .eq (.bin .mod (.v 1) (.c (.int 5))) (.c (.int 0))) (.cmp .lt (.bin .add (.v 1) (.c (.int 2))) (.bi .len [(.v 2)]))) [(.asg (.nm 5) (.idx (.v 2) (.bin .add (.bin .add (.v 1) (.c (.int 2))) (.call 49 [(.v 0),(.bin .add (.c (.int 80)) (.v 1)),(.bin .sub (.bin .sub (.bi .len [(.v 2)]) (.v 1)) (.c (.int 2)))])))),(.ins 4 (.call 49 [(.v 0),(.bin .add (.c (.int 100)) (.v 1)),(.c (.int 2))]) (.tup [(.v 5),(.idx (.v 3) (.call 49 [(.v 0),(.bin .add (.c (.int 120)) (.v 1)),(.c (.int 2))]))]))] []),(.ret (.v 4))]
noncomputable def Cd:Fn:={np:=4,G:={N:=["_law_script","_law_s","_law_names","_law_faces","_law_needs_here","_law_other"],kd:=[.local,.local,.local,.local,.local,.local],gl:=[0,49],df:=true},body:=EG}
noncomputable def Ql:List IS:=
 [(.asg (.nm 3) (.lst [])),(.asg (.nm 4) (.call 49 [(.v 0),(.c (.int 6)),(.bin .mul (.c (.int 2)) (.bi .len [(.v 1)]))])),(.BE (.nm 5) (.B4 (.bi .len [(.v 1)])) [(.asg (.nm 6) (.bin .mod (.call 49 [(.v 0),(.bin .add (.c (.int 140)) (.v 5)),(.c (.int 3))]) (.c (.int 2)))),(.asg (.nm 7) (.call 53 [(.v 0),(.bin .add (.c (.int 160)) (.v 5)),(.idx (.v 2) (.bin .sub (.c (.int 1)) (.v 6)))])),(.asg (.nm 8) (.tup [(.c (.str "salt")),(.idx (.v 2) (.v 6)),(.v 7),(.tup [(.lst [(.tup [(.idx (.v 2) (.c (.int 0))),(.lst [])]),(.tup [(.idx (.v 2) (.c (.int 1))),(.lst [])])]),(.lst [(.tup [(.c (.int 0)),(.c (.int 10007))])])])])),(.asg (.nm 9) (.tup [(.v 8),(.call 54 [(.v 0),(.v 5),(.v 1),(.v 2)]),(.cmp .eq (.v 5) (.v 4))])),(.ins 3 (.call 49 [(.v 0),(.bin .add (.c (.int 30)) (.v 5)),(.bin .add (.v 5) (.c (.int 1)))]) (.tup [(.idx (.v 1) (.v 5)),(.v 9)]))]),(.asg (.nm 10) (.lst [(.idx (.v 1) (.call 49 [(.v 0),(.c (.int 8)),(.bi .len [(.v 1)])]))])),(.Bn (.cmp .gt (.call 49 [(.v 0),(.c (.int 9)),(.c (.int 3))]) (.c (.int 0))) [(.asg (.nm 10) (.lst []))] []),(.ret (.tup [(.lst []),(.lst [(.tup [(.c (.str "none")),(.c (.str "salt")),(.c (.int 0)),(.c .A8)]),(.tup [(.c (.str "some")),(.c (.str "salt")),(.c (.int 10007)),(.v 10)])]),(.v 3)]))]
noncomputable def HQ:Fn:={np:=3,G:={N:=["_law_script","_law_names","_law_faces","_law_switches","_law_stopped","_law_s","_law_rest","_law_rules_here","_law_switch","_law_entry","_law_held"],kd:=[.local,.local,.local,.local,.local,.local,.local,.local,.local,.local,.local],gl:=[49,0,15,53,54],df:=true},body:=Ql}
noncomputable def Qm:List IS:=
 [(.asg (.nm 3) .CW),(.BE (.nm 4) (.rev (.v 1)) [(.asg (.tp [(.nm 5),(.nm 6),(.nm 7)]) (.idx (.comp {N:=["_law_name","_law_own","_law_entry"],kd:=[.cell,.local,.local],gl:=[],df:=false} [4] (.tp [(.nm 1),(.nm 2)]) (.val (.idx (.v 0) (.c (.int 2)))) [(.cmp .eq (.v 1) (.v 0))] (.v 2)) (.c (.int 0)))),(.asg (.nm 8) (.comp {N:=["_law_due_here","_law_other","_law_face"],kd:=[.cell,.local,.local],gl:=[],df:=false} [3] (.tp [(.nm 1),(.nm 2)]) (.val (.v 6)) [(.cmp .ne (.idx (.B3 (.v 0) (.v 1)) (.c (.int 0))) (.v 2))] (.v 1))),(.Bn (.v 7) [(.Cf 3 (.v 4) (.tup [(.idx (.v 5) (.c (.int 1))),(.tup [(.c (.str "stopped"))])]))] [(.Bn (.cmp .EA (.v 4) (.idx (.idx (.idx (.v 0) (.c (.int 1))) (.c (.int 1))) (.c (.int 3)))) [(.Cf 3 (.v 4) (.tup [(.idx (.v 5) (.c (.int 1))),(.tup [(.c (.str "held")),(.c (.str "some"))])]))] [(.Bn (.cmp .ne (.v 8) (.lst [])) [(.Cf 3 (.v 4) (.tup [(.idx (.v 5) (.c (.int 1))),(.tup [(.c (.str "needs")),(.idx (.v 8) (.c (.int 0)))])]))] [(.Bn (.cmp .eq (.bi .len [(.idx (.v 5) (.c (.int 2)))]) (.c (.int 1))) [(.Cf 3 (.v 4) (.tup [(.idx (.idx (.idx (.idx (.v 5) (.c (.int 2))) (.c (.int 0))) (.c (.int 1))) (.c (.int 1))),(.tup [(.c (.str "rule")),(.c (.int 0))])]))] [(.Cf 3 (.v 4) (.tup [(.idx (.v 5) (.c (.int 1))),(.tup [(.c (.str "rest"))])]))])])])])]),(.ret (.v 3))]
noncomputable def HR:Fn:={np:=3,G:={N:=["_law_house_here","_law_names","_law_faces","_law_due_here","_law_name","_law_switch","_law_needs_here","_law_stopped","_law_lacks"],kd:=[.local,.local,.local,.cell,.cell,.local,.local,.local,.local],gl:=[18,0],df:=true},body:=Qm}
noncomputable def Qn:List IS:=
 [(.asg (.nm 1) (.bin .add (.c (.int 1)) (.call 49 [(.v 0),(.c (.int 4)),(.idx (.lst [(.c (.int 5)),(.c (.int 20))]) (.call 49 [(.v 0),(.c (.int 5)),(.c (.int 2))]))]))),(.asg (.nm 2) (.call 52 [(.v 0),(.v 1)])),(.asg (.nm 3) (.idx (.lst [(.lst [(.c (.str "on")),(.c (.str "off"))]),(.lst [(.c (.str "blue")),(.c (.str "red"))])]) (.call 49 [(.v 0),(.c (.int 10)),(.c (.int 2))]))),(.asg (.nm 4) (.call 55 [(.v 0),(.v 2),(.v 3)])),(.asg (.nm 5) (.call 56 [(.v 4),(.v 2),(.v 3)])),(.asg (.nm 6) (.call 51 [(.v 4)])),(.asg (.nm 7) (.tup [(.call 49 [(.v 0),(.c (.int 11)),(.bin .pow (.c (.int 10)) (.c (.int 6)))]),(.lst [])])),(.BE (.nm 8) (.val (.v 2)) [(.Bn (.BU (.call 50 [(.call 48 [(.v 6),(.c (.int 5)),(.v 7),(.v 8)]),(.B3 (.v 5) (.v 8))])) [(.ret (.c (.bl false)))] [])]),(.ret (.call 50 [(.v 6),(.v 4)]))]
noncomputable def Gz:Fn:={np:=1,G:={N:=["_law_script","_law_many","_law_names","_law_faces","_law_house_here","_law_due_here","_law_handed","_law_visitor","_law_name"],kd:=[.local,.local,.local,.local,.local,.local,.local,.local,.local],gl:=[49,52,55,56,51,50,48],df:=true},body:=Qn}
noncomputable def T:Tb:=fun n=>match n with
 | 24=>some NX
 | 25=>some Hq
 | 26=>some NY
 | 27=>some NZ
 | 28=>some N0
 | 29=>some Hr
 | 30=>some N1
 | 31=>some N2
 | 32=>some Ht
 | 33=>some Hu
 | 34=>some Hv
 | 35=>some Hw
 | 36=>some Hx
 | 37=>some Hy
 | 38=>some Hz
 | 39=>some DP
 | 40=>some HB
 | 41=>some DQ
 | 42=>some HF
 | 43=>some HG
 | 44=>some HH
 | 45=>some HJ
 | 46=>some HK
 | 47=>some HL
 | 48=>some HM
 | 49=>some HN
 | 50=>some Mm
 | 51=>some Mn
 | 52=>some HP
 | 53=>some C2
 | 54=>some Cd
 | 55=>some HQ
 | 56=>some HR
 | 57=>some Gz
 | _=>none
theorem c24:av Z NX ["thing"] (top 6)=true:=by decide +kernel
theorem c25:av Z Hq ["thing","signs","least","most"] (top 7)=true:=by decide +kernel
theorem c26:av Z NY ["marks","name"] (top 9)=true:=by decide +kernel
theorem c27:av Z NZ ["word","things","mark"] (top 11)=true:=by decide +kernel
theorem c28:av Z N0 ["groups","cond","marks"] (top 12)=true:=by decide +kernel
theorem c29:av Z Hr ["groups","conds","marks"] (top 13)=true:=by decide +kernel
theorem c30:av Z N1 ["groups","rows","marks"] (top 14)=true:=by decide +kernel
theorem c31:av Z N2 ["groups","name","marks"] (top 15)=true:=by decide +kernel
theorem c32:av Z Ht ["salt"] (top 19)=true:=by decide +kernel
theorem c33:av Z Hu ["salt","factor","modulus"] (top 20)=true:=by decide +kernel
theorem c34:av Z Hv ["salt"] (top 21)=true:=by decide +kernel
theorem c35:av Z Hw ["salt","number"] (top 22)=true:=by decide +kernel
theorem c36:av Z Hx ["run","place"] (top 24)=true:=by decide +kernel
theorem c37:av Z Hy ["allot","place"] (top 26)=true:=by decide +kernel
theorem c38:av Z Hz ["stages","day"] (top 28)=true:=by decide +kernel
theorem c39:av Z DP ["outcome","allot","day","place"] (top 29)=true:=by decide +kernel
theorem c40:av Z HB ["groups","switch","marks"] (top 30)=true:=by decide +kernel
theorem c41:av Z DQ ["switch","day","numbers","place"] (top 31)=true:=by decide +kernel
theorem c42:av Z HF ["groups","switch","day","visitor"] (top 32)=true:=by decide +kernel
theorem c43:av Z HG ["house","name"] (top 34)=true:=by decide +kernel
theorem c44:av Z HH ["house","visitor","name"] (top 35)=true:=by decide +kernel
theorem c45:cv Z HJ ["house","day","visitor","needs","told"] (top 36)=true:=by decide +kernel
theorem c46:cv Z HK ["house","day","visitor","name","told"] (top 37)=true:=by decide +kernel
theorem c47:cv Z HL ["house","day","visitor","name","told"] (top 38)=true:=by decide +kernel
theorem c48:av Z HM ["house","day","visitor","name"] (top 39)=true:=by decide +kernel
theorem c49:av Z HN ["_law_script","_law_k","_law_many"] (top 41)=true:=by decide +kernel
theorem c50:av Z Mm ["_law_found","_law_due_here"] (top 42)=true:=by decide +kernel
theorem c51:av Z Mn ["_law_thing"] (top 43)=true:=by decide +kernel
theorem c52:av Z HP ["_law_script","_law_many"] (top 44)=true:=by decide +kernel
theorem c53:av Z C2 ["_law_script","_law_k","_law_face"] (top 45)=true:=by decide +kernel
theorem c54:av Z Cd ["_law_script","_law_s","_law_names","_law_faces"] (top 46)=true:=by decide +kernel
theorem c55:av Z HQ ["_law_script","_law_names","_law_faces"] (top 47)=true:=by decide +kernel
theorem c56:av Z HR ["_law_house_here","_law_names","_law_faces"] (top 48)=true:=by decide +kernel
theorem N3:av Z Gz ["_law_script"] (top 49)=true:=by decide +kernel
theorem wj:∀ n x,Z.name n=some x->x≠"__name__"/\(x == ("__debug__" : Str))=false:=by
 have h:(aV++Z.nm).all (fun x=>!(x == "__name__")&&!(x == "__debug__"))=true:=by decide +kernel
 intro n x hx
 have:=List.all_eq_true.mp h x (List.mem_of_getElem? hx)
 simpa using this
theorem ln1 {fd:FuncData}{ps:List Str}(h:∀ x0:Value,bindArgs fd ⟨[x0],[]⟩=pure (ps.zip [x0]))(us:List Value)(e:us.length=1):bindArgs fd ⟨us,[]⟩=pure (ps.zip us):=by
 match us,e with
 | [x0],_=>exact h x0
theorem ln2 {fd:FuncData}{ps:List Str}(h:∀ x0 x1:Value,bindArgs fd ⟨[x0,x1],[]⟩=pure (ps.zip [x0,x1]))(us:List Value)(e:us.length=2):bindArgs fd ⟨us,[]⟩=pure (ps.zip us):=by
 match us,e with
 | [x0,x1],_=>exact h x0 x1
theorem ln3 {fd:FuncData}{ps:List Str}(h:∀ x0 x1 x2:Value,bindArgs fd ⟨[x0,x1,x2],[]⟩=pure (ps.zip [x0,x1,x2]))(us:List Value)(e:us.length=3):bindArgs fd ⟨us,[]⟩=pure (ps.zip us):=by
 match us,e with
 | [x0,x1,x2],_=>exact h x0 x1 x2
theorem ln4 {fd:FuncData}{ps:List Str}(h:∀ x0 x1 x2 x3:Value,bindArgs fd ⟨[x0,x1,x2,x3],[]⟩=pure (ps.zip [x0,x1,x2,x3]))(us:List Value)(e:us.length=4):bindArgs fd ⟨us,[]⟩=pure (ps.zip us):=by
 match us,e with
 | [x0,x1,x2,x3],_=>exact h x0 x1 x2 x3
theorem ln5 {fd:FuncData}{ps:List Str}(h:∀ x0 x1 x2 x3 x4:Value,bindArgs fd ⟨[x0,x1,x2,x3,x4],[]⟩=pure (ps.zip [x0,x1,x2,x3,x4]))(us:List Value)(e:us.length=5):bindArgs fd ⟨us,[]⟩=pure (ps.zip us):=by
 match us,e with
 | [x0,x1,x2,x3,x4],_=>exact h x0 x1 x2 x3 x4
theorem dfo {f:Nat}{x:Str}{fn:Fn}{st:Stmt}{fa:Addr}{ps:List Str}{K:W.Frag}{h:Heap}{mg:Str->Option Value}{oc:Value}{od an:Option Addr}{sl:Array (Option Value)}{kV dc pm cd ct:Value}(c:av Z fn ps st=true)(hT:T f=some fn)(b:∀ (kV dc pm:Value)(an:Option Addr)(cd ct:Value)(us:List Value),us.length=ps.length->bindArgs (W.fnOf x x (bu st) (aO st) (ar st) .none kV dc pm an cd ct) ⟨us,[]⟩=pure (ps.zip us))(X:K.In h)(G:h.Ns mainGlobals mg)
  (a:W.nsIn K mainGlobals x=some (some (.ref fa))) (l:K.lookup fa=some ⟨oc,od,.func (W.fnOf x x (bu st) (aO st) (ar st) .none kV dc pm an cd ct),sl⟩) (e:W.codeIn K cd x=true) (k:W.keepIn K (.ref fa)=true):Bd K mg Z T f x:=⟨fn,st,fa,_,ps,hT,dP l e k,W.mg_of X G a,(dP l e k).binds b,iC c⟩
theorem wk {f:Nat}{x:Str}{fn:Fn}{st:Stmt}{fa:Addr}{ps:List Str}{K:W.Frag}{h:Heap}{mg:Str->Option Value}{oc:Value}{od an:Option Addr}{sl:Array (Option Value)}{kV dc pm cd ct:Value}(c:cv Z fn ps st=true)(hT:T f=some fn)(b:∀ (kV dc pm:Value)(an:Option Addr)(cd ct:Value)(us:List Value),us.length=ps.length->bindArgs (W.fnOf x x (bu st) (aO st) (ar st) .none kV dc pm an cd ct) ⟨us,[]⟩=pure (ps.zip us))(X:K.In h)(G:h.Ns mainGlobals mg)
  (a:W.nsIn K mainGlobals x=some (some (.ref fa))) (l:K.lookup fa=some ⟨oc,od,.func (W.fnOf x x (bu st) (aO st) (ar st) .none kV dc pm an cd ct),sl⟩) (e:W.codeIn K cd x=true) (k:W.keepIn K (.ref fa)=true):DN K mg Z T f x:=⟨fn,st,fa,_,ps,hT,dP l e k,W.mg_of X G a,(dP l e k).binds b,ng c⟩
noncomputable def wm:Nat:=57
noncomputable def qZ:Str:="_law_script"
theorem all_mk {l:PySem.W.OpenLaw}{w:World}{fa:Addr}{K:W.Frag}{h:Heap}{mg:Str->Option Value}{Mp:Addr}{Mq JU:Option Addr}{Mr:Array (Option Value)}{Ms JV JW JX HS JY:Value}{Qo:Tok}{Qp:Tok}{Qq:Tok}(X:K.In h)(G:h.Ns mainGlobals mg)(Qr:mg "law" = some (.ref fa))
  (Qs:Bd K mg Z T 24 "is_whole")
  (Qt:Bd K mg Z T 25 "is_text_of")
  (Qu:Bd K mg Z T 26 "mark_of")
  (Qv:Bd K mg Z T 27 "mark_holds")
  (Qw:Bd K mg Z T 28 "cond_holds")
  (Qx:Bd K mg Z T 29 "conds_hold")
  (Qy:Bd K mg Z T 30 "in_rows")
  (Qz:Bd K mg Z T 31 "in_group")
  (QA:Bd K mg Z T 32 "check_salt")
  (QB:Bd K mg Z T 33 "folded")
  (QC:Bd K mg Z T 34 "lot_keys")
  (QD:Bd K mg Z T 35 "place_of")
  (QE:Bd K mg Z T 36 "run_index")
  (QF:Bd K mg Z T 37 "face_at")
  (QG:Bd K mg Z T 38 "share_at")
  (QH:Bd K mg Z T 39 "outcome_face")
  (QI:Bd K mg Z T 40 "rules_holding")
  (QJ:Bd K mg Z T 41 "decided_among")
  (QK:Bd K mg Z T 42 "decide")
  (QL:Bd K mg Z T 43 "entry_of")
  (QM:Bd K mg Z T 44 "first_holdout")
  (QN:DN K mg Z T 45 "first_unmet_need")
  (QO:DN K mg Z T 46 "reckoned_answer")
  (QP:DN K mg Z T 47 "answer_once")
  (QQ:Bd K mg Z T 48 "answer")
  (QR:Bd K mg Z T 49 "_law_draw")
  (QS:Bd K mg Z T 50 "_law_same")
  (QT:Bd K mg Z T 51 "_law_copy")
  (QU:Bd K mg Z T 52 "_law_names_of")
  (QV:Bd K mg Z T 53 "_law_rules")
  (QW:Bd K mg Z T 54 "_law_needs")
  (QX:Bd K mg Z T 55 "_law_house")
  (QY:Bd K mg Z T 56 "_law_due")
  (a57:W.nsIn K mainGlobals "law" = some (some (.ref Mp))) (l57:K.lookup Mp=some ⟨Ms,Mq,.func (W.fnOf "law" "law" (bu (top 49)) (aO (top 49)) (ar (top 49)) .none JV JW JX JU HS JY),Mr⟩) (e57:W.codeIn K HS "law" = true) (k57:W.keepIn K (.ref Mp)=true)
  (q21:W.nsIn K mainGlobals "LETTERS" = some (some (.str "abcdefghijklmnopqrstuvwxyz" Qo)))
  (q22:W.nsIn K mainGlobals "PLACES" = some (some (.int 10007 Qp)))
  (q23:W.nsIn K mainGlobals "SALT_LENGTH" = some (some (.int 12 Qq)))
  (z0:W.nsIn K mainGlobals "len" = some none)
  (z1:W.nsIn K mainGlobals "sum" = some none)
  (z2:W.nsIn K mainGlobals "min" = some none)
  (z3:W.nsIn K mainGlobals "max" = some none)
  (z4:W.nsIn K mainGlobals "sorted" = some none)
  (z5:W.nsIn K mainGlobals "list" = some none)
  (z6:W.nsIn K mainGlobals "tuple" = some none)
  (z7:W.nsIn K mainGlobals "ord" = some none)
  (z8:W.nsIn K mainGlobals "int" = some none)
  (z9:W.nsIn K mainGlobals "all" = some none)
  (z10:W.nsIn K mainGlobals "any" = some none)
  (z11:W.nsIn K mainGlobals "str" = some none)
  (z12:W.nsIn K mainGlobals "set" = some none)
  (z13:W.nsIn K mainGlobals "abs" = some none)
  (z14:W.nsIn K mainGlobals "isinstance" = some none)
  (z15:W.nsIn K mainGlobals "range" = some none)
  (z16:W.nsIn K mainGlobals "bool" = some none)
  (z17:W.nsIn K mainGlobals "zip" = some none)
  (z18:W.nsIn K mainGlobals "reversed" = some none)
  (z19:W.nsIn K mainGlobals "dict" = some none)
  (z20:W.nsIn K mainGlobals "enumerate" = some none) :
  ∃ fd:FuncData,(∀ (s:Shared) (v:Value),BindsTo s fd ⟨[v],[]⟩ [(qZ,v)])/\∀ base:Heap,K.In base->base.Ns mainGlobals mg->Cp l.prog w K mg base (Cg l.prog w) (90+1) fa fd [qZ] (IF K (ae T (90+1)) wm [qZ]):=by
 have e:=Qr.symm.trans (PySem.W.mg_of X G a57)
 cases e
 have t:Dc K mg Z T:=by
  constructor
  case Gu=>
   exact wj
  case blt=>
   exact fun n x hx=>by
    have key:∀ y∈aV,mg y=none:=by
     intro y hy
     simp only[aV,List.mem_cons,List.not_mem_nil,or_false] at hy
     rcases hy with rfl|rfl|rfl|rfl|rfl|rfl|rfl|rfl|rfl|rfl|rfl|rfl|rfl|rfl|rfl|rfl|rfl|rfl|rfl|rfl|rfl
     ·exact W.mg_none_of X G z0
     ·exact W.mg_none_of X G z1
     ·exact W.mg_none_of X G z2
     ·exact W.mg_none_of X G z3
     ·exact W.mg_none_of X G z4
     ·exact W.mg_none_of X G z5
     ·exact W.mg_none_of X G z6
     ·exact W.mg_none_of X G z7
     ·exact W.mg_none_of X G z8
     ·exact W.mg_none_of X G z9
     ·exact W.mg_none_of X G z10
     ·exact W.mg_none_of X G z11
     ·exact W.mg_none_of X G z12
     ·exact W.mg_none_of X G z13
     ·exact W.mg_none_of X G z14
     ·exact W.mg_none_of X G z15
     ·exact W.mg_none_of X G z16
     ·exact W.mg_none_of X G z17
     ·exact W.mg_none_of X G z18
     ·exact W.mg_none_of X G z19
     ·exact W.mg_none_of X G z20
    exact key x (List.mem_of_getElem? hx)
  case cst=>
   exact fun n d x hm hx=>by
    have Hd:(n,d)∈([(21,(.str "abcdefghijklmnopqrstuvwxyz")),(22,(.int 10007)),(23,(.int 12))]:List (Nat×D)):=hm
    simp only[List.mem_cons,List.not_mem_nil,or_false,Prod.mk.injEq] at Hd
    rcases Hd with ⟨rfl,rfl⟩|⟨rfl,rfl⟩|⟨rfl,rfl⟩
    ·cases hx;exact⟨_,.str _,PySem.W.mg_of X G q21,⟨_,rfl⟩,fun _ _=>.str _⟩
    ·cases hx;exact⟨_,.int _,PySem.W.mg_of X G q22,⟨_,rfl⟩,fun _ _=>.int _⟩
    ·cases hx;exact⟨_,.int _,PySem.W.mg_of X G q23,⟨_,rfl⟩,fun _ _=>.int _⟩
  case fns=>
   exact fun f hf x hx=>by
    have DO:f∈([24,25,26,27,28,29,30,31,32,33,34,35,36,37,38,39,40,41,42,43,44,48,49,50,51,52,53,54,55,56,57]:List Nat):=hf
    simp only[List.mem_cons,List.not_mem_nil,or_false] at DO
    rcases DO with rfl|rfl|rfl|rfl|rfl|rfl|rfl|rfl|rfl|rfl|rfl|rfl|rfl|rfl|rfl|rfl|rfl|rfl|rfl|rfl|rfl|rfl|rfl|rfl|rfl|rfl|rfl|rfl|rfl|rfl|rfl
    ·cases hx;exact Qs
    ·cases hx;exact Qt
    ·cases hx;exact Qu
    ·cases hx;exact Qv
    ·cases hx;exact Qw
    ·cases hx;exact Qx
    ·cases hx;exact Qy
    ·cases hx;exact Qz
    ·cases hx;exact QA
    ·cases hx;exact QB
    ·cases hx;exact QC
    ·cases hx;exact QD
    ·cases hx;exact QE
    ·cases hx;exact QF
    ·cases hx;exact QG
    ·cases hx;exact QH
    ·cases hx;exact QI
    ·cases hx;exact QJ
    ·cases hx;exact QK
    ·cases hx;exact QL
    ·cases hx;exact QM
    ·cases hx;exact QQ
    ·cases hx;exact QR
    ·cases hx;exact QS
    ·cases hx;exact QT
    ·cases hx;exact QU
    ·cases hx;exact QV
    ·cases hx;exact QW
    ·cases hx;exact QX
    ·cases hx;exact QY
    ·cases hx;exact dfo N3 rfl (fun _ _ _ _ _ _=>ln1 fun _=>rfl) X G a57 l57 e57 k57
  case Cs=>
   exact fun f hf x hx=>by
    have DO:f∈([47,45,46]:List Nat):=hf
    simp only[List.mem_cons,List.not_mem_nil,or_false] at DO
    rcases DO with rfl|rfl|rfl
    ·cases hx;exact QP
    ·cases hx;exact QN
    ·cases hx;exact QO
  case Fg=>
   exact fun f hf=>absurd (show f∈([]:List Nat) from hf) (by simp)
  case Ir=>
   exact fun n hn=>absurd (show n∈([]:List Nat) from hn) (by simp)
  case Iu=>
   exact fun c n b x hm=>absurd (show (c,n,b)∈([]:List (Str×Nat×Bool)) from hm) (by simp)
  case Iw=>
   exact fun c n x hm=>absurd (show (c,n)∈([]:List (Str×Nat)) from hm) (by simp)
  case Iy=>
   exact fun n c hm=>absurd (show (n,c)∈([]:List (Nat×Str)) from hm) (by simp)
 exact⟨PySem.W.fnOf "law" "law" (bu (top 49)) (aO (top 49)) (ar (top 49)) .none JV JW JX JU HS JY,fun s v=>.of_eq rfl,fun base _ _=>vU t 90 (by decide) (f:=57) (fn:=Gz) rfl (dP (st:=top 49) l57 e57 k57) (iC N3)⟩
end Law
namespace L2
open PySem PySem.Spec PyProof.Rows PySem.SeqAt
namespace Fr
noncomputable def one (c:Nat):Str:=⟨#[c]⟩
noncomputable def BN (cs:List Nat):Str:=⟨cs.toArray⟩
def low (c:Nat):Prop:=97<=c/\c<=122
theorem oY:(Str.ofString "abcdefghijklmnopqrstuvwxyz").cps.toList=List.range' 97 26:=by decide +kernel
theorem ky:(Str.ofString "abcdefghijklmnopqrstuvwxyz").length=26:=by decide +kernel
theorem wo {i:Int}(h0:0<=i)(h1:i < 26):au (.str "abcdefghijklmnopqrstuvwxyz") (.int i)=.ok (.str (one (97+i.toNat))):=by
 rw[Ev.L7 h0 (by rw[ky];exact h1) (by rw[ky];decide),oY]
 have:(List.range' 97 26).getD i.toNat 0=97+i.toNat:=by
  rw[List.getD_eq_getElem?_getD,List.getElem?_range' (by omega)]
  show 97+1*i.toNat=_
  omega
 rw[this]
 rfl
theorem c8 (cs:List Nat):(BN cs).length=cs.length:=by unfold BN Str.length;simp
theorem iO {cs:List Nat}{j:Int}(h0:0<=j)(h1:j<=cs.length):Txt.slice (BN cs) none (some j)=BN (cs.take j.toNat):=by
 have:=StrLaws.sliceText_to (x:=BN cs) (j:=j) ⟨h0,by show j<=(cs.toArray.toList.length:Nat);simpa using h1⟩
 refine this.trans ?_
 show (⟨((cs.toArray.toList.drop 0).take (j - 0).toNat).toArray⟩:Str)=⟨(cs.take j.toNat).toArray⟩
 rw[List.toList_toArray,List.drop_zero,Int.sub_zero]
theorem jo {cs:List Nat}{i:Int}(h0:0<=i)(h1:i<=cs.length):Txt.slice (BN cs) (some i) none=BN (cs.drop i.toNat):=by
 have:=StrLaws.sliceText_from (x:=BN cs) (i:=i) ⟨h0,by show i<=(cs.toArray.toList.length:Nat);simpa using h1⟩
 refine this.trans ?_
 show (⟨((cs.toArray.toList.drop i.toNat).take ((cs.toArray.toList.length:Int) - i).toNat).toArray⟩:Str)=⟨(cs.drop i.toNat).toArray⟩
 rw[List.toList_toArray,List.take_of_length_le (by rw[List.length_drop];omega)]
theorem ra (a b:List Nat):BN a++BN b=BN (a++b):=by
 show (⟨a.toArray++b.toArray⟩:Str)=⟨(a++b).toArray⟩
 rw[List.append_toArray]
theorem rb (c:Nat):one c=BN [c]:=rfl
theorem kz {a b:List Nat}(h:a.length+b.length<=1000):C1 .add (.str (BN a)) (.str (BN b))=.ok (.str (BN (a++b))):=by
 rw[Ev.jn,Ev.gA (by rw[c8,c8];omega),ra]
 rfl
theorem dz (cs:List Nat):bo (BN cs)=(cs.map one).map .str:=by
 unfold bo BN one
 rw[List.map_map]
 rfl
theorem AW {β:Type}{body:D->Ev->Res Fl}(f:β->Nat->β)(st:β->Ev->Prop)(cs:List Nat)(b:β)(τ:Ev)(h:st b τ)(hb:∀ (c:Nat)(b:β)(τ:Ev),c∈cs->st b τ->∃ A7,body (.str (one c)) τ=.ok (.nx A7)/\st (f b c) A7) :
  ∃ A7,forM body ((cs.map one).map .str) τ=.ok (.nx A7)/\st (cs.foldl f b) A7:=by
 have:=Ev.iN (body:=body) f (fun c:Nat=>D.str (one c)) st cs b τ h hb
 rw[show (cs.map one).map D.str=cs.map fun c=>D.str (one c) by rw[List.map_map];rfl]
 exact this
theorem wq {c:Nat}(h:low c):g8 "abcdefghijklmnopqrstuvwxyz" (one c)=true:=by
 have:∀ k,k < 26->g8 "abcdefghijklmnopqrstuvwxyz" (one (97+k))=true:=by decide +kernel
 obtain⟨h1,h2⟩:=h
 rw[show c=97+(c - 97) by omega]
 exact this _ (by omega)
noncomputable def kf (a m:Int)(k:Int)(c:Nat):Int:=(k*a+(c:Nat)) % m
theorem rf (c:Nat):decide ((one c).length=1)=true:=rfl
theorem rg (c:Nat):(one c).cps.getD 0 0=c:=rfl
end Fr
end L2
namespace Law
open PySem PySem.Spec L2 L2.Fr PyProof.Rows
noncomputable def GA (ns:List Int)(k:Int):Int:=if 0 < ns.length then ns.getD (k % (ns.length:Int)).toNat 0 % 2147483647 else 0
noncomputable def dr (ns:List Int)(k m:Int):Int:=(GA ns k*(742938285+9973*k*k)+k*630360016) % 2147483647 / 97 % m
theorem zV (ns:List Int)(k:Int):0<=GA ns k/\GA ns k < 2147483647:=by
 unfold GA
 split
 ·exact⟨Int.emod_nonneg _ (by decide),Int.emod_lt_of_pos _ (by decide)⟩
 ·decide
theorem cK (ns:List Int)(k:Int){m:Int}(h:0 < m):0<=dr ns k m:=Int.emod_nonneg _ (by omega)
theorem cL (ns:List Int)(k:Int){m:Int}(h:0 < m):dr ns k m < m:=Int.emod_lt_of_pos _ h
theorem bg (n:Nat)(ns:List Int)(k m:Int)(h0:0<=k)(h1:k<=2000)(hm:0 < m):ae T (n+1) 49 [.lst false (ns.map .int),.int k,.int m]=.ok (.int (dr ns k m)):=by
 rw[Ev.go (show T 49=some HN from rfl) (show HN.io=false from rfl) (show HN.np=3 from rfl) (show HN.G.N.length=5 from rfl) (show HN.body=Ml from rfl) rfl];unfold Ml
 obtain⟨b0,b1⟩:=zV ns k
 unfold dr
 have lm:(ns.map D.int).length=ns.length:=List.length_map _
 by_cases h:0 < ns.length
 ·have hd:decide ((0:Int) < (ns.length:Int))=true:=decide_eq_true (by omega)
  have c0:=Int.emod_nonneg k (show (ns.length:Int)≠0 by omega)
  have c1:=Int.emod_lt_of_pos k (show (0:Int) < (ns.length:Int) by omega)
  have ec:ns.getD (k % (ns.length:Int)).toNat 0 % 2147483647=GA ns k:=by unfold GA;rw[if_pos h]
  simp -implicitDefEqProofs (disch:=omega) only[Bl,Nat.reduceBEq,Nat.reduceSub,Nat.reduceAdd,reduceIte,lm,hd,ec]
 ·have hd:decide ((0:Int) < (ns.length:Int))=false:=decide_eq_false (by omega)
  have ec:GA ns k=0:=by unfold GA;rw[if_neg h]
  rw[ec]
  simp -implicitDefEqProofs (disch:=omega) only[Bl,Nat.reduceBEq,Nat.reduceSub,Nat.reduceAdd,reduceIte,lm,hd]
def Sl (cs:List Nat):Prop:=1<=cs.length/\cs.length<=12/\∀ c∈cs,low c
noncomputable def Fg (cs:List Nat)(m:Int):Int:=((1+cs.foldl (kf 31 10006) 0)*m+cs.foldl (kf 37 10007) 0) % 10007
theorem rh (n:Nat){cs:List Nat}(h:Sl cs):ae T (n+1) 25 [.str (BN cs),.str "abcdefghijklmnopqrstuvwxyz",.int 1,.int 12]=.ok (.bl true):=by
 rw[Ev.go (show T 25=some Hq from rfl) (show Hq.io=false from rfl) (show Hq.np=4 from rfl) (show Hq.G.N.length=4 from rfl) (show Hq.body=L8 from rfl) rfl];unfold L8
 obtain⟨h1,h2,h3⟩:=h
 have e1:aP (bf (ae T n) (.nm 1) [] (.cmp .EA (.v 1) (.v 0)) [some (.str "abcdefghijklmnopqrstuvwxyz"),none]) (bo (BN cs))=.ok ((cs.map fun c=>true).map .bl):=by
  rw[dz,List.map_map]
  refine Ev.c7 (fun c:Nat=>D.str (one c)) (fun c=>true) .bl _ fun c hc=>?_
  have:=wq (h3 c hc)
  simp -implicitDefEqProofs (disch:=omega) only[Bl,Nat.reduceBEq,Nat.reduceSub,Nat.reduceAdd,reduceIte,this]
 have ea:(cs.map fun _=>true).all id=true:=by rw[List.all_map];simp
 have lc:(bo (BN cs)).length=cs.length:=by rw[dz,List.length_map,List.length_map]
 have d1:decide ((1:Int)<=(cs.length:Int))=true:=decide_eq_true (by omega)
 have d2:decide ((cs.length:Int)<=12)=true:=decide_eq_true (by omega)
 have sl:=c8 cs
 simp -implicitDefEqProofs (disch:=omega) only[Bl,Nat.reduceBEq,Nat.reduceSub,Nat.reduceAdd,reduceIte,d1,d2,e1,ea,lc,sl]
theorem jq (n:Nat){cs:List Nat}(h:Sl cs):ae T (n+2) 32 [.str (BN cs)]=.ok .A8:=by
 have e:=rh n h
 rw[Ev.go (show T 32=some Ht from rfl) (show Ht.io=false from rfl) (show Ht.np=1 from rfl) (show Ht.G.N.length=1 from rfl) (show Ht.body=L' from rfl) rfl];unfold L'
 simp -implicitDefEqProofs (disch:=omega) only[Bl,Nat.reduceBEq,Nat.reduceSub,Nat.reduceAdd,reduceIte,e]
noncomputable def oZ:List IS:=[(.asg (.nm 3) (.bin .mod (.bin .add (.bin .mul (.v 3) (.v 1)) (.bi .ord [(.v 4)])) (.v 2)))]
theorem o4 (n:Nat)(cs:List Nat)(hm:cs.length<=12)(a m:Int)(h0:0 < m)(ha:0<=a)(RJ:a < 18446744073709551616):ae T (n+1) 33 [.str (BN cs),.int a,.int m]=.ok (.int (cs.foldl (kf a m) 0)):=by
 obtain⟨A7,e,s4,rfl⟩:=AW (body:=Ev.turn (ae T n) (.nm 4) oZ) (kf a m) (fun k τ=>∃ s4,τ=[some (.str (BN cs)),some (.int a),some (.int m),some (.int k),s4]) cs 0 [some (.str (BN cs)),some (.int a),some (.int m),some (.int 0),none] ⟨none,rfl⟩ (by
  rintro c k τ hc ⟨s4,rfl⟩
  refine⟨[some (.str (BN cs)),some (.int a),some (.int m),some (.int (kf a m k c)),some (.str (one c))],?_,_,rfl⟩
  unfold oZ kf
  simp -implicitDefEqProofs (disch:=omega) only[Bl,Nat.reduceBEq,Nat.reduceSub,Nat.reduceAdd,reduceIte,Ev.aA,rf,rg])
 unfold oZ at e
 rw[Ev.go (show T 33=some Hu from rfl) (show Hu.io=false from rfl) (show Hu.np=3 from rfl) (show Hu.G.N.length=5 from rfl) (show Hu.body=Ma from rfl) rfl];unfold Ma
 simp -implicitDefEqProofs (disch:=omega) only[Bl,Nat.reduceBEq,Nat.reduceSub,Nat.reduceAdd,reduceIte,dz,c8,e]
theorem o5 (n:Nat){cs:List Nat}(h:Sl cs):ae T (n+3) 34 [.str (BN cs)]=.ok (.tup [.int (1+cs.foldl (kf 31 10006) 0),.int (cs.foldl (kf 37 10007) 0)]):=by
 have e1:=jq n h
 have e2:=o4 (n+1) cs h.2.1 31 10006 (by decide) (by decide) (by decide)
 have e3:=o4 (n+1) cs h.2.1 37 10007 (by decide) (by decide) (by decide)
 rw[Ev.go (show T 34=some Hv from rfl) (show Hv.io=false from rfl) (show Hv.np=1 from rfl) (show Hv.G.N.length=3 from rfl) (show Hv.body=Mb from rfl) rfl];unfold Mb
 simp -implicitDefEqProofs (disch:=omega) only[Bl,Nat.reduceBEq,Nat.reduceSub,Nat.reduceAdd,reduceIte,e1,e2,e3,Int.reduceSub]
theorem iP (n:Nat){cs:List Nat}(h:Sl cs)(m:Int)(m0:0<=m)(m1:m<=1000000000):ae T (n+4) 35 [.str (BN cs),.int m]=.ok (.int (Fg cs m)):=by
 have e1:=o5 n h
 have x0:∀ (P Q:D),au (.tup [P,Q]) (.int 0)=.ok P:=fun _ _=>rfl
 have x1:∀ (P Q:D),au (.tup [P,Q]) (.int 1)=.ok Q:=fun _ _=>rfl
 rw[Ev.go (show T 35=some Hw from rfl) (show Hw.io=false from rfl) (show Hw.np=2 from rfl) (show Hw.G.N.length=3 from rfl) (show Hw.body=Mc from rfl) rfl];unfold Mc
 unfold Fg
 simp -implicitDefEqProofs (disch:=omega) only[Bl,Nat.reduceBEq,Nat.reduceSub,Nat.reduceAdd,reduceIte,e1,x0,x1]
end Law
namespace L2
open PySem PySem.Spec PyProof.Rows PySem.SeqAt
namespace Fr
variable {T:Tb}
mutual
noncomputable def pl:Nat->D->Bool
 | n+1,.tup ds=>Cy n ds&&decide (ds.length < 1000)
 | n+1,.lst o ds=>!o&&(Cy n ds&&decide (ds.length < 1000))
 | _+1,.A0 _ _ _=>false
 | _+1,.exc _=>false
 | 0,_=>false
 | _+1,_=>true
noncomputable def Cy:Nat->List D->Bool
 | _,[]=>true
 | n,d::ds=>pl n d&&Cy n ds
end
theorem gD {n:Nat}:∀ {ds:List D},Cy n ds=true->∀ d∈ds,pl n d=true
 | [],_,d,hd=>by simp at hd
 | e::ds,h,d,hd=>by
  have h':=Bool.and_eq_true_iff.mp (show (pl n e&&Cy n ds)=true from h)
  rcases List.mem_cons.mp hd with rfl|hd
  ·exact h'.1
  ·exact gD h'.2 d hd
theorem o6:∀ (n:Nat) (d:D),pl n d=true->er d=d:=by
 intro n
 induction n with
 | zero=>intro d h;cases d<;>cases h
 | succ n ih=>
  have all:∀ ds:List D,Cy n ds=true->A6 ds=ds:=by
   intro ds
   induction ds with
   | nil=>intro _;rfl
   | cons e ds F3=>
    intro h
    have h':=Bool.and_eq_true_iff.mp (show (pl n e&&Cy n ds)=true from h)
    show er e::A6 ds=_
    rw[ih e h'.1,F3 h'.2]
  intro d h
  cases d with
  | tup ds=>
   have h':=Bool.and_eq_true_iff.mp (show (Cy n ds&&decide (ds.length < 1000))=true from h)
   rw[er,all ds h'.1]
  | lst o ds=>
   have h':=Bool.and_eq_true_iff.mp (show (!o&&(Cy n ds&&decide (ds.length < 1000)))=true from h)
   have h2:=Bool.and_eq_true_iff.mp h'.2
   have ho:o=false:=by simpa using h'.1
   subst ho
   rw[er,all ds h2.1]
  | A0 _ _ _=>cases h
  | exc _=>cases h
  | _=>rfl
theorem o7 {n:Nat}:∀ {ds:List D},Cy n ds=true->A6 ds=ds
 | [],_=>rfl
 | e::ds,h=>by
  have h':=Bool.and_eq_true_iff.mp (show (pl n e&&Cy n ds)=true from h)
  show er e::A6 ds=_
  rw[o6 n e h'.1,o7 h'.2]
noncomputable def o8 (f:Nat):Gm:={N:=["_law_own","_law_part"],kd:=[.local,.local],gl:=[f],df:=false}
noncomputable def uq (f:Nat):List IS:=
 [(.Bn (.cmp .E0 (.v 1) (.c .A8)) [(.ret (.cmp .E0 (.v 0) (.c .A8)))] []),(.Bn (.E1 (.BW (.v 1) .bool) (.BW (.v 0) .bool)) [(.ret (.BB (.BW (.v 1) .bool) (.BB (.BW (.v 0) .bool) (.cmp .eq (.v 0) (.v 1)))))] []),(.Bn (.BW (.v 1) .str) [(.ret (.BB (.BW (.v 0) .str) (.cmp .eq (.v 0) (.v 1))))] []),(.Bn (.BW (.v 1) .int) [(.ret (.BB (.BW (.v 0) .int) (.cmp .eq (.v 0) (.v 1))))] []),(.Bn (.BW (.v 1) .tuple) [(.Bn (.BU (.BW (.v 0) .tuple)) [(.ret (.c (.bl false)))] [])] [(.Bn (.BU (.BW (.v 0) .list)) [(.ret (.c (.bl false)))] [])]),(.Bn (.cmp .ne (.bi .len [(.v 0)]) (.bi .len [(.v 1)])) [(.ret (.c (.bl false)))] []),(.ret (.bi .all [(.comp (o8 f) [] (.tp [(.nm 0),(.nm 1)]) (.zip (.v 0) (.v 1)) [] (.call f [(.v 0),(.v 1)]))]))]
theorem eL (ds:List D):dq ds ds=ds.map fun a=>.tup [a,a]:=by
 unfold dq
 induction ds with
 | nil=>rfl
 | cons d ds ih=>rw[List.zipWith_cons_cons,ih];rfl
theorem iQ:∀ n:Nat,bB (List.replicate n (D.bl true))=some (List.replicate n true)
 | 0=>rfl
 | n+1=>by
  rw[List.replicate_succ,List.replicate_succ]
  show (bB _).map _=_
  rw[iQ n]
  rfl
theorem all_true (o:Bool)(n:Nat):cy .all [.lst o (List.replicate n (D.bl true))]=.ok (.bl true):=by
 show (match bB (List.replicate n (D.bl true)) with|some bs=>.ok (.bl (bs.all id))|none=>A5:Res D)=_
 rw[iQ]
 simp
theorem rj {f:Nat}{fn:Fn}(hT:T f=some fn)(E8:fn.io=false)(h1:fn.np=2)(h2:fn.G.N.length=2)(h3:fn.body=uq f):∀ (n k:Nat) (d:D),pl n d=true->ae T (n+k) f [d,d]=.ok (.bl true):=by
 intro n
 induction n with
 | zero=>intro k d h;cases d<;>cases h
 | succ n ih=>
  intro k d h
  have fm:∀ ds:List D,Cy n ds=true->aP (bf (ae T (n+k)) (.tp [(.nm 0),(.nm 1)]) [] (.call f [(.v 0),(.v 1)]) [none,none]) (dq ds ds)=.ok (List.replicate ds.length (D.bl true)):=by
   intro ds hp
   rw[eL]
   refine(Ev.c7 (fun a:D=>D.tup [a,a]) (fun _=>D.bl true) id ds fun x hx=>?_).trans (by rw[List.map_id,List.map_const'])
   have Cw:=gD hp x hx
   have hc:=ih k x Cw
   have he:=o6 n x Cw
   have e2:A6 [x,x]=[x,x]:=by show [er x,er x]=_;rw[he]
   simp -implicitDefEqProofs (disch:=omega) only[Bl,Nat.reduceBEq,Nat.reduceSub,Nat.reduceAdd,reduceIte,Ev.aA,hc,e2,he,id]
  rw[show n+1+k=(n+k)+1 by omega,Ev.go hT E8 h1 h2 h3 rfl]
  unfold uq
  cases d with
  | A8=>simp -implicitDefEqProofs (disch:=omega) only[Bl,Nat.reduceBEq,Nat.reduceSub,Nat.reduceAdd,reduceIte]
  | bl b=>simp -implicitDefEqProofs (disch:=omega) only[Bl,Nat.reduceBEq,Nat.reduceSub,Nat.reduceAdd,reduceIte]
  | int i=>simp -implicitDefEqProofs (disch:=omega) only[Bl,Nat.reduceBEq,Nat.reduceSub,Nat.reduceAdd,reduceIte]
  | str x=>simp -implicitDefEqProofs (disch:=omega) only[Bl,Nat.reduceBEq,Nat.reduceSub,Nat.reduceAdd,reduceIte]
  | tup ds=>
   have h':=Bool.and_eq_true_iff.mp (show (Cy n ds&&decide (ds.length < 1000))=true from h)
   have hl:ds.length < 1000:=of_decide_eq_true h'.2
   have hz:(dq ds ds).length=ds.length:=by rw[eL,List.length_map]
   have e:=fm ds h'.1
   have ea:=all_true true ds.length
   unfold o8
   simp -implicitDefEqProofs (disch:=omega) only[Bl,Nat.reduceBEq,Nat.reduceSub,Nat.reduceAdd,reduceIte,e,ea,hz]
  | lst o ds=>
   have h0:=Bool.and_eq_true_iff.mp (show (!o&&(Cy n ds&&decide (ds.length < 1000)))=true from h)
   have h':=Bool.and_eq_true_iff.mp h0.2
   have hl:ds.length < 1000:=of_decide_eq_true h'.2
   have hz:(dq ds ds).length=ds.length:=by rw[eL,List.length_map]
   have e:=fm ds h'.1
   have ea:=all_true true ds.length
   unfold o8
   simp -implicitDefEqProofs (disch:=omega) only[Bl,Nat.reduceBEq,Nat.reduceSub,Nat.reduceAdd,reduceIte,e,ea,hz]
  | A0 _ _ _=>cases h
  | exc _=>cases h
noncomputable def kA (f:Nat)(x:Str):Gm:={N:=[x],kd:=[.local],gl:=[f],df:=false}
noncomputable def ur (f:Nat)(x:Str):List IS:=
 [(.Bn (.BW (.v 0) .list) [(.ret (.comp (kA f x) [] (.nm 0) (.val (.v 0)) [] (.call f [(.v 0)])))] []),(.Bn (.BW (.v 0) .tuple) [(.ret (.bi .tuple [(.comp (kA f x) [] (.nm 0) (.val (.v 0)) [] (.call f [(.v 0)]))]))] []),(.ret (.v 0))]
theorem BO:∀ ds:List D,A6 (A6 ds)=A6 ds:=by
 intro ds
 rw[a9,a9,List.map_map]
 exact List.map_congr_left fun d _=>rQ d
theorem kC {g:D->Res (Option D)}:∀ (xs:List D),(∀ x∈xs,∃ y,g x=.ok (some y)/\er y=er x)->∃ ys,aP g xs=.ok ys/\A6 ys=A6 xs/\ys.length=xs.length
 | [],_=>⟨[],rfl,rfl,rfl⟩
 | x::xs,h=>by
  obtain⟨y,h1,h2⟩:=h x (by simp)
  obtain⟨ys,h3,h4,h5⟩:=kC xs fun z hz=>h z (List.mem_cons_of_mem _ hz)
  refine⟨y::ys,?_,by show er y::A6 ys=er x::A6 xs;rw[h2,h4],by rw[List.length_cons,List.length_cons,h5]⟩
  show j' (g x) _=_
  rw[h1]
  show j' (aP g xs) _=_
  rw[h3]
  rfl
theorem rk {f:Nat}{fn:Fn}{x:Str}(hT:T f=some fn)(E8:fn.io=false)(h1:fn.np=1)(h2:fn.G.N.length=1)(h3:fn.body=ur f x):∀ (n k:Nat) (d:D),pl n d=true->∃ d',ae T (n+k) f [d]=.ok d'/\er d'=d:=by
 intro n
 induction n with
 | zero=>intro k d h;cases d<;>cases h
 | succ n ih=>
  intro k d h
  have fm:∀ ds:List D,Cy n ds=true->∃ ys,aP (bf (ae T (n+k)) (.nm 0) [] (.call f [(.v 0)]) [none]) ds=.ok ys/\A6 ys=ds/\ys.length=ds.length:=by
   intro ds hp
   obtain⟨ys,h1,h2,h3⟩:=kC (g:=bf (ae T (n+k)) (.nm 0) [] (.call f [(.v 0)]) [none]) ds fun x hx=>by
    have Cw:=gD hp x hx
    obtain⟨y,hc,hy⟩:=ih k x Cw
    have he:=o6 n x Cw
    have e2:A6 [x]=[x]:=by show [er x]=_;rw[he]
    refine⟨y,?_,hy.trans he.symm⟩
    simp -implicitDefEqProofs (disch:=omega) only[Bl,Nat.reduceBEq,Nat.reduceSub,Nat.reduceAdd,reduceIte,Ev.aA,hc,e2,he]
   exact⟨ys,h1,h2.trans (o7 hp),h3⟩
  rw[show n+1+k=(n+k)+1 by omega,Ev.go hT E8 h1 h2 h3 rfl]
  unfold ur
  cases d with
  | A8=>exact⟨.A8,by simp -implicitDefEqProofs (disch:=omega) only[Bl,Nat.reduceBEq,Nat.reduceSub,Nat.reduceAdd,reduceIte],rfl⟩
  | bl b=>exact⟨.bl b,by simp -implicitDefEqProofs (disch:=omega) only[Bl,Nat.reduceBEq,Nat.reduceSub,Nat.reduceAdd,reduceIte],rfl⟩
  | int i=>exact⟨.int i,by simp -implicitDefEqProofs (disch:=omega) only[Bl,Nat.reduceBEq,Nat.reduceSub,Nat.reduceAdd,reduceIte],rfl⟩
  | str z=>exact⟨.str z,by simp -implicitDefEqProofs (disch:=omega) only[Bl,Nat.reduceBEq,Nat.reduceSub,Nat.reduceAdd,reduceIte],rfl⟩
  | tup ds=>
   have h':=Bool.and_eq_true_iff.mp (show (Cy n ds&&decide (ds.length < 1000))=true from h)
   have hl:ds.length < 1000:=of_decide_eq_true h'.2
   obtain⟨ys,e,hy,QZ⟩:=fm ds h'.1
   unfold kA
   cases lf:af ys with
   | true=>
    refine⟨.tup ys,?_,by rw[er,hy]⟩
    simp -implicitDefEqProofs (disch:=omega) only[Bl,Nat.reduceBEq,Nat.reduceSub,Nat.reduceAdd,reduceIte,e,lf]
   | false=>
    refine⟨.tup (A6 ys),?_,by rw[er,BO,hy]⟩
    simp -implicitDefEqProofs (disch:=omega) only[Bl,Nat.reduceBEq,Nat.reduceSub,Nat.reduceAdd,reduceIte,e,lf]
  | lst o ds=>
   have h0:=Bool.and_eq_true_iff.mp (show (!o&&(Cy n ds&&decide (ds.length < 1000)))=true from h)
   have h':=Bool.and_eq_true_iff.mp h0.2
   have ho:o=false:=by simpa using h0.1
   subst ho
   have hl:ds.length < 1000:=of_decide_eq_true h'.2
   obtain⟨ys,e,hy,QZ⟩:=fm ds h'.1
   unfold kA
   cases lf:af ys with
   | true=>
    refine⟨.lst true ys,?_,by rw[er,hy]⟩
    simp -implicitDefEqProofs (disch:=omega) only[Bl,Nat.reduceBEq,Nat.reduceSub,Nat.reduceAdd,reduceIte,e,lf]
   | false=>
    refine⟨.lst true (A6 ys),?_,by rw[er,BO,hy]⟩
    simp -implicitDefEqProofs (disch:=omega) only[Bl,Nat.reduceBEq,Nat.reduceSub,Nat.reduceAdd,reduceIte,e,lf]
  | A0 _ _ _=>cases h
  | exc _=>cases h
end Fr
end L2
namespace Law
open PySem PySem.Spec L2 L2.Fr
theorem same (n k:Nat){d:D}(h:pl n d=true):ae T (n+k) 50 [d,d]=.ok (.bl true):=rj (fn:=Mm) rfl rfl rfl rfl rfl n k d h
theorem copy (n k:Nat){d:D}(h:pl n d=true):∃ d',ae T (n+k) 51 [d]=.ok d'/\er d'=d:=rk (fn:=Mn) (x:="_law_part") rfl rfl rfl rfl rfl n k d h
open PyProof.Rows
theorem rl {a b:List Nat}(h:BN a=BN b):a=b:=by
 have:=congrArg (fun s:Str=>s.cps.toList) h
 simpa[BN] using this
noncomputable def jc (c:Int):List Int:=(List.range (c - 0).toNat).map fun k=>(0:Int)+((k:Nat):Int)
theorem zW {c x:Int}(h:x∈jc c):0<=x/\x < c:=by
 obtain⟨k,hk,rfl⟩:=List.mem_map.mp h
 have:=List.mem_range.mp hk
 omega
theorem zX {c:Int}{f:Int->Str}(hf:∀ x y,0<=x->x < c->0<=y->y < c->f x=f y->x=y):((jc c).map f).Nodup:=by
 unfold jc
 rw[List.map_map]
 refine List.pairwise_map.mpr (List.Pairwise.imp_of_mem (fun {a b} ha hb hn he=>hn ?_) List.nodup_range)
 have a1:=List.mem_range.mp ha
 have b1:=List.mem_range.mp hb
 have:=hf (0+(a:Int)) (0+(b:Int)) (by omega) (by omega) (by omega) (by omega) he
 omega
theorem o9 (c:Int):(jc c).length=c.toNat:=by
 unfold jc
 rw[List.length_map,List.length_range]
 omega
theorem wt:Str.ofString "bridges" = BN [98,114,105,100,103,101,115]:=by decide +kernel
theorem pf (n:Nat)(ns:List Int){c:Int}(c0:1<=c)(c1:c<=20):∃ fs:List Str,ae T (n+2) 52 [.lst false (ns.map .int),.int c]=.ok (.lst true (fs.map .str))/\fs.length=c.toNat/\fs.Nodup:=by
 have d0:=bg n ns 0 26 (by decide) (by decide) (by decide)
 have a0:=cK ns 0 (m:=26) (by decide)
 have a1:=cL ns 0 (m:=26) (by decide)
 generalize dr ns 0 26=st at *
 have d1:=bg n ns 1 8 (by decide) (by decide) (by decide)
 have q0:=cK ns 1 (m:=8) (by decide)
 have q1:=cL ns 1 (m:=8) (by decide)
 generalize dr ns 1 8=q at *
 have s0:=iO (cs:=[98,114,105,100,103,101,115]) (j:=q) q0 (by show q<=7;omega)
 have Q0:([98,114,105,100,103,101,115].take q.toNat:List Nat).length<=7:=by rw[List.length_take];show min _ 7<=7;omega
 generalize ([98,114,105,100,103,101,115].take q.toNat:List Nat)=cs at *
 have s7:(BN [98,114,105,100,103,101,115]).length=7:=rfl
 have d3:=bg n ns 2 ((cs.length:Int)+1) (by decide) (by decide) (by omega)
 have g0:=cK ns 2 (m:=(cs.length:Int)+1) (by omega)
 have g1:=cL ns 2 (m:=(cs.length:Int)+1) (by omega)
 generalize dr ns 2 ((cs.length:Int)+1)=t at *
 have d4:=bg n ns 3 4 (by decide) (by decide) (by decide)
 have f0:=cK ns 3 (m:=4) (by decide)
 have f1:=cL ns 3 (m:=4) (by decide)
 generalize dr ns 3 4=u at *
 obtain⟨sp,DA,Q1⟩:∃ sp:Int,(∀ o,au (.lst o [.int 1,.int 7,.int 25,.int 11]) (.int u)=.ok (.int sp))/\(sp=1∨sp=7∨sp=25∨sp=11):=by
  rcases (show u=0∨u=1∨u=2∨u=3 by omega) with rfl|rfl|rfl|rfl
  ·exact⟨1,fun _=>rfl,by omega⟩
  ·exact⟨7,fun _=>rfl,by omega⟩
  ·exact⟨25,fun _=>rfl,by omega⟩
  ·exact⟨11,fun _=>rfl,by omega⟩
 have s1:=iO (cs:=cs) (j:=t) g0 (by omega)
 have s2:=jo (cs:=cs) (i:=t) g0 (by omega)
 have l1:(cs.take t.toNat).length<=12:=by rw[List.length_take];omega
 have l2:(cs.drop t.toNat).length<=12:=by rw[List.length_drop];omega
 have sl:=c8 cs
 have rn:bE 0 c=(jc c).map .int:=Ev.oX 0 c
 have ln:((jc c).map D.int).length=c.toNat:=by rw[List.length_map,o9]
 have fm:aP (bf (ae T (n+1)) (.nm 5) [] (.bin .add (.bin .add (.sl (.v 0) none (some (.v 1))) (.idx (.v 2) (.bin .mod (.bin .add (.v 3) (.bin .mul (.v 4) (.v 5))) (.c (.int 26))))) (.sl (.v 0) (some (.v 1)) none)) [some (.str (BN cs)),some (.int t),some (.str "abcdefghijklmnopqrstuvwxyz"),some (.int st),some (.int sp),none]) ((jc c).map .int)=.ok (((jc c).map fun j=>BN (cs.take t.toNat++[97+((st+sp*j) % 26).toNat]++cs.drop t.toNat)).map .str):=by
  refine Ev.c7 .int (fun j=>BN (cs.take t.toNat++[97+((st+sp*j) % 26).toNat]++cs.drop t.toNat)) .str _ fun j hj=>?_
  have:=zW hj
  have c0:=Int.emod_nonneg (st+sp*j) (show (26:Int)≠0 by decide)
  have c1:=Int.emod_lt_of_pos (st+sp*j) (show (0:Int) < 26 by decide)
  have ab:=wo c0 c1
  rw[rb] at ab
  have p1:=kz (a:=cs.take t.toNat) (b:=[97+((st+sp*j) % 26).toNat]) (by rw[List.length_singleton];omega)
  have p2:=kz (a:=cs.take t.toNat++[97+((st+sp*j) % 26).toNat]) (b:=cs.drop t.toNat) (by rw[List.length_append,List.length_singleton];omega)
  simp -implicitDefEqProofs (disch:=omega) only[Bl,Nat.reduceBEq,Nat.reduceSub,Nat.reduceAdd,reduceIte,s1,s2,sl,ab,p1,p2]
 refine⟨(jc c).map fun j=>BN (cs.take t.toNat++[97+((st+sp*j) % 26).toNat]++cs.drop t.toNat),?_,by rw[List.length_map,o9],zX fun x y x0 x1 y0 y1 e=>?_⟩
 ·rw[Ev.go (show T 52=some HP from rfl) (show HP.io=false from rfl) (show HP.np=2 from rfl) (show HP.G.N.length=7 from rfl) (show HP.body=Mo from rfl) rfl];unfold Mo
  generalize (jc c).map (fun j=>BN (cs.take t.toNat++[97+((st+sp*j) % 26).toNat]++cs.drop t.toNat))=L at *
  rw[wt]
  simp -implicitDefEqProofs (disch:=omega) only[Bl,Nat.reduceBEq,Nat.reduceSub,Nat.reduceAdd,reduceIte,d0,d1,s0,s7,sl,d3,d4,DA,rn,ln,fm]
 ·have h1:=List.append_cancel_right (rl e)
  have h2:=List.append_cancel_left h1
  have h3:97+((st+sp*x) % 26).toNat=97+((st+sp*y) % 26).toNat:=List.head_eq_of_cons_eq h2
  rcases Q1 with rfl|rfl|rfl|rfl<;>omega
theorem gE {α:Type}{g:D->Res (Option D)}(Eu:α->D)(p:α->Bool)(out:α->D):∀ xs:List α,(∀ x∈xs,g (Eu x)=.ok (if p x=true then some (out x) else none))->aP g (xs.map Eu)=.ok ((xs.filter p).map out)
 | [],_=>rfl
 | x::xs,h=>by
  have ih:=gE Eu p out xs fun y hy=>h y (List.mem_cons_of_mem _ hy)
  rw[List.map_cons,List.filter_cons]
  show j' (g (Eu x)) _=_
  rw[h x (.head _)]
  cases p x with
  | true=>
   show j' (aP _ _) _=_
   rw[ih]
   rfl
  | false=>exact ih
theorem uu (w:Str):∀ ws:List Str,Cq (.str w) (ws.map .str)=.ok (ws.any (· == w))
 | []=>rfl
 | x::ws=>by
  show j' (.ok (x == w)) (fun a=>j' (Cq (.str w) (ws.map .str)) fun b=>.ok (a||b))=_
  rw[uu w ws]
  rfl
theorem zY (o:Bool)(w:Str)(ws:List Str):Cj .EA (.str w) (.lst o (ws.map .str))=.ok (ws.any (· == w)):=uu w ws
structure Sw where
 nm:Str
 rest:Str
 f:Str
 w:Nat
 a:Str
 b:Str
 nd:List (Str×Str)
 st:Bool
noncomputable def r1 (o:D):D:=.tup [.lst false [],o]
noncomputable def oF (f:Str):D:=.tup [.str "face",.str f]
noncomputable def oS (f:Str)(p:Int):D:=.tup [.str "share",.str f,.lst false [.tup [.int 3,.int p]]]
noncomputable def oL:D:=.tup [.str "lot"]
noncomputable def Dz (f:Str):Nat->List D
 | 0=>[r1 (oF f)]
 | 1=>[r1 (oS f 10007)]
 | 2=>[r1 (oS f 0),r1 oL]
 | _=>[]
noncomputable def EH (a b:Str):D:=.tup [.lst false [.tup [.str a,.lst false []],.tup [.str b,.lst false []]],.lst false [.tup [.int 0,.int 10007]]]
noncomputable def Q2 (rest a b:Str)(R:List D):D:=.tup [.str "salt",.str rest,.lst false R,EH a b]
noncomputable def Sw.d (s:Sw):D:=Q2 s.rest s.a s.b (Dz s.f s.w)
noncomputable def BX (p:Str×Str):D:=.tup [.str p.1,.str p.2]
noncomputable def bw (s:Sw):D:=.tup [s.d,.lst false (s.nd.map BX),.bl s.st]
noncomputable def BQ (s:Sw):D:=.tup [.str s.nm,bw s]
noncomputable def F5 (held:List Str):List D:=[.tup [.str "none",.str "salt",.int 0,.A8],.tup [.str "some",.str "salt",.int 10007,.lst false (held.map .str)]]
noncomputable def Bp (held:List Str)(L:List Sw):D:=.tup [.lst false [],.lst false (F5 held),.lst false (L.map BQ)]
noncomputable def BJ (m:Int):D:=.tup [.int m,.lst false []]
theorem h0 (hs:List Str)(fs:List Sw):au (Bp hs fs) (.int 0)=.ok (.lst false []):=rfl
theorem h1 (hs:List Str)(fs:List Sw):au (Bp hs fs) (.int 1)=.ok (.lst false (F5 hs)):=rfl
theorem h2 (hs:List Str)(fs:List Sw):au (Bp hs fs) (.int 2)=.ok (.lst false (fs.map BQ)):=rfl
theorem iR (s:Sw):er s.d=s.d:=by
 unfold Sw.d
 rcases s with ⟨_,_,_,w,_,_,_,_⟩
 rcases w with _|_|_|w<;>rfl
theorem gF (l:List (Str×Str)):A6 (l.map BX)=l.map BX:=by
 rw[a9,List.map_map];rfl
theorem jr (s:Sw):er (bw s)=bw s:=by
 show D.tup [er s.d,.lst false (A6 (s.nd.map BX)),.bl s.st]=_
 rw[iR,gF];rfl
theorem wu (s:Sw):er (BQ s)=BQ s:=by
 show D.tup [.str s.nm,er (bw s)]=_
 rw[jr];rfl
theorem ph (fs:List Sw):A6 (fs.map BQ)=fs.map BQ:=by
 rw[a9,List.map_map]
 exact List.map_congr_left fun h _=>wu h
theorem uv (hs:List Str):A6 (F5 hs)=F5 hs:=by
 show [D.tup [.str "none",.str "salt",.int 0,.A8],D.tup [.str "some",.str "salt",.int 10007,.lst false (A6 (hs.map .str))]]=_
 rw[Ev.ck];rfl
theorem cq (hs:List Str)(fs:List Sw):er (Bp hs fs)=Bp hs fs:=by
 show D.tup [.lst false [],.lst false (A6 (F5 hs)),.lst false (A6 (fs.map BQ))]=_
 rw[uv,ph];rfl
theorem iS (m:Int):er (BJ m)=BJ m:=rfl
theorem v0 (m:Int):au (BJ m) (.int 0)=.ok (.int m):=rfl
theorem v1 (m:Int):au (BJ m) (.int 1)=.ok (.lst false []):=rfl
noncomputable def tE:List IS:=[(.Bn (.cmp .eq (.v 2) (.v 1)) [(.ret (.v 3))] [])]
theorem wx (cl:Nat->List D->Res D)(s:Sw)(x:Str)(a b c:Option D):Ev.turn cl (.tp [(.nm 2),(.nm 3)]) tE (BQ s) [a,some (.str x),b,c]=if (s.nm == x)=true then .ok (.rt (bw s)) else .ok (.nx [a,some (.str x),some (.str s.nm),some (bw s)]):=by
 unfold tE BQ
 generalize bw s=E
 cases h:(s.nm == x)<;>simp -implicitDefEqProofs (disch:=omega) only[Bl,Nat.reduceBEq,Nat.reduceSub,Nat.reduceAdd,reduceIte,Ev.aA,h]
theorem pj (cl:Nat->List D->Res D)(x:Str)(a:Option D)(s:Sw):∀ (L:List Sw) (b c:Option D),L.find? (fun s=>s.nm == x)=some s->
  forM (Ev.turn cl (.tp [(.nm 2),(.nm 3)]) tE) (L.map BQ) [a,some (.str x),b,c]=.ok (.rt (bw s))
 | [],b,c,h=>by cases h
 | f::fs,b,c,h=>by
  rw[List.map_cons,Ev.bV,wx]
  rw[List.find?_cons] at h
  cases q:(f.nm == x) with
  | true=>rw[q] at h;cases h;rfl
  | false=>rw[q] at h;exact pj cl x a s fs _ _ h
theorem pq (n:Nat)(hs:List Str){L:List Sw}{x:Str}{s:Sw}(h:L.find? (fun s=>s.nm == x)=some s):ae T (n+1) 43 [Bp hs L,.str x]=.ok (bw s):=by
 have e:=pj (ae T n) x (some (Bp hs L)) s L none none h
 unfold tE at e
 have q2:=h2 hs L
 have q3:=cq hs L
 have q4:=ph L
 rw[Ev.go (show T 43=some HG from rfl) (show HG.io=false from rfl) (show HG.np=2 from rfl) (show HG.G.N.length=4 from rfl) (show HG.body=Mi from rfl) rfl];unfold Mi
 generalize Bp hs L=H at *
 generalize L.map BQ=F at *
 generalize bw s=E at *
 simp -implicitDefEqProofs (disch:=omega) only[Bl,Nat.reduceBEq,Nat.reduceSub,Nat.reduceAdd,reduceIte,q2,q3,q4,e]
theorem iT:Str.ofString "salt" = BN [115,97,108,116]:=by decide +kernel
theorem kD:Sl [115,97,108,116]:=⟨by decide,by decide,fun c hc=>by
 simp only[List.mem_cons,List.not_mem_nil,or_false] at hc
 unfold low
 omega⟩
theorem uw (cs:List Nat)(m:Int):0<=Fg cs m:=Int.emod_nonneg _ (by decide)
theorem ux (cs:List Nat)(m:Int):Fg cs m < 10007:=Int.emod_lt_of_pos _ (by decide)
theorem pv (n:Nat)(hs:List Str)(L:List Sw)(x:Str){m:Int}(m0:0<=m)(m1:m<=1000000000):ae T (n+5) 44 [Bp hs L,BJ m,.str x]=.ok (if hs.any (· == x)=true then .str "some" else .A8):=by
 have e1:=iP n kD m m0 m1
 rw[<- iT] at e1
 have p0:decide (Fg [115,97,108,116] m < 0)=false:=decide_eq_false (by have:=uw [115,97,108,116] m;omega)
 have p1:decide (Fg [115,97,108,116] m < 10007)=true:=decide_eq_true (ux _ m)
 generalize Fg [115,97,108,116] m=P at *
 have q1:=h1 hs L
 have q3:=cq hs L
 have q4:=uv hs
 have w0:=v0 m
 have ih:=zY false x hs
 rw[Ev.go (show T 44=some HH from rfl) (show HH.io=false from rfl) (show HH.np=3 from rfl) (show HH.G.N.length=7 from rfl) (show HH.body=Mj from rfl) rfl];unfold Mj
 generalize Bp hs L=H at *
 generalize BJ m=V at *
 unfold F5 at *
 generalize hs.map D.str=Q at *
 cases hi:hs.any (· == x)<;>rw[hi] at ih<;>simp -implicitDefEqProofs (disch:=omega) only[Bl,Nat.reduceBEq,Nat.reduceSub,Nat.reduceAdd,reduceIte,Ev.bV,Ev.aA,q1,q3,q4,w0,e1,p0,p1,ih]
theorem rp (n:Nat)(g m:D):ae T (n+1) 29 [g,.lst false [],m]=.ok (.bl true):=by
 rw[Ev.go (show T 29=some Hr from rfl) (show Hr.io=false from rfl) (show Hr.np=3 from rfl) (show Hr.G.N.length=4 from rfl) (show Hr.body=L9 from rfl) rfl];unfold L9
 simp -implicitDefEqProofs (disch:=omega) only[Bl,Nat.reduceBEq,Nat.reduceSub,Nat.reduceAdd,reduceIte]
theorem dH (n:Nat)(S:D)(os:List (Int×D))(x2:au S (.int 2)=.ok (.lst false (os.map fun p=>r1 p.2)))(he:fY (os.map fun p=>r1 p.2)=os.map fun p=>.tup [.int p.1,r1 p.2])(hl:os.length<=2):ae T (n+2) 40 [.lst false [],S,.lst false []]=.ok (.lst true (os.map fun p=>.int p.1)):=by
 have e:=rp n (.lst false []) (.lst false [])
 have x0:∀ Q:D,au (r1 Q) (.int 0)=.ok (.lst false []):=fun _=>rfl
 have fm:aP (bf (ae T (n+1)) (.tp [(.nm 2),(.nm 3)]) [(.call 29 [(.v 0),(.idx (.v 3) (.c (.int 0))),(.v 1)])] (.v 2) [some (.lst false []),some (.lst false []),none,none]) (os.map fun p=>.tup [.int p.1,r1 p.2])=.ok (os.map fun p=>.int p.1):=by
  have:=gE (g:=bf (ae T (n+1)) (.tp [(.nm 2),(.nm 3)]) [(.call 29 [(.v 0),(.idx (.v 3) (.c (.int 0))),(.v 1)])] (.v 2) [some (.lst false []),some (.lst false []),none,none]) (fun p:Int×D=>.tup [.int p.1,r1 p.2]) (fun _=>true) (fun p=>.int p.1) os fun z _=>by
   generalize hr:r1 z.2=R
   have x0:au R (.int 0)=.ok (.lst false []):=by rw[<- hr];rfl
   simp -implicitDefEqProofs (disch:=omega) only[Bl,Nat.reduceBEq,Nat.reduceSub,Nat.reduceAdd,reduceIte,Ev.aA,e,x0]
  rw[this,List.filter_eq_self.mpr (fun _ _=>rfl)]
 have lf:af (os.map fun p=>D.int p.1)=true:=by rw[aS,List.all_map];exact List.all_eq_true.mpr fun _ _=>rfl
 have ll:(os.map fun p=>D.tup [.int p.1,r1 p.2]).length<=2:=by rw[List.length_map];exact hl
 rw[Ev.go (show T 40=some HB from rfl) (show HB.io=false from rfl) (show HB.np=3 from rfl) (show HB.G.N.length=3 from rfl) (show HB.body=Mg from rfl) rfl];unfold Mg
 generalize (os.map fun p=>D.tup [.int p.1,r1 p.2])=EN at *
 generalize (os.map fun p=>r1 p.2)=RR at *
 generalize (os.map fun p=>D.int p.1)=II at *
 simp -implicitDefEqProofs (disch:=omega) only[Bl,Nat.reduceBEq,Nat.reduceSub,Nat.reduceAdd,reduceIte,x2,he,fm,lf]
theorem Q3:(Str.ofString "share" == Str.ofString "face")=false:=by decide +kernel
theorem Q4:(Str.ofString "lot" == Str.ofString "face")=false:=by decide +kernel
theorem Q5:(Str.ofString "lot" == Str.ofString "share")=false:=by decide +kernel
theorem wy (n:Nat)(f:Str)(a:D)(z:Int):ae T (n+1) 39 [oF f,a,.int 5,.int z]=.ok (.str f):=by
 unfold oF
 have x0:∀ (P Q:D),au (.tup [P,Q]) (.int 0)=.ok P:=fun _ _=>rfl
 have x1:∀ (P Q:D),au (.tup [P,Q]) (.int 1)=.ok Q:=fun _ _=>rfl
 rw[Ev.go (show T 39=some DP from rfl) (show DP.io=false from rfl) (show DP.np=4 from rfl) (show DP.G.N.length=4 from rfl) (show DP.body=HA from rfl) rfl];unfold HA
 simp -implicitDefEqProofs (disch:=omega) only[Bl,Nat.reduceBEq,Nat.reduceSub,Nat.reduceAdd,reduceIte,x0,x1]
theorem pA (n:Nat)(p:Int):ae T (n+1) 38 [.lst false [.tup [.int 3,.int p]],.int 5]=.ok (.int p):=by
 have hd:decide ((3:Int)<=5)=true:=rfl
 rw[Ev.go (show T 38=some Hz from rfl) (show Hz.io=false from rfl) (show Hz.np=2 from rfl) (show Hz.G.N.length=5 from rfl) (show Hz.body=Mf from rfl) rfl];unfold Mf
 simp -implicitDefEqProofs (disch:=omega) only[Bl,Nat.reduceBEq,Nat.reduceSub,Nat.reduceAdd,reduceIte,Ev.bV,Ev.aA,hd]
theorem kE (n:Nat)(f:Str)(p:Int)(a:D)(z:Int):ae T (n+2) 39 [oS f p,a,.int 5,.int z]=.ok (if decide (z < p)=true then .str f else .A8):=by
 unfold oS
 have e:=pA n p
 have x0:∀ (P Q R:D),au (.tup [P,Q,R]) (.int 0)=.ok P:=fun _ _ _=>rfl
 have x1:∀ (P Q R:D),au (.tup [P,Q,R]) (.int 1)=.ok Q:=fun _ _ _=>rfl
 have x2:∀ (P Q R:D),au (.tup [P,Q,R]) (.int 2)=.ok R:=fun _ _ _=>rfl
 rw[Ev.go (show T 39=some DP from rfl) (show DP.io=false from rfl) (show DP.np=4 from rfl) (show DP.G.N.length=4 from rfl) (show DP.body=HA from rfl) rfl];unfold HA
 cases hd:decide (z < p)<;>simp -implicitDefEqProofs (disch:=omega) only[Bl,Nat.reduceBEq,Nat.reduceSub,Nat.reduceAdd,reduceIte,x0,x1,x2,e,Q3,hd]
theorem zZ (n:Nat)(z:Int):ae T (n+1) 36 [.lst false [],.int z]=.ok .A8:=by
 rw[Ev.go (show T 36=some Hx from rfl) (show Hx.io=false from rfl) (show Hx.np=2 from rfl) (show Hx.G.N.length=5 from rfl) (show Hx.body=Md from rfl) rfl];unfold Md
 simp -implicitDefEqProofs (disch:=omega) only[Bl,Nat.reduceBEq,Nat.reduceSub,Nat.reduceAdd,reduceIte]
theorem rq (n:Nat)(a b:Str)(z:Int):ae T (n+2) 37 [EH a b,.int z]=.ok .A8:=by
 have e:=zZ n z
 have x0:au (EH a b) (.int 0)=.ok (.lst false [.tup [.str a,.lst false []],.tup [.str b,.lst false []]]):=rfl
 have ea:er (EH a b)=EH a b:=rfl
 rw[Ev.go (show T 37=some Hy from rfl) (show Hy.io=false from rfl) (show Hy.np=2 from rfl) (show Hy.G.N.length=4 from rfl) (show Hy.body=Me from rfl) rfl];unfold Me
 generalize EH a b=A at *
 simp -implicitDefEqProofs (disch:=omega) only[Bl,Nat.reduceBEq,Nat.reduceSub,Nat.reduceAdd,reduceIte,Ev.bV,Ev.aA,x0,ea,e]
theorem Aa (n:Nat)(a b:Str)(z:Int):ae T (n+3) 39 [oL,EH a b,.int 5,.int z]=.ok .A8:=by
 have e:=rq n a b z
 unfold oL
 have x0:∀ (P:D),au (.tup [P]) (.int 0)=.ok P:=fun _=>rfl
 have ea:er (EH a b)=EH a b:=rfl
 rw[Ev.go (show T 39=some DP from rfl) (show DP.io=false from rfl) (show DP.np=4 from rfl) (show DP.G.N.length=4 from rfl) (show DP.body=HA from rfl) rfl];unfold HA
 generalize EH a b=A at *
 simp -implicitDefEqProofs (disch:=omega) only[Bl,Nat.reduceBEq,Nat.reduceSub,Nat.reduceAdd,reduceIte,x0,ea,e,Q4,Q5]
noncomputable def pB (s:Sw):D:=match s.w with
 | 0=>.tup [.str s.f,.int 0]
 | 1=>.tup [.str s.f,.int 0]
 | 2=>.tup [.str s.rest,.int 2]
 | _=>.tup [.str s.rest,.int 0]
noncomputable def lA (w:Nat):List D:=match w with
 | 0=>[.int 0]
 | 1=>[.int 0]
 | 2=>[.int 0,.int 1]
 | _=>[]
theorem rz (n:Nat)(s:Sw):ae T (n+2) 40 [.lst false [],s.d,.lst false []]=.ok (.lst true (lA s.w)):=by
 rcases s with ⟨nm,rest,f,w,a,b,nd,st⟩
 unfold Sw.d
 rcases w with _|_|_|w
 ·exact dH n _ [(0,oF f)] rfl rfl (by show _<=2;simp)
 ·exact dH n _ [(0,oS f 10007)] rfl rfl (by show _<=2;simp)
 ·exact dH n _ [(0,oS f 0),(1,oL)] rfl rfl (by show _<=2;simp)
 ·exact dH n _ [] rfl rfl (by show _<=2;simp)
theorem pC (n:Nat){S A O Q:D}{R:List D}{f:Str}{z:Int}(x2:au S (.int 2)=.ok (.lst false R))(x3:au S (.int 3)=.ok A)(x4:au (.lst false R) (.int 0)=.ok Q)(y1:au Q (.int 1)=.ok O)(es:er S=S)(ea:er A=A)(eo:er O=O)(k:ae T (n+3) 39 [O,A,.int 5,.int z]=.ok (.str f)) :
  ae T (n+4) 41 [S,.int 5,.lst false [.int 0],.int z]=.ok (.tup [.str f,.int 0]):=by
 rw[Ev.go (show T 41=some DQ from rfl) (show DQ.io=false from rfl) (show DQ.np=4 from rfl) (show DQ.G.N.length=6 from rfl) (show DQ.body=HC from rfl) rfl];unfold HC
 simp -implicitDefEqProofs (disch:=omega) only[Bl,Nat.reduceBEq,Nat.reduceSub,Nat.reduceAdd,reduceIte,Ev.bV,Ev.aA,x2,x3,x4,y1,es,ea,eo,k]
theorem wz (n:Nat){S A O O' Q Q':D}{R:List D}{f:Str}{z:Int}(x1:au S (.int 1)=.ok (.str f))(x2:au S (.int 2)=.ok (.lst false R))(x3:au S (.int 3)=.ok A)(x4:au (.lst false R) (.int 0)=.ok Q)(x5:au (.lst false R) (.int 1)=.ok Q')(y1:au Q (.int 1)=.ok O)(y2:au Q' (.int 1)=.ok O')(es:er S=S)(ea:er A=A)(eo:er O=O)(Q6:er O'=O')(hl:R.length=2)
  (k:ae T (n+3) 39 [O,A,.int 5,.int z]=.ok .A8) (k':ae T (n+3) 39 [O',A,.int 5,.int z]=.ok .A8) :
  ae T (n+4) 41 [S,.int 5,.lst false [.int 0,.int 1],.int z]=.ok (.tup [.str f,.int 2]):=by
 have h2:((2:Nat):Int)=2:=rfl
 rw[Ev.go (show T 41=some DQ from rfl) (show DQ.io=false from rfl) (show DQ.np=4 from rfl) (show DQ.G.N.length=6 from rfl) (show DQ.body=HC from rfl) rfl];unfold HC
 simp -implicitDefEqProofs (disch:=omega) only[Bl,Nat.reduceBEq,Nat.reduceSub,Nat.reduceAdd,reduceIte,Ev.bV,Ev.aA,x1,x2,x3,x4,x5,y1,y2,es,ea,eo,Q6,k,k',hl,h2]
theorem wA (n:Nat){S:D}{f:Str}{z:Int}(x1:au S (.int 1)=.ok (.str f))(x2:au S (.int 2)=.ok (.lst false [])) :
  ae T (n+4) 41 [S,.int 5,.lst false [],.int z]=.ok (.tup [.str f,.int 0]):=by
 have h2:((0:Nat):Int)=0:=rfl
 rw[Ev.go (show T 41=some DQ from rfl) (show DQ.io=false from rfl) (show DQ.np=4 from rfl) (show DQ.G.N.length=6 from rfl) (show DQ.body=HC from rfl) rfl];unfold HC
 simp -implicitDefEqProofs (disch:=omega) only[Bl,Nat.reduceBEq,Nat.reduceSub,Nat.reduceAdd,reduceIte,x1,x2,h2]
theorem among (n:Nat)(s:Sw)(z:Int)(z0:0<=z)(z1:z < 10007):ae T (n+4) 41 [s.d,.int 5,.lst false (lA s.w),.int z]=.ok (pB s):=by
 rcases s with ⟨nm,rest,f,w,a,b,nd,st⟩
 have es:=iR ⟨nm,rest,f,w,a,b,nd,st⟩
 rcases w with _|_|_|w
 ·exact pC n (R:=Dz f 0) (Q:=r1 (oF f)) rfl rfl rfl rfl es rfl rfl (wy (n+2) f (EH a b) z)
 ·refine pC n (R:=Dz f 1) (Q:=r1 (oS f 10007)) rfl rfl rfl rfl es rfl rfl ((kE (n+1) f 10007 (EH a b) z).trans ?_)
  rw[decide_eq_true z1]
  rfl
 ·refine wz n (R:=Dz f 2) (Q:=r1 (oS f 0)) (Q':=r1 oL) rfl rfl rfl rfl rfl rfl rfl es rfl rfl rfl rfl ((kE (n+1) f 0 (EH a b) z).trans ?_) (Aa n a b z)
  rw[decide_eq_false (by omega)]
  rfl
 ·exact wA n rfl rfl
theorem lC (n:Nat)(s:Sw){m:Int}(m0:0<=m)(m1:m<=1000000000):ae T (n+5) 42 [.lst false [],s.d,.int 5,BJ m]=.ok (pB s):=by
 have e1:=rz (n+2) s
 have e2:=iP n kD m m0 m1
 have e3:=among n s (Fg [115,97,108,116] m) (uw _ m) (ux _ m)
 have x0:au s.d (.int 0)=.ok (.str (BN [115,97,108,116])):=by rw[<- iT];rfl
 have es:=iR s
 have ev:=iS m
 have w0:=v0 m
 have w1:=v1 m
 have en:A6 (lA s.w)=lA s.w:=by
  rcases s with ⟨nm,rest,f,w,a,b,nd,st⟩
  rcases w with _|_|_|w<;>rfl
 have lf:af (lA s.w)=true:=by
  rcases s with ⟨nm,rest,f,w,a,b,nd,st⟩
  rcases w with _|_|_|w<;>rfl
 have ld:ao (pB s)=true:=by
  rcases s with ⟨nm,rest,f,w,a,b,nd,st⟩
  rcases w with _|_|_|w<;>rfl
 rw[Ev.go (show T 42=some HF from rfl) (show HF.io=false from rfl) (show HF.np=4 from rfl) (show HF.G.N.length=5 from rfl) (show HF.body=Mh from rfl) rfl];unfold Mh
 generalize s.d=S at *
 generalize BJ m=V at *
 generalize lA s.w=N at *
 generalize pB s=R at *
 generalize BN [115,97,108,116]=Q at *
 simp -implicitDefEqProofs (disch:=omega) only[Bl,Nat.reduceBEq,Nat.reduceSub,Nat.reduceAdd,reduceIte,w0,w1,x0,es,ev,e1,e2,e3,en,lf,ld]
noncomputable def c9 (s:Sw):D:=match s.w with
 | 0=>.tup [.str s.f,.tup [.str "rule",.int 0]]
 | 1=>.tup [.str s.f,.tup [.str "rule",.int 0]]
 | _=>.tup [.str s.rest,.tup [.str "rest"]]
noncomputable def fO:D->Option Str
 | .tup [.str f,_]=>some f
 | _=>none
noncomputable def cf (A:Str->D)(l:List (Str×Str)):Option Str:=(l.find? fun p=>fO (A p.1) != some p.2).map (·.1)
noncomputable def bH (held:List Str)(A:Str->D)(s:Sw):D:=
 if s.st=true then .tup [.str s.rest,.tup [.str "stopped"]]
 else if held.any (· == s.nm)=true then .tup [.str s.rest,.tup [.str "held",.str "some"]]
 else match cf A s.nd with
  | some y=>.tup [.str s.rest,.tup [.str "needs",.str y]]
  | none=>c9 s
end Law
namespace L2
open PySem PySem.Spec PyProof.Rows PySem.SeqAt
namespace Fr
section
variable {cl:Nat->List D->Res D}{τ:Ev}
theorem wB {j f:Nat}{es:List IR}{i:Nat}{ks ks1:List Key}{vs vs1 ds:List D}{d:D}(hs:ah τ i=some (.A0 true ks vs))(hl:af vs=true)(h1:ay cl es τ=.ok ds)(h2:cl f (A6 ds++[.A0 false ks vs])=.ok (.tup [d,.A0 false ks1 vs1]))(JZ:af vs1=true) :
  B6 cl (.GY j f es i) τ=.ok (.nx (((Bb (aj es) τ).set i (some (.A0 true ks1 vs1))).set j (some d))):=by
 rw[Ev.CC,hs]
 show A4 (af vs) _=_
 rw[hl]
 show j' (ay cl es τ) _=_
 rw[h1]
 show j' (B5 (cl f (A6 ds++[.A0 false ks vs]))) _=_
 rw[h2]
 show A4 (af vs1) _=_
 rw[JZ]
 rfl
theorem rA {i:Nat}{k:IR}{f:Nat}{es:List IR}{ks ks1:List Key}{vs vs1 ds:List D}{d:D}{x:Str}(hs:ah τ i=some (.A0 true ks vs))(hl:af vs=true)(h1:ay cl es τ=.ok ds)(h2:cl f (A6 ds++[.A0 false ks vs])=.ok (.tup [d,.A0 false ks1 vs1]))(JZ:af vs1=true)
  (h3:A3 cl k ((Bb (aj es) τ).set i (some (.A0 true ks1 vs1)))=.ok (.str x)) (h4:(ao d&&bj ks1.length)=true) :
  B6 cl (.D4 i k f es) τ=.ok (.nx (((Bb (aj es) τ).set i (some (.A0 true ks1 vs1))).set i (some (.A0 true (bK ks1 (.inr x)) (bc ks1 vs1 (.inr x) d))))):=by
 rw[Ev.B9,hs]
 show A4 (af vs) _=_
 rw[hl]
 show j' (ay cl es τ) _=_
 rw[h1]
 show j' (B5 (cl f (A6 ds++[.A0 false ks vs]))) _=_
 rw[h2]
 show A4 (af vs1) _=_
 rw[JZ]
 show j' (A3 cl k _) _=_
 rw[h3]
 show A4 (ao d&&bj ks1.length) _=_
 rw[h4]
 rfl
theorem rB {f:Nat}{es:List IR}{i:Nat}{k e:IR}{a b:List IS}{ks ks1:List Key}{vs vs1 ds:List D}{d x y z:D}{r:Bool}(hs:ah τ i=some (.A0 true ks vs))(hl:af vs=true)(h1:ay cl es τ=.ok ds)(h2:cl f (A6 ds++[.A0 false ks vs])=.ok (.tup [d,.A0 false ks1 vs1]))(JZ:af vs1=true)
  (h3:A3 cl k ((Bb (aj es) τ).set i (some (.A0 true ks1 vs1)))=.ok y) (h4:au d y=.ok x) (h5:A3 cl e ((Bb (aj es) τ).set i (some (.A0 true ks1 vs1)))=.ok z) (h6:Cj .ne x z=.ok r) :
  B6 cl (.DL f es i k e a b) τ=if r=true then aD cl a ((Bb (aj es) τ).set i (some (.A0 true ks1 vs1))) else aD cl b ((Bb (aj es) τ).set i (some (.A0 true ks1 vs1))):=by
 rw[Ev.Cu,hs]
 show A4 (af vs) _=_
 rw[hl]
 show j' (ay cl es τ) _=_
 rw[h1]
 show j' (B5 (cl f (A6 ds++[.A0 false ks vs]))) _=_
 rw[h2]
 show j' (A4 (af vs1) _) _=_
 rw[JZ]
 show j' (j' (A3 cl k _) _) _=_
 rw[h3]
 show j' (j' (au d y) _) _=_
 rw[h4]
 show j' (j' (A3 cl e _) _) _=_
 rw[h5]
 show j' (j' (Cj .ne x z) _) _=_
 rw[h6]
 rfl
end
noncomputable def kT (us:List Str):List Key:=us.map Sum.inr
theorem jt (A:Str->D)(x:Str):∀ us:List Str,look (kT us) (us.map A) (.inr x)=if us.any (· == x)=true then some (A x) else none
 | []=>rfl
 | u::us=>by
  show (if (Sum.inr u:Key)=Sum.inr x then some (A u) else look (kT us) (us.map A) (.inr x))=_
  rw[List.any_cons]
  cases h:(u == x) with
  | true=>
   have e:u=x:=by simpa using h
   rw[if_pos (by rw[e]),e]
   rfl
  | false=>
   have e:u≠x:=by simpa using h
   rw[if_neg (fun z=>e (Sum.inr.inj z)),jt A x us]
   rfl
theorem uy (x:Str)(us:List Str):g9 (kT us) (.inr x)=us.any (· == x):=by
 unfold g9 kT
 rw[List.any_map]
 congr 1
 funext u
 show decide ((Sum.inr u:Key)=Sum.inr x)=(u == x)
 cases h:(u == x) with
 | true=>
  have e:u=x:=by simpa using h
  exact decide_eq_true (by rw[e])
 | false=>
  have e:u≠x:=by simpa using h
  exact decide_eq_false fun z=>e (Sum.inr.inj z)
noncomputable def bt (us:List Str)(x:Str):List Str:=if us.any (· == x)=true then us else us++[x]
theorem pD (x:Str)(us:List Str):bK (kT us) (.inr x)=kT (bt us x):=by
 unfold bK bt
 rw[uy]
 cases us.any (· == x) with
 | true=>rfl
 | false=>show kT us++[Sum.inr x]=kT (us++[x]);unfold kT;rw[List.map_append];rfl
theorem pE (A:Str->D)(x:Str):∀ us:List Str,List.zipWith (fun k e=>if k=(Sum.inr x:Key) then A x else e) (kT us) (us.map A)=us.map A
 | []=>rfl
 | u::us=>by
  show (if (Sum.inr u:Key)=Sum.inr x then A x else A u)::List.zipWith _ (kT us) (us.map A)=_
  rw[pE A x us]
  by_cases h:u=x
  ·rw[h,if_pos rfl];rfl
  ·rw[if_neg (fun z=>h (Sum.inr.inj z))];rfl
theorem pF (A:Str->D)(x:Str)(us:List Str):bc (kT us) (us.map A) (.inr x) (A x)=(bt us x).map A:=by
 unfold bc bt
 rw[uy]
 cases us.any (· == x) with
 | true=>exact pE A x us
 | false=>show us.map A++[A x]=(us++[x]).map A;rw[List.map_append];rfl
theorem cD {A:Str->D}(h:∀ x,ao (A x)=true)(us:List Str):af (us.map A)=true:=by
 rw[aS,List.all_map]
 exact List.all_eq_true.mpr fun u _=>h u
structure Tr (fs us:List Str):Prop where
 nd:us.Nodup
 sub:∀ u∈us,u∈fs
theorem Tr.nil (fs:List Str):Tr fs []:=⟨List.nodup_nil,fun u h=>by simp at h⟩
theorem Tr.put {fs us:List Str}{x:Str}(t:Tr fs us)(h:x∈fs):Tr fs (bt us x):=by
 unfold bt
 cases q:us.any (· == x) with
 | true=>exact t
 | false=>
  have hn:x∉us:=fun hx=>by
   have:us.any (fun y=>y == x)=true:=List.any_eq_true.mpr ⟨x,hx,beq_self_eq_true x⟩
   rw[q] at this
   cases this
  refine⟨List.nodup_append.mpr ⟨t.nd,by simp,fun a ha b hb e=>?_⟩,fun u hu=>?_⟩
  ·rw[List.mem_singleton.mp hb] at e
   exact hn (e ▸ ha)
  ·rcases List.mem_append.mp hu with hu|hu
   ·exact t.sub u hu
   ·rw[List.mem_singleton.mp hu];exact h
theorem pG {fs us:List Str}(h:us.Nodup)(s:∀ u∈us,u∈fs):us.length<=fs.length:=by
 induction us generalizing fs with
 | nil=>simp
 | cons u us ih=>
  rw[List.nodup_cons] at h
  obtain⟨a,b,e⟩:=List.append_of_mem (s u (.head _))
  subst e
  have:=ih (fs:=a++b) h.2 fun v hv=>by
   have G1:=s v (.tail _ hv)
   have Ey:v≠u:=fun z=>h.1 (z ▸ hv)
   rcases List.mem_append.mp G1 with z|z
   ·exact List.mem_append_left _ z
   ·rcases List.mem_cons.mp z with z|z
    ·exact absurd z Ey
    ·exact List.mem_append_right _ z
  rw[List.length_append] at this
  rw[List.length_append,List.length_cons,List.length_cons]
  omega
theorem Tr.len {fs us:List Str}(t:Tr fs us):us.length<=fs.length:=pG t.nd t.sub
end Fr
end L2
namespace Law
open PySem PySem.Spec L2 L2.Fr PyProof.Rows
section
variable {held fs:List Str}{L:List Sw}{A:Str->D}{m:Int}
def Once (held fs:List Str)(L:List Sw)(A:Str->D)(m:Int)(k:Nat)(x:Str):Prop:=∀ us,Tr fs us->∃ Bm,Tr fs Bm/\ae T k 47 [Bp held L,.int 5,BJ m,.str x,.A0 false (kT us) (us.map A)]=.ok (.tup [A x,.A0 false (kT Bm) (Bm.map A)])
noncomputable def tU:List IS:=[(.DL 47 [(.v 0),(.v 1),(.v 2),(.v 5)] 4 (.c (.int 0)) (.v 6) [(.Cb 4 (.v 5))] [])]
theorem wC {k:Nat}(lf:∀ x,ao (A x)=true){y f g:Str}{t:D}(hy:A y=.tup [.str g,t]){us Bm:List Str}(e:ae T k 47 [Bp held L,.int 5,BJ m,.str y,.A0 false (kT us) (us.map A)]=.ok (.tup [A y,.A0 false (kT Bm) (Bm.map A)]))(n3 a b:Option D) :
  Ev.turn (ae T k) (.tp [(.nm 5),(.nm 6)]) tU (BX (y,f)) [some (Bp held L),some (.int 5),some (BJ m),n3,some (.A0 true (kT us) (us.map A)),a,b]=if (g != f)=true then .ok (.ri (.str y) (kT Bm) (Bm.map A)) else .ok (.nx [some (Bp held L),some (.int 5),some (BJ m),n3,some (.A0 true (kT Bm) (Bm.map A)),some (.str y),some (.str f)]):=by
 have q3:=cq held L
 have ev:=iS m
 have l1:=cD lf us
 have l2:=cD lf Bm
 rw[hy] at e
 generalize Bp held L=H at *
 generalize BJ m=V at *
 generalize us.map A=W at *
 generalize Bm.map A=W' at *
 generalize kT us=K at *
 generalize kT Bm=K' at *
 have fz:(Bb (aj [(.v 0),(.v 1),(.v 2),(.v 5)]) [some H,some (.int 5),some V,n3,some (.A0 true K W),some (.str y),some (.str f)]).set 4 (some (.A0 true K' W'))=[some H,some (.int 5),some V,n3,some (.A0 true K' W'),some (.str y),some (.str f)]:=by
  show [some (er H),some (.int 5),some (er V),n3,some (.A0 true K' W'),some (.str y),some (.str f)]=_
  rw[q3,ev]
 have e1:=rB (cl:=ae T k) (τ:=[some H,some (.int 5),some V,n3,some (.A0 true K W),some (.str y),some (.str f)]) (f:=47) (es:=[(.v 0),(.v 1),(.v 2),(.v 5)]) (i:=4) (k:=.c (.int 0)) (e:=.v 6) (a:=[(.Cb 4 (.v 5))]) (b:=[]) (ks:=K) (vs:=W) (ds:=[H,.int 5,V,.str y]) (d:=.tup [.str g,t]) (ks1:=K') (vs1:=W') (x:=.str g) (y:=.int 0) (z:=.str f) (r:=g != f) rfl l1 rfl (by
  show ae T k 47 [er H,.int 5,er V,.str y,.A0 false K W]=_
  rw[q3,ev];exact e) l2 (by rw[fz];rfl) rfl (by rw[fz];rfl) rfl
 rw[fz] at e1
 unfold tU BX
 cases hg:(g != f) with
 | true=>
  rw[hg,if_pos rfl] at e1
  simp -implicitDefEqProofs (disch:=omega) only[Bl,Nat.reduceBEq,Nat.reduceSub,Nat.reduceAdd,reduceIte,Ev.aA,e1,l2]
 | false=>
  rw[hg,if_neg Bool.false_ne_true] at e1
  simp -implicitDefEqProofs (disch:=omega) only[Bl,Nat.reduceBEq,Nat.reduceSub,Nat.reduceAdd,reduceIte,Ev.aA,e1]
theorem lE {y f g:Str}{t:D}(hy:A y=.tup [.str g,t])(l:List (Str×Str)):cf A ((y,f)::l)=if (g != f)=true then some y else cf A l:=by
 unfold cf
 rw[List.find?_cons]
 have:(fO (A y) != some f)=(g != f):=by
  rw[hy]
  show (some g != some f)=_
  cases h:(g != f)<;>simp_all
 show Option.map _ (match (fO (A y) != some f) with|true=>some (y,f)|false=>_)=_
 rw[this]
 cases g != f<;>rfl
theorem pH {k:Nat}(lf:∀ x,ao (A x)=true)(n3:Option D):∀ (l:List (Str×Str)) (us:List Str) (a b:Option D),(∀ p∈l,Once held fs L A m k p.1/\∃ g t,A p.1=.tup [.str g,t])->Tr fs us->
  (∀ y,cf A l=some y->∃ Bm,Tr fs Bm/\forM (Ev.turn (ae T k) (.tp [(.nm 5),(.nm 6)]) tU) (l.map BX) [some (Bp held L),some (.int 5),some (BJ m),n3,some (.A0 true (kT us) (us.map A)),a,b]=.ok (.ri (.str y) (kT Bm) (Bm.map A)))/\
  (cf A l=none->∃ Bm a' b',Tr fs Bm/\forM (Ev.turn (ae T k) (.tp [(.nm 5),(.nm 6)]) tU) (l.map BX) [some (Bp held L),some (.int 5),some (BJ m),n3,some (.A0 true (kT us) (us.map A)),a,b]=.ok (.nx [some (Bp held L),some (.int 5),some (BJ m),n3,some (.A0 true (kT Bm) (Bm.map A)),a',b']))
 | [],us,a,b,_,t=>⟨fun y h=>(by cases h),fun _=>⟨us,a,b,t,rfl⟩⟩
 | (y,f)::l,us,a,b,h,t=>by
  obtain⟨ho,g,td,hy⟩:=h (y,f) (.head _)
  obtain⟨N4,t1,e1⟩:=ho us t
  have et:=wC lf (f:=f) hy e1 n3 a b
  rw[List.map_cons,Ev.bV,et,lE hy]
  cases g != f with
  | true=>exact⟨fun z hz=>(by cases hz;exact⟨N4,t1,rfl⟩),fun hz=>(by cases hz)⟩
  | false=>
   have ih:=pH lf n3 l N4 (some (.str y)) (some (.str f)) (fun p hp=>h p (.tail _ hp)) t1
   exact ih
noncomputable def HU:Option Str->D
 | some y=>.str y
 | none=>.A8
theorem Ab (k:Nat)(lf:∀ x,ao (A x)=true)(l:List (Str×Str))(us:List Str)(h:∀ p∈l,Once held fs L A m k p.1/\∃ g t,A p.1=.tup [.str g,t])(t:Tr fs us) :
  ∃ Bm,Tr fs Bm/\ae T (k+1) 45 [Bp held L,.int 5,BJ m,.lst false (l.map BX),.A0 false (kT us) (us.map A)]=.ok (.tup [HU (cf A l),.A0 false (kT Bm) (Bm.map A)]):=by
 have hh:=pH (k:=k) lf (some (.lst false (l.map BX))) l us none none h t
 have go:∀ W:D,ae T (k+1) 45 [Bp held L,.int 5,BJ m,.lst false (l.map BX),W]=_:=fun W=>Ev.L6 (show T 45=some HJ from rfl) (show HJ.io=true from rfl) (show HJ.np=5 from rfl) (show HJ.G.N.length=7 from rfl) (show HJ.body=[(.BE (.tp [(.nm 5),(.nm 6)]) (.val (.v 3)) tU),(.Cb 4 (.c .A8))] from rfl) rfl
 have el:=gF l
 cases hl:cf A l with
 | some y=>
  obtain⟨Bm,t',e⟩:=hh.1 y hl
  refine⟨Bm,t',?_⟩
  rw[go]
  show j' (aD _ _ [some (Bp held L),some (.int 5),some (BJ m),some (.lst false (l.map BX)),some (.A0 true (kT us) (us.map A)),none,none]) _=_
  generalize Bp held L=H at *
  generalize BJ m=V at *
  generalize l.map BX=NL at *
  generalize tU=tu at *
  simp -implicitDefEqProofs (disch:=omega) only[Bl,Nat.reduceBEq,Nat.reduceSub,Nat.reduceAdd,reduceIte,el,e,Ev.cC]
  rfl
 | none=>
  obtain⟨Bm,a',b',t',e⟩:=hh.2 hl
  have l2:=cD lf Bm
  refine⟨Bm,t',?_⟩
  rw[go]
  show j' (aD _ _ [some (Bp held L),some (.int 5),some (BJ m),some (.lst false (l.map BX)),some (.A0 true (kT us) (us.map A)),none,none]) _=_
  generalize Bp held L=H at *
  generalize BJ m=V at *
  generalize l.map BX=NL at *
  generalize tU=tu at *
  simp -implicitDefEqProofs (disch:=omega) only[Bl,Nat.reduceBEq,Nat.reduceSub,Nat.reduceAdd,reduceIte,el,e,Ev.cC,l2]
  rfl
end
section
variable {held fs:List Str}{L:List Sw}{A:Str->D}{m:Int}
theorem wD (s:Sw):∃ (u:Str) (j:Int) (b:Bool),pB s=.tup [.str u,.int j]/\(j == (((Dz s.f s.w).length:Nat):Int))=b/\c9 s=if b=true then .tup [.str u,.tup [.str "rest"]] else .tup [.str u,.tup [.str "rule",.int j]]:=by
 rcases s with ⟨nm,rest,f,w,a,b,nd,st⟩
 rcases w with _|_|_|w
 ·exact⟨f,0,false,rfl,rfl,rfl⟩
 ·exact⟨f,0,false,rfl,rfl,rfl⟩
 ·exact⟨rest,2,true,rfl,rfl,rfl⟩
 ·exact⟨rest,0,true,rfl,rfl,rfl⟩
theorem AX (n:Nat)(lf:∀ x,ao (A x)=true){s:Sw}{x:Str}(hf:L.find? (fun s=>s.nm == x)=some s)(hx:s.nm=x)(m0:0<=m)(m1:m<=1000000000)(hn:∀ p∈s.nd,Once held fs L A m (n+4) p.1/\∃ g t,A p.1=.tup [.str g,t])(us:List Str)(t:Tr fs us) :
  ∃ Bm,Tr fs Bm/\ae T (n+6) 46 [Bp held L,.int 5,BJ m,.str x,.A0 false (kT us) (us.map A)]=.ok (.tup [bH held A s,.A0 false (kT Bm) (Bm.map A)]):=by
 have e1:=pq (n+4) held hf
 have e2:=pv n held L x m0 m1
 have e4:=lC n s m0 m1
 have q0:=h0 held L
 have q3:=cq held L
 have ev:=iS m
 have es:=iR s
 have ee:=jr s
 have t0:au (bw s) (.int 0)=.ok s.d:=rfl
 have t1:au (bw s) (.int 1)=.ok (.lst false (s.nd.map BX)):=rfl
 have t2:au (bw s) (.int 2)=.ok (.bl s.st):=rfl
 have s1:au s.d (.int 1)=.ok (.str s.rest):=rfl
 have s2:au s.d (.int 2)=.ok (.lst false (Dz s.f s.w)):=rfl
 have le:ao (bw s)=false:=by
  show af [s.d,_,_]=false
  rfl
 have ls:ao s.d=false:=rfl
 have kp:∀ τ:Ev,aB (.idx (.v 5) (.c (.int 0))) s.d τ=(s.d,Bb [5] τ):=fun τ=>by
  show (er s.d,_)=_
  rw[es];rfl
 have l1:=cD lf us
 have go:∀ W:D,ae T (n+6) 46 [Bp held L,.int 5,BJ m,.str x,W]=_:=fun W=>Ev.L6 (show T 46=some HK from rfl) (show HK.io=true from rfl) (show HK.np=5 from rfl) (show HK.G.N.length=10 from rfl) (show HK.body=JT from rfl) rfl
 unfold bH
 rw[hx]
 cases Bu:s.st with
 | true=>
  refine⟨us,t,?_⟩
  rw[go]
  rw[Bu] at t2
  show j' (aD _ _ [some (Bp held L),some (.int 5),some (BJ m),some (.str x),some (.A0 true (kT us) (us.map A)),none,none,none,none,none]) _=_
  generalize Bp held L=H at *
  generalize BJ m=V at *
  generalize bw s=E at *
  generalize s.d=S at *
  unfold JT
  simp -implicitDefEqProofs (disch:=omega) only[Bl,Nat.reduceBEq,Nat.reduceSub,Nat.reduceAdd,reduceIte,e1,q0,q3,ev,es,ee,t0,t1,t2,s1,s2,le,ls,kp,l1,Ev.cC]
 | false=>
  rw[Bu] at t2
  rw[if_neg Bool.false_ne_true]
  cases hh:held.any (· == x) with
  | true=>
   rw[hh,if_pos rfl] at e2
   refine⟨us,t,?_⟩
   rw[go]
   show j' (aD _ _ [some (Bp held L),some (.int 5),some (BJ m),some (.str x),some (.A0 true (kT us) (us.map A)),none,none,none,none,none]) _=_
   generalize Bp held L=H at *
   generalize BJ m=V at *
   generalize bw s=E at *
   generalize s.d=S at *
   unfold JT
   simp -implicitDefEqProofs (disch:=omega) only[Bl,Nat.reduceBEq,Nat.reduceSub,Nat.reduceAdd,reduceIte,e1,e2,q0,q3,ev,es,ee,t0,t1,t2,s1,s2,le,ls,kp,l1,Ev.cC]
  | false=>
   rw[hh,if_neg Bool.false_ne_true] at e2
   rw[if_neg Bool.false_ne_true]
   obtain⟨Bm,t',e3⟩:=Ab (n+4) lf s.nd us hn t
   have l2:=cD lf Bm
   refine⟨Bm,t',?_⟩
   rw[go]
   show j' (aD _ _ [some (Bp held L),some (.int 5),some (BJ m),some (.str x),some (.A0 true (kT us) (us.map A)),none,none,none,none,none]) _=_
   obtain⟨u,j,b,f1,f2,f3⟩:=wD s
   rw[f1] at e4
   have y0:∀ (P Q:D),au (.tup [P,Q]) (.int 0)=.ok P:=fun _ _=>rfl
   have y1:∀ (P Q:D),au (.tup [P,Q]) (.int 1)=.ok Q:=fun _ _=>rfl
   generalize Bp held L=H at *
   generalize BJ m=V at *
   generalize bw s=E at *
   generalize s.d=S at *
   generalize Dz s.f s.w=R at *
   generalize us.map A=W at *
   generalize Bm.map A=W' at *
   generalize kT us=K at *
   generalize kT Bm=K' at *
   have fz:((Bb (aj [(.v 0),(.v 1),(.v 2),(.idx (.v 5) (.c (.int 1)))]) [some H,some (.int 5),some V,some (.str x),some (.A0 true K W),some E,some S,some .A8,none,none]).set 4 (some (.A0 true K' W'))).set 8 (some (HU (cf A s.nd)))=[some H,some (.int 5),some V,some (.str x),some (.A0 true K' W'),some E,some S,some .A8,some (HU (cf A s.nd)),none]:=by
    show [some (er H),some (.int 5),some (er V),some (.str x),some (.A0 true K' W'),some (er E),some S,some .A8,some (HU (cf A s.nd)),none]=_
    rw[q3,ev,ee]
   have el:=gF s.nd
   have c1:Ev.ze (ae T (n+5)) 8 45 [(.v 0),(.v 1),(.v 2),(.idx (.v 5) (.c (.int 1)))] 4 [some H,some (.int 5),some V,some (.str x),some (.A0 true K W),some E,some S,some .A8,none,none] (some (.A0 true K W))=.ok (.nx [some H,some (.int 5),some V,some (.str x),some (.A0 true K' W'),some E,some S,some .A8,some (HU (cf A s.nd)),none]):=by
    have:=wB (cl:=ae T (n+5)) (τ:=[some H,some (.int 5),some V,some (.str x),some (.A0 true K W),some E,some S,some .A8,none,none]) (j:=8) (f:=45) (es:=[(.v 0),(.v 1),(.v 2),(.idx (.v 5) (.c (.int 1)))]) (i:=4) (ds:=[H,.int 5,V,.lst false (s.nd.map BX)]) rfl l1 (by simp -implicitDefEqProofs (disch:=omega) only[Bl,Nat.reduceBEq,Nat.reduceSub,Nat.reduceAdd,reduceIte,t1]) (by
     show ae T (n+5) 45 [er H,.int 5,er V,.lst false (A6 (s.nd.map BX)),.A0 false K W]=_
     rw[q3,ev,el];exact e3) l2
    rw[fz,Ev.CC] at this
    exact this
   generalize s.nd.map BX=NL at *
   unfold JT
   cases hl:cf A s.nd with
   | some y=>
    rw[hl] at c1
    unfold HU at c1
    simp -implicitDefEqProofs (disch:=omega) only[Bl,Nat.reduceBEq,Nat.reduceSub,Nat.reduceAdd,reduceIte,e1,e2,q0,q3,ev,es,ee,t0,t1,t2,s1,s2,le,ls,kp,c1,l2,Ev.cC]
   | none=>
    rw[hl] at c1
    unfold HU at c1
    show _=Except.ok (D.tup [c9 s,_])
    rw[f3]
    cases b<;>simp -implicitDefEqProofs (disch:=omega) only[Bl,Nat.reduceBEq,Nat.reduceSub,Nat.reduceAdd,reduceIte,e1,e2,e4,f2,q0,q3,ev,es,ee,t0,t1,t2,s1,s2,le,ls,kp,c1,l2,y0,y1,Ev.cC]
end
section
variable {held fs:List Str}{L:List Sw}{A:Str->D}{m:Int}
theorem rC (us:List Str)(x:Str):(true != (look (kT us) (us.map A) (.inr x)).isSome) = !us.any (· == x):=by
 rw[jt]
 cases us.any (· == x)<;>rfl
theorem de (us:List Str)(x:Str)(h:us.any (· == x)=true):hG (.A0 true (kT us) (us.map A)) (.str x)=.ok (A x):=by
 show (match look (kT us) (us.map A) (.inr x) with|some d=>Except.ok d|none=>A5)=_
 rw[jt,if_pos h]
theorem rD (us:List Str)(x:Str):(bt us x).any (· == x)=true:=by
 unfold bt
 cases h:us.any (· == x) with
 | true=>exact h
 | false=>
  show (us++[x]).any (· == x)=true
  rw[List.any_append]
  simp
theorem once (n:Nat)(lf:∀ x,ao (A x)=true){s:Sw}{x:Str}(hf:L.find? (fun s=>s.nm == x)=some s)(hx:s.nm=x)(hm:x∈fs)(hl:fs.length<=1000)(hA:A x=bH held A s)(m0:0<=m)(m1:m<=1000000000)(hn:∀ p∈s.nd,Once held fs L A m (n+4) p.1/\∃ g t,A p.1=.tup [.str g,t]):Once held fs L A m (n+7) x:=by
 intro us t
 have q3:=cq held L
 have ev:=iS m
 have l1:=cD lf us
 have lx:=lf x
 have i1:=rC (A:=A) us x
 have go:∀ W:D,ae T (n+7) 47 [Bp held L,.int 5,BJ m,.str x,W]=_:=fun W=>Ev.L6 (show T 47=some HL from rfl) (show HL.io=true from rfl) (show HL.np=5 from rfl) (show HL.G.N.length=5 from rfl) (show HL.body=KH from rfl) rfl
 cases ha:us.any (· == x) with
 | true=>
  rw[ha] at i1
  have i1:(true != (look (kT us) (us.map A) (.inr x)).isSome)=false:=i1
  have g1:=de (A:=A) us x ha
  refine⟨us,t,?_⟩
  rw[go]
  show j' (aD _ _ [some (Bp held L),some (.int 5),some (BJ m),some (.str x),some (.A0 true (kT us) (us.map A))]) _=_
  generalize Bp held L=H at *
  generalize BJ m=V at *
  generalize A x=X at *
  generalize us.map A=W at *
  generalize kT us=K at *
  have kp:∀ τ:Ev,aB (.B3 (.v 4) (.v 3)) X τ=(X,τ):=fun τ=>by unfold aB;rw[if_pos lx]
  unfold KH
  simp -implicitDefEqProofs (disch:=omega) only[Bl,Nat.reduceBEq,Nat.reduceSub,Nat.reduceAdd,reduceIte,i1,g1,kp,lx,l1,Ev.cC]
 | false=>
  rw[ha] at i1
  have i1:(true != (look (kT us) (us.map A) (.inr x)).isSome)=true:=i1
  obtain⟨Bm,t',e1⟩:=AX n lf hf hx m0 m1 hn us t
  rw[<- hA] at e1
  have l2:=cD lf Bm
  have l3:=cD lf (bt Bm x)
  have g1:=de (A:=A) (bt Bm x) x (rD Bm x)
  refine⟨bt Bm x,t'.put hm,?_⟩
  rw[go]
  show j' (aD _ _ [some (Bp held L),some (.int 5),some (BJ m),some (.str x),some (.A0 true (kT us) (us.map A))]) _=_
  have hk:(kT Bm).length<=1000:=by
   unfold kT
   rw[List.length_map]
   have:=t'.len
   omega
  have pk:=pD x Bm
  have pd:=pF A x Bm
  generalize Bp held L=H at *
  generalize BJ m=V at *
  have fz:(Bb (aj [(.v 0),(.v 1),(.v 2),(.v 3)]) [some H,some (.int 5),some V,some (.str x),some (.A0 true (kT us) (us.map A))]).set 4 (some (.A0 true (kT Bm) (Bm.map A)))=[some H,some (.int 5),some V,some (.str x),some (.A0 true (kT Bm) (Bm.map A))]:=by
   show [some (er H),some (.int 5),some (er V),some (.str x),some (.A0 true (kT Bm) (Bm.map A))]=_
   rw[q3,ev]
  have c1:Ev.tq (ae T (n+6)) 4 (.v 3) 46 [(.v 0),(.v 1),(.v 2),(.v 3)] [some H,some (.int 5),some V,some (.str x),some (.A0 true (kT us) (us.map A))] (some (.A0 true (kT us) (us.map A)))=.ok (.nx [some H,some (.int 5),some V,some (.str x),some (.A0 true (kT (bt Bm x)) ((bt Bm x).map A))]):=by
   have:=rA (cl:=ae T (n+6)) (τ:=[some H,some (.int 5),some V,some (.str x),some (.A0 true (kT us) (us.map A))]) (i:=4) (k:=.v 3) (f:=46) (es:=[(.v 0),(.v 1),(.v 2),(.v 3)]) (ds:=[H,.int 5,V,.str x]) (x:=x) rfl l1 rfl (by
    show ae T (n+6) 46 [er H,.int 5,er V,.str x,.A0 false (kT us) (us.map A)]=_
    rw[q3,ev];exact e1) l2 (by rw[fz];rfl) (by rw[lx,Ev.gB (by omega)];rfl)
   rw[fz,Ev.B9,pk,pd] at this
   exact this
  generalize A x=X at *
  generalize us.map A=W at *
  generalize (bt Bm x).map A=W' at *
  generalize kT us=K at *
  generalize kT (bt Bm x)=K' at *
  have kp:∀ τ:Ev,aB (.B3 (.v 4) (.v 3)) X τ=(X,τ):=fun τ=>by unfold aB;rw[if_pos lx]
  unfold KH
  simp -implicitDefEqProofs (disch:=omega) only[Bl,Nat.reduceBEq,Nat.reduceSub,Nat.reduceAdd,reduceIte,i1,g1,c1,kp,lx,l3,Ev.cC]
def IG (r:List Sw):Prop:=match r with
 | []=>True
 | s::r=>(∀ p∈s.nd,∃ q∈r,q.nm=p.1)/\IG r
theorem pI (s:Sw):∃ g t,bH held A s=.tup [.str g,t]:=by
 unfold bH
 split
 ·exact⟨_,_,rfl⟩
 ·split
  ·exact⟨_,_,rfl⟩
  ·split
   ·exact⟨_,_,rfl⟩
   ·unfold c9
    split<;>exact⟨_,_,rfl⟩
theorem iU (lf:∀ x,ao (A x)=true)(hl:fs.length<=1000)(m0:0<=m)(m1:m<=1000000000):∀ (r:List Sw),IG r->(∀ s∈r,L.find? (fun q=>q.nm == s.nm)=some s/\s.nm∈fs/\A s.nm=bH held A s)->∀ (k:Nat),∀ s∈r,Once held fs L A m (3*r.length+4+k) s.nm
 | [],_,_,k,s,h=>by simp at h
 | s::r,hc,h,k,q,hq=>by
  have ih:=iU lf hl m0 m1 r hc.2 fun s hs=>h s (.tail _ hs)
  rcases List.mem_cons.mp hq with rfl|hq
  ·obtain⟨a1,a2,a3⟩:=h q (.head _)
   have:=once (held:=held) (fs:=fs) (m:=m) (3*r.length+k) lf a1 rfl a2 hl a3 m0 m1 fun p hp=>by
    obtain⟨q',Gp,e⟩:=hc.1 p hp
    refine⟨?_,?_⟩
    ·rw[<- e,show 3*r.length+k+4=3*r.length+4+k by omega]
     exact ih k q' Gp
    ·rw[<- e,(h q' (.tail _ Gp)).2.2]
     exact pI q'
   rw[show 3*(q::r).length+4+k=3*r.length+k+7 by rw[List.length_cons];omega]
   exact this
  ·rw[show 3*(s::r).length+4+k=3*r.length+4+(k+3) by rw[List.length_cons];omega]
   exact ih (k+3) q hq
theorem lF {k:Nat}(lf:∀ x,ao (A x)=true){x:Str}(h:Once held fs L A m k x):ae T (k+1) 48 [Bp held L,.int 5,BJ m,.str x]=.ok (A x):=by
 obtain⟨Bm,t,e⟩:=h [] (Tr.nil fs)
 have e:ae T k 47 [Bp held L,.int 5,BJ m,.str x,.A0 false [] []]=.ok (.tup [A x,.A0 false (kT Bm) (Bm.map A)]):=e
 have q3:=cq held L
 have ev:=iS m
 have l2:=cD lf Bm
 rw[Ev.go (show T 48=some HM from rfl) (show HM.io=false from rfl) (show HM.np=4 from rfl) (show HM.G.N.length=4 from rfl) (show HM.body=Mk from rfl) rfl];unfold Mk
 generalize Bp held L=H at *
 generalize BJ m=V at *
 generalize Bm.map A=W at *
 generalize A x=X at *
 generalize kT Bm=K at *
 have el:∀ a b c d:D,[a,b,c,d]++[D.A0 false [] []]=[a,b,c,d,.A0 false [] []]:=fun _ _ _ _=>rfl
 simp -implicitDefEqProofs (disch:=omega) only[Bl,Nat.reduceBEq,Nat.reduceSub,Nat.reduceAdd,reduceIte,q3,ev,el,e,l2]
end
theorem pJ (n:Nat)(ns:List Int){k:Int}(k0:0<=k)(k1:k<=1000)(f:Str):∃ (w:Nat) (R:List D),ae T (n+2) 53 [.lst false (ns.map .int),.int k,.str f]=.ok (.lst true R)/\A6 R=Dz f w:=by
 have d1:=bg n ns k 5 k0 (by omega) (by decide)
 have b0:=cK ns k (m:=5) (by decide)
 have b1:=cL ns k (m:=5) (by decide)
 generalize dr ns k 5=q at *
 by_cases h1:q < 2
 ·have e1:decide (q < 2)=true:=decide_eq_true h1
  refine⟨0,[.tup [.lst true [],.tup [.str "face",.str f]]],?_,rfl⟩
  rw[Ev.go (show T 53=some C2 from rfl) (show C2.io=false from rfl) (show C2.np=3 from rfl) (show C2.G.N.length=4 from rfl) (show C2.body=F4 from rfl) rfl];unfold F4
  simp -implicitDefEqProofs (disch:=omega) only[Bl,Nat.reduceBEq,Nat.reduceSub,Nat.reduceAdd,reduceIte,d1,e1]
 ·have e1:decide (q < 2)=false:=decide_eq_false h1
  by_cases h2:q=2
  ·subst h2
   refine⟨1,[.tup [.lst true [],.tup [.str "share",.str f,.lst true [.tup [.int 3,.int 10007]]]]],?_,rfl⟩
   rw[Ev.go (show T 53=some C2 from rfl) (show C2.io=false from rfl) (show C2.np=3 from rfl) (show C2.G.N.length=4 from rfl) (show C2.body=F4 from rfl) rfl];unfold F4
   simp -implicitDefEqProofs (disch:=omega) only[Bl,Nat.reduceBEq,Nat.reduceSub,Nat.reduceAdd,reduceIte,d1,e1]
  ·have e2:(q == 2)=false:=by simpa using h2
   by_cases h3:q=3
   ·subst h3
    refine⟨2,[.tup [.lst true [],.tup [.str "share",.str f,.lst true [.tup [.int 3,.int 0]]]],.tup [.lst true [],.tup [.str "lot"]]],?_,rfl⟩
    rw[Ev.go (show T 53=some C2 from rfl) (show C2.io=false from rfl) (show C2.np=3 from rfl) (show C2.G.N.length=4 from rfl) (show C2.body=F4 from rfl) rfl];unfold F4
    simp -implicitDefEqProofs (disch:=omega) only[Bl,Nat.reduceBEq,Nat.reduceSub,Nat.reduceAdd,reduceIte,d1,e1,e2]
   ·have e3:(q == 3)=false:=by simpa using h3
    refine⟨3,[],?_,rfl⟩
    rw[Ev.go (show T 53=some C2 from rfl) (show C2.io=false from rfl) (show C2.np=3 from rfl) (show C2.G.N.length=4 from rfl) (show C2.body=F4 from rfl) rfl];unfold F4
    simp -implicitDefEqProofs (disch:=omega) only[Bl,Nat.reduceBEq,Nat.reduceSub,Nat.reduceAdd,reduceIte,d1,e1,e2,e3]
theorem dI {fs:List Str}{i:Int}(h0:0<=i)(h1:i < (fs.length:Int)):∃ y,(∀ o,au (.lst o (fs.map .str)) (.int i)=.ok (.str y))/\fs[i.toNat]? = some y:=by
 have hl:i.toNat < fs.length:=by omega
 refine⟨fs[i.toNat],fun o=>?_,List.getElem?_eq_getElem hl⟩
 rw[Ev.wg h0 h1,List.getD_eq_getElem?_getD,List.getElem?_eq_getElem hl]
 rfl
theorem dJ {a b:Str}{q:Int}(h0:0<=q)(h1:q < 2):∃ f,∀ o,au (.lst o [.str a,.str b]) (.int q)=.ok (.str f):=by
 rcases (show q=0∨q=1 by omega) with rfl|rfl
 ·exact⟨a,fun _=>rfl⟩
 ·exact⟨b,fun _=>rfl⟩
theorem kF {fs:List Str}{i:Nat}{k:Nat}{y:Str}(h:fs[i]? = some y)(hk:k<=i):y∈fs.drop k:=by
 have:(fs.drop k)[i - k]? = some y:=by rw[List.getElem?_drop,show k+(i - k)=i by omega];exact h
 exact List.mem_of_getElem? this
theorem pK (n:Nat)(ns:List Int){fs:List Str}(hf:fs.length<=20){s:Int}(s0:0<=s)(s1:s < (fs.length:Int))(a b:Str):∃ nd:List (Str×Str),ae T (n+2) 54 [.lst false (ns.map .int),.int s,.lst false (fs.map .str),.lst false [.str a,.str b]]=.ok (.lst true (nd.map BX))/\(∀ p∈nd,p.1∈fs.drop (s.toNat+1))/\nd.length<=2:=by
 have lm:(fs.map D.str).length=fs.length:=List.length_map _
 by_cases h1:s+1 < (fs.length:Int)
 ·have e1:decide (s+1 < (fs.length:Int))=true:=decide_eq_true h1
  obtain⟨y,hy,gy⟩:=dI (i:=s+1) (by omega) h1
  have my:y∈fs.drop (s.toNat+1):=kF gy (by omega)
  have d1:=bg n ns (60+s) 2 (by omega) (by omega) (by decide)
  obtain⟨f,KI⟩:=dJ (a:=a) (b:=b) (cK ns (60+s) (m:=2) (by decide)) (cL ns (60+s) (by decide))
  generalize dr ns (60+s) 2=q at *
  have one:ae T (n+2) 54 [.lst false (ns.map .int),.int s,.lst false (fs.map .str),.lst false [.str a,.str b]]=.ok (.lst true ([(y,f)].map BX))∨(s % 5=0/\s+2 < (fs.length:Int)):=by
   by_cases h2:s % 5=0/\s+2 < (fs.length:Int)
   ·exact .inr h2
   ·refine .inl ?_
    show _=Except.ok (D.lst true [.tup [.str y,.str f]])
    by_cases h3:s % 5=0
    ·have e2:(s % 5 == 0)=true:=by rw[h3];rfl
     have e3:decide (s+2 < (fs.length:Int))=false:=decide_eq_false fun z=>h2 ⟨h3,z⟩
     rw[Ev.go (show T 54=some Cd from rfl) (show Cd.io=false from rfl) (show Cd.np=4 from rfl) (show Cd.G.N.length=6 from rfl) (show Cd.body=EG from rfl) rfl];unfold EG
     generalize fs.map D.str=FS at *
     simp -implicitDefEqProofs (disch:=omega) only[Bl,Nat.reduceBEq,Nat.reduceSub,Nat.reduceAdd,reduceIte,lm,e1,e2,e3,hy,d1,KI]
    ·have e2:(s % 5 == 0)=false:=by simpa using h3
     rw[Ev.go (show T 54=some Cd from rfl) (show Cd.io=false from rfl) (show Cd.np=4 from rfl) (show Cd.G.N.length=6 from rfl) (show Cd.body=EG from rfl) rfl];unfold EG
     generalize fs.map D.str=FS at *
     simp -implicitDefEqProofs (disch:=omega) only[Bl,Nat.reduceBEq,Nat.reduceSub,Nat.reduceAdd,reduceIte,lm,e1,e2,hy,d1,KI]
  rcases one with e|⟨h2,h3⟩
  ·exact⟨[(y,f)],e,fun p hp=>by rw[List.mem_singleton.mp hp];exact my,by show 1<=2;omega⟩
  ·have e2:(s % 5 == 0)=true:=by rw[h2];rfl
   have e3:decide (s+2 < (fs.length:Int))=true:=decide_eq_true h3
   have d2:=bg n ns (80+s) ((fs.length:Int) - s - 2) (by omega) (by omega) (by omega)
   have a0:=cK ns (80+s) (m:=(fs.length:Int) - s - 2) (by omega)
   have a1:=cL ns (80+s) (m:=(fs.length:Int) - s - 2) (by omega)
   generalize dr ns (80+s) ((fs.length:Int) - s - 2)=r at *
   obtain⟨z,hz,gz⟩:=dI (fs:=fs) (i:=s+2+r) (by omega) (by omega)
   have mz:z∈fs.drop (s.toNat+1):=kF gz (by omega)
   have d3:=bg n ns (100+s) 2 (by omega) (by omega) (by decide)
   have b0:=cK ns (100+s) (m:=2) (by decide)
   have b1:=cL ns (100+s) (m:=2) (by decide)
   generalize dr ns (100+s) 2=u at *
   have d4:=bg n ns (120+s) 2 (by omega) (by omega) (by decide)
   obtain⟨f',J0⟩:=dJ (a:=a) (b:=b) (cK ns (120+s) (m:=2) (by decide)) (cL ns (120+s) (by decide))
   generalize dr ns (120+s) 2=v at *
   have l1:∀ P:D,[P].length=1:=fun _=>rfl
   have g1:decide (0<=u/\u.toNat<=1)=true:=decide_eq_true (by omega)
   rcases (show u=0∨u=1 by omega) with rfl|rfl
   ·refine⟨[(z,f'),(y,f)],?_,fun p hp=>?_,by show 2<=2;omega⟩
    ·show _=Except.ok (D.lst true [.tup [.str z,.str f'],.tup [.str y,.str f]])
     have tk:∀ P Q:D,List.take (Int.toNat 0) [P]++Q::List.drop (Int.toNat 0) [P]=[Q,P]:=fun _ _=>rfl
     rw[Ev.go (show T 54=some Cd from rfl) (show Cd.io=false from rfl) (show Cd.np=4 from rfl) (show Cd.G.N.length=6 from rfl) (show Cd.body=EG from rfl) rfl];unfold EG
     generalize fs.map D.str=FS at *
     simp -implicitDefEqProofs (disch:=omega) only[Bl,Nat.reduceBEq,Nat.reduceSub,Nat.reduceAdd,reduceIte,lm,e1,e2,e3,hy,hz,d1,d2,d3,d4,KI,J0,l1,g1,tk]
    ·simp only[List.mem_cons,List.not_mem_nil,or_false] at hp
     rcases hp with rfl|rfl
     ·exact mz
     ·exact my
   ·refine⟨[(y,f),(z,f')],?_,fun p hp=>?_,by show 2<=2;omega⟩
    ·show _=Except.ok (D.lst true [.tup [.str y,.str f],.tup [.str z,.str f']])
     have tk:∀ P Q:D,List.take (Int.toNat 1) [P]++Q::List.drop (Int.toNat 1) [P]=[P,Q]:=fun _ _=>rfl
     rw[Ev.go (show T 54=some Cd from rfl) (show Cd.io=false from rfl) (show Cd.np=4 from rfl) (show Cd.G.N.length=6 from rfl) (show Cd.body=EG from rfl) rfl];unfold EG
     generalize fs.map D.str=FS at *
     simp -implicitDefEqProofs (disch:=omega) only[Bl,Nat.reduceBEq,Nat.reduceSub,Nat.reduceAdd,reduceIte,lm,e1,e2,e3,hy,hz,d1,d2,d3,d4,KI,J0,l1,g1,tk]
    ·simp only[List.mem_cons,List.not_mem_nil,or_false] at hp
     rcases hp with rfl|rfl
     ·exact my
     ·exact mz
 ·have e1:decide (s+1 < (fs.length:Int))=false:=decide_eq_false h1
  have e3:decide (s+2 < (fs.length:Int))=false:=decide_eq_false (by omega)
  refine⟨[],?_,fun p hp=>by simp at hp,by simp⟩
  show _=Except.ok (D.lst true [])
  cases e2:(s % 5 == 0) with
  | true=>
   rw[Ev.go (show T 54=some Cd from rfl) (show Cd.io=false from rfl) (show Cd.np=4 from rfl) (show Cd.G.N.length=6 from rfl) (show Cd.body=EG from rfl) rfl];unfold EG
   generalize fs.map D.str=FS at *
   simp -implicitDefEqProofs (disch:=omega) only[Bl,Nat.reduceBEq,Nat.reduceSub,Nat.reduceAdd,reduceIte,lm,e1,e2,e3]
  | false=>
   rw[Ev.go (show T 54=some Cd from rfl) (show Cd.io=false from rfl) (show Cd.np=4 from rfl) (show Cd.G.N.length=6 from rfl) (show Cd.body=EG from rfl) rfl];unfold EG
   generalize fs.map D.str=FS at *
   simp -implicitDefEqProofs (disch:=omega) only[Bl,Nat.reduceBEq,Nat.reduceSub,Nat.reduceAdd,reduceIte,lm,e1,e2]
noncomputable def tG:List IS:=[(.asg (.nm 6) (.bin .mod (.call 49 [(.v 0),(.bin .add (.c (.int 140)) (.v 5)),(.c (.int 3))]) (.c (.int 2)))),(.asg (.nm 7) (.call 53 [(.v 0),(.bin .add (.c (.int 160)) (.v 5)),(.idx (.v 2) (.bin .sub (.c (.int 1)) (.v 6)))])),(.asg (.nm 8) (.tup [(.c (.str "salt")),(.idx (.v 2) (.v 6)),(.v 7),(.tup [(.lst [(.tup [(.idx (.v 2) (.c (.int 0))),(.lst [])]),(.tup [(.idx (.v 2) (.c (.int 1))),(.lst [])])]),(.lst [(.tup [(.c (.int 0)),(.c (.int 10007))])])])])),(.asg (.nm 9) (.tup [(.v 8),(.call 54 [(.v 0),(.v 5),(.v 1),(.v 2)]),(.cmp .eq (.v 5) (.v 4))])),(.ins 3 (.call 49 [(.v 0),(.bin .add (.c (.int 30)) (.v 5)),(.bin .add (.v 5) (.c (.int 1)))]) (.tup [(.idx (.v 1) (.v 5)),(.v 9)]))]
theorem wF (n:Nat)(ns:List Int){fs:List Str}(hf:fs.length<=20)(a b:Str){s:Int}(s0:0<=s)(s1:s < (fs.length:Int))(p:Int){L:List Sw}(hl:(L.length:Int)=s)(x5 x6 x7 x8 x9 N5:Option D) :
  ∃ (sw:Sw) (q:Nat) (y6 y7 y8 y9:Option D),Ev.turn (ae T (n+3)) (.nm 5) tG (.int s) [some (.lst false (ns.map .int)),some (.lst false (fs.map .str)),some (.lst false [.str a,.str b]),some (.lst true (L.map BQ)),some (.int p),x5,x6,x7,x8,x9,N5]=.ok (.nx [some (.lst false (ns.map .int)),some (.lst false (fs.map .str)),some (.lst false [.str a,.str b]),some (.lst true ((L.take q++sw::L.drop q).map BQ)),some (.int p),some (.int s),y6,y7,y8,y9,N5])/\fs[s.toNat]? = some sw.nm/\(∀ p∈sw.nd,p.1∈fs.drop (s.toNat+1))/\sw.nd.length<=2:=by
 have d1:=bg (n+2) ns (140+s) 3 (by omega) (by omega) (by decide)
 generalize dr ns (140+s) 3=r0 at *
 have Q7:=Int.emod_nonneg r0 (show (2:Int)≠0 by decide)
 have Q8:=Int.emod_lt_of_pos r0 (show (0:Int) < 2 by decide)
 generalize hr:r0 % 2=r at *
 obtain⟨rest,f1⟩:=dJ (a:=a) (b:=b) Q7 Q8
 obtain⟨f,f2⟩:=dJ (a:=a) (b:=b) (q:=1 - r) (by omega) (by omega)
 have f3:∀ o,au (.lst o [.str a,.str b]) (.int 0)=.ok (.str a):=fun _=>rfl
 have f4:∀ o,au (.lst o [.str a,.str b]) (.int 1)=.ok (.str b):=fun _=>rfl
 obtain⟨w,R,e1,eR⟩:=pJ (n+1) ns (k:=160+s) (by omega) (by omega) f
 obtain⟨nd,e2,Q9,Mu⟩:=pK (n+1) ns hf s0 s1 a b
 obtain⟨y,hy,gy⟩:=dI s0 s1
 have d2:=bg (n+2) ns (30+s) (s+1) (by omega) (by omega) (by omega)
 have q0:=cK ns (30+s) (m:=s+1) (by omega)
 have q1:=cL ns (30+s) (m:=s+1) (by omega)
 generalize dr ns (30+s) (s+1)=q at *
 have lm:(L.map BQ).length=L.length:=List.length_map _
 have gd:decide (0<=q/\q.toNat<=L.length)=true:=decide_eq_true (by omega)
 have el:=gF nd
 have ei:A6 (ns.map D.int)=ns.map D.int:=Ev.eK ns
 have ef:=Ev.ck fs
 have e3:A6 [D.str a,D.str b]=[D.str a,D.str b]:=rfl
 let sw:Sw:=⟨y,rest,f,w,a,b,nd,s == p⟩
 have hm:(L.take q.toNat++sw::L.drop q.toNat).map BQ=(L.map BQ).take q.toNat++BQ sw::(L.map BQ).drop q.toNat:=by
  rw[List.map_append,List.map_cons,List.map_take,List.map_drop]
 have hi:BQ sw=.tup [.str y,.tup [.tup [.str "salt",.str rest,.lst false (Dz f w),.tup [.lst false [.tup [.str a,.lst false []],.tup [.str b,.lst false []]],.lst false [.tup [.int 0,.int 10007]]]],.lst false (nd.map BX),.bl (s == p)]]:=rfl
 have Ra:A6 (Dz f w)=Dz f w:=by rcases w with _|_|_|w<;>rfl
 refine⟨sw,q.toNat,some (.int r),some (.lst false (Dz f w)),some (.tup [.str "salt",.str rest,.lst false (Dz f w),.tup [.lst false [.tup [.str a,.lst false []],.tup [.str b,.lst false []]],.lst false [.tup [.int 0,.int 10007]]]]),some (.tup [.tup [.str "salt",.str rest,.lst false (Dz f w),.tup [.lst false [.tup [.str a,.lst false []],.tup [.str b,.lst false []]],.lst false [.tup [.int 0,.int 10007]]]],.lst false (nd.map BX),.bl (s == p)]),?_,gy,Q9,Mu⟩
 rw[hm,hi]
 generalize ns.map D.int=NS at *
 generalize fs.map D.str=FS at *
 generalize nd.map BX=ND at *
 generalize L.map BQ=IT at *
 generalize Dz f w=RL at *
 unfold tG
 simp -implicitDefEqProofs (disch:=omega) only[Bl,Nat.reduceBEq,Nat.reduceSub,Nat.reduceAdd,reduceIte,Ev.aA,d1,hr,f1,f2,f3,f4,e1,e2,e3,eR,Ra,hy,d2,lm,gd,el,ei,ef]
theorem B7 (r:Int):(bE 0 r).length=r.toNat:=by
 unfold bE
 rw[List.length_map,List.length_range]
 omega
structure Cn (fs:List Str)(ch:List Sw):Prop where
 at_:∀ (j:Nat) (s:Sw),ch[j]? = some s->fs[j]? = some s.nm/\(∀ p∈s.nd,p.1∈fs.drop (j+1))/\s.nd.length<=2
theorem wG (n:Nat)(ns:List Int){fs:List Str}(hf:fs.length<=20)(a b:Str)(p:Int) :
  ∃ (ch L:List Sw) (y5 y6 y7 y8 y9:Option D),forM (Ev.turn (ae T (n+3)) (.nm 5) tG) (bE 0 (fs.length:Int)) [some (.lst false (ns.map .int)),some (.lst false (fs.map .str)),some (.lst false [.str a,.str b]),some (.lst true []),some (.int p),none,none,none,none,none,none]=.ok (.nx [some (.lst false (ns.map .int)),some (.lst false (fs.map .str)),some (.lst false [.str a,.str b]),some (.lst true (L.map BQ)),some (.int p),y5,y6,y7,y8,y9,none])/\L.Perm ch/\ch.length=fs.length/\Cn fs ch:=by
 obtain⟨A7,e,ch,L,y5,y6,y7,y8,y9,rfl,hp,hl,hc⟩:=Ev.qY (its:=bE 0 (fs.length:Int)) (τ:=[some (.lst false (ns.map .int)),some (.lst false (fs.map .str)),some (.lst false [.str a,.str b]),some (.lst true []),some (.int p),none,none,none,none,none,none]) (body:=Ev.turn (ae T (n+3)) (.nm 5) tG)
  (fun i τ=>∃ (ch L:List Sw) (y5 y6 y7 y8 y9:Option D),τ=[some (.lst false (ns.map .int)),some (.lst false (fs.map .str)),some (.lst false [.str a,.str b]),some (.lst true (L.map BQ)),some (.int p),y5,y6,y7,y8,y9,none]/\L.Perm ch/\ch.length=i/\Cn fs ch)
  ⟨[],[],none,none,none,none,none,rfl,.nil,rfl,⟨fun j s h=>by simp at h⟩⟩ (by
   rintro i x τ hx ⟨ch,L,x5,x6,x7,x8,x9,rfl,hp,hl,hc⟩
   have hi:i < fs.length:=by
    have:=(List.getElem?_eq_some_iff.mp hx).1
    rw[B7] at this
    omega
   unfold bE at hx
   rw[List.getElem?_map,List.getElem?_range (by omega)] at hx
   have Cw:D.int (0+(i:Nat))=x:=Option.some.inj hx
   subst Cw
   obtain⟨sw,q,y6,y7,y8,y9,e,g1,g2,g3⟩:=wF n ns hf a b (s:=0+(i:Int)) (by omega) (by omega) p (L:=L) (by rw[hp.length_eq,hl];omega) x5 x6 x7 x8 x9 none
   have E7:(0+(i:Int)).toNat=i:=by omega
   rw[E7] at g1 g2
   refine⟨_,e,ch++[sw],_,_,_,_,_,_,rfl,?_,by rw[List.length_append,hl];rfl,⟨fun j s h=>?_⟩⟩
   ·refine List.perm_middle.trans ?_
    rw[List.take_append_drop]
    exact(hp.cons sw).trans (List.perm_append_singleton sw ch).symm
   ·by_cases hj:j < ch.length
    ·rw[List.getElem?_append_left hj] at h
     exact hc.at_ j s h
    ·rw[List.getElem?_append_right (by omega)] at h
     have Rb:j=i:=by
      have:=(List.getElem?_eq_some_iff.mp h).1
      rw[List.length_singleton] at this
      omega
     rw[show j - ch.length=0 by omega] at h
     have h':sw=s:=Option.some.inj h
     subst h'
     rw[Rb]
     exact⟨g1,g2,g3⟩)
 rw[B7] at hl
 exact⟨ch,L,y5,y6,y7,y8,y9,e,hp,by omega,hc⟩
noncomputable def KJ (held:List Str)(L:List Sw):D:=.tup [.lst true [],.lst true [.tup [.str "none",.str "salt",.int 0,.A8],.tup [.str "some",.str "salt",.int 10007,.lst true (held.map .str)]],.lst true (L.map BQ)]
theorem wH (held:List Str)(L:List Sw):er (KJ held L)=Bp held L:=by
 show D.tup [.lst false [],.lst false [.tup [.str "none",.str "salt",.int 0,.A8],.tup [.str "some",.str "salt",.int 10007,.lst false (A6 (held.map .str))]],.lst false (A6 (L.map BQ))]=_
 rw[Ev.ck,ph]
 rfl
theorem pL (n:Nat)(ns:List Int){fs:List Str}(h1:1<=fs.length)(hf:fs.length<=20)(a b:Str) :
  ∃ (held:List Str) (ch L:List Sw),ae T (n+4) 55 [.lst false (ns.map .int),.lst false (fs.map .str),.lst false [.str a,.str b]]=.ok (KJ held L)/\L.Perm ch/\ch.length=fs.length/\Cn fs ch/\held.length<=1:=by
 have d1:=bg (n+2) ns 6 (2*(fs.length:Int)) (by omega) (by omega) (by omega)
 generalize dr ns 6 (2*(fs.length:Int))=p at *
 obtain⟨ch,L,y5,y6,y7,y8,y9,e,hp,hl,hc⟩:=wG n ns hf a b p
 have d2:=bg (n+2) ns 8 (fs.length:Int) (by omega) (by omega) (by omega)
 obtain⟨y,hy,gy⟩:=dI (fs:=fs) (cK ns 8 (m:=(fs.length:Int)) (by omega)) (cL ns 8 (by omega))
 generalize dr ns 8 (fs.length:Int)=q at *
 have d3:=bg (n+2) ns 9 3 (by omega) (by omega) (by omega)
 generalize dr ns 9 3=r at *
 have lm:(fs.map D.str).length=fs.length:=List.length_map _
 have ei:A6 (ns.map D.int)=ns.map D.int:=Ev.eK ns
 have ef:=Ev.ck fs
 have go:ae T (n+4) 55 [.lst false (ns.map .int),.lst false (fs.map .str),.lst false [.str a,.str b]]=_:=Ev.go (show T 55=some HQ from rfl) (show HQ.io=false from rfl) (show HQ.np=3 from rfl) (show HQ.G.N.length=11 from rfl) (show HQ.body=[(.asg (.nm 3) (.lst [])),(.asg (.nm 4) (.call 49 [(.v 0),(.c (.int 6)),(.bin .mul (.c (.int 2)) (.bi .len [(.v 1)]))])),(.BE (.nm 5) (.B4 (.bi .len [(.v 1)])) tG),(.asg (.nm 10) (.lst [(.idx (.v 1) (.call 49 [(.v 0),(.c (.int 8)),(.bi .len [(.v 1)])]))])),(.Bn (.cmp .gt (.call 49 [(.v 0),(.c (.int 9)),(.c (.int 3))]) (.c (.int 0))) [(.asg (.nm 10) (.lst []))] []),(.ret (.tup [(.lst []),(.lst [(.tup [(.c (.str "none")),(.c (.str "salt")),(.c (.int 0)),(.c .A8)]),(.tup [(.c (.str "some")),(.c (.str "salt")),(.c (.int 10007)),(.v 10)])]),(.v 3)]))] from rfl) rfl
 cases hr:decide (0 < r) with
 | true=>
  refine⟨[],ch,L,?_,hp,hl,hc,by simp⟩
  rw[go]
  show _=Except.ok (D.tup [.lst true [],.lst true [.tup [.str "none",.str "salt",.int 0,.A8],.tup [.str "some",.str "salt",.int 10007,.lst true []]],.lst true (L.map BQ)])
  generalize fs.map D.str=FS at *
  generalize ns.map D.int=NS at *
  generalize L.map BQ=IT at *
  generalize tG=tg at *
  simp -implicitDefEqProofs (disch:=omega) only[Bl,Nat.reduceBEq,Nat.reduceSub,Nat.reduceAdd,reduceIte,d1,d2,d3,e,hy,lm,hr,ei,ef]
 | false=>
  refine⟨[y],ch,L,?_,hp,hl,hc,by simp⟩
  rw[go]
  show _=Except.ok (D.tup [.lst true [],.lst true [.tup [.str "none",.str "salt",.int 0,.A8],.tup [.str "some",.str "salt",.int 10007,.lst true [.str y]]],.lst true (L.map BQ)])
  generalize fs.map D.str=FS at *
  generalize ns.map D.int=NS at *
  generalize L.map BQ=IT at *
  generalize tG=tg at *
  simp -implicitDefEqProofs (disch:=omega) only[Bl,Nat.reduceBEq,Nat.reduceSub,Nat.reduceAdd,reduceIte,d1,d2,d3,e,hy,lm,hr,ei,ef]
noncomputable def HV:Gm:={N:=["_law_name","_law_own","_law_entry"],kd:=[.cell,.local,.local],gl:=[],df:=false}
noncomputable def IH:Gm:={N:=["_law_due_here","_law_other","_law_face"],kd:=[.cell,.local,.local],gl:=[],df:=false}
noncomputable def tD:List IS:=[(.asg (.tp [(.nm 5),(.nm 6),(.nm 7)]) (.idx (.comp HV [4] (.tp [(.nm 1),(.nm 2)]) (.val (.idx (.v 0) (.c (.int 2)))) [(.cmp .eq (.v 1) (.v 0))] (.v 2)) (.c (.int 0)))),(.asg (.nm 8) (.comp IH [3] (.tp [(.nm 1),(.nm 2)]) (.val (.v 6)) [(.cmp .ne (.idx (.B3 (.v 0) (.v 1)) (.c (.int 0))) (.v 2))] (.v 1))),(.Bn (.v 7) [(.Cf 3 (.v 4) (.tup [(.idx (.v 5) (.c (.int 1))),(.tup [(.c (.str "stopped"))])]))] [(.Bn (.cmp .EA (.v 4) (.idx (.idx (.idx (.v 0) (.c (.int 1))) (.c (.int 1))) (.c (.int 3)))) [(.Cf 3 (.v 4) (.tup [(.idx (.v 5) (.c (.int 1))),(.tup [(.c (.str "held")),(.c (.str "some"))])]))] [(.Bn (.cmp .ne (.v 8) (.lst [])) [(.Cf 3 (.v 4) (.tup [(.idx (.v 5) (.c (.int 1))),(.tup [(.c (.str "needs")),(.idx (.v 8) (.c (.int 0)))])]))] [(.Bn (.cmp .eq (.bi .len [(.idx (.v 5) (.c (.int 2)))]) (.c (.int 1))) [(.Cf 3 (.v 4) (.tup [(.idx (.idx (.idx (.idx (.v 5) (.c (.int 2))) (.c (.int 0))) (.c (.int 1))) (.c (.int 1))),(.tup [(.c (.str "rule")),(.c (.int 0))])]))] [(.Cf 3 (.v 4) (.tup [(.idx (.v 5) (.c (.int 1))),(.tup [(.c (.str "rest"))])]))])])])])]
section
variable {held fs:List Str}{L:List Sw}{A:Str->D}
noncomputable def Ew (A:Str->D)(p:Str×Str):Bool:=fO (A p.1) != some p.2
theorem pM (cl:Nat->List D->Res D){us:List Str}(l:List (Str×Str))(h:∀ p∈l,us.any (· == p.1)=true/\∃ g t,A p.1=.tup [.str g,t]) :
  aP (bf cl (.tp [(.nm 1),(.nm 2)]) [(.cmp .ne (.idx (.B3 (.v 0) (.v 1)) (.c (.int 0))) (.v 2))] (.v 1) [some (.A0 true (kT us) (us.map A)),none,none]) (l.map BX)=.ok ((l.filter (Ew A)).map fun p=>.str p.1):=by
 refine gE BX (Ew A) (fun p=>.str p.1) l fun p hp=>?_
 obtain⟨y,f⟩:=p
 obtain⟨h1,g,t,h2⟩:=h _ hp
 have g1:=de (A:=A) us y h1
 have hu:Ew A (y,f)=(g != f):=by
  unfold Ew
  rw[h2]
  show (some g != some f)=_
  cases h:(g != f)<;>simp_all
 rw[hu]
 rw[h2] at g1
 have x0:au (.tup [.str g,t]) (.int 0)=.ok (.str g):=rfl
 unfold BX
 generalize us.map A=W at *
 generalize kT us=K at *
 cases hg:(g == f) with
 | true=>
  have:(g != f)=false:=by unfold bne;rw[hg];rfl
  rw[this]
  simp -implicitDefEqProofs (disch:=omega) only[Bl,Nat.reduceBEq,Nat.reduceSub,Nat.reduceAdd,reduceIte,Ev.aA,g1,x0,hg]
 | false=>
  have:(g != f)=true:=by unfold bne;rw[hg];rfl
  rw[this]
  simp -implicitDefEqProofs (disch:=omega) only[Bl,Nat.reduceBEq,Nat.reduceSub,Nat.reduceAdd,reduceIte,Ev.aA,g1,x0,hg]
theorem rE (cl:Nat->List D->Res D)(x:Str)(L:List Sw):aP (bf cl (.tp [(.nm 1),(.nm 2)]) [(.cmp .eq (.v 1) (.v 0))] (.v 2) [some (.str x),none,none]) (L.map BQ)=.ok ((L.filter fun q=>q.nm == x).map bw):=by
 refine gE BQ (fun q=>q.nm == x) bw L fun q _=>?_
 unfold BQ
 generalize bw q=E
 cases h:(q.nm == x)<;>simp -implicitDefEqProofs (disch:=omega) only[Bl,Nat.reduceBEq,Nat.reduceSub,Nat.reduceAdd,reduceIte,Ev.aA,h]
theorem rF (l:List (Str×Str)):cf A l=((l.filter (Ew A)).map (·.1)).head?:=by
 unfold cf
 induction l with
 | nil=>rfl
 | cons p l ih=>
  rw[List.find?_cons,List.filter_cons]
  show Option.map _ (match Ew A p with|true=>some p|false=>_)=_
  cases Ew A p with
  | true=>rfl
  | false=>exact ih
end
section
variable {held fs:List Str}{L:List Sw}{A:Str->D}
theorem rG (cl:Nat->List D->Res D)(lf:∀ x,ao (A x)=true){us:List Str}{x:Str}{d:D}(hd:d=A x)(hu:us.length<=1000)(s0 s1 s2 s5 s6 s7 s8:Option D) :
  Ev.kg cl 3 (.v 4) [s0,s1,s2,some (.A0 true (kT us) (us.map A)),some (.str x),s5,s6,s7,s8] d (some (.A0 true (kT us) (us.map A)))=.ok (.nx [s0,s1,s2,some (.A0 true (kT (bt us x)) ((bt us x).map A)),some (.str x),s5,s6,s7,s8]):=by
 have:=Ev.gx (cl:=cl) (i:=3) (k:=.v 4) (τ:=[s0,s1,s2,some (.A0 true (kT us) (us.map A)),some (.str x),s5,s6,s7,s8]) (d:=A x) (ks:=kT us) (ds:=us.map A) (x:=x) rfl (by
  rw[lf x,cD lf us,Ev.gB (by unfold kT;rw[List.length_map];omega)];rfl)
 rw[pD,pF] at this
 rw[hd]
 exact this
theorem wI (s:Sw):(c9 s=.tup [.str s.f,.tup [.str "rule",.int 0]]/\∃ o:D,Dz s.f s.w=[r1 o]/\au o (.int 1)=.ok (.str s.f))∨(c9 s=.tup [.str s.rest,.tup [.str "rest"]]/\((((Dz s.f s.w).length:Nat):Int) == 1)=false):=by
 rcases s with ⟨nm,rest,f,w,a,b,nd,st⟩
 rcases w with _|_|_|w
 ·exact .inl ⟨rfl,oF f,rfl,rfl⟩
 ·exact .inl ⟨rfl,oS f 10007,rfl,rfl⟩
 ·exact .inr ⟨rfl,rfl⟩
 ·exact .inr ⟨rfl,rfl⟩
theorem wJ (cl:Nat->List D->Res D)(lf:∀ x,ao (A x)=true){us:List Str}{s:Sw}{x:Str}(Mv:(L.filter fun q=>q.nm == x)=[s])(hx:s.nm=x)(hL:L.length<=20)(hA:A x=bH held A s)(RK:s.nd.length<=2)(hu:us.length<=1000)(h:∀ p∈s.nd,us.any (· == p.1)=true/\∃ g t,A p.1=.tup [.str g,t])(s1 s2 s4 s5 s6 s7 s8:Option D) :
  ∃ y5 y6 y7 y8,Ev.turn cl (.nm 4) tD (.str x) [some (Bp held L),s1,s2,some (.A0 true (kT us) (us.map A)),s4,s5,s6,s7,s8]=.ok (.nx [some (Bp held L),s1,s2,some (.A0 true (kT (bt us x)) ((bt us x).map A)),some (.str x),y5,y6,y7,y8]):=by
 have e1:=rE cl x L
 rw[Mv] at e1
 have e1:aP (bf cl (.tp [(.nm 1),(.nm 2)]) [(.cmp .eq (.v 1) (.v 0))] (.v 2) [some (.str x),none,none]) (L.map BQ)=.ok [bw s]:=e1
 have e2:=pM cl (us:=us) s.nd h
 have lk:=rF (A:=A) s.nd
 have q1:=h1 held L
 have q2:=h2 held L
 have q3:=cq held L
 have q4:∀ (P Q:D),au (.lst false [P,Q]) (.int 1)=.ok Q:=fun _ _=>rfl
 have q5:∀ (P Q R S:D),au (.tup [P,Q,R,S]) (.int 3)=.ok S:=fun _ _ _ _=>rfl
 have ih:=zY false x held
 have ee:=jr s
 have es:=iR s
 have lm:(L.map BQ).length=L.length:=List.length_map _
 have ln:(s.nd.map BX).length=s.nd.length:=List.length_map _
 have x0:∀ (o:Bool) (P:D),au (.lst o [P]) (.int 0)=.ok P:=fun _ _=>rfl
 have sE:bp (.tp [(.nm 5),(.nm 6),(.nm 7)]) (bw s) [some (Bp held L),s1,s2,some (.A0 true (kT us) (us.map A)),some (.str x),s5,s6,s7,s8]=.ok [some (Bp held L),s1,s2,some (.A0 true (kT us) (us.map A)),some (.str x),some s.d,some (.lst false (s.nd.map BX)),some (.bl s.st),s8]:=rfl
 have kp:aB (.idx (.comp HV [4] (.tp [(.nm 1),(.nm 2)]) (.val (.idx (.v 0) (.c (.int 2)))) [(.cmp .eq (.v 1) (.v 0))] (.v 2)) (.c (.int 0))) (bw s) [some (Bp held L),s1,s2,some (.A0 true (kT us) (us.map A)),some (.str x),s5,s6,s7,s8]=(bw s,[some (Bp held L),s1,s2,some (.A0 true (kT us) (us.map A)),some (.str x),s5,s6,s7,s8]):=by
  show (er (bw s),[some (er (Bp held L)),s1,s2,some (.A0 true (kT us) (us.map A)),some (.str x),s5,s6,s7,s8])=_
  rw[ee,q3]
 have w1:au s.d (.int 1)=.ok (.str s.rest):=rfl
 have w2:au s.d (.int 2)=.ok (.lst false (Dz s.f s.w)):=rfl
 have E9:af ((s.nd.filter (Ew A)).map fun p=>D.str p.1)=true:=by rw[aS,List.all_map];exact List.all_eq_true.mpr fun _ _=>rfl
 have y1:∀ o:D,au (r1 o) (.int 1)=.ok o:=fun _=>rfl
 have CK:(LL:List D)->LL=(s.nd.filter (Ew A)).map (fun p=>D.str p.1)->Cj .ne (.lst true LL) (.lst true [])=.ok (!LL.isEmpty):=by
  intro LL _
  cases LL<;>rfl
 have CK:=CK _ rfl
 refine⟨some s.d,some (.lst false (s.nd.map BX)),some (.bl s.st),some (.lst true ((s.nd.filter (Ew A)).map fun p=>D.str p.1)),?_⟩
 unfold bH at hA
 rw[hx] at hA
 have dk:=fun d (hd:d=A x)=>rG cl lf hd hu (some (Bp held L)) s1 s2 (some s.d) (some (.lst false (s.nd.map BX))) (some (.bl s.st)) (some (.lst true ((s.nd.filter (Ew A)).map fun p=>D.str p.1)))
 unfold F5 at q1
 unfold tD
 generalize RM:((some (.A0 true (kT (bt us x)) ((bt us x).map A))):Option D)=PU at *
 generalize Bp held L=H at *
 generalize L.map BQ=IT at *
 generalize bw s=E at *
 generalize s.d=S at *
 generalize s.nd.map BX=ND at *
 generalize held.map D.str=HE at *
 generalize us.map A=W at *
 generalize kT us=K at *
 cases Bu:s.st with
 | true=>
  rw[Bu,if_pos rfl] at hA
  rw[Bu] at sE dk
  have dk:=dk _ hA.symm
  generalize (s.nd.filter (Ew A)).map (fun p=>D.str p.1)=LL at *
  unfold HV IH at *
  simp -implicitDefEqProofs (disch:=omega) only[Bl,Nat.reduceBEq,Nat.reduceSub,Nat.reduceAdd,reduceIte,Ev.aA,q2,lm,e1,x0,kp,sE,e2,ln,E9,w1,dk]
 | false=>
  rw[Bu,if_neg Bool.false_ne_true] at hA
  rw[Bu] at sE dk
  cases hh:held.any (· == x) with
  | true=>
   rw[hh,if_pos rfl] at hA
   rw[hh] at ih
   have dk:=dk _ hA.symm
   generalize (s.nd.filter (Ew A)).map (fun p=>D.str p.1)=LL at *
   unfold HV IH at *
   simp -implicitDefEqProofs (disch:=omega) only[Bl,Nat.reduceBEq,Nat.reduceSub,Nat.reduceAdd,reduceIte,Ev.aA,q1,q2,q4,q5,ih,lm,e1,x0,kp,sE,e2,ln,E9,w1,dk]
  | false=>
   rw[hh,if_neg Bool.false_ne_true] at hA
   rw[hh] at ih
   cases N6:s.nd.filter (Ew A) with
   | cons p0 rest=>
    rw[N6] at lk e2 E9 dk CK
    rw[lk] at hA
    have hA:A x=.tup [.str s.rest,.tup [.str "needs",.str p0.1]]:=hA
    have dk:=dk _ hA.symm
    rw[List.map_cons] at e2 E9 dk CK ⊢
    have CK:Cj .ne (.lst true (D.str p0.1::rest.map fun p=>D.str p.1)) (.lst true [])=.ok true:=CK
    have Rc:au (.lst true (D.str p0.1::rest.map fun p=>D.str p.1)) (.int 0)=.ok (.str p0.1):=by rw[Ev.L5,Ev.gC .A8 (by decide) (by rw[List.length_cons];omega)];rfl
    generalize (D.str p0.1::rest.map fun p=>D.str p.1)=LL at *
    unfold HV IH at *
    simp -implicitDefEqProofs (disch:=omega) only[Bl,Nat.reduceBEq,Nat.reduceSub,Nat.reduceAdd,reduceIte,Ev.aA,q1,q2,q4,q5,ih,lm,e1,x0,Rc,CK,kp,sE,e2,ln,E9,w1,dk]
   | nil=>
    rw[N6] at lk e2 E9 dk CK
    rw[lk] at hA
    have hA:A x=c9 s:=hA
    have CK:Cj .ne (.lst true []) (.lst true [])=.ok false:=CK
    have e2:aP _ _=.ok []:=e2
    rw[List.map_nil] at dk ⊢
    have FT:(((1:Nat):Int) == 1)=true:=rfl
    rcases wI s with ⟨f1,o,f2,f3⟩|⟨f1,f2⟩
    ·rw[f1] at hA
     have dk:=dk _ hA.symm
     rw[f2] at w2
     have y1:=y1 o
     have Rf:au (.lst false [r1 o]) (.int 0)=.ok (r1 o):=rfl
     generalize r1 o=Q at *
     unfold HV IH at *
     simp -implicitDefEqProofs (disch:=omega) only[Bl,Nat.reduceBEq,Nat.reduceSub,Nat.reduceAdd,reduceIte,Ev.aA,q1,q2,q4,q5,ih,lm,e1,x0,Rf,y1,f3,FT,CK,kp,sE,e2,ln,E9,w1,w2,dk]
    ·rw[f1] at hA
     have dk:=dk _ hA.symm
     generalize Dz s.f s.w=R at *
     unfold HV IH at *
     simp -implicitDefEqProofs (disch:=omega) only[Bl,Nat.reduceBEq,Nat.reduceSub,Nat.reduceAdd,reduceIte,Ev.aA,q1,q2,q4,q5,ih,lm,e1,x0,f2,CK,kp,sE,e2,ln,E9,w1,w2,dk]
end
noncomputable def DC (t:List (Str×D))(x:Str):D:=((t.find? fun p=>p.1 == x).map (·.2)).getD .A8
noncomputable def tb (held:List Str):List Sw->List (Str×D)
 | []=>[]
 | s::r=>tb held r++[(s.nm,bH held (DC (tb held r)) s)]
theorem gG (held:List Str):∀ r:List Sw,(tb held r).map (·.1)=(r.map (·.nm)).reverse
 | []=>rfl
 | s::r=>by
  show (tb held r++[(s.nm,bH held (DC (tb held r)) s)]).map (·.1)=_
  rw[List.map_append,gG held r]
  show _++[s.nm]=(s.nm::r.map (·.nm)).reverse
  rw[List.reverse_cons]
theorem ju {t:List (Str×D)}(u:List (Str×D)){x:Str}(h:x∈t.map (·.1)):DC (t++u) x=DC t x:=by
 unfold DC
 rw[List.find?_append]
 obtain⟨p,hp,e⟩:=List.mem_map.mp h
 cases hf:t.find? (fun p=>p.1 == x) with
 | some q=>rfl
 | none=>
  have:=List.find?_eq_none.mp hf p hp
  simp[e] at this
theorem wK {t:List (Str×D)}{x:Str}{d:D}(h:x∉t.map (·.1)):DC (t++[(x,d)]) x=d:=by
 unfold DC
 rw[List.find?_append]
 have hf:t.find? (fun p=>p.1 == x)=none:=List.find?_eq_none.mpr fun p hp z=>h (List.mem_map.mpr ⟨p,hp,by simpa using z⟩)
 rw[hf]
 show ((List.find? (fun p=>p.1 == x) [(x,d)]).map (·.2)).getD .A8=d
 rw[List.find?_cons]
 simp
theorem wL (held:List Str)(A:Str->D)(s:Sw):ao (bH held A s)=true:=by
 unfold bH
 split
 ·rfl
 ·split
  ·rfl
  ·split
   ·rfl
   ·unfold c9
    split<;>rfl
theorem uz (held:List Str):∀ (r:List Sw),∀ p∈tb held r,ao p.2=true
 | [],p,h=>by cases h
 | s::r,p,h=>by
  rcases List.mem_append.mp h with h|h
  ·exact uz held r p h
  ·rw[List.mem_singleton.mp h]
   exact wL _ _ _
theorem Ac (held:List Str)(r:List Sw)(x:Str):ao (DC (tb held r) x)=true:=by
 unfold DC
 cases h:(tb held r).find? (fun p=>p.1 == x) with
 | none=>rfl
 | some p=>exact uz held r p (List.mem_of_find?_eq_some h)
theorem pN (held:List Str){A B:Str->D}{s:Sw}(h:∀ p∈s.nd,A p.1=B p.1):bH held A s=bH held B s:=by
 have:cf A s.nd=cf B s.nd:=by
  unfold cf
  congr 1
  have key:∀ l:List (Str×Str),(∀ p∈l,A p.1=B p.1)->l.find? (fun p=>fO (A p.1) != some p.2)=l.find? (fun p=>fO (B p.1) != some p.2):=by
   intro l
   induction l with
   | nil=>intro _;rfl
   | cons p l ih=>
    intro h
    rw[List.find?_cons,List.find?_cons,h p (.head _),ih fun q hq=>h q (.tail _ hq)]
  exact key s.nd h
 unfold bH
 rw[this]
theorem jv:∀ {r:List Sw},IG r->∀ s∈r,∀ p∈s.nd,∃ q∈r,q.nm=p.1
 | [],_,s,h=>by simp at h
 | a::r,hc,s,h=>by
  intro p hp
  rcases List.mem_cons.mp h with rfl|h
  ·obtain⟨q,hq,e⟩:=hc.1 p hp
   exact⟨q,.tail _ hq,e⟩
  ·obtain⟨q,hq,e⟩:=jv hc.2 s h p hp
   exact⟨q,.tail _ hq,e⟩
theorem jw {held:List Str}{r:List Sw}{q:Sw}{x:Str}(h:q∈r)(e:q.nm=x):x∈(tb held r).map (·.1):=by
 rw[gG,List.mem_reverse]
 exact List.mem_map.mpr ⟨q,h,e⟩
theorem pO (held:List Str):∀ (r:List Sw),IG r->(r.map (·.nm)).Nodup->∀ s∈r,DC (tb held r) s.nm=bH held (DC (tb held r)) s
 | [],_,_,s,h=>by simp at h
 | q::r,hc,nd,s,h=>by
  rw[List.map_cons,List.nodup_cons] at nd
  rcases List.mem_cons.mp h with rfl|h
  ·have e1:DC (tb held (s::r)) s.nm=bH held (DC (tb held r)) s:=wK (by rw[gG,List.mem_reverse];exact nd.1)
   rw[e1]
   refine pN held fun p hp=>?_
   obtain⟨q,hq,e⟩:=hc.1 p hp
   exact(ju _ (jw hq e)).symm
  ·have e1:DC (tb held (q::r)) s.nm=DC (tb held r) s.nm:=ju _ (jw h rfl)
   rw[e1,pO held r hc.2 nd.2 s h]
   refine pN held fun p hp=>?_
   obtain⟨q',hq,e⟩:=jv hc.2 s h p hp
   exact(ju _ (jw hq e)).symm
theorem kG:∀ {l:List Sw}{s:Sw},(l.map (·.nm)).Nodup->s∈l->(l.filter fun q=>q.nm == s.nm)=[s]
 | [],s,_,h=>by simp at h
 | a::l,s,nd,h=>by
  rw[List.map_cons,List.nodup_cons] at nd
  rw[List.filter_cons]
  rcases List.mem_cons.mp h with rfl|h
  ·rw[if_pos (beq_self_eq_true _)]
   congr 1
   refine List.filter_eq_nil_iff.mpr fun q hq z=>nd.1 ?_
   exact List.mem_map.mpr ⟨q,hq,by simpa using z⟩
  ·rw[if_neg (fun z=>nd.1 (List.mem_map.mpr ⟨s,h,(by simpa using z:a.nm=s.nm).symm⟩))]
   exact kG nd.2 h
structure Hs (fs:List Str)(ch L:List Sw):Prop where
 Fs:ch.map (·.nm)=fs
 nd:fs.Nodup
 pm:L.Perm ch
 cn:Cn fs ch
theorem wM {fs:List Str}{ch:List Sw}(c:Cn fs ch)(hl:ch.length=fs.length):ch.map (·.nm)=fs:=by
 apply List.ext_getElem?
 intro j
 rw[List.getElem?_map]
 cases h:ch[j]? with
 | none=>
  have:ch.length<=j:=List.getElem?_eq_none_iff.mp h
  exact(List.getElem?_eq_none (by omega)).symm
 | some s=>exact(c.at_ j s h).1.symm
section
variable {fs:List Str}{ch L:List Sw}
theorem Hs.N7 (h:Hs fs ch L){s:Sw}(hs:s∈ch):(L.filter fun q=>q.nm == s.nm)=[s]:=
 kG ((h.pm.map (·.nm)).nodup_iff.mpr (by rw[h.Fs];exact h.nd)) (h.pm.mem_iff.mpr hs)
theorem Hs.find (h:Hs fs ch L){s:Sw}(hs:s∈ch):L.find? (fun q=>q.nm == s.nm)=some s:=by
 rw[<- List.head?_filter,h.N7 hs]
 rfl
theorem Hs.Mw (h:Hs fs ch L):IG ch:=by
 have key:∀ d k,k+d=ch.length->IG (ch.drop k):=by
  intro d
  induction d with
  | zero=>
   intro k hk
   rw[List.drop_of_length_le (by omega)]
   trivial
  | succ d ih=>
   intro k hk
   have BM:k < ch.length:=by omega
   rw[List.drop_eq_getElem_cons BM]
   refine⟨fun p hp=>?_,ih (k+1) (by omega)⟩
   have:=(h.cn.at_ k ch[k] (List.getElem?_eq_getElem BM)).2.1 p hp
   rw[<- h.Fs,<- List.map_drop] at this
   obtain⟨q,hq,e⟩:=List.mem_map.mp this
   exact⟨q,hq,e⟩
 exact key ch.length 0 (by omega)
end
section
variable {held fs:List Str}{ch L:List Sw}{A:Str->D}
theorem jx {us:List Str}{x u:Str}(h:u∈us∨u=x):u∈bt us x:=by
 unfold bt
 cases q:us.any (· == x) with
 | true=>
  rcases h with h|h
  ·exact h
  ·obtain⟨y,hy,e⟩:=List.any_eq_true.mp q
   have:y=x:=by simpa using e
   rw[h,<- this];exact hy
 | false=>
  show u∈us++[x]
  rcases h with h|h
  ·exact List.mem_append_left _ h
  ·rw[h];exact List.mem_append_right _ (List.mem_singleton.mpr rfl)
theorem rH (us:List Str)(x:Str):(bt us x).length<=us.length+1:=by
 unfold bt
 cases us.any (· == x) with
 | true=>show us.length<=_;omega
 | false=>show (us++[x]).length<=_;rw[List.length_append];exact Nat.le_refl _
noncomputable def Rq:List Sw->List Str->Prop
 | [],_=>True
 | s::q,us=>(∀ p∈s.nd,p.1∈us)/\Rq q (bt us s.nm)
theorem uA (h:Hs fs ch L):∀ (k:Nat) (us:List Str),k<=ch.length->(∀ x∈fs.drop k,x∈us)->Rq (ch.take k).reverse us
 | 0,us,_,_=>by rw[List.take_zero];trivial
 | k+1,us,hk,hu=>by
  have BM:k < ch.length:=by omega
  have e:(ch.take (k+1)).reverse=ch[k]::(ch.take k).reverse:=by
   rw[List.take_succ_eq_append_getElem BM,List.reverse_append]
   rfl
  rw[e]
  have hc:=h.cn.at_ k ch[k] (List.getElem?_eq_getElem BM)
  refine⟨fun p hp=>hu _ (hc.2.1 p hp),uA h k _ (by omega) fun x hx=>jx ?_⟩
  have N8:k < fs.length:=by rw[<- h.Fs,List.length_map];exact BM
  rw[List.drop_eq_getElem_cons N8] at hx
  rcases List.mem_cons.mp hx with rfl|hx
  ·right
   have:=hc.1
   rw[List.getElem?_eq_getElem N8] at this
   exact Option.some.inj this
  ·exact .inl (hu x hx)
theorem kH {us:List Str}{x:Str}(h:x∈us):us.any (· == x)=true:=List.any_eq_true.mpr ⟨x,h,beq_self_eq_true x⟩
theorem pP (cl:Nat->List D->Res D)(lf:∀ x,ao (A x)=true)(h:Hs fs ch L)(hL:L.length<=20)(hA:∀ s∈ch,A s.nm=bH held A s)(s1 s2:Option D):∀ (q:List Sw) (us:List Str) (s4 s5 s6 s7 s8:Option D),(∀ s∈q,s∈ch)->Rq q us->us.length+q.length<=1000->
  ∃ Bm y4 y5 y6 y7 y8,forM (Ev.turn cl (.nm 4) tD) (q.map fun s=>.str s.nm) [some (Bp held L),s1,s2,some (.A0 true (kT us) (us.map A)),s4,s5,s6,s7,s8]=.ok (.nx [some (Bp held L),s1,s2,some (.A0 true (kT Bm) (Bm.map A)),y4,y5,y6,y7,y8])/\(∀ u∈us,u∈Bm)/\∀ s∈q,s.nm∈Bm
 | [],us,s4,s5,s6,s7,s8,_,_,_=>⟨us,s4,s5,s6,s7,s8,rfl,fun u hu=>hu,fun s hs=>by simp at hs⟩
 | s::q,us,s4,s5,s6,s7,s8,hq,hr,hl=>by
  have hs:=hq s (.head _)
  rw[List.length_cons] at hl
  obtain⟨j,hj⟩:=List.mem_iff_getElem?.mp hs
  have hc:=h.cn.at_ j s hj
  obtain⟨y5,y6,y7,y8,e⟩:=wJ cl lf (h.N7 hs) rfl hL (hA s hs) hc.2.2 (us:=us) (by omega) (fun p hp=>⟨kH (hr.1 p hp),by
   obtain⟨q',Gp,e⟩:=jv h.Mw s hs p hp
   rw[<- e,hA q' Gp]
   exact pI q'⟩) s1 s2 s4 s5 s6 s7 s8
  have pl:=rH us s.nm
  obtain⟨Bm,z4,z5,z6,z7,z8,e2,i1,i2⟩:=pP cl lf h hL hA s1 s2 q (bt us s.nm) (some (.str s.nm)) y5 y6 y7 y8 (fun s hs=>hq s (.tail _ hs)) hr.2 (by omega)
  refine⟨Bm,z4,z5,z6,z7,z8,?_,fun u hu=>i1 u (jx (.inl hu)),fun s' ER=>?_⟩
  ·rw[List.map_cons,Ev.bV,e]
   exact e2
  ·rcases List.mem_cons.mp ER with rfl|ER
   ·exact i1 _ (jx (.inr rfl))
   ·exact i2 s' ER
theorem wN (n:Nat)(lf:∀ x,ao (A x)=true)(h:Hs fs ch L)(hL:L.length<=20)(hA:∀ s∈ch,A s.nm=bH held A s)(F:D):∃ Bm,ae T (n+1) 56 [Bp held L,.lst false (fs.map .str),F]=.ok (.A0 true (kT Bm) (Bm.map A))/\∀ x∈fs,x∈Bm:=by
 have Q0:ch.length<=20:=by rw[<- h.pm.length_eq];exact hL
 have hr:Rq ch.reverse []:=by
  have:=uA h ch.length [] (Nat.le_refl _) fun x hx=>by
   rw[List.drop_of_length_le (by rw[<- h.Fs,List.length_map];exact Nat.le_refl _)] at hx
   simp at hx
  rwa [List.take_length] at this
 obtain⟨Bm,y4,y5,y6,y7,y8,e,_,i2⟩:=pP (ae T n) lf h hL hA (some (.lst false (fs.map .str))) (some F) ch.reverse [] none none none none none (fun s hs=>List.mem_reverse.mp hs) hr (by rw[List.length_reverse];simp;omega)
 refine⟨Bm,?_,fun x hx=>?_⟩
 ·have Rg:(fs.map D.str).reverse=ch.reverse.map fun s=>D.str s.nm:=by
   rw[<- h.Fs,List.map_map,<- List.map_reverse]
   rfl
  have Rh:A6 (ch.reverse.map fun s=>D.str s.nm)=ch.reverse.map fun s=>D.str s.nm:=by
   rw[a9,List.map_map]
   rfl
  have ef:=Ev.ck fs
  have go:ae T (n+1) 56 [Bp held L,.lst false (fs.map .str),F]=_:=Ev.go (show T 56=some HR from rfl) (show HR.io=false from rfl) (show HR.np=3 from rfl) (show HR.G.N.length=9 from rfl) (show HR.body=[(.asg (.nm 3) .CW),(.BE (.nm 4) (.rev (.v 1)) tD),(.ret (.v 3))] from rfl) rfl
  rw[go]
  have e:forM (Ev.turn (ae T n) (.nm 4) tD) (ch.reverse.map fun s=>D.str s.nm) [some (Bp held L),some (.lst false (fs.map .str)),some F,some (.A0 true [] []),none,none,none,none,none]=_:=e
  generalize ch.reverse.map (fun s=>D.str s.nm)=RV at *
  generalize fs.map D.str=FS at *
  generalize Bp held L=H at *
  generalize Bm.map A=W at *
  generalize tD=td at *
  simp -implicitDefEqProofs (disch:=omega) only[Bl,Nat.reduceBEq,Nat.reduceSub,Nat.reduceAdd,reduceIte,Rg,Rh,ef,e]
 ·rw[<- h.Fs] at hx
  obtain⟨s,hs,rfl⟩:=List.mem_map.mp hx
  exact i2 s (List.mem_reverse.mpr hs)
end
theorem eM {α:Type}{n:Nat}{e:α->D}:∀ (xs:List α),(∀ x∈xs,pl n (e x)=true)->Cy n (xs.map e)=true
 | [],_=>rfl
 | x::xs,h=>by
  show (pl n (e x)&&Cy n (xs.map e))=true
  rw[h x (.head _),eM xs fun y hy=>h y (.tail _ hy)]
  rfl
theorem Ad {s:Sw}(h:s.nd.length<=2):pl 10 (BQ s)=true:=by
 have h1:Cy 7 (s.nd.map BX)=true:=eM s.nd fun _ _=>rfl
 have d1:decide ((s.nd.map BX).length < 1000)=true:=decide_eq_true (by rw[List.length_map];omega)
 have h2:pl 8 s.d=true:=by
  unfold Sw.d
  rcases s with ⟨_,_,_,w,_,_,_,_⟩
  rcases w with _|_|_|w<;>rfl
 show ((true&&(((pl 8 s.d&&((Cy 7 (s.nd.map BX)&&decide ((s.nd.map BX).length < 1000))&&(true&&true)))&&true)&&true))&&true)=true
 rw[h1,h2,d1]
 rfl
theorem pQ {held:List Str}{L:List Sw}(hh:held.length<=1)(hL:L.length<=20)(h:∀ s∈L,s.nd.length<=2):pl 12 (Bp held L)=true:=by
 have h1:Cy 9 (held.map .str)=true:=eM held fun _ _=>rfl
 have h2:Cy 10 (L.map BQ)=true:=eM L fun s hs=>Ad (h s hs)
 have d1:decide ((held.map D.str).length < 1000)=true:=decide_eq_true (by rw[List.length_map];omega)
 have d2:decide ((L.map BQ).length < 1000)=true:=decide_eq_true (by rw[List.length_map];omega)
 have h3:Cy 10 (F5 held)=true:=by
  show (true&&(((true&&(true&&(true&&((Cy 8 (held.map .str)&&decide ((held.map D.str).length < 1000))&&true))))&&true)&&true))=true
  have h1:Cy 8 (held.map .str)=true:=eM held fun _ _=>rfl
  rw[h1,d1]
  rfl
 show ((true&&((Cy 10 (F5 held)&&true)&&((Cy 10 (L.map BQ)&&decide ((L.map BQ).length < 1000))&&true)))&&true)=true
 rw[h3,h2,d2]
 rfl
theorem wO (held:List Str)(A:Str->D)(s:Sw):pl 3 (bH held A s)=true:=by
 unfold bH
 split
 ·rfl
 ·split
  ·rfl
  ·split
   ·rfl
   ·unfold c9
    split<;>rfl
noncomputable def tL:List IS:=[(.Bn (.BU (.call 50 [(.call 48 [(.v 6),(.c (.int 5)),(.v 7),(.v 8)]),(.B3 (.v 5) (.v 8))])) [(.ret (.c (.bl false)))] [])]
section
variable {held fs:List Str}{ch L:List Sw}{A:Str->D}{m:Int}
theorem pR {H' V':D}(eH:er H'=Bp held L)(eV:er V'=BJ m){us:List Str}(s0 s1 s2 s3 s4:Option D):∀ (q:List Str) (s8:Option D),(∀ x∈q,ae T 90 48 [Bp held L,.int 5,BJ m,.str x]=.ok (A x)/\ae T 90 50 [A x,A x]=.ok (.bl true)/\er (A x)=A x/\us.any (· == x)=true)->
  ∃ y8,forM (Ev.turn (ae T 90) (.nm 8) tL) (q.map .str) [s0,s1,s2,s3,s4,some (.A0 true (kT us) (us.map A)),some H',some V',s8]=.ok (.nx [s0,s1,s2,s3,s4,some (.A0 true (kT us) (us.map A)),some H',some V',y8])
 | [],s8,_=>⟨s8,rfl⟩
 | x::q,s8,h=>by
  obtain⟨e1,e2,e3,e4⟩:=h x (.head _)
  have g1:=de (A:=A) us x e4
  have et:Ev.turn (ae T 90) (.nm 8) tL (.str x) [s0,s1,s2,s3,s4,some (.A0 true (kT us) (us.map A)),some H',some V',s8]=.ok (.nx [s0,s1,s2,s3,s4,some (.A0 true (kT us) (us.map A)),some H',some V',some (.str x)]):=by
   unfold tL
   generalize Bp held L=H at *
   generalize BJ m=V at *
   generalize us.map A=W at *
   generalize A x=X at *
   generalize kT us=K at *
   simp -implicitDefEqProofs (disch:=omega) only[Bl,Nat.reduceBEq,Nat.reduceSub,Nat.reduceAdd,reduceIte,Ev.aA,eH,eV,e1,g1,e2,e3]
  obtain⟨y8,e⟩:=pR eH eV s0 s1 s2 s3 s4 q (some (.str x)) fun y hy=>h y (.tail _ hy)
  refine⟨y8,?_⟩
  rw[List.map_cons,Ev.bV,et]
  exact e
end
theorem wQ (ns:List Int):ae T (90+1) 57 [.lst false (ns.map .int)]=.ok (.bl true):=by
 have d5:=bg 89 ns 5 2 (by decide) (by decide) (by decide)
 have a0:=cK ns 5 (m:=2) (by decide)
 have a1:=cL ns 5 (m:=2) (by decide)
 generalize dr ns 5 2=u at *
 obtain⟨t,ht,tc⟩:∃ t:Int,(∀ o,au (.lst o [.int 5,.int 20]) (.int u)=.ok (.int t))/\(t=5∨t=20):=by
  rcases (show u=0∨u=1 by omega) with rfl|rfl
  ·exact⟨5,fun _=>rfl,by omega⟩
  ·exact⟨20,fun _=>rfl,by omega⟩
 have d4:=bg 89 ns 4 t (by decide) (by decide) (by omega)
 have b0:=cK ns 4 (m:=t) (by omega)
 have b1:=cL ns 4 (m:=t) (by omega)
 generalize dr ns 4 t=c at *
 obtain⟨fs,e1,fl,N9⟩:=pf 88 ns (c:=1+c) (by omega) (by omega)
 have Ri:=bg 89 ns 10 2 (by decide) (by decide) (by decide)
 have c0:=cK ns 10 (m:=2) (by decide)
 have c1:=cL ns 10 (m:=2) (by decide)
 generalize dr ns 10 2=v at *
 obtain⟨a,b,hv⟩:∃ a b:Str,∀ o,au (.lst o [.lst true [.str "on",.str "off"],.lst true [.str "blue",.str "red"]]) (.int v)=.ok (.lst true [.str a,.str b]):=by
  rcases (show v=0∨v=1 by omega) with rfl|rfl
  ·exact⟨_,_,fun _=>rfl⟩
  ·exact⟨_,_,fun _=>rfl⟩
 obtain⟨held,ch,L,e2,hp,hl,hc,hh⟩:=pL 86 ns (fs:=fs) (by omega) (by omega) a b
 have hs:Hs fs ch L:=⟨wM hc hl,N9,hp,hc⟩
 have hL:L.length<=20:=by rw[hp.length_eq];omega
 have Ky:∀ s∈L,s.nd.length<=2:=fun s hs=>by
  obtain⟨j,hj⟩:=List.mem_iff_getElem?.mp (hp.mem_iff.mp hs)
  exact(hc.at_ j s hj).2.2
 have hA:∀ s∈ch,DC (tb held ch) s.nm=bH held (DC (tb held ch)) s:=pO held ch hs.Mw (by rw[hs.Fs];exact N9)
 have lf:=Ac held ch
 generalize DC (tb held ch)=A at *
 obtain⟨us,e3,Rj⟩:=wN 89 lf hs hL hA (.lst false [.str a,.str b])
 obtain⟨H,e4,eH⟩:=copy 12 78 (pQ hh hL Ky)
 have e4:ae T 90 51 [Bp held L]=.ok H:=e4
 have e5:ae T 90 50 [Bp held L,Bp held L]=_:=same 12 78 (pQ hh hL Ky)
 have lH:ao H=false:=by
  cases hb:ao H with
  | false=>rfl
  | true=>
   have:H=Bp held L:=(dZ hb).symm.trans eH
   rw[this] at hb
   cases hb
 have Rk:=bg 89 ns 11 1000000 (by decide) (by decide) (by decide)
 have m0:=cK ns 11 (m:=1000000) (by decide)
 have m1:=cL ns 11 (m:=1000000) (by decide)
 generalize dr ns 11 1000000=m at *
 have key:∀ x∈fs,ae T 90 48 [Bp held L,.int 5,BJ m,.str x]=.ok (A x)/\ae T 90 50 [A x,A x]=.ok (.bl true)/\er (A x)=A x/\us.any (· == x)=true:=by
  intro x hx
  refine⟨?_,?_,dZ (lf x),kH (Rj x hx)⟩
  ·rw[<- hs.Fs] at hx
   obtain⟨s,Mx,rfl⟩:=List.mem_map.mp hx
   have:=iU (held:=held) (fs:=fs) (L:=L) (A:=A) (m:=m) lf (by omega) m0 (by omega) ch hs.Mw (fun s ER=>⟨hs.find ER,by rw[<- hs.Fs];exact List.mem_map.mpr ⟨s,ER,rfl⟩,hA s ER⟩) (85 - 3*ch.length) s Mx
   rw[show 3*ch.length+4+(85 - 3*ch.length)=89 by omega] at this
   exact lF lf this
  ·rw[<- hs.Fs] at hx
   obtain⟨s,Mx,rfl⟩:=List.mem_map.mp hx
   rw[hA s Mx]
   exact same 3 87 (wO held A s)
 obtain⟨y8,e6⟩:=pR (H':=H) (V':=.tup [.int m,.lst true []]) (us:=us) eH rfl (some (.lst false (ns.map .int))) (some (.int (1+c))) (some (.lst false (fs.map .str))) (some (.lst false [.str a,.str b])) (some (Bp held L)) fs none key
 have ei:A6 (ns.map D.int)=ns.map D.int:=Ev.eK ns
 have ef:=Ev.ck fs
 have eo:=wH held L
 have lo:ao (KJ held L)=false:=rfl
 have eD:=cq held L
 have lD:ao (Bp held L)=false:=rfl
 have Rl:∀ (o:Bool) (ks:List Key) (ds:List D),ao (.A0 o ks ds)=false:=fun _ _ _=>rfl
 have pw:(10:Int) ^ Int.toNat 6=1000000:=by decide
 have pg:decide ((0:Int)<=6/\(6:Int)<=1000000/\Int.natAbs 10 < 2 ^ 64)=true:=by decide
 have Rn:=Ev.qW fs
 rw[Ev.go (show T 57=some Gz from rfl) (show Gz.io=false from rfl) (show Gz.np=1 from rfl) (show Gz.G.N.length=9 from rfl) (show Gz.body=[(.asg (.nm 1) (.bin .add (.c (.int 1)) (.call 49 [(.v 0),(.c (.int 4)),(.idx (.lst [(.c (.int 5)),(.c (.int 20))]) (.call 49 [(.v 0),(.c (.int 5)),(.c (.int 2))]))]))),(.asg (.nm 2) (.call 52 [(.v 0),(.v 1)])),(.asg (.nm 3) (.idx (.lst [(.lst [(.c (.str "on")),(.c (.str "off"))]),(.lst [(.c (.str "blue")),(.c (.str "red"))])]) (.call 49 [(.v 0),(.c (.int 10)),(.c (.int 2))]))),(.asg (.nm 4) (.call 55 [(.v 0),(.v 2),(.v 3)])),(.asg (.nm 5) (.call 56 [(.v 4),(.v 2),(.v 3)])),(.asg (.nm 6) (.call 51 [(.v 4)])),(.asg (.nm 7) (.tup [(.call 49 [(.v 0),(.c (.int 11)),(.bin .pow (.c (.int 10)) (.c (.int 6)))]),(.lst [])])),(.BE (.nm 8) (.val (.v 2)) tL),(.ret (.call 50 [(.v 6),(.v 4)]))] from rfl) rfl]
 generalize Bp held L=HD at *
 generalize KJ held L=HO at *
 generalize us.map A=W at *
 generalize kT us=K at *
 generalize fs.map D.str=FS at *
 generalize ns.map D.int=NS at *
 generalize tL=tl at *
 simp -implicitDefEqProofs (disch:=omega) only[Bl,Nat.reduceBEq,Nat.reduceSub,Nat.reduceAdd,reduceIte,ei,ef,Rn,d4,d5,ht,e1,Ri,hv,e2,eo,lo,e3,Rl,eD,lD,e4,lH,eH,Rk,pw,pg,e6,e5]
theorem holds (ns:List Int)(h:ns.length<=63):ae T (90+1) wm [.lst false (ns.map .int)]=.ok (.bl true):=wQ ns
end Law
namespace PySem.W.Fast
theorem tw12623694969476904999:True:=⟨⟩
theorem tw8617356569332188214:True:=⟨⟩
theorem tw10002130136049628945:True:=⟨⟩
theorem tw1056695108988527148:True:=⟨⟩
theorem tw15009848565935484317:True:=⟨⟩
theorem tw12342575061947507460:True:=⟨⟩
theorem tw6746637921461908504:True:=⟨⟩
theorem tw17255647521251022019:True:=⟨⟩
theorem tw18254112240375523771:True:=⟨⟩
theorem tw13733717212400553460:True:=⟨⟩
theorem tw14325492657675042233:True:=⟨⟩
theorem tw5480284696212358494:True:=⟨⟩
theorem tw15727889381688304516:True:=⟨⟩
theorem tw17385062212625399720:True:=⟨⟩
theorem tw5218044623863553694:True:=⟨⟩
theorem tw11829691240962774129:True:=⟨⟩
theorem tw14499735297169201097:True:=⟨⟩
theorem tw11378862354264273648:True:=⟨⟩
theorem tw15006003258853205170:True:=⟨⟩
theorem tw13725438596612417446:True:=⟨⟩
theorem tw8611885644994108062:True:=⟨⟩
theorem tw3430739836874674972:True:=⟨⟩
theorem tw10453400487449636038:True:=⟨⟩
theorem tw18043050258886480205:True:=⟨⟩
theorem tw1414770191362942036:True:=⟨⟩
theorem tw16361751305333741297:True:=⟨⟩
theorem tw10018572889671038661:True:=⟨⟩
theorem tw9356442931402964492:True:=⟨⟩
theorem tw6291341225626593938:True:=⟨⟩
theorem tw13341241581109027197:True:=⟨⟩
theorem tw12471456442481914290:True:=⟨⟩
theorem tw5773298757031706511:True:=⟨⟩
theorem tw9015487597720640053:True:=⟨⟩
theorem tw10091183714049291011:True:=⟨⟩
theorem tw12672023212234531420:True:=⟨⟩
theorem tw6027206683582682923:True:=⟨⟩
theorem tw14795757617848339122:True:=⟨⟩
theorem tw6382401521153218216:True:=⟨⟩
theorem tw14846570985536033142:True:=⟨⟩
theorem tw13040143955449256604:True:=⟨⟩
theorem tw6738803448299467759:True:=⟨⟩
theorem tw703767264844883965:True:=⟨⟩
theorem tw6302524244307851436:True:=⟨⟩
theorem tw8333512048542919912:True:=⟨⟩
theorem tw11491973001138575343:True:=⟨⟩
theorem tw4714528086637049926:True:=⟨⟩
theorem tw16534406840781474456:True:=⟨⟩
theorem tw13570106814301954847:True:=⟨⟩
theorem tw11646546337802582042:True:=⟨⟩
theorem tw11381609685172175401:True:=⟨⟩
theorem tw11866666942586910782:True:=⟨⟩
theorem tw5802073112605922471:True:=⟨⟩
theorem tw7758796002771775180:True:=⟨⟩
theorem tw8842992663958982246:True:=⟨⟩
theorem tw5243465421073639120:True:=⟨⟩
theorem tw14656306259360332742:True:=⟨⟩
theorem tw7611521018443933274:True:=⟨⟩
theorem tw4430840308540428736:True:=⟨⟩
theorem tw15854568346456528011:True:=⟨⟩
theorem tw16215646773402341142:True:=⟨⟩
theorem tw13580446214888014011:True:=⟨⟩
theorem tw3738099943072270278:True:=⟨⟩
theorem tw13129163337578502456:True:=⟨⟩
theorem tw8045199723272874901:True:=⟨⟩
theorem tw10817036614782352244:True:=⟨⟩
theorem tw4230146811198107759:True:=⟨⟩
theorem tw15786744975666757435:True:=⟨⟩
theorem tw1317639129186850589:True:=⟨⟩
theorem tw17481249166284795910:True:=⟨⟩
theorem tw13990975123341541869:True:=⟨⟩
theorem tw11212451820167378574:True:=⟨⟩
theorem tw4877748980370667122:True:=⟨⟩
theorem tw5487678373284544088:True:=⟨⟩
theorem tw16944551719834282101:True:=⟨⟩
theorem tw15855592396551421667:True:=⟨⟩
theorem tw9699889815569551826:True:=⟨⟩
theorem tw13094951263850726858:True:=⟨⟩
theorem tw5597924539301392660:True:=⟨⟩
theorem tw13524225872758349864:True:=⟨⟩
theorem tw11379151618852003802:True:=⟨⟩
theorem tw13000131976457655105:True:=⟨⟩
theorem tw7646096826497219536:True:=⟨⟩
theorem tw5411082950283013021:True:=⟨⟩
theorem tw17752482667364842699:True:=⟨⟩
theorem tw5570431661913179842:True:=⟨⟩
theorem tw6896130308028767588:True:=⟨⟩
theorem tw2210762203486383647:True:=⟨⟩
theorem tw3410756506505587333:True:=⟨⟩
theorem tw15491052975803665214:True:=⟨⟩
theorem tw14259390319362686048:True:=⟨⟩
theorem tw10603517711668679029:True:=⟨⟩
theorem tw2060248713415819651:True:=⟨⟩
theorem tw17577165550261803991:True:=⟨⟩
theorem tw16459003961180344038:True:=⟨⟩
theorem tw14639816566187718241:True:=⟨⟩
theorem tw15146008248445368142:True:=⟨⟩
theorem tw5703437275140192449:True:=⟨⟩
theorem tw17271355592044571641:True:=⟨⟩
theorem tw2564760052516599379:True:=⟨⟩
theorem tw13118793601771992899:True:=⟨⟩
theorem tw6841625392408044757:True:=⟨⟩
theorem tw7811067246895090231:True:=⟨⟩
theorem tw3265838678137445592:True:=⟨⟩
theorem tw5718775205232622929:True:=⟨⟩
theorem tw16962457880890913509:True:=⟨⟩
theorem tw3123694972964794355:True:=⟨⟩
theorem tw12881508140904600236:True:=⟨⟩
theorem tw5802875669123984175:True:=⟨⟩
theorem tw13620812589313099899:True:=⟨⟩
theorem tw6274305528128498434:True:=⟨⟩
theorem tw6500990713865576945:True:=⟨⟩
theorem tw8103394488851233382:True:=⟨⟩
theorem tw14057791309890660378:True:=⟨⟩
theorem tw16839570360132792006:True:=⟨⟩
theorem tw1394229444822168445:True:=⟨⟩
theorem tw10778191055201898135:True:=⟨⟩
theorem tw13189672913714205088:True:=⟨⟩
theorem tw543970540699398751:True:=⟨⟩
theorem tw13274753028616176438:True:=⟨⟩
theorem tw7606078333098950055:True:=⟨⟩
theorem tw4967961992553043933:True:=⟨⟩
theorem tw10758848556129022877:True:=⟨⟩
theorem tw17121525970797027381:True:=⟨⟩
theorem tw14007793502537510345:True:=⟨⟩
theorem tw9987806078055883911:True:=⟨⟩
theorem tw1600580977314227436:True:=⟨⟩
theorem tw10021604497710836053:True:=⟨⟩
theorem tw6741433611198671178:True:=⟨⟩
theorem tw8244861348282347580:True:=⟨⟩
theorem tw7212681896711067028:True:=⟨⟩
theorem tw12668740384529183170:True:=⟨⟩
theorem tw1906272873723337641:True:=⟨⟩
theorem tw5368912761034202887:True:=⟨⟩
theorem tw14970651451535151440:True:=⟨⟩
theorem tw8621859697021476895:True:=⟨⟩
theorem tw15536715107071836164:True:=⟨⟩
theorem tw8106750279139778662:True:=⟨⟩
theorem tw459055815006159560:True:=⟨⟩
theorem tw9930863857628595927:True:=⟨⟩
theorem tw4847097991779672344:True:=⟨⟩
theorem tw10505211315747739696:True:=⟨⟩
theorem tw1022575820144340959:True:=⟨⟩
theorem tw48212148111477830:True:=⟨⟩
theorem tw13202071259425218361:True:=⟨⟩
theorem tw6791656862301413147:True:=⟨⟩
theorem tw13779847022119356894:True:=⟨⟩
theorem tw13563556788184848767:True:=⟨⟩
theorem tw7576279371081361935:True:=⟨⟩
theorem tw863925758435584147:True:=⟨⟩
theorem tw3731410895164204011:True:=⟨⟩
theorem tw13944458592448642342:True:=⟨⟩
theorem tw3575156840187176159:True:=⟨⟩
theorem tw6236265786994247819:True:=⟨⟩
theorem tw3246199800497923499:True:=⟨⟩
theorem tw10612070703083073464:True:=⟨⟩
theorem tw1907459805850321700:True:=⟨⟩
theorem tw14444524356882836540:True:=⟨⟩
theorem tw5238489222871630197:True:=⟨⟩
theorem tw13886231628160336750:True:=⟨⟩
theorem tw8453978779835436571:True:=⟨⟩
theorem tw12802274582808771032:True:=⟨⟩
theorem tw14287135266512603129:True:=⟨⟩
theorem tw12764465462267839017:True:=⟨⟩
theorem tw12452910876284011760:True:=⟨⟩
theorem tw676874596869171520:True:=⟨⟩
theorem tw2798956251878478308:True:=⟨⟩
theorem tw13070416038036504871:True:=⟨⟩
theorem tw14343913936269535172:True:=⟨⟩
theorem tw13882047766361644619:True:=⟨⟩
theorem tw4672345254050613900:True:=⟨⟩
theorem tw11576844646718008942:True:=⟨⟩
theorem tw14140713877888461282:True:=⟨⟩
theorem tw17806217134655059318:True:=⟨⟩
theorem tw9688625129576235135:True:=⟨⟩
theorem tw14232701165573307411:True:=⟨⟩
theorem tw10101341074640378504:True:=⟨⟩
theorem tw11761717572250144796:True:=⟨⟩
theorem tw5068288223894884909:True:=⟨⟩
theorem tw3956758152846707094:True:=⟨⟩
theorem tw14897773513209338334:True:=⟨⟩
theorem tw11256078527803639398:True:=⟨⟩
theorem tw4551078875015999464:True:=⟨⟩
theorem tw10143215704077942719:True:=⟨⟩
theorem tw5095852631088960797:True:=⟨⟩
theorem tw7971460340358729187:True:=⟨⟩
theorem tw17716699918438208466:True:=⟨⟩
theorem tw17002523929342859944:True:=⟨⟩
theorem tw11487885335197862287:True:=⟨⟩
theorem tw628630427318874680:True:=⟨⟩
theorem tw16639506024415307099:True:=⟨⟩
theorem tw7472010683498683686:True:=⟨⟩
theorem tw16218114804979977241:True:=⟨⟩
theorem tw9203298708541483495:True:=⟨⟩
theorem tw16918194001943421601:True:=⟨⟩
theorem tw6534036610139064851:True:=⟨⟩
theorem tw11364902213717772376:True:=⟨⟩
theorem tw14114946348156650369:True:=⟨⟩
theorem tw15802065279185948597:True:=⟨⟩
theorem tw7312153902373085685:True:=⟨⟩
theorem tw12021130422326021383:True:=⟨⟩
theorem tw15427643032645602581:True:=⟨⟩
theorem tw13219769728661063467:True:=⟨⟩
theorem tw16261871463230481380:True:=⟨⟩
theorem tw8228167790149825938:True:=⟨⟩
theorem tw2494741926842015677:True:=⟨⟩
theorem tw11892891180630180108:True:=⟨⟩
theorem tw15938652159692534315:True:=⟨⟩
theorem tw17950336102924174055:True:=⟨⟩
theorem tw16162014514157489368:True:=⟨⟩
theorem tw16056158045623630882:True:=⟨⟩
theorem tw2127135936536368091:True:=⟨⟩
theorem tw11815646353546751219:True:=⟨⟩
theorem tw12874120740339647759:True:=⟨⟩
theorem tw16333014644119545870:True:=⟨⟩
theorem tw13725236414914797585:True:=⟨⟩
theorem tw7700634312660695224:True:=⟨⟩
theorem tw3715592964721438381:True:=⟨⟩
theorem tw9566711334331737637:True:=⟨⟩
theorem tw12048400417809074244:True:=⟨⟩
theorem tw8080842413316378306:True:=⟨⟩
theorem tw7609732257871557835:True:=⟨⟩
theorem tw14510318051402189358:True:=⟨⟩
theorem tw9485929177883719027:True:=⟨⟩
theorem tw12343817214300395300:True:=⟨⟩
theorem tw14206834697647625574:True:=⟨⟩
theorem tw2711721412054829275:True:=⟨⟩
theorem tw4455453990817575342:True:=⟨⟩
theorem tw18193183684353364829:True:=⟨⟩
theorem tw7317102037453765079:True:=⟨⟩
theorem tw1397382431978511198:True:=⟨⟩
theorem tw11966818414276638858:True:=⟨⟩
theorem tw12390727740587693972:True:=⟨⟩
theorem tw7330584700853478799:True:=⟨⟩
theorem tw11984033553143377755:True:=⟨⟩
theorem tw17514831369311364977:True:=⟨⟩
theorem tw7839244491325541620:True:=⟨⟩
theorem tw7756090101327829275:True:=⟨⟩
theorem tw13028240660387955424:True:=⟨⟩
theorem tw8564995985500516769:True:=⟨⟩
theorem tw12254976552214968800:True:=⟨⟩
theorem tw17672353041115191527:True:=⟨⟩
theorem tw13839234264661833662:True:=⟨⟩
theorem tw8824100981360371277:True:=⟨⟩
theorem tw7833114760844828512:True:=⟨⟩
theorem tw13959103717152787790:True:=⟨⟩
theorem tw6671556957799854980:True:=⟨⟩
theorem tw8090322944732422063:True:=⟨⟩
theorem tw10266462242327485094:True:=⟨⟩
theorem tw67473829168679137:True:=⟨⟩
theorem tw1382660494238368907:True:=⟨⟩
theorem tw16886152814218147470:True:=⟨⟩
theorem tw1186743978472349785:True:=⟨⟩
theorem tw6159233620777278343:True:=⟨⟩
theorem tw1783969090179789572:True:=⟨⟩
theorem tw13004231022062569485:True:=⟨⟩
end PySem.W.Fast
open PySem PySem.W PyProof.Rows
set_option maxRecDepth 100000 in
set_option maxHeartbeats 0 in
theorem PySem.Challenge.cw_flagroll_k39_needs_holds : PySem.Challenge.rw_flagroll_k39_needs.Holds := by
  w_on; o_law; k_head; (case hw => w_witness2)
  k_fill
  refine L2.nj (l := PySem.Challenge.rw_flagroll_k39_needs) (T := Law.T) (n := 90) (f := Law.wm) (x := Law.qZ) rfl rfl ⟨fun _ => rfl, by decide, by decide⟩ (fun w h Y => PySem.W.kIn_of Y) ?F Law.holds
  case F =>
    intro w mg fa h KX G hmg
    refine' Law.all_mk KX G hmg (Law.dfo Law.c24 rfl (fun _ _ _ _ _ _ => Law.ln1 fun _ => rfl) KX G ?a24 ?l24 ?e24 ?k24) (Law.dfo Law.c25 rfl (fun _ _ _ _ _ _ => Law.ln4 fun _ _ _ _ => rfl) KX G ?a25 ?l25 ?e25 ?k25) (Law.dfo Law.c26 rfl (fun _ _ _ _ _ _ => Law.ln2 fun _ _ => rfl) KX G ?a26 ?l26 ?e26 ?k26) (Law.dfo Law.c27 rfl (fun _ _ _ _ _ _ => Law.ln3 fun _ _ _ => rfl) KX G ?a27 ?l27 ?e27 ?k27) (Law.dfo Law.c28 rfl (fun _ _ _ _ _ _ => Law.ln3 fun _ _ _ => rfl) KX G ?a28 ?l28 ?e28 ?k28) (Law.dfo Law.c29 rfl (fun _ _ _ _ _ _ => Law.ln3 fun _ _ _ => rfl) KX G ?a29 ?l29 ?e29 ?k29) (Law.dfo Law.c30 rfl (fun _ _ _ _ _ _ => Law.ln3 fun _ _ _ => rfl) KX G ?a30 ?l30 ?e30 ?k30) (Law.dfo Law.c31 rfl (fun _ _ _ _ _ _ => Law.ln3 fun _ _ _ => rfl) KX G ?a31 ?l31 ?e31 ?k31) (Law.dfo Law.c32 rfl (fun _ _ _ _ _ _ => Law.ln1 fun _ => rfl) KX G ?a32 ?l32 ?e32 ?k32) (Law.dfo Law.c33 rfl (fun _ _ _ _ _ _ => Law.ln3 fun _ _ _ => rfl) KX G ?a33 ?l33 ?e33 ?k33) (Law.dfo Law.c34 rfl (fun _ _ _ _ _ _ => Law.ln1 fun _ => rfl) KX G ?a34 ?l34 ?e34 ?k34) (Law.dfo Law.c35 rfl (fun _ _ _ _ _ _ => Law.ln2 fun _ _ => rfl) KX G ?a35 ?l35 ?e35 ?k35) (Law.dfo Law.c36 rfl (fun _ _ _ _ _ _ => Law.ln2 fun _ _ => rfl) KX G ?a36 ?l36 ?e36 ?k36) (Law.dfo Law.c37 rfl (fun _ _ _ _ _ _ => Law.ln2 fun _ _ => rfl) KX G ?a37 ?l37 ?e37 ?k37) (Law.dfo Law.c38 rfl (fun _ _ _ _ _ _ => Law.ln2 fun _ _ => rfl) KX G ?a38 ?l38 ?e38 ?k38) (Law.dfo Law.c39 rfl (fun _ _ _ _ _ _ => Law.ln4 fun _ _ _ _ => rfl) KX G ?a39 ?l39 ?e39 ?k39) (Law.dfo Law.c40 rfl (fun _ _ _ _ _ _ => Law.ln3 fun _ _ _ => rfl) KX G ?a40 ?l40 ?e40 ?k40) (Law.dfo Law.c41 rfl (fun _ _ _ _ _ _ => Law.ln4 fun _ _ _ _ => rfl) KX G ?a41 ?l41 ?e41 ?k41) (Law.dfo Law.c42 rfl (fun _ _ _ _ _ _ => Law.ln4 fun _ _ _ _ => rfl) KX G ?a42 ?l42 ?e42 ?k42) (Law.dfo Law.c43 rfl (fun _ _ _ _ _ _ => Law.ln2 fun _ _ => rfl) KX G ?a43 ?l43 ?e43 ?k43) (Law.dfo Law.c44 rfl (fun _ _ _ _ _ _ => Law.ln3 fun _ _ _ => rfl) KX G ?a44 ?l44 ?e44 ?k44) (Law.wk Law.c45 rfl (fun _ _ _ _ _ _ => Law.ln5 fun _ _ _ _ _ => rfl) KX G ?a45 ?l45 ?e45 ?k45) (Law.wk Law.c46 rfl (fun _ _ _ _ _ _ => Law.ln5 fun _ _ _ _ _ => rfl) KX G ?a46 ?l46 ?e46 ?k46) (Law.wk Law.c47 rfl (fun _ _ _ _ _ _ => Law.ln5 fun _ _ _ _ _ => rfl) KX G ?a47 ?l47 ?e47 ?k47) (Law.dfo Law.c48 rfl (fun _ _ _ _ _ _ => Law.ln4 fun _ _ _ _ => rfl) KX G ?a48 ?l48 ?e48 ?k48) (Law.dfo Law.c49 rfl (fun _ _ _ _ _ _ => Law.ln3 fun _ _ _ => rfl) KX G ?a49 ?l49 ?e49 ?k49) (Law.dfo Law.c50 rfl (fun _ _ _ _ _ _ => Law.ln2 fun _ _ => rfl) KX G ?a50 ?l50 ?e50 ?k50) (Law.dfo Law.c51 rfl (fun _ _ _ _ _ _ => Law.ln1 fun _ => rfl) KX G ?a51 ?l51 ?e51 ?k51) (Law.dfo Law.c52 rfl (fun _ _ _ _ _ _ => Law.ln2 fun _ _ => rfl) KX G ?a52 ?l52 ?e52 ?k52) (Law.dfo Law.c53 rfl (fun _ _ _ _ _ _ => Law.ln3 fun _ _ _ => rfl) KX G ?a53 ?l53 ?e53 ?k53) (Law.dfo Law.c54 rfl (fun _ _ _ _ _ _ => Law.ln4 fun _ _ _ _ => rfl) KX G ?a54 ?l54 ?e54 ?k54) (Law.dfo Law.c55 rfl (fun _ _ _ _ _ _ => Law.ln3 fun _ _ _ => rfl) KX G ?a55 ?l55 ?e55 ?k55) (Law.dfo Law.c56 rfl (fun _ _ _ _ _ _ => Law.ln3 fun _ _ _ => rfl) KX G ?a56 ?l56 ?e56 ?k56) ?a57 ?l57 ?e57 ?k57 ?q21 ?q22 ?q23 ?z0 ?z1 ?z2 ?z3 ?z4 ?z5 ?z6 ?z7 ?z8 ?z9 ?z10 ?z11 ?z12 ?z13 ?z14 ?z15 ?z16 ?z17 ?z18 ?z19 ?z20
    (case a24 => k_is)
    (case l24 => k_is)
    (case e24 => k_is)
    (case k24 => k_is)
    (case a25 => k_is)
    (case l25 => k_is)
    (case e25 => k_is)
    (case k25 => k_is)
    (case a26 => k_is)
    (case l26 => k_is)
    (case e26 => k_is)
    (case k26 => k_is)
    (case a27 => k_is)
    (case l27 => k_is)
    (case e27 => k_is)
    (case k27 => k_is)
    (case a28 => k_is)
    (case l28 => k_is)
    (case e28 => k_is)
    (case k28 => k_is)
    (case a29 => k_is)
    (case l29 => k_is)
    (case e29 => k_is)
    (case k29 => k_is)
    (case a30 => k_is)
    (case l30 => k_is)
    (case e30 => k_is)
    (case k30 => k_is)
    (case a31 => k_is)
    (case l31 => k_is)
    (case e31 => k_is)
    (case k31 => k_is)
    (case a32 => k_is)
    (case l32 => k_is)
    (case e32 => k_is)
    (case k32 => k_is)
    (case a33 => k_is)
    (case l33 => k_is)
    (case e33 => k_is)
    (case k33 => k_is)
    (case a34 => k_is)
    (case l34 => k_is)
    (case e34 => k_is)
    (case k34 => k_is)
    (case a35 => k_is)
    (case l35 => k_is)
    (case e35 => k_is)
    (case k35 => k_is)
    (case a36 => k_is)
    (case l36 => k_is)
    (case e36 => k_is)
    (case k36 => k_is)
    (case a37 => k_is)
    (case l37 => k_is)
    (case e37 => k_is)
    (case k37 => k_is)
    (case a38 => k_is)
    (case l38 => k_is)
    (case e38 => k_is)
    (case k38 => k_is)
    (case a39 => k_is)
    (case l39 => k_is)
    (case e39 => k_is)
    (case k39 => k_is)
    (case a40 => k_is)
    (case l40 => k_is)
    (case e40 => k_is)
    (case k40 => k_is)
    (case a41 => k_is)
    (case l41 => k_is)
    (case e41 => k_is)
    (case k41 => k_is)
    (case a42 => k_is)
    (case l42 => k_is)
    (case e42 => k_is)
    (case k42 => k_is)
    (case a43 => k_is)
    (case l43 => k_is)
    (case e43 => k_is)
    (case k43 => k_is)
    (case a44 => k_is)
    (case l44 => k_is)
    (case e44 => k_is)
    (case k44 => k_is)
    (case a45 => k_is)
    (case l45 => k_is)
    (case e45 => k_is)
    (case k45 => k_is)
    (case a46 => k_is)
    (case l46 => k_is)
    (case e46 => k_is)
    (case k46 => k_is)
    (case a47 => k_is)
    (case l47 => k_is)
    (case e47 => k_is)
    (case k47 => k_is)
    (case a48 => k_is)
    (case l48 => k_is)
    (case e48 => k_is)
    (case k48 => k_is)
    (case a49 => k_is)
    (case l49 => k_is)
    (case e49 => k_is)
    (case k49 => k_is)
    (case a50 => k_is)
    (case l50 => k_is)
    (case e50 => k_is)
    (case k50 => k_is)
    (case a51 => k_is)
    (case l51 => k_is)
    (case e51 => k_is)
    (case k51 => k_is)
    (case a52 => k_is)
    (case l52 => k_is)
    (case e52 => k_is)
    (case k52 => k_is)
    (case a53 => k_is)
    (case l53 => k_is)
    (case e53 => k_is)
    (case k53 => k_is)
    (case a54 => k_is)
    (case l54 => k_is)
    (case e54 => k_is)
    (case k54 => k_is)
    (case a55 => k_is)
    (case l55 => k_is)
    (case e55 => k_is)
    (case k55 => k_is)
    (case a56 => k_is)
    (case l56 => k_is)
    (case e56 => k_is)
    (case k56 => k_is)
    (case a57 => k_is)
    (case l57 => k_is)
    (case e57 => k_is)
    (case k57 => k_is)
    (case q21 => k_is)
    (case q22 => k_is)
    (case q23 => k_is)
    (case z0 => k_is)
    (case z1 => k_is)
    (case z2 => k_is)
    (case z3 => k_is)
    (case z4 => k_is)
    (case z5 => k_is)
    (case z6 => k_is)
    (case z7 => k_is)
    (case z8 => k_is)
    (case z9 => k_is)
    (case z10 => k_is)
    (case z11 => k_is)
    (case z12 => k_is)
    (case z13 => k_is)
    (case z14 => k_is)
    (case z15 => k_is)
    (case z16 => k_is)
    (case z17 => k_is)
    (case z18 => k_is)
    (case z19 => k_is)
    (case z20 => k_is)
#print axioms PySem.Challenge.cw_flagroll_k39_needs_holds
