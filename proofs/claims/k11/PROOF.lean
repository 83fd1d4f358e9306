import PyProof.Rows.All
import Wide.All
import OpenK.AllK
import Wide.FinOn
import Lean
import PyProof.EqAt
import PyProof.EqKinds
import PyProof.TupleCall
import PyProof.NeKinds
import KE.KRevIter
import KE.KSortTup
import Wide.Txt2
import PyProof.FString4
import KE.KIntText
import PyProof.ZipIter
import PyProof.TupleIter
import PyProof.WalksMore
import PyProof.Rows.SortShell
import KE.KDictSum
import PyProof.Rows.SortStr
import PyProof.Rows.SetFrom
import PyProof.DictUpdate
import KE.KDictOf
import PyProof.AttrMissSeq
import KE.KDictList
import KE.KDictIter
import PyProof.Rows.SortWalk
import KE.KIsAll
import PyProof.ExcArgsOwn
import PyProof.ExcAttrAll.ValueError
import OpenK.KDescr
import PyProof.StationsW
import OpenK.KOwn
import KE.KTryMore
import OpenK.KRaise
import PyProof.RulesDel
import PyProof.RulesAs
import PyProof.Rows.Catch
import PyProof.Rows.StrReprFit
import PyProof.NsCount
import PySem.Challenge.RW_flagroll_k11_whole_comes_back
set_option maxHeartbeats 8000000
set_option Elab.async false
set_option linter.all false
set_option maxRecDepth 100000
namespace L2
open PySem PySem.Spec PyProof.Rows
noncomputable abbrev Key:=Sum Int Str
noncomputable def eW:Key->Value->Bool
 | .inl k,v=>Value.isInt k v
 | .inr x,v=>Value.isStrOf x v
noncomputable def Cn (w:World):Key->Int
 | .inl k=>hashInt k
 | .inr x=>hashStr w x
theorem aE:∀ {k:Key}{v:Value},eW k v=true->(∃ i t,k=Sum.inl i/\v=Value.int i t)∨(∃ x t,k=Sum.inr x/\v=Value.str x t)
 | .inl i,v,h=>by
  obtain⟨t,e⟩:=Value.isInt_shape (k:=i) (v:=v) h
  exact .inl ⟨i,t,rfl,e⟩
 | .inr x,v,h=>by
  obtain⟨t,e⟩:=Value.isStrOf_shape (x:=x) (v:=v) h
  exact .inr ⟨x,t,rfl,e⟩
theorem mM (i:Int)(t:Tok):eW (.inl i) (.int i t)=true:=by simp[eW,Value.isInt]
theorem mO (x:Str)(t:Tok):eW (.inr x) (.str x t)=true:=by simp[eW,Value.isStrOf]
theorem wX (a b:Int):decide ((Sum.inl a:Key)=Sum.inl b)=(a == b):=by
 by_cases e:a=b
 ·subst e;simp
 ·have h:¬ (Sum.inl a:Key)=Sum.inl b:=fun q=>e (Sum.inl.inj q)
  rw[decide_eq_false h]
  exact(beq_eq_false_iff_ne.mpr e).symm
theorem wY (a b:Str):decide ((Sum.inr a:Key)=Sum.inr b)=decide (a=b):=by
 by_cases e:a=b
 ·subst e;simp
 ·have h:¬ (Sum.inr a:Key)=Sum.inr b:=fun q=>e (Sum.inr.inj q)
  rw[decide_eq_false h,decide_eq_false e]
theorem wZ (a:Int)(b:Str):decide ((Sum.inl a:Key)=Sum.inr b)=false:=decide_eq_false (fun q=>nomatch q)
theorem w8 (a:Str)(b:Int):decide ((Sum.inr a:Key)=Sum.inl b)=false:=decide_eq_false (fun q=>nomatch q)
noncomputable def aC (prog:Program)(w:World):PySem.KeyKind prog w Key where
 is:=eW
 hash:=Cn w
 inj:=fun v a b ha hb=>by
  rcases aE ha with ⟨i,t,rfl,rfl⟩|⟨x,t,rfl,rfl⟩
  ·rcases aE hb with ⟨j,u,rfl,e⟩|⟨y,u,rfl,e⟩
   ·injection e with e1 _;rw[e1]
   ·exact nomatch e
  ·rcases aE hb with ⟨j,u,rfl,e⟩|⟨y,u,rfl,e⟩
   ·exact nomatch e
   ·injection e with e1 _;rw[e1]
 byValue:=fun k v h=>by
  rcases aE h with ⟨i,t,rfl,rfl⟩|⟨x,t,rfl,rfl⟩<;>rfl
 pyHash:=fun hv h=>by
  rcases aE hv with ⟨i,t,rfl,rfl⟩|⟨x,t,rfl,rfl⟩
  ·exact wpAny_pyHash_int h
  ·exact wpAny_pyHash_str h
 eqBool:=fun hu hv h=>by
  rcases aE hu with ⟨i,t,rfl,rfl⟩|⟨x,t,rfl,rfl⟩
  ·rcases aE hv with ⟨j,u,rfl,rfl⟩|⟨y,u,rfl,rfl⟩
   ·rw[wX] at h;exact wpAny_eqBool_int h
   ·rw[wZ] at h;exact SeqAt.EqAt.int_str i t y u _ _ _ _ h
  ·rcases aE hv with ⟨j,u,rfl,rfl⟩|⟨y,u,rfl,rfl⟩
   ·rw[w8] at h;exact SeqAt.EqAt.str_int x t j u _ _ _ _ h
   ·rw[wY] at h;exact wpAny_eqBool_str h
 «strs»:=fun k x t v h=>by
  rcases aE h with ⟨i,u,rfl,e⟩|⟨y,u,rfl,e⟩
  ·exact nomatch e
  ·injection e with e1 _
   subst e1
   cases v<;>rfl
theorem iT (prog:Program)(w:World)(i:Int)(t:Tok):(aC prog w).is (.inl i) (.int i t)=true:=mM i t
theorem iU (prog:Program)(w:World)(x:Str)(t:Tok):(aC prog w).is (.inr x) (.str x t)=true:=mO x t
inductive V where
 | DE|bl (b:Bool)|int (i:Int)|str (x:Str)|JP (b:Array UInt8)|Nw (b:UInt64)|ref (a:Addr)|ty (n:String)
 deriving DecidableEq
noncomputable def RelV:V->Value->Prop
 | .DE,u=>u=Value.none
 | .bl b,u=>u=Value.bool b
 | .int i,u=>∃ t,u=Value.int i t
 | .str x,u=>∃ t,u=Value.str x t
 | .JP b,u=>∃ t,u=Value.bytes b t
 | .Nw b,u=>∃ t,u=Value.float b t
 | .ref a,u=>u=Value.ref a
 | .ty n,u=>u=Value.type n
abbrev Vals:List V->List Value->Prop:=Paired RelV
theorem Vals.length {xs:List V}{us:List Value}(r:Vals xs us):xs.length=us.length:=Paired.length r
theorem Vals.get:∀ {xs:List V}{us:List Value}{i:Nat}{x:V},Vals xs us->xs[i]? = some x->∃ u,us[i]? = some u/\RelV x u
 | _,_,_,_,.nil,e=>by simp at e
 | _,_,0,_,.cons r _,e=>by simp at e;subst e;exact⟨_,rfl,r⟩
 | _,_,i+1,x,.cons _ t,e=>by
  obtain⟨u,h1,h2⟩:=Vals.get (i:=i) (x:=x) t (by simpa using e)
  exact⟨u,by simpa using h1,h2⟩
theorem Vals.append:∀ {xs ys:List V}{us ws:List Value},Vals xs us->Vals ys ws->Vals (xs++ys) (us++ws)
 | _,_,_,_,.nil,s=>s
 | _,_,_,_,.cons r t,s=>.cons r (Vals.append t s)
theorem Vals.take:∀ {xs:List V}{us:List Value} (n:Nat),Vals xs us->Vals (xs.take n) (us.take n)
 | _,_,0,_=>.nil
 | _,_,_+1,.nil=>.nil
 | _,_,n+1,.cons r t=>.cons r (Vals.take n t)
theorem Vals.drop:∀ {xs:List V}{us:List Value} (n:Nat),Vals xs us->Vals (xs.drop n) (us.drop n)
 | _,_,0,r=>r
 | _,_,_+1,.nil=>.nil
 | _,_,n+1,.cons _ t=>Vals.drop n t
noncomputable def fW:Option V->Option Value->Prop
 | some v,some u=>RelV v u
 | none,none=>True
 | _,_=>False
def KV {κ:Type}:List (κ×V)->List (κ×Value)->Prop:=Paired fun (p:κ×V) (q:κ×Value)=>p.1=q.1/\RelV p.2 q.2
noncomputable def kV:Key->V
 | .inl i=>.int i
 | .inr x=>.str x
inductive HO where
 | lst (xs:List V)
 | tup (xs:List V)
 | dK (kvs:List (Key×V))|dT (kvs:List (List Key×V))
 | set (S:Int->Bool) (n:Nat)
 | ins (C dx:Addr) (fs:List (Str×V))
 | own (x:Addr)
 | xd (fs:List (Str×V))
 | met (f x:Addr)
 | G4 (lo hi:Int)
 | Dw (o:Obj) (u:HO)
 | Jk (ps:Array Value)
 | ext (φ:Heap->Prop)
noncomputable abbrev Hp:=Addr->Option HO
noncomputable def upd (H:Hp)(a:Addr)(o:HO):Hp:=fun b=>if b=a then some o else H b
theorem ao {H:Hp}{a:Addr}{o:HO}:upd H a o a=some o:=by unfold upd;rw[if_pos rfl]
theorem ah {H:Hp}{a b:Addr}{o:HO}(h:b≠a):upd H a o b=H b:=by unfold upd;rw[if_neg h]
theorem zC {H:Hp}{a b:Addr}{o u:HO}(h:H a=some o)(h':H b=some u)(d:o≠u):a≠b:=by
 intro e;subst e;rw[h] at h';exact d (Option.some.inj h')
theorem aB {H:Hp}{a b:Addr}{o:HO}(h:H a=some o)(h':H b=none):a≠b:=by
 intro e;subst e;rw[h] at h';cases h'
section
variable (P:Program)(w:World)
noncomputable def aK (H:Hp)(h:Heap)(a:Addr):HO->Prop
 | .lst xs=>xs.length<=sizeLine/\∃ (its:List Value) (n:Nat),Vals xs its/\h.get? a=some {cls:=.type "list",data:=.seq its.toArray n}
 | .tup xs=>xs.length<=sizeLine/\∃ its:List Value,Vals xs its/\IsTup h a its.toArray
 | .dK kvs=>kvs.length<=sizeLine/\(a == sysModules)=false/\∃ vs,KV kvs vs/\h.DictOf (aC P w) a vs
 | .dT kvs=>kvs.length<=sizeLine/\(a == sysModules)=false/\∃ xs:List (List Key×Addr×Value),
   Paired (fun (p:List Key×V) (q:List Key×Addr×Value)=>p.1=q.1/\H q.2.1=some (.tup (p.1.map kV))/\RelV p.2 q.2.2) kvs xs/\
   ∃ o es ep,h.get? a=some o/\o.ExactDict/\o.data=.dict es ep/\es.toList=xs.map (entryOfKey (tupleKind (aC P w)))/\(xs.map (·.1)).Nodup
 | .set S n=>h.SetOf (intKind P w) a S n
 | .ins C dx fs=>H dx=some (.own a)/\fs.length<=1000/\dx≠a/\h.get? a=some (PySem.W.instObj C dx)/\
   ∃ mA,h.Ns1 dx mA/\(∀ f,fW (fs.lookup f) (mA f))/\PySem.Within mA (fs.map (·.1))
 | .own _=>∃ o,h.get? a=some o
 | .xd fs=>∃ mA,h.Ns1 a mA/\∀ f,fW (fs.lookup f) (mA f)
 | .G4 lo hi=>∃ t u v,h.get? a=some {cls:=.type "range",data:=.fields #[.int lo t,.int hi u,.int 1 v]}
 | .Dw o u=>h.get? a=some o/\aK H h a u
 | .Jk ps=>h.get? a=some {cls:=.none,data:=.fields ps}
 | .met f x=>h.get? a=some (PySem.W.methodObj (.ref f) (.ref x))
 | .ext φ=>φ h/\(∃ o,h.get? a=some o)/\∀ h1 h2:Heap,φ h1->(∀ o,h1.get? a=some o->h2.get? a=some o)->φ h2
def DU (H:Hp)(h:Heap):Prop:=∀ a o,H a=some o->aK P w H h a o
end
section
variable {P:Program}{w:World}{H H':Hp}{h h':Heap}{a:Addr}{o:HO}
theorem aK.lt (x:aK P w H h a o):a < h.objs.size:=by
 cases o with
 | lst xs=>obtain⟨_,_,_,_,e⟩:=x;exact Heap.lt_size e
 | tup xs=>obtain⟨_,_,_,p⟩:=x;exact p.lt
 | dK kvs=>obtain⟨_,_,_,_,o,_,_,e,_⟩:=x;exact Heap.lt_size e
 | dT kvs=>obtain⟨_,_,_,_,o,_,_,e,_⟩:=x;exact Heap.lt_size e
 | set S n=>obtain⟨o,_,_,_,e,_⟩:=x;exact Heap.lt_size e
 | ins C dx fs=>obtain⟨_,_,_,e,_⟩:=x;exact Heap.lt_size e
 | own y=>obtain⟨_,e⟩:=x;exact Heap.lt_size e
 | xd fs=>obtain⟨_,⟨_,_,_,e,_⟩,_⟩:=x;exact Heap.lt_size e
 | G4 lo hi=>obtain⟨_,_,_,e⟩:=x;exact Heap.lt_size e
 | Dw ob u=>obtain⟨e,_⟩:=x;exact Heap.lt_size e
 | Jk ps=>exact Heap.lt_size (show h.get? a=some _ from x)
 | met f y=>exact Heap.lt_size (show h.get? a=some _ from x)
 | ext φ=>obtain⟨_,⟨_,e⟩,_⟩:=x;exact Heap.lt_size e
theorem Paired.JQ {α β:Type}{F G:α->β->Prop}:∀ {l₁:List α}{l₂:List β},Paired F l₁ l₂->(∀ a b,F a b->G a b)->Paired G l₁ l₂
 | _,_,.nil,_=>.nil
 | _,_,.cons r t,f=>.cons (f _ _ r) (Paired.JQ t f)
theorem aK.EI (x:aK P w H h a o)(k:∀ b u,(b=a∨H b=some (.own a))->h.get? b=some u->h'.get? b=some u)
  (ho:∀ b,H b=some (.own a)->H' b=some (.own a)) (ht:∀ b xs,H b=some (.tup xs)->H' b=some (.tup xs)):aK P w H' h' a o:=by
 induction o with
 | lst xs=>obtain⟨z,its,n,r,e⟩:=x;exact⟨z,its,n,r,k _ _ (.inl rfl) e⟩
 | tup xs=>obtain⟨z,its,r,ob,e,c⟩:=x;exact⟨z,its,r,ob,k _ _ (.inl rfl) e,c⟩
 | dK kvs=>obtain⟨z,y,vs,r,ob,es,ep,e,c⟩:=x;exact⟨z,y,vs,r,ob,es,ep,k _ _ (.inl rfl) e,c⟩
 | dT kvs=>
  obtain⟨z,y,xs,r,ob,es,ep,e,c⟩:=x
  exact⟨z,y,xs,Paired.JQ r fun p q z=>⟨z.1,ht _ _ z.2.1,z.2.2⟩,ob,es,ep,k _ _ (.inl rfl) e,c⟩
 | set S n=>obtain⟨ob,es,ep,t,e,c⟩:=x;exact⟨ob,es,ep,t,k _ _ (.inl rfl) e,c⟩
 | ins C dx fs=>
  obtain⟨d,z,ne,e,mA,⟨od,es,ep,e2,c⟩,r⟩:=x
  exact⟨ho _ d,z,ne,k _ _ (.inl rfl) e,mA,⟨od,es,ep,k _ _ (.inr d) e2,c⟩,r⟩
 | own y=>obtain⟨ob,e⟩:=x;exact⟨ob,k _ _ (.inl rfl) e⟩
 | xd fs=>obtain⟨mA,⟨od,es,ep,e,c⟩,r⟩:=x;exact⟨mA,⟨od,es,ep,k _ _ (.inl rfl) e,c⟩,r⟩
 | G4 lo hi=>obtain⟨t,u,v,e⟩:=x;exact⟨t,u,v,k _ _ (.inl rfl) e⟩
 | Dw ob u ih=>obtain⟨e,q⟩:=x;exact⟨k _ _ (.inl rfl) e,ih q⟩
 | Jk ps=>
  have e:h.get? a=some {cls:=.none,data:=.fields ps}:=x
  show h'.get? a=some {cls:=.none,data:=.fields ps}
  exact k a _ (.inl rfl) e
 | met f y=>
  have e:h.get? a=some (PySem.W.methodObj (.ref f) (.ref y)):=x
  show h'.get? a=some (PySem.W.methodObj (.ref f) (.ref y))
  exact k a _ (.inl rfl) e
 | ext φ=>obtain⟨p,⟨o,e⟩,st⟩:=x;exact⟨st _ _ p fun o q=>k _ _ (.inl rfl) q,⟨o,k _ _ (.inl rfl) e⟩,st⟩
theorem DU.lt (x:DU P w H h)(e:H a=some o):a < h.objs.size:=(x a o e).lt
theorem DU.fresh (x:DU P w H h)(e:h.objs.size<=a):H a=none:=by
 cases q:H a with
 | none=>rfl
 | some u=>exact absurd (Nat.lt_of_lt_of_le (x.lt q) e) (Nat.lt_irrefl _)
theorem DU.kept (x:DU P w H h)(k:∀ b u,h.get? b=some u->h'.get? b=some u):DU P w H h':=fun a o e=>
 (x a o e).EI (fun b u _ q=>k b u q) (fun _ q=>q) fun _ _ q=>q
theorem DU.laid (x:DU P w H h)(k:∀ b u,h.get? b=some u->h'.get? b=some u)(hp:h.objs.size<=a)(new:aK P w (upd H a o) h' a o):DU P w (upd H a o) h':=fun b u e=>by
 have hn:=x.fresh hp
 by_cases hb:b=a
 ·subst hb;rw[ao] at e;cases e;exact new
 ·rw[ah hb] at e
  exact(x b u e).EI (fun c v _ q=>k c v q) (fun c q=>by rw[ah (aB q hn)];exact q) fun c xs q=>by rw[ah (aB q hn)];exact q
end
def Rd (H:Hp)(a:Addr)(u:HO):Prop:=H a=some u∨∃ o,H a=some (.Dw o u)
theorem Rd.ok {P:Program}{w:World}{H:Hp}{h:Heap}{a:Addr}{u:HO}(r:Rd H a u)(x:DU P w H h):aK P w H h a u:=by
 rcases r with r|⟨o,r⟩
 ·exact x a u r
 ·obtain⟨_,q⟩:=x a _ r
  exact q
noncomputable def Lw:Option HO->Prop
 | some (.lst _)=>True
 | some (.dK _)=>True
 | some (.dT _)=>True
 | some (.set _ _)=>True
 | some (.ins _ _ _)=>True
 | some (.ext _)=>True
 | _=>False
section
variable {P:Program}{w:World}{H:Hp}{h h':Heap}{x e:Addr}{o':HO}
theorem DU.write (ok:DU P w H h)(mu:Lw (H x))(he:e=x∨H e=some (.own x))(k:∀ b u,b≠e->h.get? b=some u->h'.get? b=some u)(KW:∃ u,h'.get? e=some u)
  (new:aK P w (upd H x o') h' x o'):DU P w (upd H x o') h':=fun b u q=>by
 have dO:∀ c y,H c=some (.own y)->c≠x:=fun c y r z=>by subst z;rw[r] at mu;exact mu
 have Nx:∀ c xs,H c=some (.tup xs)->c≠x:=fun c xs r z=>by subst z;rw[r] at mu;exact mu
 by_cases hb:b=x
 ·subst hb;rw[ao] at q;cases q;exact new
 ·rw[ah hb] at q
  by_cases JR:b=e
  ·have q':H b=some (.own x):=by
    rcases he with z|z
    ·exact absurd (JR.trans z) hb
    ·rw[JR];exact z
   rw[q] at q';cases q'
   obtain⟨v,hv⟩:=KW
   exact⟨v,by rw[JR];exact hv⟩
  ·refine(ok b u q).EI (fun c v hc r=>k c v ?_ r) (fun c r=>by rw[ah (dO c b r)];exact r) fun c xs r=>by rw[ah (Nx c xs r)];exact r
   rcases hc with rfl|hc
   ·exact JR
   ·rintro rfl
    rcases he with z|z
    ·exact dO c b hc z
    ·rw[hc] at z;cases z;exact hb rfl
end
structure Un (fs ex:List Addr)(H H':Hp)(h h':Heap):Prop where
 keep:∀ b o,h.get? b=some o->H b=none->b∉fs->b∉ex->h'.get? b=some o
 slot:∀ b o,h.get? b=some o->H b=none->b∈fs->b∉ex->∃ sl,h'.get? b=some {o with slots:=sl}
 free:∀ b o,h.get? b=some o->H b=none->b∉ex->H' b=none
 there:∀ b o,h.get? b=some o->b∉ex->∃ o',h'.get? b=some o'
 EA:∀ b xs,H b=some (.tup xs)->H' b=some (.tup xs)
 Ee:∀ b o u,H b=some (.Dw o u)->H' b=some (.Dw o u)
 Fp:∀ b ps,H b=some (.Jk ps)->∃ more,H' b=some (.Jk (ps++more))
section
variable {fs U4 ex Po:List Addr}{H H1 H2:Hp}{h h1 h2 h':Heap}{a x e:Addr}{o:HO}
theorem Un.any (u:Un fs ex H H1 h h1){b:Addr}{ob:Obj}(q:h.get? b=some ob)(n:H b=none)(hx:b∉ex):∃ sl,h1.get? b=some {ob with slots:=sl}:=by
 by_cases hb:b∈fs
 ·exact u.slot b ob q n hb hx
 ·exact⟨ob.slots,u.keep b ob q n hb hx⟩
theorem Un.kept (k:∀ b u,h.get? b=some u->h'.get? b=some u):Un fs ex H H h h':=
 ⟨fun b ob q _ _ _=>k b ob q,fun b ob q _ _ _=>⟨ob.slots,k b ob q⟩,fun _ _ _ n _=>n,fun b ob q _=>⟨ob,k b ob q⟩,fun _ _ q=>q,fun _ _ _ q=>q,fun _ ps q=>⟨#[],by rw[q];simp⟩⟩
theorem Un.refl:Un fs ex H H h h:=Un.kept fun _ _ q=>q
theorem Un.laid (k:∀ b u,h.get? b=some u->h'.get? b=some u)(hp:h.objs.size<=a)(hn:H a=none):Un fs ex H (upd H a o) h h' where
 keep:=fun b u q _ _ _=>k b u q
 slot:=fun b u q _ _ _=>⟨u.slots,k b u q⟩
 free:=fun b u q n _=>by rw[ah (Nat.ne_of_lt (Nat.lt_of_lt_of_le (Heap.lt_size q) hp))];exact n
 there:=fun b u q _=>⟨u,k b u q⟩
 EA:=fun b xs q=>by rw[ah (aB q hn)];exact q
 Ee:=fun b u xs q=>by rw[ah (aB q hn)];exact q
 Fp:=fun b ps q=>⟨#[],by rw[ah (aB q hn),q];simp⟩
theorem Un.write (mu:Lw (H x))(he:e=x∨H e=some (.own x))(k:∀ b u,b≠e->h.get? b=some u->h'.get? b=some u)(KW:∃ u,h'.get? e=some u):Un fs ex H (upd H x o) h h':=by
 have hx:∀ b,H b=none->b≠x:=fun b n z=>by subst z;rw[n] at mu;exact mu
 have hb:∀ b,H b=none->b≠e:=fun b n z=>by
  subst z
  rcases he with r|r
  ·exact hx b n r
  ·rw[n] at r;cases r
 have hm:∀ b u,H b=some u->¬ Lw (some u)->b≠x:=fun b u q nm z=>by subst z;rw[q] at mu;exact nm mu
 refine⟨fun b u q n _ _=>k b u (hb b n) q,fun b u q n _ _=>⟨u.slots,k b u (hb b n) q⟩,fun b u q n _=>by rw[ah (hx b n)];exact n,fun b u q _=>?_,
  fun b xs q=>by rw[ah (hm b _ q fun z=>z)];exact q,fun b u xs q=>by rw[ah (hm b _ q fun z=>z)];exact q,fun b ps q=>⟨#[],by rw[ah (hm b _ q fun z=>z),q];simp⟩⟩
 by_cases JR:b=e
 ·subst JR;exact KW
 ·exact⟨u,k b u JR q⟩
end
noncomputable def JS (h:Heap)(H:Hp):List Addr:=(List.range h.objs.size).filter fun a=>(H a).isSome
noncomputable def gR (h:Heap)(H:Hp):Heap:=PySem.W.hideAll h (JS h H)
theorem mP (h:Heap)(H:Hp):(gR h H).objs.size=h.objs.size:=PySem.W.hideAll_size _ _
theorem nK {h:Heap}{H:Hp}{b:Addr}{o:Obj}(e:h.get? b=some o)(n:H b=none):(gR h H).get? b=some o:=
 PySem.W.hideAll_get _ e fun hm=>by
  have q:(H b).isSome=true:=(List.mem_filter.mp hm).2
  rw[n] at q;simp at q
theorem sh {h:Heap}{H:Hp}{b:Addr}{o:Obj}(e:(gR h H).get? b=some o):h.get? b=some o/\H b=none:=by
 have e':h.get? b=some o:=PySem.W.of_hideAll (JS h H) e
 refine⟨e',?_⟩
 cases q:H b with
 | none=>rfl
 | some x=>
  have hm:b∈JS h H:=List.mem_filter.mpr ⟨List.mem_range.mpr (Heap.lt_size e'),by simp[q]⟩
  have z:(gR h H).get? b=none:=PySem.W.hideAll_none (JS h H) hm
  rw[z] at e;cases e
structure Mod (K:PySem.W.Frag)(mg:Str->Option Value)(base:Heap):Prop where
 Ig:K.In base
 glob:base.Ns mainGlobals mg
 blt:∃ mb,base.Ns builtinsNs mb/\∀ x:Str,x≠"__name__"->mb x=bootBuiltins x
 nolimit:base.NoLimit
structure Cx where
 prog:Program
 w:World
 K:PySem.W.Frag
 mg:Str->Option Value
 base:Heap
 A:Around
 N:List Str
 DW:Shared
 ET:Hp
 env:Env
 outer:List Env
 stack:List Env
 ex:List Addr
 fn:Str->Bool
 calm:Bool
 pn:List (Addr×Obj)
 xe:Value->Shared->Prop
noncomputable def Em (l:List Env):List Addr:=l.filterMap (·.frame)
noncomputable abbrev Cx.fs (X:Cx):List Addr:=Em X.outer
def Lx (sc:Scope)(x:Str):Prop:=sc.names.lookup x=some .local∨sc.names.lookup x=some .cell∨sc.names.lookup x=some .free
def Loc (sc:Scope)(x:Str):Prop:=sc.names.lookup x=some .local∨sc.names.lookup x=some .cell
def Look (env:Env)(h:Heap)(m:Str->Option Value)(x:Str)(u:Value):Prop:=
 (env.kindOf x=some .local/\m x=some u)∨((env.kindOf x=some .cell∨env.kindOf x=some .free)/\∃ c,env.cells.lookup x=some c/\h.IsCell c (some u))
structure Cx.Ok (X:Cx):Prop where
 mod:Mod X.K X.mg X.base
 kind:X.env.scope.kind=.function
 glob:X.env.globals=mainGlobals
 blt:X.env.builtins=builtinsNs
 above:X.DW.heap.objs.size<=X.env.locals
 inj:∀ x y c,X.env.cells.lookup x=some c->X.env.cells.lookup y=some c->x=y
 has:∀ x,(X.env.kindOf x=some .cell∨X.env.kindOf x=some .free)->∃ c,X.env.cells.lookup x=some c
 KY:∀ x c,X.fn x=true->X.env.cells.lookup x=some c->X.DW.heap.objs.size<=c
 hd:X.calm=true->X.A.handled=none
 frames:X.A.frames=some X.stack
 Dq:X.stack=X.outer∨(X.stack=X.env::X.outer/\X.env.frame=some X.env.locals)
 Ly:∀ b∈X.ex,b≠X.env.locals/\∀ x c,X.env.cells.lookup x=some c->c≠b
 bs:∀ b o,X.base.get? b=some o->X.DW.heap.get? b=some o/\X.ET b=none
 Hq:X.base.objs.size<=X.DW.heap.objs.size
 G5:∀ b o,X.base.get? b=some o->b∉X.ex
 G6:∀ b∈X.ex,b∉X.fs
 En:X.DW.heap.FunFrames X.base X.outer
 Gi:∀ b∈X.fs,X.ET b=none
structure Inv (X:Cx)(pins:List (Addr×Obj))(σ:List (Option V))(H:Hp)(s:Shared):Prop where
 ok:X.Ok
 os:s.os=X.DW.os
 bare:AllBare s.gens
 base:Un X.fs X.ex X.ET H X.DW.heap s.heap
 loc:∃ m,s.heap.Ns X.env.locals m/\∀ (i:Nat) (x:Str) (v:V),X.N[i]? = some x->σ[i]? = some (some v)->Lx X.env.scope x->∃ u,RelV v u/\Look X.env s.heap m x u
 cell:∀ x c,X.env.cells.lookup x=some c->∃ v,s.heap.IsCell c v
 free:H X.env.locals=none
 Ef:∀ x c,X.env.cells.lookup x=some c->H c=none
 pin:∀ p∈X.pn++pins,s.heap.get? p.1=some p.2/\H p.1=none/\p.1≠X.env.locals/\p.1∉X.fs/\∀ v,p.2.data≠.cell v
 Dz:DU X.prog X.w H s.heap
 len:σ.length=X.N.length
section
variable {X:Cx}{pins:List (Addr×Obj)}{σ:List (Option V)}{H H':Hp}{s:Shared}{h':Heap}
theorem Cx.Ok.Ny (ok:X.Ok){b:Addr}{o:Obj}(e:X.base.get? b=some o):b∉X.fs:=fun hb=>by
 have:=(ok.En.mem hb).1
 rw[e] at this;cases this
theorem Inv.bs (I:Inv X pins σ H s):∀ b o,X.base.get? b=some o->s.heap.get? b=some o/\H b=none:=fun b o e=>
 ⟨I.base.keep b o (I.ok.bs b o e).1 (I.ok.bs b o e).2 (I.ok.Ny e) (I.ok.G5 b o e),I.base.free b o (I.ok.bs b o e).1 (I.ok.bs b o e).2 (I.ok.G5 b o e)⟩
theorem Inv.bk (I:Inv X pins σ H s):∀ b o,X.base.get? b=some o->s.heap.get? b=some o:=fun b o e=>(I.bs b o e).1
theorem Inv.mod (I:Inv X pins σ H s):Mod X.K X.mg X.base:=I.ok.mod
theorem Inv.G7 (I:Inv X pins σ H s):X.K.In s.heap:=I.ok.mod.Ig.keeps I.bk
theorem Inv.lt (I:Inv X pins σ H s):X.env.locals < s.heap.objs.size:=let ⟨_,hn,_⟩:=I.loc;hn.lt
theorem Inv.sz (I:Inv X pins σ H s):X.DW.heap.objs.size<=s.heap.objs.size:=Nat.le_trans I.ok.above (Nat.le_of_lt I.lt)
theorem Inv.Nz (I:Inv X pins σ H s){a:Addr}(h:s.heap.objs.size<=a):a∉X.fs:=fun hb=>by
 obtain⟨_,o,ho,_⟩:=I.ok.En.mem hb
 exact absurd (Nat.lt_of_lt_of_le (Heap.lt_size ho) (Nat.le_trans I.sz h)) (Nat.lt_irrefl _)
theorem Inv.JT (I:Inv X pins σ H s):∀ x c,X.env.cells.lookup x=some c->c≠X.env.locals:=fun x c e z=>by
 obtain⟨v,o,ho,hd⟩:=I.cell x c e
 obtain⟨m,⟨o',es,ep,FZ,JU,_⟩,_⟩:=I.loc
 rw[z,FZ] at ho;cases ho;rw[JU] at hd;cases hd
theorem Inv.En (I:Inv X pins σ H s):s.heap.FunFrames X.base X.outer:=by
 have all:∀ (l:List Env),(∀ b∈Em l,b∈X.fs)->X.DW.heap.FunFrames X.base l->s.heap.FunFrames X.base l:=by
  intro l
  induction l with
  | nil=>intro _ _;trivial
  | cons env r ih=>
   intro hs hl
   obtain⟨hk,⟨L,o,hf,hn,ho,hd⟩,hr⟩:=hl
   have hL:L∈X.fs:=hs L (by unfold Em;rw[List.filterMap_cons,hf];exact List.mem_cons_self)
   obtain⟨sl,e⟩:=I.base.slot L o ho (I.ok.Gi L hL) hL fun z=>I.ok.G6 L z hL
   exact⟨hk,⟨L,_,hf,hn,e,hd⟩,ih (fun b hb=>hs b (by unfold Em;rw[List.filterMap_cons,hf];exact List.mem_cons_of_mem _ hb)) hr⟩
 exact all X.outer (fun _ hb=>hb) I.ok.En
theorem Inv.stack (I:Inv X pins σ H s):s.heap.FunFrames X.base X.stack:=by
 rcases I.ok.Dq with e|⟨e,hf⟩
 ·rw[e];exact I.En
 ·rw[e]
  obtain⟨m,hn,_⟩:=I.loc
  refine .cons (by rw[I.ok.kind];decide) hf hn ?_ I.En
  exact Heap.get?_none_of_le (Nat.le_trans I.ok.Hq I.ok.above)
theorem Inv.Gv (I:Inv X pins σ H s):∀ b∈Em X.stack,b∈X.env.locals::X.fs:=fun b hb=>by
 rcases I.ok.Dq with e|⟨e,hf⟩
 ·rw[e] at hb;exact List.mem_cons_of_mem _ hb
 ·rw[e] at hb
  unfold Em at hb
  rw[List.filterMap_cons,hf] at hb
  exact hb
theorem Inv.FD (I:Inv X pins σ H s):∀ b∈Em X.stack,H b=none:=fun b hb=>by
 rcases List.mem_cons.mp (I.Gv b hb) with e|hb
 ·rw[e];exact I.free
 ·obtain⟨_,o,ho,_⟩:=I.ok.En.mem hb
  exact I.base.free b o ho (I.ok.Gi b hb) fun z=>I.ok.G6 b z hb
theorem Inv.step {g':Array GenState}{t':Nat}{d':Drawn}{ch:List Addr}(I:Inv X pins σ H s)
  (GJ:∀ b∈ch,(b∈X.ex∨X.DW.heap.objs.size<=b)/\b≠X.env.locals/\(∀ x c,X.env.cells.lookup x=some c->c≠b)/\∀ p∈X.pn++pins,p.1≠b)
  (keep:∀ b o,b≠X.env.locals->b∉X.fs->b∉ch->s.heap.get? b=some o->H b=none->h'.get? b=some o)
  (slot:∀ b o,b≠X.env.locals->b∈X.fs->b∉ch->s.heap.get? b=some o->H b=none->∃ sl,h'.get? b=some {o with slots:=sl}) (free:∀ b o,b∉ch->s.heap.get? b=some o->H b=none->H' b=none)
  (there:∀ b o,b∉ch->s.heap.get? b=some o->∃ o',h'.get? b=some o')
  (EA:∀ b xs,H b=some (.tup xs)->H' b=some (.tup xs)) (Ee:∀ b o u,H b=some (.Dw o u)->H' b=some (.Dw o u)) (Fp:∀ b ps,H b=some (.Jk ps)->∃ more,H' b=some (.Jk (ps++more)))
  (ns:∀ m,s.heap.Ns X.env.locals m->h'.Ns X.env.locals m) (Dz:DU X.prog X.w H' h') (hg:AllBare g') :
  Inv X pins σ H' {s with heap:=h',gens:=g',drawn:=d',toks:=t'}:=by
 have Pp:∀ b o,X.DW.heap.get? b=some o->b≠X.env.locals:=fun b o e=>Nat.ne_of_lt (Nat.lt_of_lt_of_le (Heap.lt_size e) I.ok.above)
 have ML:∀ b o,X.DW.heap.get? b=some o->b∉X.ex->b∉ch:=fun b o e hx hb=>by
  rcases (GJ b hb).1 with z|z
  ·exact hx z
  ·exact absurd (Nat.lt_of_lt_of_le (Heap.lt_size e) z) (Nat.lt_irrefl _)
 have cellK:∀ x c,X.env.cells.lookup x=some c->∀ v,s.heap.IsCell c v->h'.IsCell c v:=fun x c e v ⟨o,ho,hd⟩=>by
  have Lz:c∉ch:=fun z=>(GJ c z).2.2.1 x c e rfl
  by_cases hc:c∈X.fs
  ·obtain⟨sl,q⟩:=slot c o (I.JT x c e) hc Lz ho (I.Ef x c e)
   exact⟨_,q,hd⟩
  ·exact⟨o,keep c o (I.JT x c e) hc Lz ho (I.Ef x c e),hd⟩
 refine⟨I.ok,I.os,hg,⟨fun b o e n hb hx=>?_,fun b o e n hb hx=>?_,fun b o e n hx=>?_,fun b o e hx=>?_,fun b xs e=>EA b xs (I.base.EA b xs e),fun b o xs e=>Ee b o xs (I.base.Ee b o xs e),fun b ps e=>?_⟩,?_,fun x c e=>?_,?_,fun x c e=>?_,fun p hp=>?_,Dz,I.len⟩
 ·exact keep b o (Pp b o e) hb (ML b o e hx) (I.base.keep b o e n hb hx) (I.base.free b o e n hx)
 ·obtain⟨sl,e1⟩:=I.base.slot b o e n hb hx
  obtain⟨LA,e2⟩:=slot b _ (Pp b o e) hb (ML b o e hx) e1 (I.base.free b o e n hx)
  exact⟨LA,e2⟩
 ·obtain⟨o',e1⟩:=I.base.there b o e hx
  exact free b o' (ML b o e hx) e1 (I.base.free b o e n hx)
 ·obtain⟨o',e1⟩:=I.base.there b o e hx
  exact there b o' (ML b o e hx) e1
 ·obtain⟨m1,e1⟩:=I.base.Fp b ps e
  obtain⟨m2,e2⟩:=Fp b _ e1
  exact⟨m1++m2,by rw[e2,Array.append_assoc]⟩
 ·obtain⟨m,hn,hl⟩:=I.loc
  refine⟨m,ns m hn,fun i x v e1 e2 e3=>?_⟩
  obtain⟨u,r,l⟩:=hl i x v e1 e2 e3
  refine⟨u,r,?_⟩
  rcases l with l|⟨k,c,e,z⟩
  ·exact .inl l
  ·exact .inr ⟨k,c,e,cellK x c e _ z⟩
 ·obtain⟨v,z⟩:=I.cell x c e
  exact⟨v,cellK x c e v z⟩
 ·obtain⟨m,⟨o,_,_,ho,_⟩,_⟩:=I.loc
  exact free _ o (fun z=>(GJ _ z).2.1 rfl) ho I.free
 ·obtain⟨v,o,ho,hd⟩:=I.cell x c e
  exact free c o (fun z=>(GJ c z).2.2.1 x c e rfl) ho (I.Ef x c e)
 ·obtain⟨e,n,ne,nf,d⟩:=I.pin p hp
  have Lz:p.1∉ch:=fun z=>(GJ p.1 z).2.2.2 p hp rfl
  exact⟨keep p.1 p.2 ne nf Lz e n,free p.1 p.2 Lz e n,ne,nf,d⟩
theorem Inv.un {t':Nat}(I:Inv X pins σ H s)(u:Un X.fs [] H H' s.heap h')(Dz:DU X.prog X.w H' h'):Inv X pins σ H' {s with heap:=h',toks:=t'}:=by
 obtain⟨m,⟨o,es,ep,ho,r⟩,_⟩:=id I.loc
 obtain⟨sl,hL⟩:=u.any ho I.free (by simp)
 exact I.step (g':=s.gens) (d':=s.drawn) (ch:=[]) (fun _ z=>nomatch z) (fun b o _ hb _ e n=>u.keep b o e n hb (by simp)) (fun b o _ hb _ e n=>u.slot b o e n hb (by simp)) (fun b o _ e n=>u.free b o e n (by simp)) (fun b o _ e=>u.there b o e (by simp)) u.EA u.Ee u.Fp (fun m' hm=>by
  obtain⟨o',E9,LB,FZ,r'⟩:=hm
  rw[ho] at FZ;cases FZ
  exact⟨_,E9,LB,hL,r'⟩) Dz I.bare
theorem Inv.call {g':Array GenState}{t':Nat}{d':Drawn}{ch:List Addr}(I:Inv X pins σ H s)(u:Un (Em X.stack) ch H H' s.heap h')(Dz:DU X.prog X.w H' h')(hg:AllBare g')
  (GJ:∀ b∈ch,(b∈X.ex∨X.DW.heap.objs.size<=b)/\b≠X.env.locals/\(∀ x c,X.env.cells.lookup x=some c->c≠b)/\∀ p∈X.pn++pins,p.1≠b) :
  Inv X pins σ H' {s with heap:=h',gens:=g',drawn:=d',toks:=t'}:=by
 obtain⟨m,⟨o,es,ep,ho,r⟩,_⟩:=id I.loc
 obtain⟨sl,hL⟩:=u.any ho I.free fun z=>(GJ _ z).2.1 rfl
 exact I.step (ch:=ch) GJ (fun b o hL hb hc e n=>u.keep b o e n (fun z=>(List.mem_cons.mp (I.Gv b z)).elim hL hb) hc) (fun b o _ _ hc e n=>u.any e n hc) (fun b o hc e n=>u.free b o e n hc) (fun b o hc e=>u.there b o e hc) u.EA u.Ee u.Fp (fun m' hm=>by
  obtain⟨o',E9,LB,FZ,r'⟩:=hm
  rw[ho] at FZ;cases FZ
  exact⟨_,E9,LB,hL,r'⟩) Dz hg
theorem Inv.turned {t':Nat}{it:Addr}(I:Inv X pins σ H s)(k:∀ b o,b≠it->s.heap.get? b=some o->h'.get? b=some o)(hn:H it=none)(hL:it≠X.env.locals)
  (h1:it∈X.ex∨X.DW.heap.objs.size<=it) (h2:∀ x c,X.env.cells.lookup x=some c->c≠it) (h3:∀ p∈X.pn++pins,p.1≠it):Inv X pins σ H {s with heap:=h',toks:=t'}:=by
 have Jl:∀ b u,H b=some u->b≠it:=fun b u e z=>by rw[z,hn] at e;cases e
 refine I.step (g':=s.gens) (d':=s.drawn) (ch:=[it]) (fun b hb=>?_) (fun b o _ _ hc e _=>k b o (fun z=>hc (by simp[z])) e) (fun b o _ _ hc e _=>⟨o.slots,k b o (fun z=>hc (by simp[z])) e⟩) (fun _ _ _ _ n=>n)
  (fun b o hc e=>⟨o,k b o (fun z=>hc (by simp[z])) e⟩) (fun _ _ e=>e) (fun _ _ _ e=>e) (fun b ps e=>⟨#[],by rw[e];simp⟩) (fun m hm=>?_) (fun b u e=>?_) I.bare
 ·have e:b=it:=by simpa using hb
  subst e
  exact⟨h1,hL,h2,h3⟩
 ·obtain⟨o,es,ep,ho,r⟩:=hm
  exact⟨o,es,ep,k _ o (Ne.symm hL) ho,r⟩
 ·refine(I.Dz b u e).EI (fun c v hc q=>k c v ?_ q) (fun _ q=>q) fun _ _ q=>q
  rcases hc with z|z
  ·rw[z];exact Jl b u e
  ·exact Jl c _ z
theorem Inv.tok (I:Inv X pins σ H s)(t:Nat):Inv X pins σ H {s with toks:=t}:=I.un (h':=s.heap) (t':=t) Un.refl I.Dz
theorem Inv.kept {t':Nat}(I:Inv X pins σ H s)(k:∀ b u,s.heap.get? b=some u->h'.get? b=some u):Inv X pins σ H {s with heap:=h',toks:=t'}:=I.un (Un.kept k) (I.Dz.kept k)
theorem Inv.laid {a:Addr}{o:HO}{t':Nat}(I:Inv X pins σ H s)(k:∀ b u,s.heap.get? b=some u->h'.get? b=some u)(hp:s.heap.objs.size<=a)(new:aK X.prog X.w (upd H a o) h' a o) :
  Inv X pins σ (upd H a o) {s with heap:=h',toks:=t'}:=I.un (Un.laid k hp (I.Dz.fresh hp)) (I.Dz.laid k hp new)
theorem Inv.write {x e:Addr}{o:HO}{t':Nat}(I:Inv X pins σ H s)(mu:Lw (H x))(he:e=x∨H e=some (.own x))(k:∀ b u,b≠e->s.heap.get? b=some u->h'.get? b=some u)(KW:∃ u,h'.get? e=some u)
  (new:aK X.prog X.w (upd H x o) h' x o):Inv X pins σ (upd H x o) {s with heap:=h',toks:=t'}:=I.un (Un.write mu he k KW) (I.Dz.write mu he k KW new)
theorem Inv.GK {Jm:List (Addr×Obj)}(I:Inv X pins σ H s)(h:∀ p∈Jm,s.heap.get? p.1=some p.2/\H p.1=none/\p.1≠X.env.locals/\p.1∉X.fs/\∀ v,p.2.data≠.cell v):Inv X Jm σ H s:=
 ⟨I.ok,I.os,I.bare,I.base,I.loc,I.cell,I.free,I.Ef,fun p hp=>(List.mem_append.mp hp).elim (fun z=>I.pin p (List.mem_append_left _ z)) (h p),I.Dz,I.len⟩
theorem iV {N:List Str}(hN:N.Nodup){i j:Nat}{x:Str}(a:N[i]? = some x)(b:N[j]? = some x):i=j:=by
 obtain⟨h1,e1⟩:=List.getElem?_eq_some_iff.mp a
 obtain⟨h2,e2⟩:=List.getElem?_eq_some_iff.mp b
 exact(List.getElem_inj hN).mp (e1.trans e2.symm)
theorem f6 {M:Model}{A:Around}{E:Value->Shared->Prop}{i:Nat}{x:Str}{v:V}{u:Value}{Q:Unit->Shared->Prop}(I:Inv X pins σ H s)(hN:X.N.Nodup)(hi:X.N[i]? = some x)(hx:Loc X.env.scope x)(r:RelV v u)
  (h:∀ s',Inv X pins (σ.set i (some v)) H s'->(∃ a,Heap.SameBut a s.heap s'.heap/\(a=X.env.locals∨X.env.cells.lookup x=some a))->Q () s') (hf:X.fn x=true∨X.env.scope.names.lookup x=some .local:=by first|exact .inl rfl|exact .inr rfl|assumption):wpAny M A (storeName X.env x u) Q E s:=by
 obtain⟨m,hn,hl⟩:=id I.loc
 have JV:(X.env.scope.kind == .class||(X.env.scope.kind == .module&&X.env.locals != X.env.globals))=false:=by rw[I.ok.kind];rfl
 have LC:i < σ.length:=by rw[I.len];exact(List.getElem?_eq_some_iff.mp hi).1
 have JT:=I.JT
 have tracked:∀ {a:Addr}{h':Heap},(∃ o,s.heap.get? a=some o/\H a=none)->Heap.SameBut a s.heap h'->DU X.prog X.w H h':=fun {a h'} ha hs b ob e=>by
  obtain⟨_,_,GL⟩:=ha
  refine(I.Dz b ob e).EI (fun c w' hc q=>(hs.2 c ?_).trans q) (fun _ q=>q) fun _ _ q=>q
  rintro rfl
  rcases hc with rfl|hc
  ·rw[GL] at e;cases e
  ·rw[GL] at hc;cases hc
 rcases hx with hk|hk
 ·refine wpAny_storeName_local hk hn (fun h' Fb hs=>?_) JV
  obtain⟨oL,_,_,Ry,_⟩:=id hn
  refine h _ ⟨I.ok,I.os,I.bare,⟨fun b o e n hb hx=>?_,fun b o e n hb hx=>?_,I.base.free,fun b o e hx=>?_,I.base.EA,I.base.Ee,I.base.Fp⟩,⟨_,Fb,fun j y v' e1 e2 e3=>?_⟩,fun y c e=>?_,I.free,I.Ef,fun p hp=>?_,tracked ⟨oL,Ry,I.free⟩ hs,by simpa using I.len⟩ ⟨_,hs,.inl rfl⟩
  ·exact(hs.2 b (Nat.ne_of_lt (Nat.lt_of_lt_of_le (Heap.lt_size e) I.ok.above))).trans (I.base.keep b o e n hb hx)
  ·obtain⟨sl,e1⟩:=I.base.slot b o e n hb hx
   exact⟨sl,(hs.2 b (Nat.ne_of_lt (Nat.lt_of_lt_of_le (Heap.lt_size e) I.ok.above))).trans e1⟩
  ·obtain⟨o',e1⟩:=I.base.there b o e hx
   exact⟨o',(hs.2 b (Nat.ne_of_lt (Nat.lt_of_lt_of_le (Heap.lt_size e) I.ok.above))).trans e1⟩
  ·by_cases hj:j=i
   ·subst hj
    rw[hi] at e1;cases e1
    rw[List.getElem?_set_self LC] at e2
    cases e2
    exact⟨u,r,.inl ⟨hk,by simp⟩⟩
   ·rw[List.getElem?_set_ne (Ne.symm hj)] at e2
    obtain⟨u',r',q⟩:=hl j y v' e1 e2 e3
    refine⟨u',r',?_⟩
    rcases q with ⟨k,e⟩|⟨k,c,e,z⟩
    ·refine .inl ⟨k,?_⟩
     have:y≠x:=fun e=>hj (iV hN e1 (e ▸ hi))
     simp[this,e]
    ·exact .inr ⟨k,c,e,z.sameBut hs (JT y c e)⟩
  ·obtain⟨w',z⟩:=I.cell y c e
   exact⟨w',z.sameBut hs (JT y c e)⟩
  ·obtain⟨e,n,ne,nf,d⟩:=I.pin p hp
   exact⟨(hs.2 p.1 ne).trans e,n,ne,nf,d⟩
 ·have Iw:X.fn x=true:=by
   rcases hf with z|z
   ·exact z
   ·rw[z] at hk;cases hk
  obtain⟨c,hc⟩:=I.ok.has x (.inl hk)
  obtain⟨w',z⟩:=I.cell x c hc
  refine wpAny_storeName_cell I.ok.kind hk hc z (fun h' KZ hs=>?_)
  obtain⟨oc,Pq,NA⟩:=id z
  refine h {s with heap:=h'} ⟨I.ok,I.os,I.bare,⟨fun b o e n hb hx=>?_,fun b o e n hb hx=>?_,I.base.free,fun b o e hx=>?_,I.base.EA,I.base.Ee,I.base.Fp⟩,⟨m,hn.sameBut hs (Ne.symm (JT x c hc)),fun j y v' e1 e2 e3=>?_⟩,fun y c' e=>?_,I.free,I.Ef,fun p hp=>?_,tracked ⟨oc,Pq,I.Ef x c hc⟩ hs,by simpa using I.len⟩ ⟨c,hs,.inr hc⟩
  ·exact(hs.2 b (Nat.ne_of_lt (Nat.lt_of_lt_of_le (Heap.lt_size e) (I.ok.KY x c Iw hc)))).trans (I.base.keep b o e n hb hx)
  ·obtain⟨sl,e1⟩:=I.base.slot b o e n hb hx
   exact⟨sl,(hs.2 b (Nat.ne_of_lt (Nat.lt_of_lt_of_le (Heap.lt_size e) (I.ok.KY x c Iw hc)))).trans e1⟩
  ·obtain⟨o',e1⟩:=I.base.there b o e hx
   exact⟨o',(hs.2 b (Nat.ne_of_lt (Nat.lt_of_lt_of_le (Heap.lt_size e) (I.ok.KY x c Iw hc)))).trans e1⟩
  ·by_cases hj:j=i
   ·subst hj
    rw[hi] at e1;cases e1
    rw[List.getElem?_set_self LC] at e2
    cases e2
    exact⟨u,r,.inr ⟨.inl hk,c,hc,KZ⟩⟩
   ·rw[List.getElem?_set_ne (Ne.symm hj)] at e2
    obtain⟨u',r',q⟩:=hl j y v' e1 e2 e3
    refine⟨u',r',?_⟩
    rcases q with q|⟨k,c',e,z'⟩
    ·exact .inl q
    ·refine .inr ⟨k,c',e,z'.sameBut hs ?_⟩
     rintro rfl
     exact hj (iV hN e1 (I.ok.inj _ _ _ e hc ▸ hi))
  ·by_cases Pt:c'=c
   ·subst Pt;exact⟨_,KZ⟩
   ·obtain⟨w2,z2⟩:=I.cell y c' e
    exact⟨w2,z2.sameBut hs Pt⟩
  ·obtain⟨e,n,ne,nf,d⟩:=I.pin p hp
   refine⟨(hs.2 p.1 ?_).trans e,n,ne,nf,d⟩
   intro q
   rw[q,Pq] at e
   have q':oc=p.2:=Option.some.inj e
   exact d w' (by rw[<- q'];exact NA)
theorem iW {M:Model}{A:Around}{E:Value->Shared->Prop}{i:Nat}{x:Str}{v:V}{u:Value}{Q:Unit->Shared->Prop}(I:Inv X pins σ H s)(hN:X.N.Nodup)(hi:X.N[i]? = some x)(hx:Loc X.env.scope x)(r:RelV v u)
  (h:∀ s',Inv X pins (σ.set i (some v)) H s'->Q () s') (hf:X.fn x=true∨X.env.scope.names.lookup x=some .local:=by first|exact .inl rfl|exact .inr rfl|assumption):wpAny M A (storeName X.env x u) Q E s:=
 f6 I hN hi hx r (fun s' I' _=>h s' I') hf
theorem Inv.Jn {s':Shared}{ch:List Addr}(I:Inv X pins σ H s)(ho:s'.os=s.os)(u:Un (Em X.stack) ch H H' s.heap s'.heap)(Dz:DU X.prog X.w H' s'.heap)(hg:AllBare s'.gens)
  (GJ:∀ b∈ch,(b∈X.ex∨X.DW.heap.objs.size<=b)/\b≠X.env.locals/\(∀ x c,X.env.cells.lookup x=some c->c≠b)/\∀ p∈X.pn++pins,p.1≠b):Inv X pins σ H' s':=by
 obtain⟨h',g',d',t',o'⟩:=s'
 have e:o'=s.os:=ho
 subst e
 exact I.call (g':=g') (t':=t') (d':=d') u Dz hg GJ
end
noncomputable abbrev XK:=Value->Option Addr->Hp->Prop
noncomputable abbrev St:=List (Option V)
noncomputable abbrev VK:=V->Hp->Prop
noncomputable abbrev TE:=St->Hp->VK->Prop
noncomputable abbrev TT:=St->Hp->(Bool->Hp->Prop)->Prop
noncomputable abbrev TA:=St->Hp->(List V->Hp->Prop)->Prop
structure Ends where
 nx:St->Hp->Prop
 rt:VK
 bk:St->Hp->Prop:=fun _ _=>False
 ct:St->Hp->Prop:=fun _ _=>False
noncomputable abbrev TS:=Ends->St->Hp->Prop
def EP (X:Cx)(pins:List (Addr×Obj))(σ:St)(Q:VK)(u:Value)(s':Shared):Prop:=∃ v H',Inv X pins σ H' s'/\RelV v u/\Q v H'
def TP (X:Cx)(pins:List (Addr×Obj))(σ:St)(Q:Bool->Hp->Prop)(b:Bool)(s':Shared):Prop:=∃ H',Inv X pins σ H' s'/\Q b H'
def AP (X:Cx)(pins:List (Addr×Obj))(σ:St)(Q:List V->Hp->Prop)(us:List Value)(s':Shared):Prop:=∃ vs H',Inv X pins σ H' s'/\Vals vs us/\Q vs H'
def SP (X:Cx)(pins:List (Addr×Obj))(D:Ends)(f:Flow)(s':Shared):Prop:=
 match f with
 | .next=>∃ Dy H',Inv X pins Dy H' s'/\D.nx Dy H'
 | .brk=>∃ Dy H',Inv X pins Dy H' s'/\D.bk Dy H'
 | .cont=>∃ Dy H',Inv X pins Dy H' s'/\D.ct Dy H'
 | .ret u=>∃ v Dy H',Inv X pins Dy H' s'/\RelV v u/\D.rt v H'
def PE (X:Cx)(e:Expr)(t:TE):Prop:=
 ∀ (pins:List (Addr×Obj)) (s:Shared) (σ:St) (H:Hp) (Q:VK),Inv X pins σ H s->t σ H Q->wpAny (model X.prog X.w) X.A (eval e X.env) (EP X pins σ Q) X.xe s
def PT (X:Cx)(e:Expr)(t:TT):Prop:=
 ∀ (pins:List (Addr×Obj)) (s:Shared) (σ:St) (H:Hp) (Q:Bool->Hp->Prop),Inv X pins σ H s->t σ H Q->wpAny (model X.prog X.w) X.A (isTrue e X.env (eval e X.env)) (TP X pins σ Q) X.xe s
def PW (X:Cx)(e:Expr)(t:TT):Prop:=
 ∀ (whole:Sem Value) (pins:List (Addr×Obj)) (s:Shared) (σ:St) (H:Hp) (Q:Bool->Hp->Prop),Inv X pins σ H s->t σ H Q->wpAny (model X.prog X.w) X.A (isTrue e X.env whole) (TP X pins σ Q) X.xe s
theorem PW.pt {X:Cx}{e:Expr}{t:TT}(h:PW X e t):PT X e t:=h _
def PA (X:Cx)(es:List Expr)(t:TA):Prop:=
 ∀ (pos:Pos) (pins:List (Addr×Obj)) (s:Shared) (σ:St) (H:Hp) (Q:List V->Hp->Prop),Inv X pins σ H s->t σ H Q->wpAny (model X.prog X.w) X.A (spliced (backTo pos (starEach es X.env))) (AP X pins σ Q) X.xe s
def PS (X:Cx)(st:Stmt)(t:TS):Prop:=
 ∀ (pins:List (Addr×Obj)) (s:Shared) (σ:St) (H:Hp) (D:Ends),Inv X pins σ H s->t D σ H->wpAny (model X.prog X.w) X.A (exec st X.env) (SP X pins D) X.xe s
def Gj (X:Cx)(st:List Stmt)(t:TS):Prop:=
 ∀ (pins:List (Addr×Obj)) (s:Shared) (σ:St) (H:Hp) (D:Ends),Inv X pins σ H s->t D σ H->wpAny (model X.prog X.w) X.A (execs st X.env) (SP X pins D) X.xe s
theorem DB {α:Type}{t:Sem α}{Q Q':α->Shared->Prop}{M:Model}{A:Around}{E:Value->Shared->Prop}{s:Shared}(h:wpAny M A t Q E s)(hQ:∀ a s,Q a s->Q' a s):wpAny M A t Q' E s:=wpAny_mono h hQ fun _ _ x=>x
section
variable {X:Cx}
def mQ (i:Nat):TE:=fun σ H Q=>∃ v,σ[i]? = some (some v)/\Q v H
def tC (v:V):TE:=fun _ H Q=>Q v H
theorem nL {i:Nat}{x:Str}{pos:Pos}(hN:X.N[i]? = some x)(hv:Lx X.env.scope x)(hd:(x == ("__debug__" : Str))=false:=by decide) (HC:(x == ("__classdict__" : Str))=false:=by decide):PE X (.Name x pos) (mQ i):=by
 intro pins s σ H Q I h
 obtain⟨v,e,h⟩:=h
 obtain⟨m,hn,hl⟩:=I.loc
 obtain⟨u,r,l⟩:=hl i x v hN e hv
 have fin:EP X pins σ Q u s:=⟨v,H,I,r,h⟩
 rcases l with ⟨hk,hm⟩|⟨hk,c,hc,Jo⟩
 ·exact wpAny_Name (wpAny_loadName_local I.ok.kind hk hn hm fin) hd
 ·rcases hk with hk|hk
  ·exact wpAny_Name (wpAny_loadName_cell I.ok.kind hk hc Jo fin) hd
  ·exact wpAny_Name (wpAny_loadName_free I.ok.kind hk hc Jo fin HC) hd
theorem w9 {i j pos}:PE X (.Constant (.int i) j pos) (tC (.int i)):=fun _ _ _ H _ I h=>wpAny_Constant_int ⟨.int i,H,I.tok _,⟨_,rfl⟩,h⟩
theorem zD {b j pos}:PE X (.Constant (.bool b) j pos) (tC (.bl b)):=fun _ _ _ H _ I h=>Constant_bool ⟨.bl b,H,I,rfl,h⟩
theorem xc {j pos}:PE X (.Constant .none j pos) (tC .DE):=fun _ _ _ H _ I h=>Constant_none ⟨.DE,H,I,rfl,h⟩
theorem eX {x j pos}:PE X (.Constant (.str x) j pos) (tC (.str x)):=fun _ _ _ H _ I h=>Calls.Constant_str ⟨.str x,H,I.tok _,⟨_,rfl⟩,h⟩
def Gl (X:Cx)(x:Str):Prop:=X.env.kindOf x=some .globalImplicit
theorem cA {E:Value->Shared->Prop}{pins:List (Addr×Obj)}{s:Shared}{σ:St}{H:Hp}{x:Str}{u:Value}{pos:Pos}{Q:Value->Shared->Prop}(I:Inv X pins σ H s)(hg:Gl X x)(hm:X.mg x=some u)(h:Q u s)
  (hd:(x == ("__debug__" : Str))=false:=by decide):wpAny (model X.prog X.w) X.A (eval (.Name x pos) X.env) Q E s:=
 Calls.Name_function_global I.ok.kind hg (Calls.loadGlobal_global (by rw[I.ok.glob];exact I.mod.glob.keeps I.bk) hm h) hd
theorem cN {E:Value->Shared->Prop}{pins:List (Addr×Obj)}{s:Shared}{σ:St}{H:Hp}{x:Str}{u:Value}{pos:Pos}{Q:Value->Shared->Prop}(I:Inv X pins σ H s)(hg:Gl X x)(hm:X.mg x=none)(hv:bootBuiltins x=some u)(h:Q u s)
  (hn:x≠"__name__":=by decide) (hd:(x == ("__debug__" : Str))=false:=by decide):wpAny (model X.prog X.w) X.A (eval (.Name x pos) X.env) Q E s:=by
 obtain⟨mb,h1,h2⟩:=I.mod.blt
 exact Calls.Name_function_global I.ok.kind hg (Calls.loadGlobal_builtin (by rw[I.ok.glob];exact I.mod.glob.keeps I.bk) hm (by rw[I.ok.blt];exact h1.keeps I.bk) ((h2 x hn).trans hv) h) hd
theorem si {x:Str}{v:V}{u:Value}{pos:Pos}(hg:Gl X x)(hm:X.mg x=some u)(r:RelV v u)(hd:(x == ("__debug__" : Str))=false:=by decide):PE X (.Name x pos) (tC v):=
 fun _ _ _ H _ I h=>cA I hg hm ⟨v,H,I,r,h⟩ hd
variable {a b:Expr}{ta tb:TE}{pos:Pos}
def PC (X:Cx)(op:CmpOp)(a b:Expr)(t:TE):Prop:=
 ∀ (pins:List (Addr×Obj)) (s:Shared) (σ:St) (H:Hp) (Q:VK),Inv X pins σ H s->t σ H Q->
  wpAny (model X.prog X.w) X.A (eval a X.env) (fun v DA=>wpAny (model X.prog X.w) X.A (eval b X.env) (fun u F0=>wpAny (model X.prog X.w) X.A (compareOp op v u) (EP X pins σ Q) X.xe F0) X.xe DA) X.xe s
def tB (t:TE):TT:=fun σ H Q=>t σ H fun x H1=>∃ c,x=.bl c/\Q c H1
theorem nM {op:CmpOp}{t:TE}(h:PC X op a b t)(h1:behindInMarks op b=false:=by first|exact HD _ (by decide) (by decide)|rfl):PE X (.Compare a [op] [b] pos) t:=fun pins s σ H Q I hw=>wpAny_Compare1 (h pins s σ H Q I hw) h1
theorem nN {op:CmpOp}{t:TE}(h:PC X op a b t)(h1:behindInMarks op b=false:=by first|exact HD _ (by decide) (by decide)|rfl):PT X (.Compare a [op] [b] pos) (tB t):=by
 intro pins s σ H Q I hw
 refine wpAny_isTrue_Compare1 (DB (h pins s σ H _ I hw) fun v s1 h1=>DB h1 fun u s2 h2=>DB h2 fun c s3 ⟨x,H1,I1,r1,q1⟩=>?_) h1
 obtain⟨d,rfl,q⟩:=q1
 cases r1
 exact wpAny_truthy_bool ⟨H1,I1,q⟩
variable {tA MM:TT}{rest:List Expr}
def zE (t u:TT):TT:=fun σ H Q=>t σ H fun c H1=>if c=true then u σ H1 Q else Q false H1
def Rz (t u:TT):TT:=fun σ H Q=>t σ H fun c H1=>if c=true then Q true H1 else u σ H1 Q
def Co (t:TT):TT:=fun σ H Q=>t σ H fun c H1=>Q (!c) H1
theorem sj (ha:PT X a tA):PW X (.BoolOp .And [a] pos) tA:=by
 intro wh pins s σ H Q I h
 refine isTrue_and (DB (ha pins s σ H Q I h) fun c s1 e=>?_)
 cases c with
 | true=>exact isTrue_and_nil e
 | false=>exact e
theorem xh (ha:PT X a tA):PW X (.BoolOp .Or [a] pos) tA:=by
 intro wh pins s σ H Q I h
 refine isTrue_or (DB (ha pins s σ H Q I h) fun c s1 e=>?_)
 cases c with
 | false=>exact isTrue_or_nil e
 | true=>exact e
theorem xi (ha:PT X a tA)(hb:PW X (.BoolOp .And (b::rest) pos) MM):PW X (.BoolOp .And (a::b::rest) pos) (zE tA MM):=by
 intro wh pins s σ H Q I h
 refine isTrue_and (DB (ha pins s σ H _ I h) fun c s1 ⟨H1,I1,q1⟩=>?_)
 cases c with
 | true=>exact hb wh pins s1 σ H1 Q I1 q1
 | false=>exact⟨H1,I1,q1⟩
theorem zF (ha:PT X a tA)(hb:PW X (.BoolOp .Or (b::rest) pos) MM):PW X (.BoolOp .Or (a::b::rest) pos) (Rz tA MM):=by
 intro wh pins s σ H Q I h
 refine isTrue_or (DB (ha pins s σ H _ I h) fun c s1 ⟨H1,I1,q1⟩=>?_)
 cases c with
 | true=>exact⟨H1,I1,q1⟩
 | false=>exact hb wh pins s1 σ H1 Q I1 q1
theorem xk (ha:PT X a tA):PT X (.UnaryOp .Not a pos) (Co tA):=by
 intro pins s σ H Q I h
 exact isTrue_not (ha pins s σ H (fun c H1=>Q (!c) H1) I h)
theorem nO {op}{t:TE}(h:PE X a t):PE X (.BoolOp op [a] pos) t:=fun pins s σ H Q I hw=>BoolOp_one (h pins s σ H Q I hw)
end
def EB (K:PySem.W.Frag)(H:Hp)(a:Addr)(xs:List V):Prop:=
 Rd H a (.lst xs)∨
  ∃ (o:Obj) (its:Array Value) (n:Nat),K.lookup a=some o/\o.cls=.type "list"/\o.dict=none/\o.data=.seq its n/\its.size<=sizeLine/\Vals xs its.toList
def EJ (K:PySem.W.Frag)(H:Hp)(a:Addr)(xs:List V):Prop:=
 Rd H a (.tup xs)∨
  ∃ (o:Obj) (its:Array Value) (n:Nat),K.lookup a=some o/\o.cls=.type "tuple"/\o.data=.seq its n/\its.size<=sizeLine/\Vals xs its.toList
noncomputable def Cp:Value->Option V
 | .none=>some .DE
 | .bool b=>some (.bl b)
 | .int i _=>some (.int i)
 | .str x _=>some (.str x)
 | .bytes b _=>some (.JP b)
 | .float b _=>some (.Nw b)
 | .ref a=>some (.ref a)
 | .type n=>some (.ty n)
 | _=>none
theorem RelV.abs {x:V}{u:Value}(r:RelV x u):Cp u=some x:=by
 cases x with
 | DE=>cases r;rfl
 | bl _=>cases r;rfl
 | int _=>obtain⟨t,rfl⟩:=r;rfl
 | str _=>obtain⟨t,rfl⟩:=r;rfl
 | JP _=>obtain⟨t,rfl⟩:=r;rfl
 | Nw _=>obtain⟨t,rfl⟩:=r;rfl
 | ref _=>cases r;rfl
 | ty _=>cases r;rfl
theorem RelV.inj {x y:V}{u:Value}(r:RelV x u)(q:RelV y u):x=y:=Option.some.inj (r.abs.symm.trans q.abs)
theorem Vals.inj:∀ {xs ys:List V}{us:List Value},Vals xs us->Vals ys us->xs=ys
 | _,_,_,.nil,.nil=>rfl
 | _,_,_,.cons r t,.cons r' t'=>by rw[r.inj r',Vals.inj t t']
section
variable {X:Cx}{pins:List (Addr×Obj)}{σ:St}{H:Hp}{s:Shared}{a:Addr}{xs ys:List V}
theorem EJ.of {K:PySem.W.Frag}(h:H a=some (.tup xs)):EJ K H a xs:=.inl (.inl h)
theorem Inv.list (I:Inv X pins σ H s)(h:EB X.K H a xs):∃ its:List Value,Vals xs its/\PlainL s.heap a its.toArray/\xs.length<=sizeLine:=by
 rcases h with h|⟨o,its,n,hk,hc,hd,hs,hz,r⟩
 ·obtain⟨z,its,n,r,e⟩:=h.ok I.Dz
  exact⟨its,r,⟨_,n,e,rfl,rfl,rfl⟩,z⟩
 ·refine⟨its.toList,r,⟨o,n,I.G7 a o hk,hc,hd,by simpa using hs⟩,?_⟩
  have e:=r.length
  simp only[Array.length_toList] at e
  omega
theorem Inv.tuple (I:Inv X pins σ H s)(h:EJ X.K H a xs):∃ its:List Value,Vals xs its/\IsTup s.heap a its.toArray/\xs.length<=sizeLine:=by
 rcases h with h|⟨o,its,n,hk,hc,hs,hz,r⟩
 ·obtain⟨z,its,r,p⟩:=h.ok I.Dz
  exact⟨its,r,p,z⟩
 ·refine⟨its.toList,r,⟨o,I.G7 a o hk,hc,n,by simpa using hs⟩,?_⟩
  have e:=r.length
  simp only[Array.length_toList] at e
  omega
theorem Inv.D9 (I:Inv X pins σ H s)(h:EB X.K H a xs)(h':EB X.K H a ys):xs=ys:=by
 obtain⟨its,r,⟨o,n,e,_,_,d⟩,_⟩:=I.list h
 obtain⟨its',r',⟨o',n',e',_,_,d'⟩,_⟩:=I.list h'
 rw[e] at e';cases e'
 rw[d] at d'
 injection d' with d1 _
 have:its=its':=by simpa using congrArg Array.toList d1
 subst this
 exact r.inj r'
theorem Inv.EU (I:Inv X pins σ H s)(h:EJ X.K H a xs)(h':EJ X.K H a ys):xs=ys:=by
 obtain⟨its,r,⟨o,e,_,n,d⟩,_⟩:=I.tuple h
 obtain⟨its',r',⟨o',e',_,n',d'⟩,_⟩:=I.tuple h'
 rw[e] at e';cases e'
 rw[d] at d'
 injection d' with d1 _
 have:its=its':=by simpa using congrArg Array.toList d1
 subst this
 exact r.inj r'
end
noncomputable abbrev Cx.FE (X:Cx)(E:Value->Shared->Prop):Cx:={X with xe:=E}
noncomputable abbrev Cx.Ej (X:Cx):Cx:=X.FE fun _ _=>False
theorem Cx.Ok.FE {X:Cx}(ok:X.Ok)(E:Value->Shared->Prop):(X.FE E).Ok:=
 ⟨ok.mod,ok.kind,ok.glob,ok.blt,ok.above,ok.inj,ok.has,ok.KY,ok.hd,ok.frames,ok.Dq,ok.Ly,ok.bs,ok.Hq,ok.G5,ok.G6,ok.En,ok.Gi⟩
theorem Cx.Ok.EV {X:Cx}{E:Value->Shared->Prop}(ok:(X.FE E).Ok):X.Ok:=
 ⟨ok.mod,ok.kind,ok.glob,ok.blt,ok.above,ok.inj,ok.has,ok.KY,ok.hd,ok.frames,ok.Dq,ok.Ly,ok.bs,ok.Hq,ok.G5,ok.G6,ok.En,ok.Gi⟩
section
variable {X:Cx}{pins:List (Addr×Obj)}{σ:St}{H:Hp}{s:Shared}{E:Value->Shared->Prop}
theorem Inv.FE (I:Inv X pins σ H s)(E:Value->Shared->Prop):Inv (X.FE E) pins σ H s:=⟨I.ok.FE E,I.os,I.bare,I.base,I.loc,I.cell,I.free,I.Ef,I.pin,I.Dz,I.len⟩
theorem Inv.EV (I:Inv (X.FE E) pins σ H s):Inv X pins σ H s:=⟨I.ok.EV,I.os,I.bare,I.base,I.loc,I.cell,I.free,I.Ef,I.pin,I.Dz,I.len⟩
end
section
variable {X:Cx}{st:Stmt}{rest:List Stmt}{t u:TS}{e:Expr}{te:TE}{pos:Pos}
def nP:TS:=fun D σ H=>D.nx σ H
def Cq (t u:TS):TS:=fun D σ H=>t {D with nx:=u D} σ H
theorem gU:Gj X [] nP:=fun _ _ σ H _ I h=>wpAny_execs_nil ⟨σ,H,I,h⟩
theorem dH (h1:PS X st t)(h2:Gj X rest u):Gj X (st::rest) (Cq t u):=by
 intro pins s σ H D I h
 refine wpAny_execs_cons (DB (h1 pins s σ H {D with nx:=u D} I h) fun f s1 q=>?_)
 cases f with
 | next=>
  obtain⟨Dy,H',I',q⟩:=q
  exact h2 pins s1 Dy H' D I' q
 | ret v=>exact q
 | brk=>exact q
 | cont=>exact q
def xl:TS:=fun D σ H=>D.bk σ H
def zG:TS:=fun D σ H=>D.ct σ H
theorem sk:PS X (.Pass pos) nP:=fun _ _ σ H _ I h=>wpAny_Pass ⟨σ,H,I,h⟩
theorem nQ:PS X (.Break pos) xl:=fun _ _ σ H _ I h=>wpAny_Break ⟨σ,H,I,h⟩
theorem iX:PS X (.Continue pos) zG:=fun _ _ σ H _ I h=>wpAny_Continue ⟨σ,H,I,h⟩
theorem Inv.quiet {pins:List (Addr×Obj)}{σ:St}{H:Hp}{s:Shared}(I:Inv X pins σ H s):interactive X.env=false:=by simp[interactive,I.ok.kind]
theorem xn {x j pos pos'}:PS X (.Expr (.Constant (.str x) j pos) pos') nP:=fun _ s σ H _ I h=>wpAny_Expr (Calls.Constant_str (show SP X _ _ .next {s with toks:=s.toks+1} from ⟨σ,H,I.tok _,h⟩)) I.quiet
def zH (te:TE):TS:=fun D σ H=>te σ H fun _ H1=>D.nx σ H1
theorem gV (he:PE X e te)(hs:swapsWith e none pos.line X.env=pure false:=by rfl):PS X (.Expr e pos) (zH te):=by
 intro pins s σ H D I h
 exact wpAny_Expr_any (DB (he pins s σ H _ I h) fun v s1 ⟨x,H1,I1,r1,q1⟩=>⟨σ,H1,I1,q1⟩) I.quiet hs
def Cr (te:TE):TS:=fun D σ H=>te σ H D.rt
theorem nR (he:PE X e te):PS X (.Return (some e) pos) (Cr te):=by
 intro pins s σ H D I h
 exact wpAny_Return_some (DB (he pins s σ H _ I h) fun v s1 ⟨x,H1,I1,r1,q1⟩=>⟨x,σ,H1,I1,r1,q1⟩)
def zI:TS:=fun D _ H=>D.rt .DE H
theorem so:PS X (.Return none pos) zI:=fun _ _ σ H _ I h=>wpAny_Return_none ⟨.DE,σ,H,I,rfl,h⟩
def Cs (c:TT)(t u:TS):TS:=fun D σ H=>c σ H fun b H1=>if b=true then t D σ H1 else u D σ H1
theorem zJ {c:Expr}{a b:List Stmt}{tc:TT}(hc:PT X c tc)(ha:Gj X a t)(hb:Gj X b u):PS X (.If c a b pos) (Cs tc t u):=by
 intro pins s σ H D I h
 refine wpAny_If (DB (hc pins s σ H _ I h) fun d s1 ⟨H1,I1,q1⟩=>?_)
 cases d with
 | true=>exact ha pins s1 σ H1 D I1 q1
 | false=>exact hb pins s1 σ H1 D I1 q1
def xo:TS:=fun _ _ _=>False
theorem nT:PS X st xo:=fun _ _ _ _ _ _ h=>h.elim
end
noncomputable abbrev TG:=V->St->Hp->(St->Hp->Prop)->Prop
noncomputable abbrev Jp:=List V->St->Hp->(St->Hp->Prop)->Prop
def PG (X:Cx)(target:Expr)(t:TG):Prop:=
 ∀ (pins:List (Addr×Obj)) (s:Shared) (σ:St) (H:Hp) (v:V) (u:Value) (Q:St->Hp->Prop),Inv X pins σ H s->RelV v u->t v σ H Q->
  wpAny (model X.prog X.w) X.A (assign target X.env u) (fun _ s'=>∃ Dy H',Inv X pins Dy H' s'/\Q Dy H') X.xe s
def LF (X:Cx)(ts:List Expr)(t:Jp):Prop:=
 ∀ (pins:List (Addr×Obj)) (s:Shared) (σ:St) (H:Hp) (vs:List V) (us:List Value) (Q:St->Hp->Prop),Inv X pins σ H s->Vals vs us->t vs σ H Q->
  wpAny (model X.prog X.w) X.A (assignInOrder ((assignEach ts X.env).map (·.2)) us) (fun _ s'=>∃ Dy H',Inv X pins Dy H' s'/\Q Dy H') X.xe s
section
variable {X:Cx}{pos:Pos}
def nU (i:Nat):TG:=fun v σ H Q=>Q (σ.set i (some v)) H
theorem su {i:Nat}{x:Str}(hN:X.N.Nodup)(hi:X.N[i]? = some x)(hx:Loc X.env.scope x)(hf:X.fn x=true∨X.env.scope.names.lookup x=some .local:=by first|exact .inl rfl|exact .inr rfl|assumption):PG X (.Name x pos) (nU i):=by
 intro pins s σ H v u Q I r h
 exact wpAny_assign_Name (iW I hN hi hx r (fun s' I'=>⟨_,H,I',h⟩) hf)
def zK:Jp:=fun vs σ H Q=>vs=[]/\Q σ H
def uO (t:TG)(u:Jp):Jp:=fun vs σ H Q=>∃ v r,vs=v::r/\t v σ H fun Dy H'=>u r Dy H' Q
theorem sv:LF X [] zK:=by
 intro pins s σ H vs us Q I r h
 obtain⟨e,h⟩:=h
 subst e
 cases r
 exact assignInOrder_nil ⟨σ,H,I,h⟩
theorem nV {e:Expr}{es:List Expr}{t:TG}{u:Jp}(h1:PG X e t)(h2:LF X es u)
  (hs:(assignEach (e::es) X.env).map (·.2)=assign e X.env::(assignEach es X.env).map (·.2):=by rfl):LF X (e::es) (uO t u):=by
 intro pins s σ H vs us Q I r h
 obtain⟨v,vr,e1,h⟩:=h
 subst e1
 cases r with
 | cons r rr=>
  rw[hs]
  refine assignInOrder_cons (DB (h1 pins s σ H _ _ _ I r h) fun _ s1 ⟨LG,H1,I1,q1⟩=>?_)
  exact h2 pins s1 LG H1 _ _ Q I1 rr q1
def xq (te:TE)(g:TG):TS:=fun D σ H=>te σ H fun x H1=>g x σ H1 D.nx
theorem xr {tg e:Expr}{te:TE}{g:TG}(he:PE X e te)(hg:PG X tg g)(hs:swapsWithSole [tg] e pos.line X.env=pure false:=by rfl)(hw:swappedStores [tg] e X.env=pure none:=by rfl)
  (h1:(assignEach [tg] X.env).map (·.2)=[assign tg X.env]:=by rfl):PS X (.Assign [tg] e pos) (xq te g):=by
 intro pins s σ H D I h
 refine wpAny_Assign_stores (DB (he pins s σ H _ I h) fun v s1 ⟨x,H1,I1,r1,q1⟩=>?_) hs hw
 rw[h1]
 exact DB (hg pins s1 σ H1 x v _ I1 r1 q1) fun _ s2 q=>q
theorem jP {i:Nat}{x:Str}{e:Expr}{te:TE}{pos':Pos}(hN:X.N.Nodup)(hi:X.N[i]? = some x)(hx:Loc X.env.scope x)(he:PE X e te)(hs:swapsWith e (some (.Name x pos')) pos.line X.env=pure false:=by rfl)(hf:X.fn x=true∨X.env.scope.names.lookup x=some .local:=by first|exact .inl rfl|exact .inr rfl|assumption) :
  PS X (.Assign [.Name x pos'] e pos) (xq te (nU i)):=by
 intro pins s σ H D I h
 refine wpAny_Assign_Name (DB (he pins s σ H _ I h) fun v s1 ⟨y,H1,I1,r1,q1⟩=>?_) hs
 exact iW I1 hN hi hx r1 (fun s2 I2=>⟨_,H1,I2,q1⟩) hf
end
structure It where
 go:Nat->Hp->Prop
 Ih:Nat->Hp->V->Hp->Prop
 stop:Nat->Hp->Prop
def dq (X:Cx)(pins:List (Addr×Obj))(H:Hp)(b:Addr):Prop:=
 H b=none/\b≠X.env.locals/\b∉X.fs/\(b∈X.ex∨X.DW.heap.objs.size<=b)/\(∀ x c,X.env.cells.lookup x=some c->c≠b)/\∀ p∈X.pn++pins,p.1≠b
theorem Inv.Gw {X:Cx}{pins:List (Addr×Obj)}{σ:St}{H H':Hp}{s:Shared}{b:Addr}(I:Inv X pins σ H s)(hb:s.heap.objs.size<=b)(hn:H' b=none):dq X pins H' b:=by
 refine⟨hn,Nat.ne_of_gt (Nat.lt_of_lt_of_le I.lt hb),I.Nz hb,.inr (Nat.le_trans I.sz hb),fun x c e z=>?_,fun p hp z=>?_⟩
 ·obtain⟨v,q⟩:=I.cell x c e
  exact absurd (Nat.lt_of_lt_of_le q.lt (by rw[z];exact hb)) (Nat.lt_irrefl _)
 ·exact absurd (Nat.lt_of_lt_of_le (Heap.lt_size (I.pin p hp).1) (by rw[z];exact hb)) (Nat.lt_irrefl _)
structure Turn (P:Program)(w:World)(K:PySem.W.Frag)(tg:Expr)(J:It)(fp:List Addr)(it:Addr)(tn:Nat->Heap->Prop):Prop where
 mem:it∈fp
 obj:∀ i h,tn i h->∀ b∈fp,∃ o,h.get? b=some o/\∀ v,o.data≠.cell v
 keep:∀ i h h',tn i h->(∀ b∈fp,∀ o,h.get? b=some o->h'.get? b=some o)->tn i h'
 item:∀ (X:Cx),X.prog=P->X.w=w->X.K=K->X.calm=true->∀ (i:Nat) (pins:List (Addr×Obj)) (s:Shared) (σ:St) (H:Hp) (E:Value->Shared->Prop),Inv X pins σ H s->(∀ b∈fp,dq X pins H b)->tn i s.heap->J.go i H->
  wpAny (model P w) X.A (pyNext (.ref it)) (fun r s1=>∃ u,r=some u/\
   wpAny (model P w) X.A (letOwnedTupleGo tg (.ref it) u) (fun _ s2=>∃ x H',Inv X pins σ H' s2/\RelV x u/\J.Ih i H x H'/\tn (i+1) s2.heap/\∀ b∈fp,H' b=none) E s1) E s
 done:∀ (X:Cx),X.prog=P->X.w=w->X.K=K->X.calm=true->∀ (i:Nat) (pins:List (Addr×Obj)) (s:Shared) (σ:St) (H:Hp) (E:Value->Shared->Prop),Inv X pins σ H s->(∀ b∈fp,dq X pins H b)->tn i s.heap->J.stop i H->
  wpAny (model P w) X.A (pyNext (.ref it)) (fun r s1=>r=none/\Inv X pins σ H s1) E s
 self:∀ (A:Around) (i:Nat) (s:Shared) (Q:Value->Shared->Prop) (E:Value->Shared->Prop),tn i s.heap->Q (.ref it) s->wpAny (model P w) A (pyIter (.ref it)) Q E s
noncomputable abbrev TI:=St->Hp->(It->Hp->Prop)->Prop
def K0 (X:Cx)(pins:List (Addr×Obj))(σ:St)(tg:Expr)(R:It->Hp->Prop)(MN:Value)(s2:Shared):Prop:=
 ∃ (it:Addr) (fp:List Addr) (tn:Nat->Heap->Prop) (J:It) (H':Hp),MN=.ref it/\Inv X pins σ H' s2/\Turn X.prog X.w X.K tg J fp it tn/\tn 0 s2.heap/\(∀ b∈fp,dq X pins H' b)/\R J H'
def PI (X:Cx)(tg iter:Expr)(wi:TI):Prop:=
 ∀ (pins:List (Addr×Obj)) (s:Shared) (σ:St) (H:Hp) (R:It->Hp->Prop),Inv X pins σ H s->wi σ H R->
  wpAny (model X.prog X.w) X.A (eval iter X.env) (fun v s1=>wpAny (model X.prog X.w) X.A (pyIter v) (K0 X pins σ tg R) X.xe s1) X.xe s
theorem iY {M : Model}{A : Around}{E : Value -> Shared -> Prop}{s : Shared}{tg : Expr}{it : Addr}{u : Value}{o : Obj}{n : String}{vs : Array Value}{Q : Unit -> Shared -> Prop}(ho : s.heap.get? it = some o)(hc : o.cls = .type n)(hd : o.data = .fields vs)
    (hn : ["enumerate", "zip", "dict_itemiterator", "dict_reverseitemiterator", "odict_iterator", "itertools.zip_longest", "itertools.pairwise"].contains n = false) (hQ : Q () s) : wpAny M A (letOwnedTupleGo tg (.ref it) u) Q E s := by
  unfold letOwnedTupleGo
  cases tg <;> first
    | exact wpAny_pure hQ
    | (cases u <;> first
        | exact wpAny_pure hQ
        | (refine wpAny_bind (wpAny_load ho ?_)
           rw [hc, hd]
           show wpAny M A (if (["enumerate", "zip", "dict_itemiterator", "dict_reverseitemiterator", "odict_iterator", "itertools.zip_longest", "itertools.pairwise"].contains n&&vs[0]? == some (rawInt _)) = true then _ else _) Q E s
           rw [if_neg (by intro h; rw [hn, Bool.false_and] at h; cases h)]
           exact wpAny_pure hQ))
noncomputable def MO (K:PySem.W.Frag)(a:Addr):It:=
 ⟨fun i H=>∃ xs x,EB K H a xs/\xs[i]? = some x,fun i H x H'=>H'=H/\∀ xs,EB K H a xs->xs[i]? = some x,fun i H=>∃ xs,EB K H a xs/\xs.length<=i⟩
noncomputable def NB (K:PySem.W.Frag)(a:Addr):It:=
 ⟨fun i H=>∃ xs x,EJ K H a xs/\xs[i]? = some x,fun i H x H'=>H'=H/\∀ xs,EJ K H a xs->xs[i]? = some x,fun i H=>∃ xs,EJ K H a xs/\xs.length<=i⟩
noncomputable def K1 (lo:Int)(n:Nat):It:=⟨fun i _=>i < n,fun i H x H'=>H'=H/\x=.int (lo+i),fun i _=>n<=i⟩
theorem mR {P:Program}{w:World}{K:PySem.W.Frag}{tg:Expr}(a it:Addr):Turn P w K tg (MO K a) [it] it (fun i h=>h.IsListIter it a i) where
 mem:=by simp
 obj:=fun i h st b hb=>by
  have e:b=it:=by simpa using hb
  subst e
  obtain⟨o,e,c,d⟩:=st
  exact⟨o,e,fun v z=>by rw[d] at z;cases z⟩
 keep:=fun i h h' st k=>st.at fun o e=>k it (by simp) o e
 item:=by
  intro X hP hw hK hc i pins s σ H E I hf st hg
  subst hP hw hK
  obtain⟨xs,x,hq,hx⟩:=hg
  obtain⟨its,rv,p,hz⟩:=I.list hq
  obtain⟨u,hu,ru⟩:=rv.get hx
  obtain⟨f0,f1,f2,f3,f4,f5⟩:=hf it (by simp)
  refine wpAny_pyNext_list_item st p.isList (x:=u) (by simpa using hu) fun h' FW sb=>?_
  have I1:Inv X pins σ H {s with heap:=h'}:=I.turned (t':=s.toks) (fun b o hb e=>(sb.2 b hb).trans e) f0 f1 f3 f4 f5
  obtain⟨o,e,c,d⟩:=id FW
  exact⟨u,rfl,iY (s:={s with heap:=h'}) e c d (by decide) ⟨x,H,I1,ru,⟨rfl,fun ys hy=>by rw[I.D9 hy hq];exact hx⟩,FW,fun b hb=>(hf b hb).1⟩⟩
 done:=by
  intro X hP hw hK hc i pins s σ H E I hf st hg
  subst hP hw hK
  obtain⟨xs,hq,hx⟩:=hg
  obtain⟨its,rv,p,hz⟩:=I.list hq
  obtain⟨f0,f1,f2,f3,f4,f5⟩:=hf it (by simp)
  have hl:=rv.length
  exact wpAny_pyNext_list_end (I.ok.hd hc) st p.isList (by simp;omega) fun h' eb=>⟨rfl,I.turned (t':=s.toks) (fun b o hb e=>eb b o hb e) f0 f1 f3 f4 f5⟩
 self:=fun _ _ _ _ _ st h=>wpAny_pyIter_listiter st h
theorem jQ {P:Program}{w:World}{K:PySem.W.Frag}{tg:Expr}(a it:Addr):Turn P w K tg (NB K a) [it] it (fun i h=>h.IsTupleIter it a i) where
 mem:=by simp
 obj:=fun i h st b hb=>by
  have e:b=it:=by simpa using hb
  subst e
  obtain⟨o,e,c,d⟩:=st
  exact⟨o,e,fun v z=>by rw[d] at z;cases z⟩
 keep:=fun i h h' st k=>st.at fun o e=>k it (by simp) o e
 item:=by
  intro X hP hw hK hc i pins s σ H E I hf st hg
  subst hP hw hK
  obtain⟨xs,x,hq,hx⟩:=hg
  obtain⟨its,rv,p,hz⟩:=I.tuple hq
  obtain⟨u,hu,ru⟩:=rv.get hx
  obtain⟨f0,f1,f2,f3,f4,f5⟩:=hf it (by simp)
  refine wpAny_pyNext_tuple_item st (show s.heap.IsTuple a its.toArray from p) (x:=u) (by simpa using hu) fun h' FW sb=>?_
  have I1:Inv X pins σ H {s with heap:=h'}:=I.turned (t':=s.toks) (fun b o hb e=>(sb.2 b hb).trans e) f0 f1 f3 f4 f5
  obtain⟨o,e,c,d⟩:=id FW
  exact⟨u,rfl,iY (s:={s with heap:=h'}) e c d (by decide) ⟨x,H,I1,ru,⟨rfl,fun ys hy=>by rw[I.EU hy hq];exact hx⟩,FW,fun b hb=>(hf b hb).1⟩⟩
 done:=by
  intro X hP hw hK hc i pins s σ H E I hf st hg
  subst hP hw hK
  obtain⟨xs,hq,hx⟩:=hg
  obtain⟨its,rv,p,hz⟩:=I.tuple hq
  obtain⟨f0,f1,f2,f3,f4,f5⟩:=hf it (by simp)
  have hl:=rv.length
  exact wpAny_pyNext_tuple_end (I.ok.hd hc) st (show s.heap.IsTuple a its.toArray from p) (by simp;omega) fun h' eb=>⟨rfl,I.turned (t':=s.toks) (fun b o hb e=>eb b o hb e) f0 f1 f3 f4 f5⟩
 self:=fun _ _ _ _ _ st h=>wpAny_pyIter_tupleiter st h
theorem jR {P:Program}{w:World}{K:PySem.W.Frag}{tg:Expr}(it:Addr)(lo:Int)(n:Nat):Turn P w K tg (K1 lo n) [it] it (fun i h=>IsRangeIter h it (lo+(i:Nat)*1) ((n:Int) - (i:Nat)) 1) where
 mem:=by simp
 obj:=fun i h st b hb=>by
  have e:b=it:=by simpa using hb
  subst e
  exact⟨_,st,fun v z=>by
   have z':Data.fields _=Data.cell v:=z
   cases z'⟩
 keep:=fun i h h' st k=>k it (by simp) _ st
 item:=by
  intro X hP hw hK hc i pins s σ H E I hf st hg
  subst hP hw hK
  obtain⟨f0,f1,f2,f3,f4,f5⟩:=hf it (by simp)
  have W:=Walks.range (prog:=X.prog) (w:=X.w) (I.ok.hd hc) it lo 1 n
  refine W.item i s _ _ hg st fun v h' tk hv FW kk=>?_
  obtain⟨t,rfl⟩:=hv
  have I1:Inv X pins σ H {s with heap:=h',toks:=tk}:=I.turned (fun b o hb e=>kk b o (by simpa using hb) e) f0 f1 f3 f4 f5
  refine⟨_,rfl,iY (s:={s with heap:=h',toks:=tk}) (n:="range_iterator") FW rfl rfl (by decide) ⟨.int (lo+i),H,I1,⟨t,?_⟩,⟨rfl,rfl⟩,FW,fun b hb=>(hf b hb).1⟩⟩
  rw[Int.mul_one]
 done:=by
  intro X hP hw hK hc i pins s σ H E I hf st hg
  subst hP hw hK
  obtain⟨f0,f1,f2,f3,f4,f5⟩:=hf it (by simp)
  exact wpAny_pyNext_range_end (I.ok.hd hc) st (by have:n<=i:=hg;omega) fun h' eb=>⟨rfl,I.turned (t':=s.toks) (fun b o hb e=>eb b o hb e) f0 f1 f3 f4 f5⟩
 self:=fun _ _ _ _ _ st h=>wpAny_pyIter_rangeiter st h
section
variable {X:Cx}{tg:Expr}
theorem iZ {pins:List (Addr×Obj)}{σ:St}{H:Hp}{s:Shared}{R:It->Hp->Prop}{E:Value->Shared->Prop}{lo hi:Int}{t u v:Tok}{tk:Nat}(I:Inv X pins σ H s)(h1 : -(2 ^ 62)<=lo)(h2:lo < 2 ^ 62)(h3 : -(2 ^ 62)<=hi)(h4:hi < 2 ^ 62)
  (q:R (K1 lo (hi - lo).toNat) H):wpAny (model X.prog X.w) X.A (pyIter (.ref s.heap.objs.size)) (K0 X pins σ tg R) E {s with heap:=s.heap.push {cls:=.type "range",data:=.fields #[.int lo t,.int hi u,.int 1 v]},toks:=tk}:=by
 refine wpAny_pyIter_range (IsRange.new ..) (small_one h1 h2 h3 h4) ?_
 have I1:Inv X pins σ H {s with heap:=s.heap.push {cls:=.type "range",data:=.fields #[.int lo t,.int hi u,.int 1 v]},toks:=tk}:=I.kept fun b o e=>Heap.get?_push_of_some _ e
 refine⟨(s.heap.push {cls:=.type "range",data:=.fields #[.int lo t,.int hi u,.int 1 v]}).objs.size,[(s.heap.push {cls:=.type "range",data:=.fields #[.int lo t,.int hi u,.int 1 v]}).objs.size],_,_,H,rfl,
  I1.kept (t':=tk) fun b o e=>Heap.get?_push_of_some _ e,jR _ lo (hi - lo).toNat,?_,fun b hb=>?_,q⟩
 ·have e1:lo+((0:Nat):Int)*1=lo:=by simp
  have e2:(((hi - lo).toNat:Nat):Int) - ((0:Nat):Int)=Builtin.Range.rangeSize lo hi 1:=by rw[rangeSize_one];split<;>omega
  show IsRangeIter _ _ (lo+((0:Nat):Int)*1) ((((hi - lo).toNat:Nat):Int) - ((0:Nat):Int)) 1
  rw[e1,e2]
  exact Heap.get?_push_size _ rfl
 ·have e:b=(s.heap.push {cls:=.type "range",data:=.fields #[.int lo t,.int hi u,.int 1 v]}).objs.size:=by simpa using hb
  subst e
  exact I1.Gw (Nat.le_refl _) (I1.Dz.fresh (Nat.le_refl _))
def zL (ta:TA):TI:=fun σ H R=>ta σ H fun vs H1=>∃ j:Int,vs=[.int j]/\-(2 ^ 62)<=j/\j < 2 ^ 62/\R (K1 0 j.toNat) H1
def zM (ta:TA):TI:=fun σ H R=>ta σ H fun vs H1=>∃ i j:Int,vs=[.int i,.int j]/\(-(2 ^ 62)<=i/\i < 2 ^ 62/\-(2 ^ 62)<=j/\j < 2 ^ 62)/\R (K1 i (j - i).toNat) H1
theorem f7 {a:Expr}{ta:TA}{p pos:Pos}(hg:Gl X "range") (hm:X.mg "range" = none) (ha:PA X [a] ta) (hs:starEach [a] X.env=[(false,eval a X.env)]:=by rfl):PI X tg (.Call (.Name "range" p) [a] [] pos) (zL ta):=by
 intro pins s σ H R I h
 refine Call_ (cN I hg hm boot_range (PyProof.Rows.callWith_type1 (DB (ha pos pins s σ H _ I h) fun us s1 ⟨vs,H1,I1,r1,q1⟩=>?_) hs rfl))
 obtain⟨j,e,q1,q2,q⟩:=q1
 subst e
 cases r1 with
 | cons r rr=>
  cases rr
  obtain⟨t,rfl⟩:=r
  exact call_range_1 (iZ I1 (by omega) (by omega) q1 q2 (by simpa using q))
theorem f9 {a b:Expr}{ta:TA}{p pos:Pos}(hg:Gl X "range") (hm:X.mg "range" = none) (ha:PA X [a,b] ta) (hs:starEach [a,b] X.env=[(false,eval a X.env),(false,eval b X.env)]:=by rfl) (GN:starEach [b] X.env=[(false,eval b X.env)]:=by rfl) :
  PI X tg (.Call (.Name "range" p) [a,b] [] pos) (zM ta):=by
 intro pins s σ H R I h
 refine Call_ (cN I hg hm boot_range (PyProof.Rows.callWith_type1 (DB (ha pos pins s σ H _ I h) fun us s1 ⟨vs,H1,I1,r1,q1⟩=>?_) (by rw[hs,GN]) (by rw[GN];rfl)))
 obtain⟨i,j,e,⟨q1,q2,q3,q4⟩,q⟩:=q1
 subst e
 cases r1 with
 | cons r rr=>
  cases rr with
  | cons r' rr=>
   cases rr
   obtain⟨t,rfl⟩:=r
   obtain⟨t',rfl⟩:=r'
   exact call_range_2 (iZ I1 q1 q2 q3 q4 q)
def Ct (wi:TI)(g:TG)(tb:TS):TS:=fun D σ H=>wi σ H fun J H1=>∃ W:Nat->Nat->St->Hp->Prop,(∃ m,W 0 m σ H1)/\∀ i m σ H,W i m σ H->
 (J.stop i H/\D.nx σ H)∨(J.go i H/\∃ N:St->Hp->Prop,(∀ Dy H',N Dy H'->∃ m',m' < m/\W (i+1) m' Dy H')/\∀ x H',J.Ih i H x H'->g x σ H' fun FG H2=>tb {D with nx:=N,ct:=N,bk:=D.nx} FG H2)
noncomputable def d9 (fp:List Addr)(h:Heap):List (Addr×Obj):=fp.filterMap fun b=>(h.get? b).map fun o=>(b,o)
theorem cB {fp:List Addr}{h:Heap}{b:Addr}{o:Obj}(hb:b∈fp)(e:h.get? b=some o):(b,o)∈d9 fp h:=List.mem_filterMap.mpr ⟨b,hb,by rw[e];rfl⟩
theorem mS {fp:List Addr}{h:Heap}{p:Addr×Obj}(hp:p∈d9 fp h):p.1∈fp/\h.get? p.1=some p.2:=by
 obtain⟨b,hb,e⟩:=List.mem_filterMap.mp hp
 cases q:h.get? b with
 | none=>rw[q] at e;cases e
 | some o=>
  rw[q] at e
  have e':(b,o)=p:=Option.some.inj e
  subst e'
  exact⟨hb,q⟩
theorem Inv.pinned {pins:List (Addr×Obj)}{σ:St}{H:Hp}{s:Shared}{fp:List Addr}(I:Inv X pins σ H s)(hf:∀ b∈fp,dq X pins H b)(ho:∀ b∈fp,∃ o,s.heap.get? b=some o/\∀ v,o.data≠.cell v):Inv X (pins++d9 fp s.heap) σ H s:=
 I.GK fun p hp=>(List.mem_append.mp hp).elim (fun z=>I.pin p (List.mem_append_right _ z)) fun z=>by
  obtain⟨hb,e⟩:=mS z
  obtain⟨f0,f1,f2,_⟩:=hf p.1 hb
  obtain⟨o,e',d⟩:=ho p.1 hb
  rw[e] at e';cases e'
  exact⟨e,f0,f1,f2,d⟩
theorem Inv.EK {pins pl:List (Addr×Obj)}{σ:St}{H:Hp}{s:Shared}(I:Inv X (pins++pl) σ H s):Inv X pins σ H s:=I.GK fun p hp=>I.pin p (List.mem_append_right _ (List.mem_append_left _ hp))
theorem jS {iter:Expr}{body:List Stmt}{wi:TI}{g:TG}{tb:TS}{pos:Pos}(hp:PassesOwn (model X.prog X.w) X.A X.env X.xe)(hc:X.calm=true)(hi:PI X tg iter wi)(hg:PG X tg g)(hb:Gj X body tb)
  (hs:∀ x,foldedSetIterable iter X.env x=pure x:=by intro _;rfl):PS X (.For tg iter body [] pos) (Ct wi g tb):=by
 intro pins s σ H D I h
 refine wpAny_For (DB (hi pins s σ H _ I h) fun v s1 h1=>DB h1 fun MN s2 h2=>?_) hs
 obtain⟨it,fp,tn,J,H2,e,I2,T,Ii,f2,W,⟨m0,w0⟩,turn⟩:=h2
 subst e
 -- NC stays true of JW JX objects through JW loop
 have Gx:∀ {H':Hp},(∀ b∈fp,H' b=none)->∀ b∈fp,dq X pins H' b:=fun hn b hb=>⟨hn b hb,(f2 b hb).2⟩
 refine codeAny_forLoop_any (fun n s'=>∃ i Dy H',Inv X pins Dy H' s'/\tn i s'.heap/\(∀ b∈fp,H' b=none)/\W i n Dy H') ?_ m0 ⟨0,σ,H2,I2,Ii,fun b hb=>(f2 b hb).1,w0⟩
 rintro n s3 ⟨i,LH,H3,I3,Pu,Pw,w3⟩
 rcases turn i n LH H3 w3 with ⟨stop,qn⟩|⟨go,N,hN,step⟩
 ·refine wpAny_passesOwn hp (DB (T.done X rfl rfl rfl hc i pins s3 LH H3 X.xe I3 (Gx Pw) Pu stop) fun r s4 ⟨hr,I4⟩=>?_)
  subst hr
  exact wpAny_execs_nil ⟨LH,H3,I4,qn⟩
 ·refine wpAny_passesOwn hp (DB (T.item X rfl rfl rfl hc i pins s3 LH H3 X.xe I3 (Gx Pw) Pu go) fun r s4 ⟨u,hr,h4⟩=>?_)
  subst hr
  refine wpAny_passesOwn hp (DB h4 fun _ s5 ⟨x,H5,I5,r5,y5,LI,ND⟩=>?_)
  have RB:=I5.pinned (Gx ND) (T.obj _ _ LI)
  refine wpAny_passesOwn hp (DB (hg _ s5 LH H5 x u _ RB r5 (step x H5 y5)) fun _ s6 ⟨JY,H6,I6,q6⟩=>?_)
  refine wpAny_passesOwn hp (DB (hb _ s6 JY H6 _ I6 q6) fun f s7 q7=>?_)
  have again:∀ {HE:St}{H7:Hp},Inv X (pins++d9 fp s5.heap) HE H7 s7->N HE H7->∃ m,m < n/\∃ i Dy H',Inv X pins Dy H' s7/\tn i s7.heap/\(∀ b∈fp,H' b=none)/\W i m Dy H':=fun {HE H7} I7 n7=>by
   obtain⟨m',hm,w7⟩:=hN HE H7 n7
   refine⟨m',hm,i+1,HE,H7,I7.EK,T.keep _ _ _ LI fun b hb o e=>(I7.pin (b,o) (List.mem_append_right _ (List.mem_append_right _ (cB hb e)))).1,fun b hb=>?_,w7⟩
   obtain⟨o,e,d⟩:=T.obj _ _ LI b hb
   exact(I7.pin (b,o) (List.mem_append_right _ (List.mem_append_right _ (cB hb e)))).2.1
  cases f with
  | next=>obtain⟨HE,H7,I7,n7⟩:=q7;exact again I7 n7
  | cont=>obtain⟨HE,H7,I7,n7⟩:=q7;exact again I7 n7
  | brk=>obtain⟨HE,H7,I7,q7⟩:=q7;exact⟨HE,H7,I7.EK,q7⟩
  | ret v=>obtain⟨x7,HE,H7,I7,r7,q7⟩:=q7;exact⟨x7,HE,H7,I7.EK,r7,q7⟩
end
noncomputable abbrev R2:=V->V->Hp->VK->Prop
def Gk (X:Cx)(f:Value->Value->Sem Value)(r:R2):Prop:=
 ∀ (pins:List (Addr×Obj)) (s:Shared) (σ:St) (H:Hp) (x y:V) (v u:Value) (Q:VK),Inv X pins σ H s->RelV x v->RelV y u->r x y H Q->
  wpAny (model X.prog X.w) X.A (f v u) (EP X pins σ Q) X.xe s
def NG (X:Cx)(f:Value->Sem Value)(r:V->Hp->VK->Prop):Prop:=
 ∀ (pins:List (Addr×Obj)) (s:Shared) (σ:St) (H:Hp) (x:V) (v:Value) (Q:VK),Inv X pins σ H s->RelV x v->r x H Q->
  wpAny (model X.prog X.w) X.A (f v) (EP X pins σ Q) X.xe s
def cg (X:Cx)(f:Value)(r:List V->Hp->VK->Prop):Prop:=
 ∀ (pins:List (Addr×Obj)) (s:Shared) (σ:St) (H:Hp) (xs:List V) (us:List Value) (Q:VK),Inv X pins σ H s->Vals xs us->r xs H Q->
  wpAny (model X.prog X.w) X.A (call f us) (EP X pins σ Q) X.xe s
def Cu (X:Cx)(r:V->Hp->(Bool->Hp->Prop)->Prop):Prop:=
 ∀ (pins:List (Addr×Obj)) (s:Shared) (σ:St) (H:Hp) (x:V) (v:Value) (Q:Bool->Hp->Prop),Inv X pins σ H s->RelV x v->r x H Q->
  wpAny (model X.prog X.w) X.A (truthy v) (TP X pins σ Q) X.xe s
def MP (r:R2)(ta tb:TE):TE:=fun σ H Q=>ta σ H fun x H1=>tb σ H1 fun y H2=>r x y H2 Q
def RC (r:V->Hp->VK->Prop)(ta:TE):TE:=fun σ H Q=>ta σ H fun x H1=>r x H1 Q
noncomputable def rI (C:Int->Int->Prop)(g:Int->Int->V):R2:=fun x y H Q=>∃ i j,x=.int i/\y=.int j/\C i j/\Q (g i j) H
noncomputable def NH (g:Int->Int->V):R2:=fun x y H Q=>∃ i j,x=.int i/\y=.int j/\Q (g i j) H
def rU (g:Int->V):V->Hp->VK->Prop:=fun x H Q=>∃ i,x=.int i/\Q (g i) H
section
variable {X:Cx}{a b c:Expr}{ta tb tc:TE}{pos:Pos}
theorem xu (ha:PE X a ta)(hb:PE X b tb){pins:List (Addr×Obj)}{s:Shared}{σ:St}{H:Hp}{R:V->V->Hp->Prop}(I:Inv X pins σ H s)
  (h:ta σ H fun x H1=>tb σ H1 fun y H2=>R x y H2) {Q:Value->Shared->Prop}{f:Value->Value->Sem Value}
  (hf:∀ v u s2 x y H2,Inv X pins σ H2 s2->RelV x v->RelV y u->R x y H2->wpAny (model X.prog X.w) X.A (f v u) Q X.xe s2) :
  wpAny (model X.prog X.w) X.A (eval a X.env) (fun v DA=>wpAny (model X.prog X.w) X.A (eval b X.env) (fun u F0=>wpAny (model X.prog X.w) X.A (f v u) Q X.xe F0) X.xe DA) X.xe s:=by
 refine DB (ha pins s σ H _ I h) fun v s1 ⟨x,H1,I1,r1,q1⟩=>?_
 refine DB (hb pins s1 σ H1 _ I1 q1) fun u s2 ⟨y,H2,I2,r2,q2⟩=>?_
 exact hf v u s2 x y H2 I2 r1 r2 q2
theorem uP {op:Operator}{r:R2}(ho:Gk X (binaryOp op) r)(ha:PE X a ta)(hb:PE X b tb):PE X (.BinOp a op b pos) (MP r ta tb):=by
 intro pins s σ H Q I h
 exact wpAny_BinOp (xu ha hb I h fun v u s2 x y H2 I2 rx ry q=>ho pins s2 σ H2 x y v u Q I2 rx ry q)
theorem zN {op:UnaryOp}{r:V->Hp->VK->Prop}(ho:NG X (unaryOp op) r)(ha:PE X a ta):PE X (.UnaryOp op a pos) (RC r ta):=by
 intro pins s σ H Q I h
 exact UnaryOp_ (DB (ha pins s σ H _ I h) fun v s1 ⟨x,H1,I1,r1,q1⟩=>ho pins s1 σ H1 x v Q I1 r1 q1)
theorem MQ {f:Value->Value->Sem Value}{C:Int->Int->Prop}{g:Int->Int->Int}
  (rule:∀ (i j:Int) (t u:Tok) (s:Shared) (Q:Value->Shared->Prop) (E:Value->Shared->Prop),C i j->Q (.int (g i j) s.toks) {s with toks:=s.toks+1}->wpAny (model X.prog X.w) X.A (f (.int i t) (.int j u)) Q E s) :
  Gk X f (rI C fun i j=>.int (g i j)):=by
 intro pins s σ H x y v u Q I rx ry h
 obtain⟨i,j,rfl,rfl,hc,q⟩:=h
 obtain⟨t,rfl⟩:=rx
 obtain⟨t',rfl⟩:=ry
 exact rule i j t t' s _ _ hc ⟨.int (g i j),H,I.tok _,⟨_,rfl⟩,q⟩
theorem zO {f:Value->Value->Sem Value}{g:Int->Int->Int}
  (rule:∀ (i j:Int) (t u:Tok) (s:Shared) (Q:Value->Shared->Prop) (E:Value->Shared->Prop),Q (.int (g i j) s.toks) {s with toks:=s.toks+1}->wpAny (model X.prog X.w) X.A (f (.int i t) (.int j u)) Q E s) :
  Gk X f (NH fun i j=>.int (g i j)):=by
 intro pins s σ H x y v u Q I rx ry h
 obtain⟨i,j,rfl,rfl,q⟩:=h
 obtain⟨t,rfl⟩:=rx
 obtain⟨t',rfl⟩:=ry
 exact rule i j t t' s _ _ ⟨.int (g i j),H,I.tok _,⟨_,rfl⟩,q⟩
def Cv (i j:Int):Prop:=0 < j/\j < 1073741824
def Cw (i j:Int):Prop:=0<=j/\j<=1000000/\i.natAbs < 2 ^ 64
def xw (i j:Int):Prop:=(-(2 ^ 64) < i/\i < 2 ^ 64)∨(-(2 ^ 64) < j/\j < 2 ^ 64)
theorem xw.ok {i j:Int}(h:xw i j):IntMulOk i j:=by
 rcases h with ⟨h1,h2⟩|⟨h1,h2⟩
 ·exact .of_left (intBits_le_64 h1 h2)
 ·exact .of_right (intBits_le_64 h1 h2)
theorem xx:Gk X (binaryOp .Add) (NH fun i j=>.int (i+j)):=zO fun _ _ _ _ _ _ _ q=>add_int q
theorem xy:Gk X (binaryOp .Sub) (NH fun i j=>.int (i - j)):=zO fun _ _ _ _ _ _ _ q=>sub_int q
theorem xA:Gk X (binaryOp .Mult) (rI xw fun i j=>.int (i*j)):=MQ fun _ _ _ _ _ _ _ hc q=>mul_int q hc.ok
theorem sx:Gk X (binaryOp .FloorDiv) (rI Cv fun i j=>.int (i / j)):=MQ fun i j _ _ _ _ _ hc q=>by
 have h1:(0:Int) < j:=hc.1
 have h2:j < 1073741824:=hc.2
 exact floordiv_int (by omega) (by rw[Int.fdiv_eq_ediv_of_nonneg i (by omega)];exact q) (.inl (PyProof.noPylong_small (by omega)))
theorem xB:Gk X (binaryOp .Mod) (rI (fun _ j=>0 < j) fun i j=>.int (i % j)):=MQ fun i j _ _ _ _ _ hc q=>by
 have h1:(0:Int) < j:=hc
 exact mod_int' (by omega) (by rw[Int.fmod_eq_emod_of_nonneg i (by omega)];exact q)
theorem xC:Gk X (binaryOp .Pow) (rI Cw fun i j=>.int (i ^ j.toNat)):=MQ fun _ _ _ _ _ _ _ hc q=>pow_int_small hc.1 hc.2.1 hc.2.2 q
theorem RE {f:Value->Sem Value}{g:Int->Int}
  (rule:∀ (i:Int) (t:Tok) (s:Shared) (Q:Value->Shared->Prop) (E:Value->Shared->Prop),Q (.int (g i) s.toks) {s with toks:=s.toks+1}->wpAny (model X.prog X.w) X.A (f (.int i t)) Q E s) :
  NG X f (rU fun i=>.int (g i)):=by
 intro pins s σ H x v Q I rx h
 obtain⟨i,rfl,q⟩:=h
 obtain⟨t,rfl⟩:=rx
 exact rule i t s _ _ ⟨.int (g i),H,I.tok _,⟨_,rfl⟩,q⟩
theorem xD:NG X (unaryOp .USub) (rU fun i=>.int (-i)):=RE fun _ _ _ _ _ q=>neg_int q
end
section
variable {X:Cx}{a b c:Expr}{ta tb tc:TE}{pos:Pos}
theorem sy {op:CmpOp}{r:R2}(ho:Gk X (compareOp op) r)(ha:PE X a ta)(hb:PE X b tb)(hm:behindInMarks op b=false):PE X (.Compare a [op] [b] pos) (MP r ta tb):=by
 intro pins s σ H Q I h
 exact wpAny_Compare1 (xu ha hb I h fun v u s2 x y H2 I2 rx ry q=>ho pins s2 σ H2 x y v u Q I2 rx ry q) hm
def zP (t:TE):TT:=fun σ H Q=>t σ H fun x H'=>∃ k,x=.bl k/\Q k H'
theorem sE {op:CmpOp}{r:R2}(ho:Gk X (compareOp op) r)(ha:PE X a ta)(hb:PE X b tb)(hm:behindInMarks op b=false):PT X (.Compare a [op] [b] pos) (zP (MP r ta tb)):=by
 intro pins s σ H Q I h
 refine wpAny_isTrue_Compare1 (DB (ha pins s σ H _ I h) fun v s1 ⟨x,H1,I1,r1,q1⟩=>DB (hb pins s1 σ H1 _ I1 q1) fun u s2 ⟨y,H2,I2,r2,q2⟩=>
  DB (ho pins s2 σ H2 x y v u _ I2 r1 r2 q2) fun c s3 ⟨z,H3,I3,r3,k,e,q3⟩=>?_) hm
 subst e
 cases r3
 exact wpAny_truthy_bool ⟨H3,I3,q3⟩
def Cy (K:PySem.W.Frag)(x:V)(H:Hp)(k:Bool):Prop:=
 match x with
 | .DE=>k=false
 | .bl b=>k=b
 | .int i=>k=(i != 0)
 | .str y=>y.length<=sizeLine/\k=((y.length:Int) != 0)
 | .JP y=>y.size<=sizeLine/\k=((y.size:Int) != 0)
 | .ref p=>(∃ xs,EB K H p xs/\k = !xs.isEmpty)∨(∃ xs,EJ K H p xs/\k = !xs.isEmpty)∨∃ kvs,H p=some (.dK kvs)/\k = !kvs.isEmpty
 | _=>False
theorem jT {κ:Type}{kvs:List (κ×V)}{vs:List (κ×Value)}(r:KV kvs vs):(!vs.isEmpty) = !kvs.isEmpty:=by
 cases r<;>rfl
theorem eY {xs:List V}{its:List Value}(r:Vals xs its):(!its.toArray.isEmpty) = !xs.isEmpty:=by
 cases r<;>simp
theorem eZ:(sizeLine:Nat) < 2 ^ 63:=by rw[sizeLine_eq];decide
theorem xE:Cu X (fun x H Q=>∃ k,Cy X.K x H k/\Q k H):=by
 intro pins s σ H x v Q I rx h
 obtain⟨k,e,q⟩:=h
 have hl:=eZ
 have hs:sizeLine=16777216:=sizeLine_eq
 cases x with
 | DE=>
  cases rx
  have e':k=false:=e
  subst e'
  exact truthy_none ⟨H,I,q⟩
 | bl b=>
  cases rx
  have e':k=b:=e
  subst e'
  exact wpAny_truthy_bool ⟨H,I,q⟩
 | int i=>
  obtain⟨t,rfl⟩:=rx
  have e':k=(i != 0):=e
  subst e'
  exact PySem.P.truthy_int ⟨H,I,q⟩
 | str y=>
  obtain⟨t,rfl⟩:=rx
  obtain⟨hy,e'⟩:y.length<=sizeLine/\k=((y.length:Int) != 0):=e
  subst e'
  exact PySem.P.truthy_str (by omega) ⟨H,I.tok _,q⟩
 | JP y=>
  obtain⟨t,rfl⟩:=rx
  obtain⟨hy,e'⟩:y.size<=sizeLine/\k=((y.size:Int) != 0):=e
  subst e'
  exact PySem.W.truthy_bytes (by omega) ⟨H,I.tok _,q⟩
 | ref p=>
  cases rx
  have e':(∃ xs,EB X.K H p xs/\k = !xs.isEmpty)∨(∃ xs,EJ X.K H p xs/\k = !xs.isEmpty)∨∃ kvs,H p=some (.dK kvs)/\k = !kvs.isEmpty:=e
  rcases e' with ⟨xs,hx,e'⟩|⟨xs,hx,e'⟩|⟨kvs,hx,e'⟩
  ·subst e'
   obtain⟨its,r,pl,hz⟩:=I.list hx
   have hlen:=r.length
   exact wpAny_truthy_list pl.isList (by simp only[List.size_toArray];omega) ⟨H,I.tok _,by rw[eY r];exact q⟩
  ·subst e'
   obtain⟨its,r,pl,hz⟩:=I.tuple hx
   have hlen:=r.length
   exact truthy_tuple pl (by simp only[List.size_toArray];omega) ⟨H,I.tok _,by rw[eY r];exact q⟩
  ·subst e'
   obtain⟨hz,hS,vs,r,m⟩:kvs.length<=sizeLine/\(p == sysModules)=false/\∃ vs,KV kvs vs/\s.heap.DictOf (aC X.prog X.w) p vs:=I.Dz p _ hx
   have hlen:kvs.length=vs.length:=Paired.length r
   exact wpAny_truthy_dict hS m (by omega) ⟨H,I.tok _,by rw[jT r];exact q⟩
 | _=>exact(show False from e).elim
theorem jU:Gk X (binaryOp .Add) (fun x y H Q=>∃ i j,x=.str i/\y=.str j/\i.length+j.length<=sizeLine/\Q (.str (i++j)) H):=by
 intro pins s σ H x y v u Q I rx ry h
 obtain⟨i,j,rfl,rfl,hz,q⟩:=h
 obtain⟨t,rfl⟩:=rx
 obtain⟨t',rfl⟩:=ry
 exact add_str (fun t' tk=>⟨.str (i++j),H,I.tok _,⟨_,rfl⟩,q⟩) hz
theorem vals1 {x:V}{us:List Value}(r:Vals [x] us):∃ u,us=[u]/\RelV x u:=by
 cases r with
 | cons r1 r2=>cases r2;exact⟨_,rfl,r1⟩
theorem vals2 {x y:V}{us:List Value}(r:Vals [x,y] us):∃ u w',us=[u,w']/\RelV x u/\RelV y w':=by
 cases r with
 | cons r1 r2=>
  cases r2 with
  | cons r3 r4=>cases r4;exact⟨_,_,rfl,r1,r3⟩
theorem mT (hc:X.calm=true):cg X (.builtin "max") (fun xs H Q=>∃ i j,xs=[.int i,.int j]/\Q (.int (if j > i then j else i)) H):=by
 intro pins s σ H xs us Q I r h
 obtain⟨i,j,rfl,q⟩:=h
 obtain⟨u,w',rfl,⟨t,rfl⟩,⟨t',rfl⟩⟩:=vals2 r
 refine max_two_ints (I.ok.hd hc) fun h' tk k=>⟨_,H,I.kept k,?_,q⟩
 by_cases hj:j > i
 ·rw[if_pos hj,if_pos hj];exact⟨_,rfl⟩
 ·rw[if_neg hj,if_neg hj];exact⟨_,rfl⟩
theorem mU (hc:X.calm=true):cg X (.builtin "min") (fun xs H Q=>∃ i j,xs=[.int i,.int j]/\Q (.int (if j < i then j else i)) H):=by
 intro pins s σ H xs us Q I r h
 obtain⟨i,j,rfl,q⟩:=h
 obtain⟨u,w',rfl,⟨t,rfl⟩,⟨t',rfl⟩⟩:=vals2 r
 refine min_two_ints (I.ok.hd hc) fun h' tk k=>⟨_,H,I.kept k,?_,q⟩
 by_cases hj:j < i
 ·rw[if_pos hj,if_pos hj];exact⟨_,rfl⟩
 ·rw[if_neg hj,if_neg hj];exact⟨_,rfl⟩
def Cz (K:PySem.W.Frag)(x:V)(H:Hp)(n:Nat):Prop:=
 match x with
 | .str y=>y.length<=sizeLine/\n=y.length
 | .JP y=>y.size<=sizeLine/\n=y.size
 | .ref p=>(∃ xs,EB K H p xs/\n=xs.length)∨∃ xs,EJ K H p xs/\n=xs.length
 | _=>False
theorem Eo:cg X (.builtin "len") (fun xs H Q=>∃ x n,xs=[x]/\Cz X.K x H n/\Q (.int n) H):=by
 intro pins s σ H xs us Q I r h
 obtain⟨x,n,rfl,e,q⟩:=h
 obtain⟨u,rfl,rx⟩:=vals1 r
 have hl:=eZ
 have hs:sizeLine=16777216:=sizeLine_eq
 cases x with
 | str y=>
  obtain⟨t,rfl⟩:=rx
  obtain⟨hy,e'⟩:y.length<=sizeLine/\n=y.length:=e
  subst e'
  exact len_str (by omega) ⟨.int _,H,I.tok _,⟨_,rfl⟩,q⟩
 | JP y=>
  obtain⟨t,rfl⟩:=rx
  obtain⟨hy,e'⟩:y.size<=sizeLine/\n=y.size:=e
  subst e'
  exact PySem.W.len_bytes (by omega) ⟨.int _,H,I.tok _,⟨_,rfl⟩,q⟩
 | ref p=>
  cases rx
  have e':(∃ xs,EB X.K H p xs/\n=xs.length)∨∃ xs,EJ X.K H p xs/\n=xs.length:=e
  rcases e' with ⟨xs,hx,e'⟩|⟨xs,hx,e'⟩
  ·subst e'
   obtain⟨its,r',pl,hz⟩:=I.list hx
   have hlen:=r'.length
   exact Calls.call_len_list pl.isList (by simp only[List.size_toArray];omega) ⟨.int xs.length,H,I.tok _,⟨_,by simp only[List.size_toArray];rw[hlen]⟩,q⟩
  ·subst e'
   obtain⟨its,r',pl,hz⟩:=I.tuple hx
   have hlen:=r'.length
   exact len_tuple pl (by simp only[List.size_toArray];omega) ⟨.int xs.length,H,I.tok _,⟨_,by simp only[List.size_toArray];rw[hlen]⟩,q⟩
 | _=>exact(show False from e).elim
end
theorem fW.some_of {v:V}{o:Option Value}(r:fW (some v) o):∃ u,o=some u/\RelV v u:=by
 cases o with
 | none=>exact(show False from r).elim
 | some u=>exact⟨u,rfl,r⟩
structure Ep (k:Nat)(A:Around):Prop where
 hd:k < 1000->A.handled=none
 dp:A.depth+3*(k % 1000)+5 < recursionLimit
 un:A.units+16*(k % 1000)+200 < cLine
theorem Ep.deeper {k:Nat}{A:Around}(r:Ep (k+1) A)(env:Env)(hk:k % 1000≠999):Ep k (A.deeper env):=
 ⟨fun z=>r.hd (by omega),by have:=r.dp;show A.depth+1+3*(k % 1000)+5 < _;omega,by have:=r.un;show A.units+3+16*(k % 1000)+200 < _;omega⟩
theorem Ep.depth {k:Nat}{A:Around}(r:Ep k A):A.depth < recursionLimit:=by have:=r.dp;omega
def sF:TA:=fun _ H Q=>Q [] H
def ja (ta:TE)(tr:TA):TA:=fun σ H Q=>ta σ H fun x H1=>tr σ H1 fun xs H2=>Q (x::xs) H2
section
variable {X:Cx}{e:Expr}{es:List Expr}{te:TE}{t:TA}{pos:Pos}
theorem bO:PA X [] sF:=fun _ _ _ _ H Q I h=>Calls.spliced_nil ⟨[],H,I,.nil,h⟩
theorem aN (ha:PE X e te)(hr:PA X es t)(hs:starEach (e::es) X.env=(false,eval e X.env)::starEach es X.env:=by rfl):PA X (e::es) (ja te t):=by
 intro pos pins s σ H Q I h
 rw[hs]
 show wpAny _ _ (spliced ((false,eval e X.env)::backTo pos (starEach es X.env))) _ _ s
 refine Calls.spliced_cons (DB (ha pins s σ H _ I h) fun u s1 ⟨x,H1,I1,r1,q1⟩=>?_)
 exact DB (hr pos pins s1 σ H1 _ I1 q1) fun us s2 ⟨xs,H2,I2,r2,q2⟩=>⟨x::xs,H2,I2,.cons r1 r2,q2⟩
def CA (t:TA):TE:=fun σ H Q=>t σ H fun xs H1=>xs.length<=sizeLine/\∀ p,H1 p=none->Q (.ref p) (upd H1 p (.tup xs))
def CB (t:TA):TE:=fun σ H Q=>t σ H fun xs H1=>xs.length<=sizeLine/\∀ p,H1 p=none->Q (.ref p) (upd H1 p (.lst xs))
theorem nW {x1}(h:PA X es t):PE X (.Tuple es x1 pos) (CA t):=by
 intro pins s σ H Q I hq
 refine wpAny_Tuple_spliced (DB (h pos pins s σ H _ I hq) fun us s1 ⟨xs,H1,I1,r,z,q⟩=>⟨by rw[<- r.length];exact z,?_⟩)
 have hf:H1 s1.heap.objs.size=none:=I1.Dz.fresh (Nat.le_refl _)
 refine⟨.ref s1.heap.objs.size,upd H1 s1.heap.objs.size (.tup xs),I1.laid (t':=s1.toks) (fun b u e=>Heap.get?_push_of_some _ e) (Nat.le_refl _) ?_,rfl,q _ hf⟩
 exact⟨z,us,r,⟨_,Heap.get?_push_size _ rfl,rfl,_,rfl⟩⟩
theorem nX (h:PA X es t):PE X (.List es pos) (CB t):=by
 intro pins s σ H Q I hq
 refine wpAny_List_spliced (DB (h pos pins s σ H _ I hq) fun us s1 ⟨xs,H1,I1,r,z,q⟩=>⟨by rw[<- r.length];exact z,?_⟩)
 have hf:H1 s1.heap.objs.size=none:=I1.Dz.fresh (Nat.le_refl _)
 refine⟨.ref s1.heap.objs.size,upd H1 s1.heap.objs.size (.lst xs),I1.laid (t':=s1.toks) (fun b u e=>Heap.get?_push_of_some _ e) (Nat.le_refl _) ?_,rfl,q _ hf⟩
 exact⟨z,us,0,r,Heap.get?_push_size _ rfl⟩
end
noncomputable abbrev Sp:=List V->Hp->VK->XK->Prop
noncomputable abbrev Er:=List Env->Hp->Shared->XK->Value->Shared->Prop
structure Gy (P:Program)(w:World)(K:PySem.W.Frag)(mg:Str->Option Value)(base:Heap)(A:Around)(outer:List Env)(s:Shared)(H:Hp):Prop where
 frames:A.frames=some outer
 mod:Mod K mg base
 bs:∀ b o,base.get? b=some o->s.heap.get? b=some o/\H b=none
 Hq:base.objs.size<=s.heap.objs.size
 En:s.heap.FunFrames base outer
 Gi:∀ b∈Em outer,H b=none
 Dz:DU P w H s.heap
 bare:AllBare s.gens
def CE (outer:List Env)(P:Program)(w:World)(H:Hp)(s:Shared)(Q:VK)(u:Value)(s':Shared):Prop:=
 ∃ v H',s'.os=s.os/\AllBare s'.gens/\Un (Em outer) [] H H' s.heap s'.heap/\DU P w H' s'.heap/\RelV v u/\Q v H'
def CR (CX:Er)(outer:List Env)(P:Program)(w:World)(H:Hp)(s:Shared)(Q:VK)(E:XK)(r:Result)(s':Shared):Prop:=
 match r with
 | .ok (.ret u)=>CE outer P w H s Q u s'
 | .ok _=>False
 | .error e=>CX outer H s E e s'
structure EL (P:Program)(w:World)(K:PySem.W.Frag)(mg:Str->Option Value)(base:Heap)(CX:Er)(k:Nat)(f:Addr)(fd:FuncData)(ps:List Str)(sp:Sp):Prop where
 len:∀ vs H Q E,sp vs H Q E->vs.length=ps.length
 run:∀ (A:Around) (outer:List Env) (s:Shared) (H:Hp) (args:Args) (us:List Value) (vs:List V) (Q:VK) (E:XK),Ep k A->Gy P w K mg base A outer s H->BindsTo s fd args (ps.zip us)->Vals vs us->sp vs H Q E->
  codeAny (model P w) A (.call (.ref f) args) (CR CX outer P w H s Q E) s
section
variable {X:Cx}{pins:List (Addr×Obj)}{σ:St}{H:Hp}{s s':Shared}
theorem Inv.Fd (I:Inv X pins σ H s):Gy X.prog X.w X.K X.mg X.base X.A X.stack s H:=
 ⟨I.ok.frames,I.ok.mod,I.bs,Nat.le_trans I.ok.Hq I.sz,I.stack,I.FD,I.Dz,I.bare⟩
theorem Inv.after {Q:VK}{u:Value}(I:Inv X pins σ H s)(h:CE X.stack X.prog X.w H s Q u s'):EP X pins σ Q u s':=by
 obtain⟨v,H',os,bare,un,Dz,r,q⟩:=h
 obtain⟨hh,g,d,t,LJ⟩:=s'
 obtain rfl:LJ=s.os:=os
 exact⟨v,H',I.call (h':=hh) (g':=g) (d':=d) (t':=t) (ch:=[]) un Dz bare (fun b z=>absurd z (by simp)),r,q⟩
end
def Binds (K:PySem.W.Frag)(fd:FuncData)(ps:List Str)(ds:List Value):Prop:=
 ∀ (s:Shared) (us:List Value),K.In s.heap->(us++ds).length=ps.length->BindsTo s fd ⟨us,[]⟩ (ps.zip (us++ds))
theorem Binds.all {K:PySem.W.Frag}{fd:FuncData}{ps:List Str}(h:∀ us:List Value,us.length=ps.length->bindArgs fd ⟨us,[]⟩=pure (ps.zip us)):Binds K fd ps []:=fun s us _ hl=>by
 rw[List.append_nil] at hl ⊢
 exact .of_eq (h us hl)
def Passes (CX:Er)(X:Cx)(E:XK):Prop:=∀ (pins:List (Addr×Obj)) (σ:St) (H:Hp) (s:Shared) (e:Value) (s':Shared),Inv X pins σ H s->CX X.stack H s E e s'->X.xe e s'
structure FH (N P:List Str)(sc:Scope):Prop where
 kind:sc.kind=.function
 co:sc.isCoroutine=false
 gen:sc.isGenerator=false
 nd:N.Nodup
 pre:N.take P.length=P
 par:∀ x∈P,sc.names.lookup x=some .local∨sc.names.lookup x=some .cell
 JZ:∀ y∈sc.names,y.2≠.free
theorem gb {kindOf:Str->Option NameKind}{x:Str}:∀ {binds:List (Str×Value)}{m:Str->Option Value},(∀ v,(x,v)∉binds)->bindL kindOf binds m x=m x
 | [],_,_=>rfl
 | (n,v)::r,m,h=>by
  unfold bindL
  rw[gb fun w hw=>h w (List.mem_cons_of_mem _ hw)]
  split
  ·have:x≠n:=by rintro rfl;exact h v List.mem_cons_self
   simp[this]
  ·rfl
theorem gc {kindOf:Str->Option NameKind}{x:Str}:∀ {binds:List (Str×Value)}{m:Str->Option Value},(∀ v,(x,v)∉binds)->bindC kindOf binds m x=m x
 | [],_,_=>rfl
 | (n,v)::r,m,h=>by
  unfold bindC
  rw[gc fun w hw=>h w (List.mem_cons_of_mem _ hw)]
  split
  ·rfl
  ·have:x≠n:=by rintro rfl;exact h v List.mem_cons_self
   simp[this]
theorem gf {kindOf:Str->Option NameKind}{x:Str}{v:Value}:∀ {P:List Str}{vs:List Value}{i:Nat}{m:Str->Option Value},P.Nodup->P[i]? = some x->vs[i]? = some v->kindOf x=some .local->
  bindL kindOf (P.zip vs) m x=some v
 | [],_,_,_,_,h,_,_=>by simp at h
 | _::_,[],_,_,_,_,h,_=>by simp at h
 | p::P,w::vs,0,m,nd,h1,h2,hk=>by
  simp at h1 h2;subst h1;subst h2
  show bindL kindOf ((p,w)::P.zip vs) m p=_
  unfold bindL
  rw[gb fun v hv=>(List.nodup_cons.mp nd).1 (List.of_mem_zip hv).1,if_pos hk]
  simp
 | p::P,w::vs,i+1,m,nd,h1,h2,hk=>by
  show bindL kindOf ((p,w)::P.zip vs) m x=_
  unfold bindL
  exact gf (i:=i) (List.nodup_cons.mp nd).2 (by simpa using h1) (by simpa using h2) hk
theorem gh {kindOf:Str->Option NameKind}{x:Str}{v:Value}:∀ {P:List Str}{vs:List Value}{i:Nat}{m:Str->Option Value},P.Nodup->P[i]? = some x->vs[i]? = some v->kindOf x≠some .local->
  bindC kindOf (P.zip vs) m x=some v
 | [],_,_,_,_,h,_,_=>by simp at h
 | _::_,[],_,_,_,_,h,_=>by simp at h
 | p::P,w::vs,0,m,nd,h1,h2,hk=>by
  simp at h1 h2;subst h1;subst h2
  show bindC kindOf ((p,w)::P.zip vs) m p=_
  unfold bindC
  rw[gc fun v hv=>(List.nodup_cons.mp nd).1 (List.of_mem_zip hv).1,if_neg hk]
  simp
 | p::P,w::vs,i+1,m,nd,h1,h2,hk=>by
  show bindC kindOf ((p,w)::P.zip vs) m x=_
  unfold bindC
  exact gh (i:=i) (List.nodup_cons.mp nd).2 (by simpa using h1) (by simpa using h2) hk
noncomputable def start (N:List Str)(vs:List V):St:=vs.map some++List.replicate (N.length - vs.length) none
noncomputable def cC (CX:Er)(P:Program)(w:World)(K:PySem.W.Frag)(mg:Str->Option Value)(base:Heap)(N:List Str)(qual:Str)(scope:Scope)(f:Addr)(cd:Value)(A:Around)(outer:List Env)(s:Shared)(H:Hp)(E:XK):Cx where
 prog:=P
 w:=w
 K:=K
 mg:=mg
 base:=base
 A:=A.deeper (envOfC qual scope s.heap.objs.size f cd)
 N:=N
 DW:=s
 ET:=H
 env:=envOfC qual scope s.heap.objs.size f cd
 outer:=outer
 stack:=envOfC qual scope s.heap.objs.size f cd::outer
 ex:=[]
 calm:=A.handled.isNone
 fn:=fun _=>true
 pn:=[]
 xe:=fun e s'=>wpAny (model P w) (A.deeper (envOfC qual scope s.heap.objs.size f cd)) (leaving (envOfC qual scope s.heap.objs.size f cd) e) (fun _ G8=>CX outer H s E e G8) (fun e' G8=>CX outer H s E e' G8) s'
theorem jb {sc:Scope}{n:Nat}{x:Str}(h:sc.names.lookup x=some .cell):∃ c,(cellsFrom n sc.names []).lookup x=some c:=by
 have q:=PySem.W.cellsFrom_some sc.names n [] (.inl h)
 exact Option.isSome_iff_exists.mp q
theorem mV {CX:Er}{P:Program}{w:World}{K:PySem.W.Frag}{mg:Str->Option Value}{base:Heap}{N ps:List Str}{qual:Str}{scope:Scope}{f:Addr}{cd:Value}{A:Around}{outer:List Env}{s s1:Shared}{H:Hp}{E:XK}{us:List Value}{vs:List V}
  (S:FH N ps scope) (e0:Gy P w K mg base A outer s H) (hl:vs.length=ps.length) (r:Vals vs us)
  (x:InCallC s s.heap.objs.size (bindL (envOfC qual scope s.heap.objs.size f cd).kindOf (ps.zip us) fun _=>none) (cellsFrom (s.heap.objs.size+1) scope.names []) (bindC (envOfC qual scope s.heap.objs.size f cd).kindOf (ps.zip us) fun _=>none) s1) :
  Inv (cC CX P w K mg base N qual scope f cd A outer s H E) [] (start N vs) H s1:=by
 have Iy:ps.length<=N.length:=by have:=congrArg List.length S.pre;rw[List.length_take] at this;omega
 obtain⟨h1,tk,rfl,hk⟩:=x.done
 have LK:∀ b:Addr,b∉(cC CX P w K mg base N qual scope f cd A outer s H E).ex:=fun b z=>absurd (show b∈([]:List Addr) from z) (by simp)
 refine⟨⟨e0.mod,S.kind,rfl,rfl,Nat.le_refl _,fun y z c h1 h2=>?_,fun y hy=>?_,fun y c _ h=>?_,fun h=>Option.isNone_iff_eq_none.mp h,Around.frames_deeper e0.frames,.inr ⟨rfl,rfl⟩,fun b z=>absurd z (LK b),e0.bs,e0.Hq,fun b _ _=>LK b,fun b z=>absurd z (LK b),e0.En,e0.Gi⟩,
  rfl,e0.bare,Un.kept hk,⟨_,x.toInCall.ns,fun i y v h1 h2 h3=>?_⟩,fun y c h=>⟨_,x.cell y c h⟩,e0.Dz.fresh (Nat.le_refl _),fun y c h=>?_,fun p hp=>absurd (show p∈([]:List (Addr×Obj)) from hp) (by simp),e0.Dz.kept hk,?_⟩
 ·exact name_of_addr x.apart (PySem.mem_of_lookup h1) (PySem.mem_of_lookup h2)
 ·have hy:scope.names.lookup y=some .cell∨scope.names.lookup y=some .free:=hy
  rcases hy with hy|hy
  ·exact jb hy
  ·exact absurd rfl (S.JZ _ (PySem.mem_of_lookup hy))
 ·exact Nat.le_of_lt (x.above y c (PySem.mem_of_lookup h))
 ·have hi:i < vs.length:=by
   unfold start at h2
   by_cases hi:i < vs.length
   ·exact hi
   ·rw[List.getElem?_append_right (by simpa using hi)] at h2
    rw[List.getElem?_replicate] at h2
    split at h2<;>cases h2
  have ha:vs[i]? = some v:=by
   unfold start at h2
   rw[List.getElem?_append_left (by simpa using hi),List.getElem?_map] at h2
   cases e:vs[i]? with
   | none=>rw[e] at h2;cases h2
   | some a=>rw[e] at h2;cases h2;rfl
  obtain⟨u,hu,rv⟩:=r.get ha
  have hp:ps[i]? = some y:=by
   rw[<- S.pre,List.getElem?_take_of_lt (by omega)];exact h1
  have Px:ps.Nodup:=by rw[<- S.pre];exact S.nd.sublist (List.take_sublist _ _)
  refine⟨u,rv,?_⟩
  rcases S.par y (List.mem_of_getElem? hp) with k|k
  ·exact .inl ⟨k,gf Px hp hu k⟩
  ·obtain⟨c,e⟩:=jb (n:=s.heap.objs.size+1) k
   refine .inr ⟨.inl k,c,e,?_⟩
   have q:=x.cell y c e
   rw[gh Px hp hu (by show scope.names.lookup y≠_;rw[k];decide)] at q
   exact q
 ·exact e0.Dz.fresh (Nat.le_of_lt (x.above y c (PySem.mem_of_lookup h)))
 ·unfold start
  show _=N.length
  rw[List.length_append,List.length_map,List.length_replicate]
  omega
theorem uQ {CX:Er}{P:Program}{w:World}{K:PySem.W.Frag}{mg:Str->Option Value}{base:Heap}{k:Nat}{f:Addr}{name qual:Str}{params:Arguments}{body:List Stmt}{scope:Scope}{dV kV doc pm Fe ct oc:Value}{an od:Option Addr}
  {Iz:Array (Option Value)}{N ps:List Str}{sp:Sp} (lk:K.lookup f=some ⟨oc,od,.func (PySem.W.fnOf name qual params body scope dV kV doc pm an Fe ct),Iz⟩) (HC:PySem.W.codeIn K Fe qual=true) (S:FH N ps scope)
  (RF:k % 1000≠999) (len:∀ vs H Q E,sp vs H Q E->vs.length=ps.length)
  (HF:∀ (A:Around) (outer:List Env) (s:Shared) (H:Hp) (vs:List V) (Q:VK) (E:XK),Ep k (A.deeper (envOfC qual scope s.heap.objs.size f Fe))->sp vs H Q E->
   ∃ t,Gj (cC CX P w K mg base N qual scope f Fe A outer s H E) body t/\t {nx:=fun _ H'=>Q .DE H',rt:=Q} (start N vs) H) :
  EL P w K mg base CX (k+1) f (PySem.W.fnOf name qual params body scope dV kV doc pm an Fe ct) ps sp:=by
 refine⟨len,fun A outer s H args us vs Q E hr e0 hb r Gn=>?_⟩
 have hl:=len _ _ _ _ Gn
 have KX:K.In s.heap:=e0.mod.Ig.keeps fun b o e=>(e0.bs b o e).1
 have lim:s.heap.NoLimit:=e0.mod.nolimit.keeps fun b o e=>(e0.bs b o e).1
 have LL:∀ y∈ps.zip us,scope.names.lookup y.1=some .local∨(scope.names.lookup y.1=some .cell/\((cellsFrom (s.heap.objs.size+1) scope.names []).lookup y.1).isSome=true):=fun ⟨n,v⟩ hy=>by
  rcases S.par n (List.of_mem_zip hy).1 with q|q
  ·exact .inl q
  ·exact .inr ⟨q,PySem.W.cellsFrom_some _ _ _ (.inl q)⟩
 refine codeAny_call_function hr.depth (KX _ _ lk) rfl S.co S.gen rfl (PySem.W.codeRec_of KX HC) (hb _ _ _ _ ?_)
 refine wpAny_newFunctionEnv_cells S.kind LL fun env he s1 x=>?_
 subst he
 refine⟨lim.keeps x.toInCall.keep,codeAny_func ?_⟩
 obtain⟨t,ht,hq⟩:=HF A outer s H vs Q E (hr.deeper _ RF) Gn
 have I:Inv (cC CX P w K mg base N qual scope f Fe A outer s H E) [] (start N vs) H s1:=mV S e0 hl r x
 refine wpAny_mono (ht [] s1 (start N vs) H _ I hq) (fun fl s' hs=>?_) fun e s' hs=>hs
 have fin:∀ {Dy:St}{H':Hp}{v:V}{u:Value},Inv (cC CX P w K mg base N qual scope f Fe A outer s H E) [] Dy H' s'->RelV v u->Q v H'->CE outer P w H s Q u s':=
  fun {Dy H' v u} J rv q=>⟨v,H',J.os,J.bare,J.base,J.Dz,rv,q⟩
 cases fl with
 | ret u=>
  obtain⟨v,Dy,H',J,rv,q⟩:=hs
  exact fin J rv q
 | next=>
  obtain⟨Dy,H',J,q⟩:=hs
  exact fin (v:=V.DE) (u:=Value.none) J rfl q
 | brk=>
  obtain⟨_,_,_,q⟩:=hs
  exact False.elim q
 | cont=>
  obtain⟨_,_,_,q⟩:=hs
  exact False.elim q
section
variable {X:Cx}{x:Str}{p pos:Pos}{e:Expr}{es:List Expr}{t:TA}{id T:String}{r:List V->Hp->VK->Prop}
def NI (r:List V->Hp->VK->Prop)(t:TA):TE:=fun σ H Q=>t σ H fun vs H1=>r vs H1 Q
theorem nY (hc:cg X (.builtin id) r)(hg:Gl X x)(hm:X.mg x=none)(hv:bootBuiltins x=some (.builtin id))(ha:PA X (e::es) t)(hn:x≠"__name__":=by decide) (NJ:(x == ("__debug__" : Str))=false:=by decide)
  (he:starEach (e::es) X.env=(false,eval e X.env)::starEach es X.env:=by rfl) (Iy:(backTo pos (starEach es X.env)).any (·.1)=false:=by rfl):PE X (.Call (.Name x p) (e::es) [] pos) (NI r t):=by
 intro pins s σ H Q I h
 refine wpAny_Call_Name_kw (cN I hg hm hv ?_ hn NJ)
 exact PyProof.Rows.callWith_builtin1 (DB (ha pos pins s σ H _ I h) fun us s1 ⟨vs,H1,I1,r1,q1⟩=>hc pins s1 σ H1 vs us Q I1 r1 q1) he Iy
theorem ee (hc:cg X (.type T) r)(hg:Gl X x)(hm:X.mg x=none)(hv:bootBuiltins x=some (.type T))(ha:PA X (e::es) t)(hn:x≠"__name__":=by decide) (NJ:(x == ("__debug__" : Str))=false:=by decide)
  (he:starEach (e::es) X.env=(false,eval e X.env)::starEach es X.env:=by rfl) (Iy:(backTo pos (starEach es X.env)).any (·.1)=false:=by rfl):PE X (.Call (.Name x p) (e::es) [] pos) (NI r t):=by
 intro pins s σ H Q I h
 refine wpAny_Call_Name_kw (cN I hg hm hv ?_ hn NJ)
 exact PyProof.Rows.callWith_type1 (DB (ha pos pins s σ H _ I h) fun us s1 ⟨vs,H1,I1,r1,q1⟩=>hc pins s1 σ H1 vs us Q I1 r1 q1) he Iy
end
end L2
namespace HT
open PySem PyProof.Rows
section
variable {prog:Program}{w:World}{A:Around}{E:Value->Shared->Prop}{s:Shared}
noncomputable def Fw (n d:Nat):Option Int->Nat
 | none=>d
 | some v=>if v < 0 then (v+(n:Int)).toNat else min v.toNat n
end
end HT
namespace L2
open PySem PySem.Spec PyProof.Rows
noncomputable abbrev TO:=St->Hp->(Option Int->Hp->Prop)->Prop
def PO (X:Cx)(e:Option Expr)(t:TO):Prop:=
 ∀ (pins:List (Addr×Obj)) (s:Shared) (σ:St) (H:Hp) (Q:Option Int->Hp->Prop),Inv X pins σ H s->t σ H Q->
  wpAny (model X.prog X.w) X.A (evalPart e X.env) (fun u s'=>∃ o H',Inv X pins σ H' s'/\IsPart u o/\Q o H') X.xe s
noncomputable def sG:TO:=fun _ H Q=>Q none H
noncomputable def zQ (t:TE):TO:=fun σ H Q=>t σ H fun x H1=>∃ i,x=.int i/\Q (some i) H1
theorem intsAre_of {ns:List Int}:∀ {us:List Value},Vals (ns.map V.int) us->IntsAre us ns:=by
 induction ns with
 | nil=>intro us r;rw[List.map_nil] at r;cases r;exact .nil
 | cons n ns ih=>
  intro us r
  rw[List.map_cons] at r
  cases r with
  | cons r1 r2=>
   obtain⟨t,e⟩:=r1
   subst e
   exact .cons n t (ih r2)
section
variable {X:Cx}{e:Expr}{te:TE}{lo hi:Option Expr}{tl th:TO}{pos p2:Pos}
theorem sH:PO X none sG:=by
 intro pins s σ H Q I h
 rw[evalPart_none]
 exact wpAny_pure ⟨none,H,I,.none,h⟩
theorem sI (h:PE X e te):PO X (some e) (zQ te):=by
 intro pins s σ H Q I hw
 rw[evalPart_some]
 refine DB (h pins s σ H _ I hw) fun u s1 ⟨x,H1,I1,r1,q1⟩=>?_
 obtain⟨i,rfl,q⟩:=q1
 obtain⟨t,rfl⟩:=r1
 exact⟨some i,H1,I1,.int i t,q⟩
def MR (X:Cx)(r:V->Option Int->Option Int->Hp->VK->Prop):Prop:=
 ∀ (pins:List (Addr×Obj)) (s:Shared) (σ:St) (H:Hp) (x:V) (v vl vu:Value) (lo hi:Option Int) (sl:Addr) (Q:VK),Inv X pins σ H s->RelV x v->s.heap.IsSliceOf sl vl vu .none->IsPart vl lo->IsPart vu hi->r x lo hi H Q->
  ∃ T id,typeLookup (.type T) "__getitem__" = pure (some (.builtin id))/\s.TypeIs v T/\wpAny (model X.prog X.w) X.A (getItem v (.ref sl)) (EP X pins σ Q) X.xe s
def RG (r:V->Option Int->Option Int->Hp->VK->Prop)(te:TE)(tl th:TO):TE:=fun σ H Q=>te σ H fun x H1=>tl σ H1 fun l H2=>th σ H2 fun u H3=>r x l u H3 Q
theorem jc {r:V->Option Int->Option Int->Hp->VK->Prop}(hr:MR X r)(he:PE X e te)(hl:PO X lo tl)(hu:PO X hi th):PE X (.Subscript e (.Slice lo hi none p2) pos) (RG r te tl th):=by
 intro pins s σ H Q I h
 refine Subscript_ (DB (he pins s σ H _ I h) fun v s1 ⟨x,H1,I1,r1,q1⟩=>?_)
 refine wpAny_Slice (DB (hl pins s1 σ H1 _ I1 q1) fun vl s2 ⟨l,H2,I2,pl,q2⟩=>DB (hu pins s2 σ H2 _ I2 q2) fun vu s3 ⟨u,H3,I3,pu,q3⟩=>?_)
 rw[evalPart_none]
 refine wpAny_pure ?_
 have I4:Inv X pins σ H3 {s3 with heap:=s3.heap.push {cls:=.type "slice",data:=.fields #[vl,vu,.none]}}:=I3.kept (t':=s3.toks) fun b ob q=>Heap.get?_push_of_some _ q
 obtain⟨T,id,hT,ht,hg⟩:=hr pins {s3 with heap:=s3.heap.push {cls:=.type "slice",data:=.fields #[vl,vu,.none]}} σ H3 x v vl vu l u s3.heap.objs.size Q I4 r1 (Heap.IsSliceOf.new ..) pl pu q3
 show wpAny (model X.prog X.w) X.A (subscriptTail e (.Slice lo hi none p2) v (.ref s3.heap.objs.size)) (EP X pins σ Q) X.xe {s3 with heap:=s3.heap.push {cls:=.type "slice",data:=.fields #[vl,vu,.none]}}
 exact tail_any (ops:=[.ref s3.heap.objs.size,v]) ht hT hg (by with_unfolding_all rfl)
noncomputable def mW (xs:List V)(lo hi:Option Int):List V:=(xs.drop (HT.Fw xs.length 0 lo)).take (HT.Fw xs.length xs.length hi - HT.Fw xs.length 0 lo)
theorem jd (xs:List V)(lo hi:Option Int):(mW xs lo hi).length<=xs.length:=by
 unfold mW
 rw[List.length_take,List.length_drop]
 omega
end
noncomputable def IA (n:Nat)(i:Int):Option Nat:=if 0<=i then (if i < n then some i.toNat else none) else if -(n:Int)<=i then some (i+n).toNat else none
noncomputable def EW {α:Type}(xs:List α)(i:Int):Option α:=(IA xs.length i).bind fun j=>xs[j]?
theorem sJ {n:Nat}{i:Int}{j:Nat}(h:IA n i=some j):seqIndex? i n=some j/\j < n/\-(n:Int)<=i/\i < n:=by
 unfold IA at h
 by_cases h0:0<=i
 ·rw[if_pos h0] at h
  by_cases h1:i < n
  ·rw[if_pos h1] at h
   have e:i.toNat=j:=Option.some.inj h
   exact⟨by rw[seqIndex_of h0 h1,e],by omega,by omega,h1⟩
  ·rw[if_neg h1] at h;cases h
 ·rw[if_neg h0] at h
  by_cases h1 : -(n:Int)<=i
  ·rw[if_pos h1] at h
   have e:(i+n).toNat=j:=Option.some.inj h
   exact⟨by rw[seqIndex_neg (by omega) h1,e],by omega,h1,by omega⟩
  ·rw[if_neg h1] at h;cases h
theorem gW {α:Type}{xs:List α}{i:Int}{v:α}(h:EW xs i=some v):∃ j,seqIndex? i xs.length=some j/\xs[j]? = some v/\j < xs.length/\-(xs.length:Int)<=i/\i < xs.length:=by
 unfold EW at h
 cases e:IA xs.length i with
 | none=>rw[e] at h;cases h
 | some j=>
  rw[e] at h
  obtain⟨h1,h2,h3,h4⟩:=sJ e
  exact⟨j,h1,h,h2,h3,h4⟩
def sL (b:Expr):Prop:=∀ o i,subscripted b false o i=operate [o,i] (getItem o i)
def Ij (X:Cx)(r:R2):Prop:=
 ∀ (value slice:Expr) (pins:List (Addr×Obj)) (s:Shared) (σ:St) (H:Hp) (x y:V) (v u:Value) (Q:VK),Inv X pins σ H s->RelV x v->RelV y u->r x y H Q->
  subscripted slice false v u=operate [v,u] (getItem v u)->wpAny (model X.prog X.w) X.A (subscriptTail value slice v u) (EP X pins σ Q) X.xe s
def Py (X:Cx)(id:String)(r:V->List V->Hp->VK->Prop):Prop:=
 ∀ (pins:List (Addr×Obj)) (s:Shared) (σ:St) (H:Hp) (x:V) (xs:List V) (v:Value) (us:List Value) (Q:VK),Inv X pins σ H s->RelV x v->Vals xs us->r x xs H Q->
  wpAny (model X.prog X.w) X.A (call (.builtin id) (v::us)) (EP X pins σ Q) X.xe s
section
variable {X:Cx}{a b:Expr}{ta tb:TE}{pos:Pos}
theorem Ij.or {r r':R2}(h:Ij X r)(h':Ij X r'):Ij X (fun x y H Q=>r x y H Q∨r' x y H Q):=by
 intro value slice pins s σ H x y v u Q I rx ry q hs
 rcases q with q|q
 ·exact h value slice pins s σ H x y v u Q I rx ry q hs
 ·exact h' value slice pins s σ H x y v u Q I rx ry q hs
theorem zR {r:R2}(hr:Ij X r)(ha:PE X a ta)(hb:PE X b tb)(hs:sL b):PE X (.Subscript a b pos) (MP r ta tb):=by
 intro pins s σ H Q I h
 exact Subscript_ (xu ha hb I h fun v u s2 x y H2 I2 rx ry q=>hr a b pins s2 σ H2 x y v u Q I2 rx ry q (hs _ _))
noncomputable def zS (K:PySem.W.Frag):R2:=fun x y H Q=>∃ p xs i v,x=.ref p/\y=.int i/\EB K H p xs/\EW xs i=some v/\Q v H
noncomputable def zT (K:PySem.W.Frag):R2:=fun x y H Q=>∃ p xs i v,x=.ref p/\y=.int i/\EJ K H p xs/\EW xs i=some v/\Q v H
noncomputable def zU:R2:=fun x y H Q=>∃ z i c,x=.str z/\y=.int i/\z.length<=sizeLine/\EW z.cps.toList i=some c/\Q (.str ⟨#[c]⟩) H
theorem sM:Ij X (zS X.K):=by
 intro value slice pins s σ H x y v u Q I rx ry h hs
 obtain⟨p,xs,i,z,rfl,rfl,hq,he,q⟩:=h
 cases rx
 obtain⟨t,rfl⟩:=ry
 obtain⟨its,r,pl,hz⟩:=I.list hq
 obtain⟨j,h1,h2,h3,h4,h5⟩:=gW he
 obtain⟨w,ew,IB⟩:=r.get h2
 have hl:=r.length
 have hn:=eZ
 have fin:EP X pins σ Q w s:=⟨z,H,I,IB,q⟩
 by_cases h0:0<=i
 ·have hj:i.toNat=j:=by
   rw[seqIndex_of h0 h5] at h1
   exact Option.some.inj h1
  exact item_listR pl.isList h0 (by omega) (by rw[hj];simpa using ew) fin hs
 ·have hj:(i+(its.toArray.size:Int)).toNat=j:=by
   rw[seqIndex_neg (by omega) h4] at h1
   rw[List.size_toArray,<- hl]
   exact Option.some.inj h1
  exact subscriptTail_builtinR (x:=w) pl.isList.typeIs slot_list_getitem.lookup
   (wpAny_getItem_list_neg (Q:=fun r s'=>r=w/\EP X pins σ Q r s') pl.isList (by omega) (by rw[List.size_toArray]<;>omega) (by omega) (by rw[hj];simpa using ew) ⟨rfl,fin⟩) hs
theorem xF:Ij X (zT X.K):=by
 intro value slice pins s σ H x y v u Q I rx ry h hs
 obtain⟨p,xs,i,z,rfl,rfl,hq,he,q⟩:=h
 cases rx
 obtain⟨t,rfl⟩:=ry
 obtain⟨its,r,pl,hz⟩:=I.tuple hq
 obtain⟨j,h1,h2,h3,h4,h5⟩:=gW he
 obtain⟨w,ew,IB⟩:=r.get h2
 have hl:=r.length
 have hn:=eZ
 have fin:EP X pins σ Q w s:=⟨z,H,I,IB,q⟩
 exact subscriptTail_builtinR (x:=w) pl.typeIs slot_tuple_getitem.lookup
  (getItem_tuple (j:=j) (Q:=fun r s'=>r=w/\EP X pins σ Q r s') pl (by omega) (by omega) (by rw[List.size_toArray,<- hl];exact h1) (by simpa using ew) ⟨rfl,fin⟩) hs
theorem xG:Ij X zU:=by
 intro value slice pins s σ H x y v u Q I rx ry h hs
 obtain⟨z,i,c,rfl,rfl,hz,he,q⟩:=h
 obtain⟨t,rfl⟩:=rx
 obtain⟨t',rfl⟩:=ry
 obtain⟨j,h1,h2,h3,h4,h5⟩:=gW he
 have hl:z.cps.toList.length=z.length:=by simp[Str.length]
 rw[hl] at h1 h4 h5
 have hn:=eZ
 exact tail_any (typeIs_str s z t) slot_str_getitem.lookup (getItem_str (c:=c) (by
  have e1:decide (i < -(2 ^ 63:Int))=false:=decide_eq_false (by omega)
  have e2:decide (i >= 2 ^ 63)=false:=decide_eq_false (by omega)
  rw[e1,e2,Bool.or_false]) (by rw[h1];simpa using h2) ⟨.str ⟨#[c]⟩,H,I.tok _,⟨_,rfl⟩,q⟩) hs
noncomputable def RH (K:PySem.W.Frag):R2:=fun x y H Q=>zS K x y H Q∨zT K x y H Q∨zU x y H Q
theorem xH:Ij X (RH X.K):=sM.or (xF.or xG)
theorem gX (lo hi:Option Int)(n:Nat):(sliceBounds lo hi none n).1=((HT.Fw n 0 lo:Nat):Int)/\(sliceBounds lo hi none n).2.1=((HT.Fw n n hi:Nat):Int)/\(sliceBounds lo hi none n).2.2=1:=by
 refine⟨?_,?_,rfl⟩
 ·cases lo with
  | none=>simp[sliceBounds,HT.Fw]
  | some i=>
   simp only[sliceBounds,HT.Fw,Option.getD_none,show (1:Int) > 0 by decide,if_true]
   by_cases h:i < 0
   ·simp only[h,if_true]<;>omega
   ·simp only[h,if_false]<;>omega
 ·cases hi with
  | none=>simp[sliceBounds,HT.Fw]
  | some i=>
   simp only[sliceBounds,HT.Fw,Option.getD_none,show (1:Int) > 0 by decide,if_true]
   by_cases h:i < 0
   ·simp only[h,if_true]<;>omega
   ·simp only[h,if_false]<;>omega
theorem fX (its:List Value)(lo hi:Option Int):slicePick its.toArray lo hi none=((its.drop (HT.Fw its.length 0 lo)).take (HT.Fw its.length its.length hi - HT.Fw its.length 0 lo)).toArray:=by
 obtain⟨h1,h2,h3⟩:=gX lo hi its.toArray.size
 unfold slicePick
 rw[h1,h2,h3]
 simp only[sliceRange_one,pick_run,List.size_toArray]<;>rfl
def CD (K:PySem.W.Frag):V->Option Int->Option Int->Hp->VK->Prop:=fun x lo hi H Q=>∃ a xs,x=.ref a/\EB K H a xs/\∀ p,H p=none->Q (.ref p) (upd H p (.lst (mW xs lo hi)))
theorem kG:MR X (CD X.K):=by
 intro pins s σ H x v vl vu lo hi sl Q I rx hs pl pu h
 obtain⟨a,xs,rfl,hx,q⟩:=h
 cases rx
 obtain⟨its,r,ht,hz⟩:=I.list hx
 have hlen:=r.length
 refine⟨"list",_,slot_list_getitem.lookup,ht.isList.typeIs,?_⟩
 refine wpAny_getItem_list_slice ht.isList hs pl pu .none (by simp) ?_ (by rw[List.size_toArray]<;>omega)
 rw[fX,<- hlen]
 refine⟨.ref s.heap.objs.size,_,I.laid (t':=s.toks) (o:=.lst (mW xs lo hi)) (fun b ob q=>Heap.get?_push_of_some _ q) (Nat.le_refl _) ?_,rfl,q _ (I.Dz.fresh (Nat.le_refl _))⟩
 exact⟨Nat.le_trans (jd xs lo hi) hz,_,0,(r.drop (HT.Fw xs.length 0 lo)).take (HT.Fw xs.length xs.length hi - HT.Fw xs.length 0 lo),Heap.get?_push_size _ rfl⟩
theorem cD:cg X (.type "list") (fun xs H Q=>∃ p ys,xs=[.ref p]/\(EB X.K H p ys∨EJ X.K H p ys)/\∀ l,H l=none->Q (.ref l) (upd H l (.lst ys))):=by
 intro pins s σ H xs us Q I r h
 obtain⟨p,ys,rfl,hq,q⟩:=h
 obtain⟨u,rfl,rx⟩:=vals1 r
 cases rx
 have fin:∀ (its:List Value),Vals ys its->ys.length<=sizeLine->∀ (h':Heap) (c':Nat),(∀ b o',s.heap.get? b=some o'->h'.get? b=some o')->
   h'.get? s.heap.objs.size=some {cls:=.type "list",dict:=none,data:=.seq its.toArray c',slots:=#[]}->EP X pins σ Q (.ref s.heap.objs.size) {s with heap:=h'}:=fun its r' hz h' c' kp e=>
  ⟨.ref s.heap.objs.size,_,I.laid (t':=s.toks) kp (Nat.le_refl _) (show aK X.prog X.w _ h' _ (.lst ys) from ⟨hz,its,c',r',e⟩),rfl,q _ (I.Dz.fresh (Nat.le_refl _))⟩
 rcases hq with hq|hq
 ·obtain⟨its,r',pl,hz⟩:=I.list hq
  have hlen:=r'.length
  obtain⟨o,ho,hc,n,hd⟩:=pl.isList
  exact call_list_seq p (.inl rfl) ho hc hd (fun h' c' kp e=>fin its r' hz h' c' kp e) (by simp only[List.size_toArray]<;>omega)
 ·obtain⟨its,r',pl,hz⟩:=I.tuple hq
  have hlen:=r'.length
  obtain⟨o,ho,hc,n,hd⟩:=pl
  exact call_list_seq p (.inr rfl) ho hc hd (fun h' c' kp e=>fin its r' hz h' c' kp e) (by simp only[List.size_toArray]<;>omega)
def Pz (K:PySem.W.Frag)(T:String)(x:V)(H:Hp):Prop:=match x with
 | .str _=>T = "str"
 | .int _=>T = "int"
 | .ref p=>(T = "list"/\∃ xs,EB K H p xs)∨(T = "tuple"/\∃ o,K.lookup p=some o/\o.cls=.type "tuple"/\o.dict=none)∨
   (T = "dict"/\((∃ kvs,H p=some (.dK kvs))∨∃ kvs,H p=some (.dT kvs)))∨(T = "set"/\∃ S n,H p=some (.set S n))
 | _=>False
theorem xI {pins:List (Addr×Obj)}{σ:St}{H:Hp}{s:Shared}{T:String}{x:V}{v:Value}(I:Inv X pins σ H s)(r:RelV x v)(ty:Pz X.K T x H) :
  s.TypeIs v T/\∀ a,v=.ref a->∃ ob,s.heap.get? a=some ob/\ob.dict=none:=by
 cases x with
 | str z=>
  obtain⟨t,rfl⟩:=r
  cases (show T = "str" from ty)
  exact⟨typeIs_str s z t,fun _ e=>nomatch e⟩
 | int i=>
  obtain⟨t,rfl⟩:=r
  cases (show T = "int" from ty)
  exact⟨typeIs_int s i t,fun _ e=>nomatch e⟩
 | ref p=>
  cases r
  rcases ty with ⟨rfl,xs,hq⟩|⟨rfl,o,hk,hc,hd⟩|⟨rfl,hk⟩|⟨rfl,S,n,hk⟩
  ·obtain⟨its,_,pl,_⟩:=I.list hq
   refine⟨pl.isList.typeIs,fun a e=>?_⟩
   cases e
   obtain⟨o,n,e,c,hd,_⟩:=pl
   exact⟨o,e,hd⟩
  ·refine⟨⟨o,I.G7 p o hk,hc⟩,fun a e=>?_⟩
   cases e
   exact⟨o,I.G7 _ o hk,hd⟩
  ·have z:∃ o,s.heap.get? p=some o/\o.ExactDict:=by
    rcases hk with ⟨kvs,hk⟩|⟨kvs,hk⟩
    ·obtain⟨_,_,_,_,o,_,_,e,ex,_⟩:=I.Dz p _ hk
     exact⟨o,e,ex⟩
    ·obtain⟨_,_,_,_,o,_,_,e,ex,_⟩:=I.Dz p _ hk
     exact⟨o,e,ex⟩
   obtain⟨o,e,ex⟩:=z
   refine⟨⟨o,e,ex.1⟩,fun a e2=>?_⟩
   cases e2
   exact⟨o,e,ex.2.1⟩
  ·obtain⟨o,_,_,_,e,ex,_⟩:=I.Dz p _ hk
   refine⟨⟨o,e,ex.1⟩,fun a e2=>?_⟩
   cases e2
   exact⟨o,e,ex.2.1⟩
 | _=>exact False.elim ty
def PB (K:PySem.W.Frag)(T:String)(r:V->List V->Hp->VK->Prop)(to:TE)(t:TA):TE:=fun σ H Q=>to σ H fun x H1=>Pz K T x H1/\t σ H1 fun xs H2=>r x xs H2 Q
variable {o e:Expr}{es:List Expr}{to:TE}{t:TA}{name:Str}{apos Dt:Pos}{T id:String}{r:V->List V->Hp->VK->Prop}
theorem kH (pa:PlainAttrs T)(slot:Slot T name id)(K2:typeOf (.builtin id)=pure (.type "method_descriptor")) (hm:Py X id r) (ho:PE X o to) (ha:PA X (e::es) t)
  (EM:attributeBase o name X.env (eval o X.env)=eval o X.env:=by rfl)
  (F4:((backTo Dt (starEach (e::es) X.env)).all (fun x=>!x.1)&&(backToKw Dt (keywordEach [] X.env)).all (fun x=>x.1.isSome)
  &&decide ((e::es).length+([]:List Keyword).length+(if ([]:List Keyword).isEmpty then 0 else 1) < 30))=true:=by rfl)
  (F5:(apos.endLine == Dt.line)=true:=by rfl) (hs:starEach (e::es) X.env=(false,eval e X.env)::starEach es X.env:=by rfl) (J0:(backTo Dt (starEach es X.env)).any (·.1)=false:=by rfl) :
  PE X (.Call (.Attribute o name apos) (e::es) [] Dt) (PB X.K T r to t):=by
 intro pins s σ H Q I h
 refine wpAny_Call_method_late EM F4 F5 rfl (DB (ho pins s σ H _ I h) fun v s1 ⟨x,H1,I1,r1,ty,q1⟩=>?_)
 obtain⟨h1,h2⟩:=xI I1 r1 ty
 refine⟨T,id,pa,slot,K2,h1,h2,?_⟩
 have hA:=ha Dt pins s1 σ H1 _ I1 q1
 rw[hs] at hA ⊢
 refine Calls.callWith_builtin (by show (false||(backTo Dt (starEach es X.env)).any (·.1))=false;rw[J0]<;>rfl) (Calls.evalArgs_plain ?_)
 exact DB hA fun us s2 ⟨vs,H2,I2,r2,q2⟩=>hm pins s2 σ H2 x vs v us Q I2 r1 r2 q2
end
def PD (X:Cx)(id:String)(r:V->List V->Hp->VK->Prop):Prop:=
 ∀ (pins:List (Addr×Obj)) (s:Shared) (σ:St) (H:Hp) (x:V) (xs:List V) (v:Value) (us:List Value) (Q:VK),Inv X pins σ H s->RelV x v->Vals xs us->r x xs H Q->
  wpAny (model X.prog X.w) X.A (call (.builtin id) (v::us)) (EP X pins σ Q) X.xe s
theorem Vals.one:∀ {x:V}{us:List Value},Vals [x] us->∃ u,us=[u]/\RelV x u
 | _,_,.cons r .nil=>⟨_,rfl,r⟩
section
variable {X:Cx}{pins:List (Addr×Obj)}{σ:St}{H:Hp}{s:Shared}{l b:Addr}{xs ys zs:List V}
theorem Inv.FI {its its':List Value}{n:Nat}{f:Array Value->Array Value}{t':Nat}(I:Inv X pins σ H s)(hH:H l=some (.lst xs))
  (e:s.heap.get? l=some {cls:=.type "list",data:=.seq its.toArray n}) (hf:f its.toArray=its'.toArray) (hv:Vals ys its') (hz:ys.length<=sizeLine) :
  Inv X pins σ (upd H l (.lst ys)) {s with heap:=s.heap.update l (Obj.mapSeq f),toks:=t'}:=by
 have q:=PySem.IsL.update e f
 rw[hf] at q
 refine I.write (x:=l) (e:=l) (by rw[hH];exact trivial) (.inl rfl) (fun b' u hb hu=>(Heap.get?_update_other s.heap (Obj.mapSeq f) (Ne.symm hb)).trans hu) ⟨_,q⟩ ?_
 exact⟨hz,its',_,hv,q⟩
theorem Inv.LM {its:List Value}{t':Nat}(I:Inv X pins σ H s)(hv:Vals ys its)(hz:ys.length<=sizeLine) :
  Inv X pins σ (upd H s.heap.objs.size (.lst ys)) {s with heap:=s.heap.push {cls:=.type "list",data:=.seq its.toArray},toks:=t'}:=
 I.laid (fun _ _ q=>Heap.get?_push_of_some _ q) (Nat.le_refl _) ⟨hz,its,0,hv,Heap.get?_push_size _ rfl⟩
theorem Inv.fresh (I:Inv X pins σ H s):H s.heap.objs.size=none:=I.Dz.fresh (Nat.le_refl _)
theorem Inv.NK (I:Inv X pins σ H s)(hH:H l=some (.lst xs)):xs.length<=sizeLine/\∃ (its:List Value) (n:Nat),Vals xs its/\xs.length=its.length/\s.heap.get? l=some {cls:=.type "list",data:=.seq its.toArray n}:=by
 obtain⟨z,its,n,r,e⟩:=I.Dz l _ hH
 exact⟨z,its,n,r,r.length,e⟩
end
section
variable {X:Cx}
def sN:V->List V->Hp->VK->Prop:=fun x vs H Q=>∃ l xs y,x=.ref l/\vs=[y]/\H l=some (.lst xs)/\xs.length < sizeLine/\Q .DE (upd H l (.lst (xs++[y])))
theorem gk:PD X "list.append" sN:=by
 intro pins s σ H x vs v us Q I rx rv h
 obtain⟨l,xs,y,rfl,rfl,hH,hz,q⟩:=h
 cases rx
 obtain⟨u,rfl,ru⟩:=rv.one
 obtain⟨z,its,n,r,hl,e⟩:=I.NK hH
 refine call_meets F.slot_list_append ⟨_,e,rfl⟩ F.entry_list_append (F.args_list_append_2 _ _) (PySem.list_append l its.toArray n u (by rw[List.size_toArray];omega)) ⟨e,?_⟩
 refine⟨.DE,_,I.FI (its':=its++[u]) hH e (by simp) (r.append (.cons ru .nil)) ?_,rfl,q⟩
 rw[List.length_append,List.length_singleton]
 omega
end
end L2
namespace Att
open PySem PySem.W PySem.Calls PyProof.Rows
theorem eO {P:Params}{h:Heap}:∀ (ns:List Int) (vs:List Value),WellAll P h vs (ns.map WData.int)->IntsAre vs ns:=by
 intro ns
 induction ns with
 | nil=>
  intro vs w
  rw[List.map_nil] at w
  cases w
  exact .nil
 | cons n ns ih=>
  intro vs w
  rw[List.map_cons] at w
  cases w with
  | cons a b=>
   cases a
   exact .cons _ _ (ih _ b)
theorem mX {l:OpenLaw}{n:Nat}(hn:l.most=some n){P:Params}{h:Heap}{args:List WData}{vals:List Value}
  (IC:l.row.toRowW.claim.pre args=true) (NL:WellAll P h vals args) :
  ∃ a vs ns,vals=[Value.ref a]/\args=[WData.list (ns.map WData.int)]/\h.get? a=some {cls:=.type "list",data:=.seq vs.toArray}/\IntsAre vs ns/\ns.length<=n:=by
 have RJ:WShape.hasAll [] args [.list .int]=true:=(pre_splitW IC).1
 have hc:l.pre.holds [] {args:=args} = true:=(pre_splitW IC).2
 obtain⟨d,r,rfl,h1,h2⟩:=hasAllW_cons RJ
 obtain rfl:=hasAllW_nil h2
 obtain⟨xs,rfl,h3⟩:=hasW_list h1
 obtain⟨ns,rfl⟩:=items_int h3
 have hlen:ns.length<=n:=by
  unfold OpenLaw.pre at hc
  have h4:(WTm.not (.lt (.lit (.int (n:Int))) (.len (.arg 0)))).holds [] {args:=[.list (ns.map .int)]} = true:=by
   have h4:=(holds_andW hc).1
   rw[hn] at h4
   exact h4
  have h5:=condW_of h4 (w_not (w_lt w_lit (w_len_list (w_arg rfl))))
  rw[List.length_map] at h5
  refine Nat.le_of_not_lt fun q=>?_
  have q':(n:Int) < ((ns.length:Nat):Int):=by omega
  first
   | (rw[decide_eq_true q'] at h5;exact absurd h5 (by decide))
   | (simp at h5;omega)
 cases NL with
 | cons w1 w2=>
  cases w2
  cases w1 with
  | list ho HG=>exact⟨_,_,ns,rfl,rfl,ho,eO ns _ HG,hlen⟩
theorem mY (l:OpenLaw)(args:List WData):l.row.toRowW.claim.post args (.bool true) args=true:=
 postW_of (r:=l.row.toRowW) (X:=(true == true))
  (show WShape.has [] (.bool true) .bool=true by first|rfl|decide|simp[WShape.has,WShape.arms,WShape.armsAll])
  (show (WTm.eq .res (.lit (.bool true))).value [] {args:=args,res:=some (.bool true),after:=args} = some (.bool (true == true)) from w_eq_bool (w_res rfl) w_lit) rfl
theorem F6 {l:OpenLaw}{n:Nat}{q:Program}{loose:List Str}{XP:(Str->Option Value)->Heap->Prop}{YP:World->Heap->Prop}{d:DefRec}
  (hn:l.most=some n) (LN:d.params.defaults=[])
  (call:∀ (w:World) (DW DA:Shared) (mg mb:Str->Option Value) (fa:Addr) (o:Obj) (pm cd doc:Value) (a:Addr) (vs:List Value) (ns:List Int),
   Ground q loose [] XP w DW mg mb DA.heap->YP w DA.heap->
   DA.heap.get? fa=some o->o.data=.func (docDef d.name d.params d.body d.scope pm cd doc)->DA.heap.CodeRec cd d.name->mg d.name=some (.ref fa)->
   DA.heap.get? a=some {cls:=.type "list",data:=.seq vs.toArray}->IntsAre vs ns->ns.length<=n->DA.gens = #[]->
   codeAny (model l.prog w) callerA (.call (.ref fa) ⟨[.ref a],[]⟩) (fun r s'=>r=.ok (.ret (.bool true))/\OldK DA.heap s'.heap/\s'.os=DA.os/\AllBare s'.gens) DA) :
  WalkO q loose XP YP l.row.toRowW d [] (fun f vs=>PySem.call f vs):=by
 intro w DW DA mg mb G Y fa o pm cd doc dV kV ho hd HC hD hmg hg args vals as IC RL U5 NL U6
 obtain rfl:dV=.none:=Dflts.none hD LN
 obtain rfl:kV=.none:=Dflts.noKw hD
 obtain⟨a,vs,ns,rfl,rfl,J1,hints,hlen⟩:=mX hn IC NL
 refine enter_call (codeAny_mono (call w DW DA mg mb fa o pm cd doc a vs ns G Y ho (fd_plain hd) HC hmg J1 hints hlen hg) fun r s' hq=>?_)
 obtain⟨rfl,h2,h3,h4⟩:=hq
 exact⟨.inl ⟨.bool true,.bool true,[],rfl,fun _=>rfl,.bool true,mY l _,fun _=>⟨List.Pairwise.nil,fun _ hm=>(nomatch hm)⟩⟩,h2,h3,h4⟩
end Att
namespace L2
open PySem PySem.Spec PyProof.Rows
def KL (K:PySem.W.Frag)(a:Addr)(xs:List V):Prop:=
 ∃ (its:List Value) (n:Nat),K.lookup a=some {cls:=.type "list",data:=.seq its.toArray n}/\its.length<=sizeLine/\Vals xs its
def Ls (K:PySem.W.Frag)(H:Hp)(a:Addr)(xs:List V):Prop:=Rd H a (.lst xs)∨KL K a xs
theorem gm:∀ {vs:List Value}{ns:List Int},IntsAre vs ns->Vals (ns.map V.int) vs
 | _,_,.nil=>.nil
 | _,_,.cons n t h=>.cons ⟨t,rfl⟩ (gm h)
def xJ (H:Hp):Prop:=∀ b,H b=none∨∃ o xs,H b=some (.Dw o (.lst xs))
theorem nZ {P:Program}{w:World}{K:PySem.W.Frag}{mg mb:Str->Option Value}{CX:Er}{k:Nat}{fa a:Addr}{fd:FuncData}{x:Str}{sp:Sp}{DA:Shared}{vs:List Value}{ns:List Int}
  (KX:K.In DA.heap) (J2:DA.heap.Ns mainGlobals mg) (hb:DA.heap.Ns builtinsNs mb) (RM:∀ x:Str,x≠"__name__"->mb x=bootBuiltins x) (NM:DA.heap.NoLimit) (hg:DA.gens = #[])
  (ha:DA.heap.get? a=some {cls:=.type "list",data:=.seq vs.toArray}) (hi:IntsAre vs ns) (hl:ns.length<=sizeLine) (hr:Ep k callerA)
  (F:∀ base:Heap,K.In base->base.Ns mainGlobals mg->EL P w K mg base CX k fa fd [x] sp) (LO:∀ (s:Shared) (u:Value),BindsTo s fd ⟨[u],[]⟩ [(x,u)])
  (Gn:∀ H:Hp,xJ H->Ls K H a (ns.map V.int)->sp [.ref a] H (fun v _=>v=.bl true) fun _ _ _=>False)
  (NN:∀ H e s',CX [] H DA (fun _ _ _=>False) e s'->False) :
  codeAny (model P w) callerA (.call (.ref fa) ⟨[.ref a],[]⟩) (fun r s'=>r=.ok (.ret (.bool true))/\OldK DA.heap s'.heap/\s'.os=DA.os/\AllBare s'.gens) DA:=by
 have rv:=gm hi
 have NO:=hi.length
 -- from an abstract heap in PF nothing but JW J3 may be tracked
 have core:∀ H:Hp,xJ H->Ls K H a (ns.map V.int)->DU P w H DA.heap->(∀ b,H b≠none->b=a)->(H a≠none->K.lookup a=none)->
   codeAny (model P w) callerA (.call (.ref fa) ⟨[.ref a],[]⟩) (fun r s'=>r=.ok (.ret (.bool true))/\OldK DA.heap s'.heap/\s'.os=DA.os/\AllBare s'.gens) DA:=by
  intro H hO hS Dz hA hK
  have GO:∀ {b:Addr}{o:Obj},DA.heap.get? b=some o->H b=none->(gR DA.heap H).get? b=some o:=fun e n=>nK e n
  have LK:∀ {b:Addr}{o:Obj}{es:Array DictEntry}{ep:Nat},DA.heap.get? b=some o->o.data=.dict es ep->H b=none:=fun {b o es ep} e d=>by
   cases q:H b with
   | none=>rfl
   | some u=>
    have e':b=a:=hA b (by rw[q];simp)
    subst e'
    rw[ha] at e;cases e
    have d':Data.seq vs.toArray _=Data.dict es ep:=d
    cases d'
  have MS:∀ {b:Addr}{m:Str->Option Value},DA.heap.Ns b m->(gR DA.heap H).Ns b m:=fun {b m} ⟨o,es,ep,e,d,r⟩=>⟨o,es,ep,GO e (LK e d),d,r⟩
  have PH:K.In (gR DA.heap H):=fun b o e=>GO (KX b o e) (by
   cases q:H b with
   | none=>rfl
   | some u=>
    have e':b=a:=hA b (by rw[q];simp)
    subst e'
    rw[hK (by rw[q];simp)] at e;cases e)
  have hM:Mod K mg (gR DA.heap H):=⟨PH,MS J2,⟨mb,MS hb,RM⟩,let ⟨mc,h1,h2⟩:=NM;⟨mc,MS h1,h2⟩⟩
  have e0:Gy P w K mg (gR DA.heap H) callerA [] DA H:=⟨rfl,hM,fun b o e=>sh e,Nat.le_of_eq (mP _ _),trivial,fun b hb=>absurd (show b∈([]:List Addr) from hb) (by simp),Dz,.of_eq hg⟩
  refine codeAny_mono ((F _ PH (MS J2)).run callerA [] DA H ⟨[.ref a],[]⟩ [.ref a] [.ref a] _ _ hr e0 (LO DA (.ref a)) (.cons rfl .nil) (Gn H hO hS)) fun r s' h=>?_
  cases r with
  | error e=>exact(NN H e s' h).elim
  | ok fl=>
   cases fl with
   | next=>exact False.elim h
   | brk=>exact False.elim h
   | cont=>exact False.elim h
   | ret u=>
    obtain⟨v,H',os,bare,un,NP,r',q⟩:=h
    have q':v=.bl true:=q
    subst q'
    obtain rfl:u=Value.bool true:=r'
    refine⟨rfl,OldK.of_keep fun b o e=>?_,os,bare⟩
    cases q:H b with
    | none=>exact un.keep b o e q (by intro z;exact absurd (show b∈([]:List Addr) from z) (by simp)) (by simp)
    | some u=>
     rcases hO b with z|⟨ob,xs,z⟩
     ·rw[q] at z;cases z
     ·have z2:=un.Ee b ob _ z
      obtain⟨e1,_⟩:=Dz b _ z
      obtain⟨e2,_⟩:=NP b _ z2
      rw[e] at e1;cases e1
      exact e2
 cases hk:K.lookup a with
 | some o=>
  -- JW J3 is one of JW LP own objects
  have e:=KX a o hk
  rw[ha] at e
  cases e
  refine core (fun _=>none) (fun _=>.inl rfl) (.inr ⟨vs,_,hk,by rw[NO];exact hl,rv⟩) (fun b u z=>by have z':(none:Option HO)=some u:=z;cases z') (fun b z=>absurd rfl z) fun z=>absurd rfl z
 | none=>
  refine core (fun b=>if b=a then some (.Dw {cls:=.type "list",data:=.seq vs.toArray} (.lst (ns.map V.int))) else none) (fun b=>?_) (.inl (.inr ⟨{cls:=.type "list",data:=.seq vs.toArray},if_pos rfl⟩)) (fun b u z=>?_) (fun b z=>?_) fun _=>hk
  ·by_cases hb:b=a
   ·exact .inr ⟨_,_,if_pos hb⟩
   ·exact .inl (if_neg hb)
  ·by_cases hb:b=a
   ·have z':=(if_pos hb).symm.trans z
    cases z'
    subst hb
    exact⟨ha,by rw[List.length_map];exact hl,vs,_,rv,ha⟩
   ·have z':=(if_neg hb).symm.trans z
    cases z'
  ·by_cases hb:b=a
   ·exact hb
   ·exact absurd (if_neg hb) z
theorem sO {l:PySem.W.OpenLaw}{n k:Nat}{q:Program}{loose:List Str}{XP:(Str->Option Value)->Heap->Prop}{YP:World->Heap->Prop}{d:DefRec}{K:Params->PySem.W.Frag}{CX:World->Er}{sp:World->Sp}{x:Str}
  (hn:l.most=some n) (MT:n<=sizeLine) (LN:d.params.defaults=[]) (hr:Ep k callerA)
  (hY:∀ (w:World) (h:Heap),YP w h->(K w.params).In h)
  (F:∀ (w:World) (mg:Str->Option Value) (fa:Addr) (h:Heap),(K w.params).In h->h.Ns mainGlobals mg->mg d.name=some (.ref fa)->
   ∃ fd:FuncData,(∀ (s:Shared) (u:Value),BindsTo s fd ⟨[u],[]⟩ [(x,u)])/\
    ∀ base:Heap,(K w.params).In base->base.Ns mainGlobals mg->EL l.prog w (K w.params) mg base (CX w) k fa fd [x] (sp w))
  (Gn:∀ (w:World) (H:Hp) (a:Addr) (ns:List Int),ns.length<=n->xJ H->Ls (K w.params) H a (ns.map V.int)->sp w [.ref a] H (fun v _=>v=.bl true) fun _ _ _=>False)
  (NN:∀ (w:World) (H:Hp) (s:Shared) (e:Value) (s':Shared),CX w [] H s (fun _ _ _=>False) e s'->False) :
  PySem.W.WalkO q loose XP YP l.row.toRowW d [] (fun f vs=>PySem.call f vs):=by
 refine Att.F6 hn LN fun w DW DA mg mb fa o pm cd doc a vs ns G Y ho hd HC hmg J1 hints hlen hg=>?_
 have KX:=hY w _ Y
 obtain⟨fd,hb,hF⟩:=F w mg fa _ KX G.T.g hmg
 exact nZ KX G.T.g G.T.b G.T.builtins G.T.nolimit hg J1 hints (Nat.le_trans hlen MT) hr hF hb (fun H hO hS=>Gn w H a ns hlen hO hS) fun H e s'=>NN w H DA e s'
noncomputable def bM (s:Stmt):Arguments:=match s with
 | .FunctionDef _ a _ _ _ _ _ _ _ _=>a
 | _=>{posonlyargs:=[],args:=[],vararg:=none,kwonlyargs:=[],kw_defaults:=[],kwarg:=none,defaults:=[]}
noncomputable def aO (s:Stmt):List Stmt:=match s with
 | .FunctionDef _ _ b _ _ _ _ _ _ _=>b
 | _=>[]
noncomputable def av (s:Stmt):Scope:=match s with
 | .FunctionDef _ _ _ _ _ _ sc _ _ _=>sc
 | _=>{kind:=.function,names:=[],isGenerator:=false,isCoroutine:=false}
structure Jq (K:PySem.W.Frag)(x qual:Str)(st:Stmt)(f:Addr)(fd:FuncData):Prop where
 ex:∃ (oc:Value) (od:Option Addr) (kV doc pm:Value) (an:Option Addr) (Fe ct:Value) (Iz:Array (Option Value)),
  fd=PySem.W.fnOf x qual (bM st) (aO st) (av st) .none kV doc pm an Fe ct/\K.lookup f=some ⟨oc,od,.func fd,Iz⟩/\PySem.W.codeIn K Fe qual=true
 kp:PySem.W.keepIn K (.ref f)=true
section
variable {P:Program}{w:World}{K:PySem.W.Frag}{mg:Str->Option Value}{base:Heap}
theorem Jq.binds {x qual:Str}{st:Stmt}{f:Addr}{fd:FuncData}{ps:List Str}(F:Jq K x qual st f fd)
  (h:∀ (kV doc pm:Value) (an:Option Addr) (Fe ct:Value) (us:List Value),us.length=ps.length->bindArgs (PySem.W.fnOf x qual (bM st) (aO st) (av st) .none kV doc pm an Fe ct) ⟨us,[]⟩=pure (ps.zip us)):Binds K fd ps []:=by
 obtain⟨oc,od,kV,doc,pm,an,Fe,ct,Iz,rfl,lk,HC⟩:=F.ex
 exact .all (h kV doc pm an Fe ct)
theorem e6 {x qual:Str}{st:Stmt}{f:Addr}{oc:Value}{od an:Option Addr}{Iz:Array (Option Value)}{kV doc pm Fe ct:Value}(l:K.lookup f=some ⟨oc,od,.func (PySem.W.fnOf x qual (bM st) (aO st) (av st) .none kV doc pm an Fe ct),Iz⟩)
  (c:PySem.W.codeIn K Fe qual=true) (k:PySem.W.keepIn K (.ref f)=true):Jq K x qual st f (PySem.W.fnOf x qual (bM st) (aO st) (av st) .none kV doc pm an Fe ct):=⟨⟨oc,od,kV,doc,pm,an,Fe,ct,Iz,rfl,l,c⟩,k⟩
end
def ar (H H':Hp):Prop:=∀ b o,H b=some o->H' b=some o
theorem ar.refl (H:Hp):ar H H:=fun _ _ h=>h
theorem ar.trans {H H1 H2:Hp}(a:ar H H1)(b:ar H1 H2):ar H H2:=fun c o h=>b c o (a c o h)
theorem ar.free {H H':Hp}(e:ar H H'){l:Addr}(h:H' l=Option.none):H l=Option.none:=by
 cases q:H l with
 | none=>rfl
 | some o=>
  rw[e l o q] at h
  cases h
theorem ar.seq {K:PySem.W.Frag}{H H':Hp}{a:Addr}{xs:List V}(e:ar H H')(h:EB K H a xs):EB K H' a xs:=by
 rcases h with (h|⟨o,h⟩)|h
 ·exact .inl (.inl (e _ _ h))
 ·exact .inl (.inr ⟨o,e _ _ h⟩)
 ·exact .inr h
theorem az {X:Cx}{e:Expr}{t t':TE}(h:PE X e t)(m:∀ σ H Q,t' σ H Q->t σ H Q):PE X e t':=fun pins s σ H Q I q=>h pins s σ H Q I (m σ H Q q)
theorem eh {X:Cx}{e:Expr}{t t':TT}(h:PT X e t)(m:∀ σ H Q,t' σ H Q->t σ H Q):PT X e t':=fun pins s σ H Q I q=>h pins s σ H Q I (m σ H Q q)
theorem gY {X:Cx}{e:List Expr}{t t':TA}(h:PA X e t)(m:∀ σ H Q,t' σ H Q->t σ H Q):PA X e t':=fun pos pins s σ H Q I q=>h pos pins s σ H Q I (m σ H Q q)
theorem aL {X:Cx}{e:Stmt}{t t':TS}(h:PS X e t)(m:∀ D σ H,t' D σ H->t D σ H):PS X e t':=fun pins s σ H D I q=>h pins s σ H D I (m D σ H q)
theorem c6 {X:Cx}{e:List Stmt}{t t':TS}(h:Gj X e t)(m:∀ D σ H,t' D σ H->t D σ H):Gj X e t':=fun pins s σ H D I q=>h pins s σ H D I (m D σ H q)
theorem e9 {X:Cx}{tg e:Expr}{t t':TI}(h:PI X tg e t)(m:∀ σ H Q,t' σ H Q->t σ H Q):PI X tg e t':=fun pins s σ H Q I q=>h pins s σ H Q I (m σ H Q q)
def GP (X:Cx)(scope:Scope)(cl:List (Str×Addr))(N:List Str)(C:Addr)(s3:Shared)(H3:Hp)(fp:List Addr)(xe:Value->Shared->Prop:=fun _ _=>False):Cx:=
 {X with N:=N,DW:=s3,ET:=H3,env:=compEnvC scope cl C X.env,outer:=X.stack,ex:=fp,fn:=fun _=>false,pn:=[],xe:=xe}
structure EX (X:Cx)(scope:Scope)(cl:List (Str×Addr))(Fr:List (Str×Nat))(Tg:List Str):Prop where
 LQ:closureFor scope X.env=pure cl
 kind:scope.kind=.function
 FJ:∀ y∈scope.names,y.2≠.cell
 loc:∀ y∈scope.names,y.2=.local->scope.names.lookup y.1=some .local
 sub:∀ x c,cl.lookup x=some c->X.env.cells.lookup x=some c
 has:∀ x,((relabel scope X.env).names.lookup x=some .cell∨(relabel scope X.env).names.lookup x=some .free)->∃ c,cl.lookup x=some c
 out:∀ p∈Fr,X.N[p.2]? = some p.1/\(X.env.kindOf p.1=some .cell∨X.env.kindOf p.1=some .free)/\((relabel scope X.env).names.lookup p.1=some .cell∨(relabel scope X.env).names.lookup p.1=some .free)
noncomputable def stC (Fr:List (Str×Nat))(Tg:List Str)(σ:St):St:=Fr.map (fun p=>(σ[p.2]?).join)++List.replicate Tg.length none
section
variable {X:Cx}{scope:Scope}{cl:List (Str×Addr)}{Fr:List (Str×Nat)}{Tg:List Str}{pins:List (Addr×Obj)}{σ:St}{H3:Hp}{s3:Shared}{fp:List Addr}
theorem xK (S:EX X scope cl Fr Tg)(I:Inv X pins σ H3 s3)(hf:∀ b∈fp,dq X pins H3 b)(NQ:∀ b∈fp,b < s3.heap.objs.size)(N:List Str)(xe:Value->Shared->Prop):(GP X scope cl N s3.heap.objs.size s3 H3 fp xe).Ok where
 mod:=I.ok.mod
 kind:=S.kind
 glob:=I.ok.glob
 blt:=I.ok.blt
 above:=Nat.le_refl _
 inj:=fun x y c h1 h2=>I.ok.inj x y c (S.sub x c h1) (S.sub y c h2)
 has:=fun x h=>S.has x h
 KY:=fun x c h _=>absurd (show false=true from h) (by decide)
 hd:=I.ok.hd
 frames:=I.ok.frames
 Dq:=.inl rfl
 Ly:=fun b hb=>⟨Nat.ne_of_lt (NQ b hb),fun x c e z=>(hf b hb).2.2.2.2.1 x c (S.sub x c e) z⟩
 bs:=I.bs
 Hq:=Nat.le_trans I.ok.Hq I.sz
 G5:=fun b o e hb=>by
  rcases (hf b hb).2.2.2.1 with z|z
  ·exact I.ok.G5 b o e z
  ·exact absurd (Nat.lt_of_lt_of_le (Heap.lt_size e) (Nat.le_trans I.ok.Hq z)) (Nat.lt_irrefl _)
 G6:=fun b hb z=>by
  rcases List.mem_cons.mp (I.Gv b z) with z|z
  ·exact(hf b hb).2.1 z
  ·exact(hf b hb).2.2.1 z
 En:=I.stack
 Gi:=I.FD
theorem mZ (S:EX X scope cl Fr Tg)(I:Inv X pins σ H3 s3)(hf:∀ b∈fp,dq X pins H3 b)(NQ:∀ b∈fp,b < s3.heap.objs.size){h':Heap}{tk:Nat}
  (J2:h'.Ns s3.heap.objs.size (fun _=>none)) (hk:∀ b o,s3.heap.get? b=some o->h'.get? b=some o) (xe:Value->Shared->Prop) :
  Inv (GP X scope cl (Fr.map (·.1)++Tg) s3.heap.objs.size s3 H3 fp xe) [] (stC Fr Tg σ) H3 {s3 with heap:=h',toks:=tk} where
 ok:=xK S I hf NQ _ _
 os:=rfl
 bare:=I.bare
 base:=Un.kept hk
 loc:=by
  refine⟨_,J2,fun i x v e1 e2 e3=>?_⟩
  have hi:i < Fr.length:=by
   by_cases hi:i < Fr.length
   ·exact hi
   ·unfold stC at e2
    rw[List.getElem?_append_right (by simpa using hi),List.getElem?_replicate] at e2
    split at e2<;>cases e2
  have MU:(Fr.map (·.1))[i]? = some x:=by
   rw[<- e1]
   exact(List.getElem?_append_left (by simpa using hi)).symm
  have Eg:(Fr.map (fun p=>(σ[p.2]?).join))[i]? = some (some v):=by
   rw[<- e2]
   exact(List.getElem?_append_left (by simpa using hi)).symm
  rw[List.getElem?_map] at MU Eg
  obtain⟨p,hp,rfl⟩:=Option.map_eq_some_iff.mp MU
  rw[hp] at Eg
  have ID:(σ[p.2]?).join=some v:=Option.some.inj Eg
  have e4:σ[p.2]? = some (some v):=by
   cases q:σ[p.2]? with
   | none=>rw[q] at ID;cases ID
   | some y=>rw[q] at ID;rw[show y=some v from ID]
  obtain⟨o1,o2,o3⟩:=S.out p (List.mem_of_getElem? hp)
  obtain⟨m,hn,hl⟩:=I.loc
  have hv:Lx X.env.scope p.1:=by
   rcases o2 with o2|o2
   ·exact .inr (.inl o2)
   ·exact .inr (.inr o2)
  obtain⟨u,r,l⟩:=hl p.2 p.1 v o1 e4 hv
  refine⟨u,r,.inr ⟨o3,?_⟩⟩
  obtain⟨c,hc⟩:=S.has p.1 o3
  refine⟨c,hc,?_⟩
  have KZ:=S.sub _ _ hc
  rcases l with ⟨k,_⟩|⟨_,c2,h2,z⟩
  ·rcases o2 with o2|o2<;>(rw[k] at o2;cases o2)
  ·rw[KZ] at h2;cases h2
   obtain⟨o,ho,hd⟩:=z
   exact⟨o,hk _ _ ho,hd⟩
 cell:=fun x c e=>by
  obtain⟨v,o,ho,hd⟩:=I.cell x c (S.sub x c e)
  exact⟨v,o,hk _ _ ho,hd⟩
 free:=I.Dz.fresh (Nat.le_refl _)
 Ef:=fun x c e=>I.Ef x c (S.sub x c e)
 pin:=fun p hp=>absurd (show p∈([]:List (Addr×Obj)) from hp) (by simp)
 Dz:=I.Dz.kept hk
 len:=by
  unfold stC
  show _=(Fr.map (·.1)++Tg).length
  simp
end
def IE (X:Cx)(ifs:List Expr)(t:TT):Prop:=
 ∀ (pins:List (Addr×Obj)) (s:Shared) (σ:St) (H:Hp) (Q:Bool->Hp->Prop),Inv X pins σ H s->t σ H Q->
  wpAny (model X.prog X.w) X.A (forIn ifs true fun c r=>if r=true then do let ok <- isTrue c X.env (eval c X.env);pure (ForInStep.yield ok) else pure (ForInStep.yield r)) (TP X pins σ Q) X.xe s
theorem eK {M:Model}{A:Around}{E:Value->Shared->Prop}{s:Shared}{env:Env}{Q:Bool->Shared->Prop}(h:Q false s):∀ ifs:List Expr,
  wpAny M A (forIn ifs false fun c r=>if r=true then do let ok <- isTrue c env (eval c env);pure (ForInStep.yield ok) else pure (ForInStep.yield r)) Q E s
 | []=>by
  rw[List.forIn_nil]
  exact wpAny_pure h
 | c::cs=>by
  rw[List.forIn_cons]
  rw[if_neg Bool.false_ne_true]
  exact wpAny_bind (wpAny_pure (eK h cs))
theorem sP {X:Cx}:IE X [] (fun _ H Q=>Q true H):=fun pins s σ H Q I q=>by
 rw[List.forIn_nil]
 exact wpAny_pure ⟨H,I,q⟩
theorem n6 {X:Cx}{c:Expr}{cs:List Expr}{t u:TT}(hc:PT X c t)(hr:IE X cs u):IE X (c::cs) (zE t u):=fun pins s σ H Q I q=>by
 rw[List.forIn_cons,if_pos rfl]
 refine wpAny_bind (wpAny_bind (DB (hc pins s σ H _ I q) fun b s1 ⟨H1,I1,q1⟩=>wpAny_pure ?_))
 cases b with
 | true=>exact hr pins s1 σ H1 Q I1 q1
 | false=>exact eK ⟨H1,I1,q1⟩ cs
def n8 (wi:TI)(start:St->St)(g:TG)(tt:TT)(te:TE):TE:=fun σ H Q=>wi σ H fun J H1=>∀ D,H1 D=none->∃ W:Nat->Nat->St->Hp->Prop,(∃ m,W 0 m (start σ) (upd H1 D (.lst [])))/\
 ∀ i m Dy H',W i m Dy H'->(J.stop i H'/\Q (.ref D) H')∨(J.go i H'/\∀ x H2,J.Ih i H' x H2->g x Dy H2 fun FG H3=>tt FG H3 fun b H4=>
  if b=true then te FG H4 fun v H5=>∃ ys,H5 D=some (.lst ys)/\ys.length < sizeLine/\∃ m',m' < m/\W (i+1) m' FG (upd H5 D (.lst (ys++[v])))
  else ∃ m',m' < m/\W (i+1) m' FG H4)
section
variable {X:Cx}{scope:Scope}{cl:List (Str×Addr)}{Fr:List (Str×Nat)}{Tg:List Str}{elt tg iter:Expr}{ifs:List Expr}{wi:TI}{g:TG}{tt:TT}{te:TE}{pos:Pos}
theorem gZ (scope:Scope)(pos:Pos)(it acc:Value)(env:Env) :
  compTurn (.ListComp elt [⟨tg,iter,ifs,0⟩] scope pos) 0 it acc env=(do
   standAt iter.pos
   match <- pyNext it with
   | none=>pure (.done .next)
   | some v=>
    letOwnedTupleGo tg it v
    assign tg env v
    let ok <- forIn ifs true fun c r=>if r=true then do let ok <- isTrue c env (eval c env);pure (ForInStep.yield ok) else pure (ForInStep.yield r)
    if ok=true then
     (do let _ <- call (.builtin "list.append") [acc,<- eval elt env])
    again (.compLoop (.ListComp elt [⟨tg,iter,ifs,0⟩] scope pos) 0 it acc env)):=by rfl
theorem fe {XE:Addr->Shared->Hp->List Addr->Value->Shared->Prop}(hc:X.calm=true)(S:EX X scope cl Fr Tg)
  (hg:∀ C s H fp,PG (GP X scope cl (Fr.map (·.1)++Tg) C s H fp (XE C s H fp)) tg g) (ht:∀ C s H fp,IE (GP X scope cl (Fr.map (·.1)++Tg) C s H fp (XE C s H fp)) ifs tt)
  (he:∀ C s H fp,PE (GP X scope cl (Fr.map (·.1)++Tg) C s H fp (XE C s H fp)) elt te)
  {pins:List (Addr×Obj)}{σ:St}{H2:Hp}{s2:Shared}{it:Addr}{fp:List Addr}{tn:Nat->Heap->Prop}{J:It}{Q:VK} (I2:Inv X pins σ H2 s2) (T:Turn X.prog X.w X.K tg J fp it tn) (Ii:tn 0 s2.heap)
  (f2:∀ b∈fp,dq X pins H2 b)
  (q:∀ D,H2 D=none->∃ W:Nat->Nat->St->Hp->Prop,(∃ m,W 0 m (stC Fr Tg σ) (upd H2 D (.lst [])))/\
   ∀ i m Dy H',W i m Dy H'->(J.stop i H'/\Q (.ref D) H')∨(J.go i H'/\∀ x H2,J.Ih i H' x H2->g x Dy H2 fun FG H3=>tt FG H3 fun b H4=>
    if b=true then te FG H4 fun v H5=>∃ ys,H5 D=some (.lst ys)/\ys.length < sizeLine/\∃ m',m' < m/\W (i+1) m' FG (upd H5 D (.lst (ys++[v])))
    else ∃ m',m' < m/\W (i+1) m' FG H4))
  {E:Value->Shared->Prop}{RR:Value->Env->Result->Shared->Prop}
  (hR:∀ D C s' H',(∃ m,s'.heap.Ns C m)->Inv X pins σ H' s'->dq X pins H' C->Q (.ref D) H'->∀ V:Env,V.locals=C->V.frame=X.env.frame->RR (.ref D) V (.ok .next) s')
  (hX:∀ D C s3 H3,(∀ s5 IF H5,Inv (GP X scope cl (Fr.map (·.1)++Tg) C s3 H3 fp (XE C s3 H3 fp)) [] IF H5 s5->(∃ m,s5.heap.Ns C m)/\Inv X pins σ H5 s5/\dq X pins H5 C)->∀ e s',XE C s3 H3 fp e s'->
   notedBy (model X.prog X.w) X.A (compEnvC scope cl C X.env) (fun x G8=>∀ V:Env,V.locals=C->V.frame=X.env.frame->RR (.ref D) V (.error x) G8) e s') :
  wpAny (model X.prog X.w) X.A (newList []) (fun acc IG=>wpAny (model X.prog X.w) X.A (newFunctionEnv scope X.env.globals cl [] X.env.qual none .none (some X.env)) (fun LR NR=>
   codeAny (model X.prog X.w) X.A (.compStart (.ListComp elt [⟨tg,iter,ifs,0⟩] scope pos) 0 (.ref it) acc {LR with scope:=relabel scope X.env}) (RR acc LR) NR) E IG) E s2:=by
 have RQ:∀ b∈fp,b < s2.heap.objs.size:=fun b hb=>by
  obtain⟨o,e,_⟩:=T.obj _ _ Ii b hb
  exact Heap.lt_size e
 -- JW Jr
 refine wpAny_newObj_type ?_
 have I3:Inv X pins σ (upd H2 s2.heap.objs.size (.lst [])) {s2 with heap:=s2.heap.push {cls:=.type "list",data:=.seq ([]:List Value).toArray},toks:=s2.toks}:=I2.LM (ys:=[]) (its:=[]) .nil (Nat.zero_le _)
 generalize hD:s2.heap.objs.size=D at I3 ⊢
 have RU:H2 D=none:=by rw[<- hD];exact I2.fresh
 generalize PJ:({s2 with heap:=s2.heap.push {cls:=.type "list",data:=.seq ([]:List Value).toArray},toks:=s2.toks}:Shared)=s3 at I3
 have k3:∀ b o,s2.heap.get? b=some o->s3.heap.get? b=some o:=fun b o e=>by rw[<- PJ];exact Heap.get?_push_of_some _ e
 have RV:s3.heap.objs.size=D+1:=by rw[<- PJ,<- hD];exact Heap.size_push ..
 have LS:∀ b∈fp,b < D:=fun b hb=>by rw[<- hD];exact RQ b hb
 have NS:∀ b∈fp,b < s3.heap.objs.size:=fun b hb=>by rw[RV];exact Nat.lt_succ_of_lt (LS b hb)
 have f3:∀ b∈fp,dq X pins (upd H2 D (.lst [])) b:=fun b hb=>by
  obtain⟨a1,a2⟩:=f2 b hb
  refine⟨?_,a2⟩
  rw[ah (Nat.ne_of_lt (LS b hb))]
  exact a1
 obtain⟨W,⟨m0,w0⟩,turn⟩:=q D RU
 refine wpAny_newFunctionEnv S.FJ (by intro y hy;simp at hy) (fun h4 J2 J4=>codeAny_mono (R:=fun r s'=>∀ V:Env,V.locals=s3.heap.objs.size->V.frame=X.env.frame->RR (.ref D) V r s') ?_ fun r s' z=>z _ rfl rfl) S.kind
 have k4:∀ b o,s3.heap.get? b=some o->h4.get? b=some o:=fun b o e=>
  J4.extBut b o (Nat.ne_of_lt (Heap.lt_size e)) (Heap.get?_push_of_some _ e)
 have PK:tn 0 h4:=T.keep _ _ _ Ii fun b hb o e=>k4 b o (k3 b o e)
 have I4:=mZ (fp:=fp) (h':=h4) (tk:=s3.toks+([]:List (Str×Value)).length) S I3 f3 NS (by simpa using J2) k4 (XE s3.heap.objs.size s3 (upd H2 D (.lst [])) fp)
 generalize hC:s3.heap.objs.size=C at I4 J2 J4 ⊢
 have NT:=hX D C s3 (upd H2 D (.lst []))
 generalize hZ:XE C s3 (upd H2 D (.lst [])) fp=Z at I4 NT
 generalize hY:GP X scope cl (Fr.map (·.1)++Tg) C s3 (upd H2 D (.lst [])) fp Z=Y at I4 NT
 have yP:Y.prog=X.prog:=by rw[<- hY];rfl
 have yw:Y.w=X.w:=by rw[<- hY];rfl
 have yK:Y.K=X.K:=by rw[<- hY];rfl
 have yA:Y.A=X.A:=by rw[<- hY];rfl
 have yc:Y.calm=true:=by rw[<- hY];exact hc
 have yx:Y.xe=Z:=by rw[<- hY];rfl
 have ye:Y.env=compEnvC scope cl C X.env:=by rw[<- hY];rfl
 have LU:Y.ex=fp:=by rw[<- hY];rfl
 have RW:Y.pn=[]:=by rw[<- hY];rfl
 have RX:Y.fs=Em X.stack:=by rw[<- hY];rfl
 have yH:Y.ET=upd H2 D (.lst []):=by rw[<- hY];rfl
 have Js:Y.DW=s3:=by rw[<- hY];rfl
 have RY:PG Y tg g:=by rw[<- hY,<- hZ];exact hg _ _ _ _
 have FX:IE Y ifs tt:=by rw[<- hY,<- hZ];exact ht _ _ _ _
 have RZ:PE Y elt te:=by rw[<- hY,<- hZ];exact he _ _ _ _
 have Gx:∀ {H':Hp},(∀ b∈fp,H' b=none)->∀ b∈fp,dq Y [] H' b:=fun hn b hb=>by
  have NU:=I4.ok
  refine⟨hn b hb,(NU.Ly b (by rw[LU];exact hb)).1,NU.G6 b (by rw[LU];exact hb),.inl (by rw[LU];exact hb),(NU.Ly b (by rw[LU];exact hb)).2,fun p hp=>absurd hp (by rw[RW];simp)⟩
 have R0:∀ b∈fp,(upd H2 D (.lst [])) b=none:=fun b hb=>(f3 b hb).1
 -- back to JW frame
 have back:∀ (s5:Shared) (IF:St) (H5:Hp),Inv Y [] IF H5 s5->(∃ m,s5.heap.Ns C m)/\Inv X pins σ H5 s5/\dq X pins H5 C:=by
  intro s5 IF H5 I5
  have NV:∃ m,s5.heap.Ns C m:=by
   obtain⟨m,hn,_⟩:=I5.loc
   rw[ye] at hn
   exact⟨m,hn⟩
  have R1:Un (Em X.stack) fp (upd H2 D (.lst [])) H5 s3.heap s5.heap:=by
   have u:=I5.base
   rw[RX,LU,yH,Js] at u
   exact u
  have R3:s5.os=s3.os:=by have:=I5.os;rw[Js] at this;exact this
  have NW:DU X.prog X.w H5 s5.heap:=by have:=I5.Dz;rw[yP,yw] at this;exact this
  have GJ:∀ b∈fp,(b∈X.ex∨X.DW.heap.objs.size<=b)/\b≠X.env.locals/\(∀ x c,X.env.cells.lookup x=some c->c≠b)/\∀ p∈X.pn++pins,p.1≠b:=fun b hb=>by
   obtain⟨_,a1,_,a3,a4,a5⟩:=f3 b hb
   exact⟨a3,a1,a4,a5⟩
  have LV:H5 C=none:=by
   have:=I5.free
   rw[ye] at this
   exact this
  exact⟨NV,I3.Jn R3 R1 NW I5.bare GJ,I3.Gw (Nat.le_of_eq hC) LV⟩
 have nz:∀ {α:Type}{t:Sem α}{Q:α->Shared->Prop}{s:Shared},wpAny (model X.prog X.w) X.A t Q Z s->wpAny (model X.prog X.w) X.A t Q (notedBy (model X.prog X.w) X.A (compEnvC scope cl C X.env) fun x G8=>∀ V:Env,V.locals=C->V.frame=X.env.frame->RR (.ref D) V (.error x) G8) s:=fun h=>wpAny_mono h (fun _ _ z=>z) fun e s' z=>NT back e s' z
 have loop:∀ (s5:Shared) (IF:St) (H5:Hp) (i m:Nat),Inv Y [] IF H5 s5->tn i s5.heap->(∀ b∈fp,H5 b=none)->W i m IF H5->
   codeAny (model X.prog X.w) X.A (.compLoop (.ListComp elt [⟨tg,iter,ifs,0⟩] scope pos) 0 (.ref it) (.ref D) (compEnvC scope cl C X.env)) (fun r s'=>∀ V:Env,V.locals=C->V.frame=X.env.frame->RR (.ref D) V r s') s5:=by
  intro s5 IF H5 i m I5 LI ND w5
  refine codeAny_loop rfl (fun n s'=>∃ i Dy H',Inv Y [] Dy H' s'/\tn i s'.heap/\(∀ b∈fp,H' b=none)/\W i n Dy H') ?_ m ⟨i,IF,H5,I5,LI,ND,w5⟩
  rintro n s6 ⟨i,JY,H6,I6,PL,PM,w6⟩
  show wpAny _ X.A ((compTurn (.ListComp elt [⟨tg,iter,ifs,0⟩] scope pos) 0 (.ref it) (.ref D) (compEnvC scope cl C X.env)).onRaise (fun x=>do noteFrame x (compEnvC scope cl C X.env);theTreesLotGoes x)) _ _ s6
  refine wpAny_noted ?_
  rw[gZ]
  refine wpAny_bind (wpAny_standAt (wpAny_bind ?_))
  have nx:∀ {α:Type}{t:Sem α}{Q:α->Shared->Prop}{E':Value->Shared->Prop}{s:Shared},wpAny (model X.prog X.w) X.A t Q (fun _ _=>False) s->wpAny (model X.prog X.w) X.A t Q E' s:=fun h=>wpAny_mono h (fun _ _ z=>z) fun _ _ z=>z.elim
  rcases turn i n JY H6 w6 with ⟨stop,qn⟩|⟨go,step⟩
  ·have h:=T.done Y yP yw yK yc i [] s6 JY H6 (fun _ _=>False) I6 (Gx PM) PL stop
   rw[yA] at h
   refine nx (DB h fun r s7 ⟨hr,I7⟩=>?_)
   subst hr
   refine wpAny_pure ?_
   obtain⟨b1,b2,b3⟩:=back s7 JY H6 I7
   exact hR D C s7 H6 b1 b2 b3 qn
  ·have h:=T.item Y yP yw yK yc i [] s6 JY H6 (fun _ _=>False) I6 (Gx PM) PL go
   rw[yA] at h
   refine nx (DB h fun r s7 ⟨u,hr,h7⟩=>?_)
   subst hr
   refine wpAny_bind (nx (DB h7 fun _ s8 ⟨x,H8,I8,r8,y8,NX,R4⟩=>?_))
   have R5:=I8.pinned (Gx R4) (T.obj _ _ NX)
   have h9:=RY _ s8 JY H8 x u _ R5 r8 (step x H8 y8)
   rw[yP,yw,yA,yx,ye] at h9
   refine wpAny_bind (nz (DB h9 fun _ s9 ⟨NY,H9,I9,q9⟩=>?_))
   have Jt:=FX _ s9 NY H9 _ I9 q9
   rw[yP,yw,yA,yx,ye] at Jt
   refine wpAny_bind (nz (DB Jt fun ok R6 ⟨R7,PN,K3⟩=>?_))
   have again:∀ {Dy:St}{H':Hp}{s':Shared},Inv Y ([]++d9 fp s8.heap) Dy H' s'->(∃ m',m' < n/\W (i+1) m' Dy H')->∃ m,m < n/\∃ i Dy H',Inv Y [] Dy H' s'/\tn i s'.heap/\(∀ b∈fp,H' b=none)/\W i m Dy H':=fun {Dy H' s'} I' ⟨m',hm,w'⟩=>by
    refine⟨m',hm,i+1,Dy,H',I'.EK,T.keep _ _ _ NX fun b hb o e=>(I'.pin (b,o) (List.mem_append_right _ (List.mem_append_right _ (cB hb e)))).1,fun b hb=>?_,w'⟩
    obtain⟨o,e,d⟩:=T.obj _ _ NX b hb
    exact(I'.pin (b,o) (List.mem_append_right _ (List.mem_append_right _ (cB hb e)))).2.1
   cases ok with
   | false=>
    rw[if_neg Bool.false_ne_true] at K3
    refine wpAny_bind (wpAny_pure (wpAny_pure ⟨rfl,again PN K3⟩))
   | true=>
    rw[if_pos rfl] at K3
    have Ju:=RZ _ R6 NY R7 _ PN K3
    rw[yP,yw,yA,yx,ye] at Ju
    refine wpAny_bind (wpAny_bind (nz (DB Ju fun y s11 ⟨v,PQ,R8,R9,ys,ey,zy,Sa⟩=>?_)))
    have IH:=gk (X:=Y) ([]++d9 fp s8.heap) s11 NY PQ (.ref D) [v] (.ref D) [y] (fun v' H'=>v'=.DE/\H'=upd PQ D (.lst (ys++[v]))) R8 rfl (.cons R9 .nil) ⟨D,ys,v,rfl,rfl,ey,zy,rfl,rfl⟩
    rw[yP,yw,yA,yx] at IH
    refine wpAny_bind (nz (DB IH fun z U7 ⟨U8,U9,Sb,U',PR,NZ⟩=>?_))
    subst NZ
    exact wpAny_pure (wpAny_pure ⟨rfl,again Sb Sa⟩)
 have start:=loop {s3 with heap:=h4,toks:=s3.toks+([]:List (Str×Value)).length} (stC Fr Tg σ) (upd H2 D (.lst [])) 0 m0 I4 PK R0 w0
 have e5:∀ (s':Shared),s' = {s3 with heap:=h4,toks:=s3.toks+([]:List (Str×Value)).length}->codeAny (model X.prog X.w) X.A (.compLoop (.ListComp elt [⟨tg,iter,ifs,0⟩] scope pos) 0 (.ref it) (.ref D) (compEnvC scope cl C X.env)) (fun r s'=>∀ V:Env,V.locals=C->V.frame=X.env.frame->RR (.ref D) V r s') s':=by
  rintro _ rfl
  exact start
 exact codeAny_compStart_list (e5 _ rfl) (T.self _ _ _ _ _ PK (e5 _ rfl))
theorem kI (hc:X.calm=true)(S:EX X scope cl Fr Tg)(hi:PI X tg iter wi)
  (hg:∀ C s H fp,PG (GP X scope cl (Fr.map (·.1)++Tg) C s H fp) tg g) (ht:∀ C s H fp,IE (GP X scope cl (Fr.map (·.1)++Tg) C s H fp) ifs tt)
  (he:∀ C s H fp,PE (GP X scope cl (Fr.map (·.1)++Tg) C s H fp) elt te) (hs:∀ x,foldedSetIterable iter X.env x=pure x:=by intro _;rfl) :
  PE X (.ListComp elt [⟨tg,iter,ifs,0⟩] scope pos) (n8 wi (stC Fr Tg) g tt te):=by
 intro pins s σ H Q I h
 rw[eval_ListComp]
 refine wpAny_comprehension_free (use:=none) rfl hs S.LQ S.kind S.loc (DB (hi pins s σ H _ I h) fun xv s1 h1=>DB h1 fun MN s2 h2=>?_)
 obtain⟨it,fp,tn,J,H2,rfl,I2,T,Ii,f2,q⟩:=h2
 refine fe (XE:=fun _ _ _ _ _ _=>False) (RR:=fun acc V=>compPost (model X.prog X.w) X.A X.xe none (EP X pins σ Q) acc V.locals) hc S hg ht he I2 T Ii f2 q ?_ fun _ _ _ _ _ _ _ z=>z.elim
 intro D C s' H' ⟨m,hn⟩ I' F' q' V hV _
 subst hV
 obtain⟨f0,f1,f2,f3,f4,f5⟩:=F'
 exact⟨m,hn,fun h' sb=>⟨.ref D,H',I'.turned (t':=s'.toks) (fun b o hb e=>(sb.2 b hb).trans e) f0 f1 f3 f4 f5,rfl,q'⟩⟩
theorem sQ {y:Str}{py spos:Pos}{i:Nat}(hc:X.calm=true)(hN:X.N.Nodup)(Sd:X.N[i]? = some y)(hy:X.env.kindOf y=some .local)(S:EX X scope cl Fr Tg)(hi:PI X tg iter wi)
  (hg:∀ C s H fp,PG (GP X scope cl (Fr.map (·.1)++Tg) C s H fp) tg g) (ht:∀ C s H fp,IE (GP X scope cl (Fr.map (·.1)++Tg) C s H fp) ifs tt)
  (he:∀ C s H fp,PE (GP X scope cl (Fr.map (·.1)++Tg) C s H fp) elt te)
  (LW:swapsWith (.ListComp elt [⟨tg,iter,ifs,0⟩] scope pos) (some (.Name y py)) spos.line X.env=pure true) (hs:∀ x,foldedSetIterable iter X.env x=pure x:=by intro _;rfl) :
  PS X (.Assign [.Name y py] (.ListComp elt [⟨tg,iter,ifs,0⟩] scope pos) spos) (fun D σ H=>n8 wi (stC Fr Tg) g tt te σ H fun v H'=>D.nx (σ.set i (some v)) H'):=by
 intro pins s σ H D I h
 rw[exec_Assign_Name_used _ _ _ _ LW]
 refine wpAny_bind (wpAny_standAt (wpAny_bind ?_))
 show wpAny _ X.A (do let _ <- comprehension (.ListComp elt [⟨tg,iter,ifs,0⟩] scope pos) scope X.env _ (newList []) false (eval iter X.env) (some (assign (.Name y py) X.env))) _ _ s
 refine wpAny_bind (DB (wpAny_comprehension_free (use:=some (assign (.Name y py) X.env)) (Q:=fun _ s'=>SP X pins D .next s') rfl hs S.LQ S.kind S.loc
  (DB (hi pins s σ H _ I h) fun xv s1 h1=>DB h1 fun MN s2 h2=>?_)) fun _ s' hq=>wpAny_pure (wpAny_pure hq))
 obtain⟨it,fp,tn,J,H2,rfl,I2,T,Ii,f2,q⟩:=h2
 refine fe (Q:=fun v H'=>D.nx (σ.set i (some v)) H') (XE:=fun _ _ _ _ _ _=>False) (RR:=fun acc V=>compPost (model X.prog X.w) X.A X.xe (some (assign (.Name y py) X.env)) (fun _ s'=>SP X pins D .next s') acc V.locals) hc S hg ht he I2 T Ii f2 q ?_ fun _ _ _ _ _ _ _ z=>z.elim
 intro D' C s' H' ⟨m,hn⟩ I' F' q' V hV _
 subst hV
 obtain⟨f0,f1,f2,f3,f4,f5⟩:=F'
 show wpAny _ X.A (assign (.Name y py) X.env (.ref D')) _ _ _
 refine wpAny_assign_Name (f6 I' hN Sd (.inl hy) (show RelV (.ref D') (.ref D') from rfl) (fun G8 Sf ⟨a,sb,ha⟩=>?_) (.inr hy))
 have Si:V.locals≠a:=by
  rcases ha with rfl|ha
  ·exact f1
  ·exact fun z=>f4 y a ha z.symm
 refine⟨m,hn.sameBut sb Si,fun h' Sj=>⟨_,H',Sf.turned (t':=G8.toks) (fun b o hb e=>(Sj.2 b hb).trans e) f0 f1 f3 f4 f5,q'⟩⟩
end
open PySem.SeqAt
section
variable {X:Cx}
theorem jf {x:Str}{n:Int}(h0 : -16000<=n)(h1:n<=16000)(hx:x.length<=1000):MulOk x n:=by
 refine⟨?_,fun hn _=>?_,fun hn _=>?_⟩
 ·rw[Bool.or_eq_false_iff]
  exact⟨decide_eq_false (by omega),decide_eq_false (by omega)⟩
 ·have:(1000:Int)<=(2 ^ 63 - 1) / n:=Int.le_ediv_of_mul_le (by omega) (by omega)
  omega
 ·have:x.length*n.toNat<=1000*16000:=Nat.mul_le_mul hx (by omega)
  unfold Builtin.Str.tooLong
  exact decide_eq_false (by rw[sizeLine_eq];omega)
theorem jV:Gk X (binaryOp .Mult) (fun x y H Q=>∃ i j,x=.str i/\y=.int j/\-16000<=j/\j<=16000/\i.length<=1000/\Q (.str (Txt.mul i j)) H):=by
 intro pins s σ H x y v u Q I rx ry h
 obtain⟨i,j,rfl,rfl,h0,h1,hz,q⟩:=h
 obtain⟨t,rfl⟩:=rx
 obtain⟨t',rfl⟩:=ry
 exact SB.mul (jf h0 h1 hz) fun t' tk=>⟨.str (Txt.mul i j),H,I.tok _,⟨_,rfl⟩,q⟩
noncomputable def dw (z:Str):List V:=z.cps.toList.map fun c=>.str ⟨#[c]⟩
theorem jW {z:Str}{HH:Array Value}(Ex:ItemsOf (SignAt z) HH z.cps.size):Vals (dw z) HH.toList:=by
 have hl:HH.toList.length=z.cps.toList.length:=by rw[Array.length_toList,Array.length_toList,Ex.1]
 have key:∀ (cs:List Nat) (vs:List Value),vs.length=cs.length->(∀ (i:Nat) (v:Value),vs[i]? = some v->∃ c u,cs[i]? = some c/\v=Value.str ⟨#[c]⟩ u)->Vals (cs.map fun c=>V.str ⟨#[c]⟩) vs:=by
  intro cs
  induction cs with
  | nil=>
   intro vs hl _
   cases vs with
   | nil=>exact .nil
   | cons _ _=>cases hl
  | cons c cs ih=>
   intro vs hl hv
   cases vs with
   | nil=>cases hl
   | cons v vs=>
    obtain⟨c',u,e1,e2⟩:=hv 0 v rfl
    have MU:c=c':=by simpa using e1
    subst MU e2
    exact .cons ⟨u,rfl⟩ (ih vs (by simpa using hl) fun i w hw=>by simpa using hv (i+1) w (by simpa using hw))
 refine key _ _ hl fun i v hv=>?_
 obtain⟨c,u,e1,e2⟩:=Ex.2 i v (by rw[<- Array.getElem?_toList];exact hv)
 exact⟨c,u,by rw[Array.getElem?_toList];exact e1,e2⟩
theorem dt (hc:X.calm=true):cg X (.type "list") (fun xs H Q=>∃ z:Str,xs=[.str z]/\z.length<=sizeLine/\∀ l,H l=none->Q (.ref l) (upd H l (.lst (dw z)))):=by
 intro pins s σ H xs us Q I r h
 obtain⟨z,rfl,hz,q⟩:=h
 obtain⟨u,rfl,t,rfl⟩:=vals1 r
 refine call_list_str (show X.A.handled=none from I.ok.hd hc) z t (fun h' tk HH c' kp e Ex=>?_) hz
 have rv:=jW Ex
 exact⟨.ref _,_,I.laid (t':=tk) kp (Nat.le_refl _) (show aK X.prog X.w _ h' _ (.lst (dw z)) from ⟨by unfold dw;simpa[Str.length] using hz,HH.toList,c',rv,by simpa using e⟩),rfl,q _ (I.Dz.fresh (Nat.le_refl _))⟩
end
open PySem.W
section
variable {κ:Type} [DecidableEq κ]
noncomputable def ei (kvs:List (κ×V))(k:κ):Option V:=(kvs.find? fun kv=>decide (kv.1=k)).map (·.2)
noncomputable def putK (kvs:List (κ×V))(k:κ)(v:V):List (κ×V):=
 if (kvs.any fun kv=>decide (kv.1=k))=true then kvs.map (fun kv=>if kv.1=k then (kv.1,v) else kv) else kvs++[(k,v)]
theorem fg {p:κ×V}{r:List (κ×V)}{k:κ}(e:p.1=k):ei (p::r) k=some p.2:=by simp[ei,List.find?_cons,e]
theorem fq {p:κ×V}{r:List (κ×V)}{k:κ}(e:¬ p.1=k):ei (p::r) k=ei r k:=by simp[ei,List.find?_cons,e]
theorem jg (k:κ):∀ kvs:List (κ×V),(kvs.any fun kv=>decide (kv.1=k))=(ei kvs k).isSome
 | []=>rfl
 | p::r=>by
  rw[List.any_cons]
  by_cases e:p.1=k
  ·simp only[fg e,decide_eq_true e,Bool.true_or,Option.isSome_some]
  ·rw[fq e,decide_eq_false e,Bool.false_or];exact jg k r
theorem cO (kvs:List (κ×V))(k:κ)(v:V):(putK kvs k v).length<=kvs.length+1:=by
 unfold putK
 split
 ·rw[List.length_map];omega
 ·rw[List.length_append,List.length_cons,List.length_nil];omega
theorem fW.Ea {o:Option V}{u:Option Value}(r:fW o u):o.isSome=u.isSome:=by
 cases o with
 | none=>cases u with
  | none=>rfl
  | some _=>exact(show False from r).elim
 | some _=>cases u with
  | none=>exact(show False from r).elim
  | some _=>rfl
theorem KV.val {kvs:List (κ×V)}{vs:List (κ×Value)}(r:KV kvs vs)(k:κ):fW (ei kvs k) (valueAt vs k):=by
 unfold KV at r
 induction r with
 | nil=>exact True.intro
 | @cons p q ps qs h t ih=>
  obtain⟨h1,h2⟩:=h
  by_cases e:p.1=k
  ·have e':q.1=k:=h1.symm.trans e
   have b:valueAt (q::qs) k=some q.2:=by simp[valueAt,List.find?_cons,e']
   rw[fg e,b];exact h2
  ·have e':¬ q.1=k:=fun z=>e (h1.trans z)
   have b:valueAt (q::qs) k=valueAt qs k:=by simp[valueAt,List.find?_cons,e']
   rw[fq e,b];exact ih
theorem KV.any {kvs:List (κ×V)}{vs:List (κ×Value)}(r:KV kvs vs)(k:κ):(kvs.any fun kv=>decide (kv.1=k))=vs.any fun kv=>decide (kv.1=k):=by
 unfold KV at r
 induction r with
 | nil=>rfl
 | cons h t ih=>rw[List.any_cons,List.any_cons,ih,h.1]
theorem KV.J5 {kvs:List (κ×V)}{vs:List (κ×Value)}(r:KV kvs vs)(k:κ){y:V}{u:Value}(ry:RelV y u) :
  KV (kvs.map fun kv=>if kv.1=k then (kv.1,y) else kv) (vs.map fun kv=>if kv.1=k then (kv.1,u) else kv):=by
 unfold KV at r ⊢
 induction r with
 | nil=>exact .nil
 | @cons p q ps qs h t ih=>
  rw[List.map_cons,List.map_cons]
  refine .cons ?_ ih
  obtain⟨h1,h2⟩:=h
  by_cases e:p.1=k
  ·rw[if_pos e,if_pos (h1.symm.trans e)];exact⟨h1,ry⟩
  ·rw[if_neg e,if_neg (fun z=>e (h1.trans z))];exact⟨h1,h2⟩
theorem KV.put {kvs:List (κ×V)}{vs:List (κ×Value)}(r:KV kvs vs)(k:κ){y:V}{u:Value}(ry:RelV y u):KV (putK kvs k y) (stored vs k u):=by
 unfold putK stored
 rw[r.any k]
 by_cases e:(vs.any fun kv=>decide (kv.1=k))=true
 ·rw[if_pos e,if_pos e];exact r.J5 k ry
 ·rw[if_neg e,if_neg e];exact Paired.snoc r ⟨rfl,ry⟩
theorem KV.length {kvs:List (κ×V)}{vs:List (κ×Value)}(r:KV kvs vs):kvs.length=vs.length:=Paired.length r
end
theorem gp {P:Program}{w:World}{k:Key}{u:Value}(r:RelV (kV k) u):(aC P w).is k u=true:=by
 cases k with
 | inl i=>obtain⟨t,e⟩:=(show ∃ t,u=Value.int i t from r);subst e;exact iT P w i t
 | inr x=>obtain⟨t,e⟩:=(show ∃ t,u=Value.str x t from r);subst e;exact iU P w x t
theorem gq {P:Program}{w:World}:∀ {ks:List Key}{us:List Value},Vals (ks.map kV) us->ItemsAre (aC P w) ks us
 | [],_,r=>by rw[List.map_nil] at r;cases r;exact .nil
 | k::ks,_,r=>by
  rw[List.map_cons] at r
  cases r with
  | cons h t=>exact .cons (gp h) (gq t)
abbrev KT (H:Hp):List (List Key×V)->List (List Key×Addr×Value)->Prop:=Paired fun p q=>p.1=q.1/\H q.2.1=some (.tup (p.1.map kV))/\RelV p.2 q.2.2
theorem KT.val {H:Hp}{kvs:List (List Key×V)}{xs:List (List Key×Addr×Value)}(r:KT H kvs xs)(k:List Key):fW (ei kvs k) ((atKey xs k).map (·.2)):=by
 induction r with
 | nil=>exact True.intro
 | @cons p q ps qs h t ih=>
  obtain⟨h1,_,h2⟩:=h
  by_cases e:p.1=k
  ·have e':q.1=k:=h1.symm.trans e
   have b:atKey (q::qs) k=some q.2:=by simp[atKey,List.find?_cons,e']
   rw[fg e,b];exact h2
  ·have e':¬ q.1=k:=fun z=>e (h1.trans z)
   have b:atKey (q::qs) k=atKey qs k:=by simp[atKey,List.find?_cons,e']
   rw[fq e,b];exact ih
theorem KT.J5 {H:Hp}{kvs:List (List Key×V)}{xs:List (List Key×Addr×Value)}(r:KT H kvs xs)(k:List Key){y:V}{u:Value}(ry:RelV y u) :
  KT H (kvs.map fun kv=>if kv.1=k then (kv.1,y) else kv) (xs.map (putAt k u)):=by
 induction r with
 | nil=>exact .nil
 | @cons p q ps qs h t ih=>
  rw[List.map_cons,List.map_cons]
  refine .cons ?_ ih
  obtain⟨h1,h2,h3⟩:=h
  unfold putAt
  by_cases e:p.1=k
  ·rw[if_pos e,if_pos (h1.symm.trans e)];exact⟨h1,h2,ry⟩
  ·rw[if_neg e,if_neg (fun z=>e (h1.trans z))];exact⟨h1,h2,h3⟩
theorem KT.put {H:Hp}{kvs:List (List Key×V)}{xs:List (List Key×Addr×Value)}(r:KT H kvs xs)(k:List Key){b:Addr}{y:V}{u:Value}(hb:H b=some (.tup (k.map kV)))(ry:RelV y u) :
  KT H (putK kvs k y) (storedH xs k b u):=by
 have e:(kvs.any fun kv=>decide (kv.1=k))=(atKey xs k).isSome:=by
  rw[jg,(r.val k).Ea,Option.isSome_map]
 unfold putK storedH
 rw[e]
 by_cases q:(atKey xs k).isSome=true
 ·rw[if_pos q,if_pos q];exact r.J5 k ry
 ·rw[if_neg q,if_neg q];exact Paired.snoc r ⟨rfl,hb,ry⟩
theorem KT.keeps {H H':Hp}{kvs:List (List Key×V)}{xs:List (List Key×Addr×Value)}(r:KT H kvs xs)(ht:∀ b ys,H b=some (.tup ys)->H' b=some (.tup ys)):KT H' kvs xs:=
 Paired.JQ r fun _ _ z=>⟨z.1,ht _ _ z.2.1,z.2.2⟩
section
variable {P:Program}{w:World}{H:Hp}{h:Heap}{a:Addr}
theorem uR {u:HO}(ok:DU P w H h)(e:Rd H a u):aK P w H h a u:=e.ok ok
theorem dI {kvs:List (Key×V)}(ok:DU P w H h)(e:Rd H a (.dK kvs)):kvs.length<=sizeLine/\(a == sysModules)=false/\∃ vs,KV kvs vs/\h.DictOf (aC P w) a vs:=
 show aK P w H h a (.dK kvs) from uR ok e
theorem uS {kvs:List (Key×V)}(ok:DU P w H h)(e:H a=some (.dK kvs)):kvs.length<=sizeLine/\(a == sysModules)=false/\∃ vs,KV kvs vs/\h.DictOf (aC P w) a vs:=dI ok (.inl e)
theorem ft {ks:List Key}(ok:DU P w H h)(e:H a=some (.tup (ks.map kV))):(tupleKind (aC P w)).is h ks a:=by
 obtain⟨_,its,r,o,h1,h2,n,h3⟩:=(show aK P w H h a (.tup (ks.map kV)) from ok a _ e)
 exact⟨o,its.toArray,n,h1,h2,h3,by simpa using gq r⟩
theorem gr {kvs:List (List Key×V)}(ok:DU P w H h)(e:Rd H a (.dT kvs)):kvs.length<=sizeLine/\(a == sysModules)=false/\
  ∃ xs,KT H kvs xs/\h.DictOfH (tupleKind (aC P w)) a xs:=by
 obtain⟨z,y,xs,r,o,es,ep,h1,h2,h3,h4,h5⟩:=(show aK P w H h a (.dT kvs) from uR ok e)
 refine⟨z,y,xs,r,o,es,ep,h1,h2,h3,h4,fun x hx=>?_,h5⟩
 have all:∀ {l:List (List Key×V)}{m:List (List Key×Addr×Value)},KT H l m->∀ x∈m,(tupleKind (aC P w)).is h x.1 x.2.1:=by
  intro l m q
  induction q with
  | nil=>intro x hx;exact nomatch hx
  | @cons p q ps qs hq t ih=>
   intro x hx
   rcases List.mem_cons.mp hx with e|hx
   ·subst e
    exact ft ok (by rw[<- hq.1];exact hq.2.1)
   ·exact ih x hx
 exact all r x hx
theorem zV {kvs:List (List Key×V)}(ok:DU P w H h)(e:H a=some (.dT kvs)):kvs.length<=sizeLine/\(a == sysModules)=false/\
  ∃ xs,KT H kvs xs/\h.DictOfH (tupleKind (aC P w)) a xs:=gr ok (.inl e)
end
def g9 (H:Hp)(a:Addr)(y:V)(r:Option V):Prop:=
 (∃ kvs k,Rd H a (.dK kvs)/\y=kV k/\r=ei kvs k)∨∃ kvs k b,Rd H a (.dT kvs)/\y=.ref b/\H b=some (.tup (k.map kV))/\r=ei kvs k
def zW (H:Hp)(a:Addr)(y v:V)(H':Hp):Prop:=
 (∃ kvs k,H a=some (.dK kvs)/\y=kV k/\kvs.length < sizeLine/\H'=upd H a (.dK (putK kvs k v)))∨
 ∃ kvs k b,H a=some (.dT kvs)/\y=.ref b/\H b=some (.tup (k.map kV))/\kvs.length < sizeLine/\H'=upd H a (.dT (putK kvs k v))
section
variable {X:Cx}{pins:List (Addr×Obj)}{σ:St}{H:Hp}{s:Shared}{a:Addr}{y v:V}{u r:Value}{o:Option V}{A:Around}{E:Value->Shared->Prop}
theorem Inv.big (I:Inv X pins σ H s):sysModules < s.heap.objs.size:=by
 have h:mainGlobals < s.heap.objs.size:=(I.mod.glob.keeps I.bk).lt
 exact Nat.lt_trans (by decide) h
theorem m4 {Q:Value->Shared->Prop}(hu:A.units+1 < cLine)(I:Inv X pins σ H s)(g:g9 H a y (some v))(ry:RelV y u)(h:∀ w' s',Inv X pins σ H s'->RelV v w'->Q w' s') :
  wpAny (model X.prog X.w) A (getItem (.ref a) u) Q E s:=by
 rcases g with ⟨kvs,k,e,ey,l⟩|⟨kvs,k,b,e,ey,eb,l⟩
 ·subst ey
  obtain⟨z,hd,vs,rel,dd⟩:=dI I.Dz e
  obtain⟨w',hw,IB⟩:=fW.some_of (v:=v) (o:=valueAt vs k) (by rw[l];exact rel.val k)
  exact wpAny_getItem_of (gp ry) dd.mapOf hw (h w' _ (I.tok _) IB)
 ·subst ey
  cases (show u=Value.ref b from ry)
  obtain⟨z,hd,xs,rel,dd⟩:=gr I.Dz e
  obtain⟨w',hw,IB⟩:=fW.some_of (v:=v) (o:=(atKey xs k).map (·.2)) (by rw[l];exact rel.val k)
  obtain⟨p,hp,Sk⟩:=Option.map_eq_some_iff.mp hw
  refine wpAny_getItem_heap (tupleKind_room_in1 hu) (ft I.Dz eb) dd hp ?_
  rw[Sk]
  exact h w' _ (I.tok _) IB
theorem CF {Q:Value->Shared->Prop}(hu:A.units+1 < cLine)(I:Inv X pins σ H s)(g:g9 H a y o)(ry:RelV y u)(h:∀ s',Inv X pins σ H s'->Q (.bool o.isSome) s') :
  wpAny (model X.prog X.w) A (compareOp .In u (.ref a)) Q E s:=by
 rcases g with ⟨kvs,k,e,ey,l⟩|⟨kvs,k,b,e,ey,eb,l⟩
 ·subst ey
  obtain⟨z,hd,vs,rel,dd⟩:=dI I.Dz e
  refine wpAny_in_of (gp ry) hd dd.mapOf ?_
  rw[<- (rel.val k).Ea,<- l]
  exact h _ (I.tok _)
 ·subst ey
  cases (show u=Value.ref b from ry)
  obtain⟨z,hd,xs,rel,dd⟩:=gr I.Dz e
  refine wpAny_in_heap (tupleKind_room_in1 hu) (ft I.Dz eb) hd dd ?_
  have q:=(rel.val k).Ea
  rw[Option.isSome_map] at q
  rw[<- q,<- l]
  exact h _ (I.tok _)
theorem sR {Q:Value->Shared->Prop}(hu:A.units+1 < cLine)(I:Inv X pins σ H s)(g:g9 H a y o)(ry:RelV y u)(h:∀ s',Inv X pins σ H s'->Q (.bool (!o.isSome)) s') :
  wpAny (model X.prog X.w) A (compareOp .NotIn u (.ref a)) Q E s:=by
 rcases g with ⟨kvs,k,e,ey,l⟩|⟨kvs,k,b,e,ey,eb,l⟩
 ·subst ey
  obtain⟨z,hd,vs,rel,dd⟩:=dI I.Dz e
  refine wpAny_notIn_of (gp ry) hd dd.mapOf ?_
  rw[<- (rel.val k).Ea,<- l]
  exact h _ (I.tok _)
 ·subst ey
  cases (show u=Value.ref b from ry)
  obtain⟨z,hd,xs,rel,dd⟩:=gr I.Dz e
  refine wpAny_notIn_heap (tupleKind_room_in1 hu) (ft I.Dz eb) hd dd ?_
  have q:=(rel.val k).Ea
  rw[Option.isSome_map] at q
  rw[<- q,<- l]
  exact h _ (I.tok _)
theorem hG {h':Heap}{t':Nat}{ob:HO}(I:Inv X pins σ H s)(mu:Lw (H a))(hs:Heap.SameBut a s.heap h')(he:∃ q,h'.get? a=some q)(new:aK X.prog X.w (upd H a ob) h' a ob) :
  Inv X pins σ (upd H a ob) {s with heap:=h',toks:=t'}:=
 I.write (x:=a) (e:=a) mu (.inl rfl) (fun b q hb z=>(hs.2 b hb).trans z) he new
theorem jX {P:Program}{w:World}{H':Hp}{h':Heap}{kvs:List (Key×V)}{vs:List (Key×Value)}(z:kvs.length<=sizeLine)(hd:(a == sysModules)=false)(rel:KV kvs vs)(dd:h'.DictOf (aC P w) a vs) :
  aK P w H' h' a (.dK kvs):=⟨z,hd,vs,rel,dd⟩
theorem m7 {H':Hp}{Q:Unit->Shared->Prop}(hu:A.units+1 < cLine)(I:Inv X pins σ H s)(g:zW H a y v H')(ry:RelV y u)(rv:RelV v r)(h:∀ s',Inv X pins σ H' s'->Q () s') :
  wpAny (model X.prog X.w) A (setItem (.ref a) u r) Q E s:=by
 rcases g with ⟨kvs,k,e,ey,l,eH⟩|⟨kvs,k,b,e,ey,eb,l,eH⟩
 ·subst ey eH
  obtain⟨z,hd,vs,rel,dd⟩:=uS I.Dz e
  have hz:vs.length<=sizeLine:=by rw[<- rel.length];exact z
  have hl:(putK kvs k v).length<=sizeLine:=by have:=cO kvs k v;omega
  refine wpAny_setItem_pairs (hsz:=hz) (gp ry) dd fun h' MV hs=>h _ ?_
  have he:∃ q,h'.get? a=some q:=let ⟨q,_,_,hq,_⟩:=MV;⟨q,hq⟩
  exact hG I (by rw[e];exact True.intro) hs he (jX hl hd (rel.put k rv) MV)
 ·subst ey eH
  cases (show u=Value.ref b from ry)
  obtain⟨z,hd,xs,rel,dd⟩:=zV I.Dz e
  have hz:xs.length<=sizeLine:=by rw[<- Paired.length rel];exact z
  have hl:(putK kvs k v).length<=sizeLine:=by have:=cO kvs k v;omega
  refine wpAny_setItem_heap (hsz:=hz) (tupleKind_room_in1 hu) (ft I.Dz eb) dd fun h' MV hs=>h _ ?_
  obtain⟨q,es,ep,hq,h2,h3,h4,_,h5⟩:=MV
  refine hG I (by rw[e];exact True.intro) hs ⟨q,hq⟩ ⟨hl,hd,_,(rel.put k eb rv).keeps fun c ys ec=>?_,q,es,ep,hq,h2,h3,h4,h5⟩
  rw[ah (zC ec e (fun z=>nomatch z))]
  exact ec
end
def zX (i:Expr):Prop:=∀ ov iv,subscripted i false ov iv=operate [ov,iv] (getItem ov iv)
theorem sS {prog:Program}{w:World}{A:Around}{E:Value->Shared->Prop}{s:Shared}{env:Env}{value slice:Expr}{pos:Pos}{T id:String}{Q:Value->Shared->Prop}
  (hl:typeLookup (.type T) "__getitem__" = pure (some (.builtin id))) (hs:zX slice)
  (h:wpAny (model prog w) A (eval value env) (fun o DA=>wpAny (model prog w) A (eval slice env) (fun i F0=>F0.TypeIs o T/\wpAny (model prog w) A (getItem o i) Q E F0) E DA) E s) :
  wpAny (model prog w) A (eval (.Subscript value slice pos) env) Q E s:=by
 refine Subscript_ (wpAny_mono h (fun o DA II=>wpAny_mono II (fun i F0 Gz=>?_) fun _ _ x=>x) fun _ _ x=>x)
 obtain⟨hT,Gz⟩:=Gz
 unfold subscriptTail
 refine wpAny_bind ?_
 rw[getitemInPython_of_ne hT.not_modules]
 refine wpAny_bind (wpAny_specialOf hT hl ?_)
 have fin:wpAny (model prog w) A (subscripted slice false o i) (fun r IG=>wpAny (model prog w) A (letTemporaryGo value o r >>= fun _=>pure r) Q E IG) E F0:=by
  rw[hs o i]
  exact wpAny_operating (wpAny_mono Gz (fun r IG N0=>wpAny_bind (wpAny_letTemporaryGo (wpAny_pure N0))) fun _ _ x=>x)
 first
  | exact wpAny_pure (wpAny_bind fin)
  | exact wpAny_bind (wpAny_pure (wpAny_bind fin))
  | exact wpAny_bind fin
theorem jh {X:Cx}{pins:List (Addr×Obj)}{σ:St}{H:Hp}{s:Shared}{a:Addr}{y:V}{o:Option V}(I:Inv X pins σ H s)(g:g9 H a y o):s.TypeIs (.ref a) "dict":=by
 rcases g with ⟨kvs,k,e,_,_⟩|⟨kvs,k,b,e,_,_,_⟩
 ·obtain⟨_,_,vs,_,dd⟩:=dI I.Dz e
  exact dd.typeIs
 ·obtain⟨_,_,xs,_,dd⟩:=gr I.Dz e
  exact dd.typeIs
def zY (td ty:TE):TE:=fun σ H Q=>td σ H fun x H1=>ty σ H1 fun y H2=>∃ a v,x=.ref a/\g9 H2 a y (some v)/\Q v H2
def CG (ty td:TE):TE:=fun σ H Q=>ty σ H fun y H1=>td σ H1 fun x H2=>∃ a o,x=.ref a/\g9 H2 a y o/\Q (.bl o.isSome) H2
def sT (ty td:TE):TE:=fun σ H Q=>ty σ H fun y H1=>td σ H1 fun x H2=>∃ a o,x=.ref a/\g9 H2 a y o/\Q (.bl (!o.isSome)) H2
def zZ (td ty tv:TE):TS:=fun D σ H=>tv σ H fun v H1=>td σ H1 fun x H2=>ty σ H2 fun y H3=>∃ a H4,x=.ref a/\zW H3 a y v H4/\D.nx σ H4
section
variable {X:Cx}{o i e value:Expr}{pos pos' Sl:Pos}{td ty tv:TE}
theorem sU (hu:X.A.units+1 < cLine)(ho:PE X o td)(hi:PE X i ty)(hs:zX i):PE X (.Subscript o i pos) (zY td ty):=by
 intro pins s σ H Q I h
 refine sS PySem.F.slot_dict_getitem.lookup hs (DB (ho pins s σ H _ I h) fun u s1 ⟨x,H1,I1,rx,q1⟩=>DB (hi pins s1 σ H1 _ I1 q1) fun iv s2 ⟨y,H2,I2,ry,a,v,ex,g,q2⟩=>?_)
 subst ex
 obtain rfl:u=Value.ref a:=rx
 exact⟨jh I2 g,m4 hu I2 g ry fun w' s3 I3 IB=>⟨v,H2,I3,IB,q2⟩⟩
theorem n9 (hu:X.A.units+1 < cLine)(hi:PE X i ty)(ho:PE X o td):PC X .In i o (CG ty td):=by
 intro pins s σ H Q I h
 refine DB (hi pins s σ H _ I h) fun iv s1 ⟨y,H1,I1,ry,q1⟩=>DB (ho pins s1 σ H1 _ I1 q1) fun u s2 ⟨x,H2,I2,rx,a,ov,ex,g,q2⟩=>?_
 subst ex
 obtain rfl:u=Value.ref a:=rx
 exact CF hu I2 g ry fun s3 I3=>⟨.bl ov.isSome,H2,I3,rfl,q2⟩
theorem gu (hu:X.A.units+1 < cLine)(hi:PE X i ty)(ho:PE X o td):PC X .NotIn i o (sT ty td):=by
 intro pins s σ H Q I h
 refine DB (hi pins s σ H _ I h) fun iv s1 ⟨y,H1,I1,ry,q1⟩=>DB (ho pins s1 σ H1 _ I1 q1) fun u s2 ⟨x,H2,I2,rx,a,ov,ex,g,q2⟩=>?_
 subst ex
 obtain rfl:u=Value.ref a:=rx
 exact sR hu I2 g ry fun s3 I3=>⟨.bl (!ov.isSome),H2,I3,rfl,q2⟩
theorem kJ (hu:X.A.units+1 < cLine)(ho:PE X o td)(hi:PE X i ty)(hv:PE X value tv)(hs:swapsWith value (some (.Subscript o i pos')) pos.line X.env=pure false) :
  PS X (.Assign [.Subscript o i pos'] value pos) (zZ td ty tv):=by
 intro pins s σ H D I h
 refine wpAny_Assign_Subscript (DB (hv pins s σ H _ I h) fun r s1 ⟨v,H1,I1,rv,q1⟩=>DB (ho pins s1 σ H1 _ I1 q1) fun u s2 ⟨x,H2,I2,rx,q2⟩=>DB (hi pins s2 σ H2 _ I2 q2) fun iv s3 ⟨y,H3,I3,ry,a,H4,ex,g,q3⟩=>?_) hs
 subst ex
 obtain rfl:u=Value.ref a:=rx
 exact m7 hu I3 g ry rv fun s4 I4=>⟨σ,H4,I4,q3⟩
end
theorem og {P:Program}{w:World}{H:Hp}(h:Heap)(hb:sysModules < h.objs.size):aK P w H (h.push {cls:=.type "dict",data:=.dict #[]}) h.objs.size (.dK []):=
 ⟨Nat.zero_le _,beq_eq_false_iff_ne.mpr (Ne.symm (Nat.ne_of_lt hb)),[],.nil,Heap.DictOf.new h⟩
def xM:TE:=fun _ H Q=>∀ p,H p=none->Q (.ref p) (upd H p (.dK []))
section
variable {X:Cx}{pos:Pos}
theorem ji:PE X (.Dict [] [] pos) xM:=fun pins s σ H Q I h=>
 wpAny_Dict_empty ⟨.ref s.heap.objs.size,_,I.laid (a:=s.heap.objs.size) (o:=.dK []) (t':=s.toks) (fun _ _ q=>Heap.get?_push_of_some _ q) (Nat.le_refl _) (og s.heap I.big),rfl,h _ (I.Dz.fresh (Nat.le_refl _))⟩
end
noncomputable def bR (kvs more:List (Key×V)):List (Key×V):=more.foldl (fun acc kv=>putK acc kv.1 kv.2) kvs
theorem KV.merge:∀ {more:List (Key×V)}{rs:List (Key×Value)}{kvs:List (Key×V)}{vs:List (Key×Value)},KV more rs->KV kvs vs->KV (bR kvs more) (merged vs rs):=by
 intro more rs kvs vs r
 unfold KV at r
 induction r generalizing kvs vs with
 | nil=>intro q;exact q
 | @cons p q ps qs h t ih=>
  intro r0
  have e:KV (putK kvs p.1 p.2) (stored vs q.1 q.2):=by
   have:=r0.put p.1 h.2
   rw[<- h.1];exact this
  exact ih e
theorem b9:∀ (more kvs:List (Key×V)),(bR kvs more).length<=kvs.length+more.length
 | [],kvs=>by show kvs.length<=kvs.length+0;omega
 | p::r,kvs=>by
  have h1:=b9 r (putK kvs p.1 p.2)
  have h2:=cO kvs p.1 p.2
  show (bR (putK kvs p.1 p.2) r).length<=_
  rw[List.length_cons];omega
def PU (H:Hp)(a:Addr):Prop:=(∃ kvs,Rd H a (.dK kvs))∨∃ kvs,Rd H a (.dT kvs)
theorem oh {X:Cx}{pins:List (Addr×Obj)}{σ:St}{H:Hp}{s:Shared}{a:Addr}(I:Inv X pins σ H s)(d:PU H a) :
  s.TypeIs (.ref a) "dict"/\(∀ b,Value.ref a=.ref b->∃ ob,s.heap.get? b=some ob/\ob.dict=none)/\(a == sysModules)=false:=by
 rcases d with ⟨kvs,e⟩|⟨kvs,e⟩
 ·obtain⟨_,hd,vs,_,dd⟩:=dI I.Dz e
  refine⟨dd.typeIs,fun b q=>?_,hd⟩
  cases q
  obtain⟨ob,_,_,h1,h2,_⟩:=dd
  exact⟨ob,h1,h2.2.1⟩
 ·obtain⟨_,hd,xs,_,dd⟩:=gr I.Dz e
  refine⟨dd.typeIs,fun b q=>?_,hd⟩
  cases q
  obtain⟨ob,_,_,h1,h2,_⟩:=dd
  exact⟨ob,h1,h2.2.1⟩
open PySem.Builtin PySem.Builtin.Str
section
variable {X:Cx}
theorem sV {x:Str}{e:Expr}{j:Nat}{p q pos:Pos}{t:TE}(hx:x.length<=1000)(h:PE X e t) :
  PE X (.JoinedStr [.Constant (.str x) j p,.FormattedValue e 114 none q] pos) (fun σ H Q=>t σ H fun v H'=>∃ z,v=.str z/\x.length+(reprText z).length<=sizeLine/\Q (.str (x++reprText z)) H'):=by
 intro pins s σ H Q I hq
 have hs:sizeLine=16777216:=sizeLine_eq
 refine JoinedStr_many (joinParts_cons (DB (eX (X:=X) (x:=x) (j:=j) (pos:=p) pins s σ H (fun v H'=>v=.str x/\H'=H) I ⟨rfl,rfl⟩) fun v s1 ⟨y,H1,I1,r1,e1,e2⟩=>?_))
 subst e1 e2
 obtain⟨t1,rfl⟩:=r1
 have ex:Str.empty++x=x:=Str.empty_append x
 refine⟨by rw[ex];omega,?_⟩
 rw[ex]
 refine joinParts_cons (wpAny_FormattedValue_repr (DB (h pins s1 σ _ _ I1 hq) fun v s2 ⟨y,H2,I2,r2,z,e2,hz,q2⟩=>?_))
 subst e2
 obtain⟨t2,rfl⟩:=r2
 refine pyReprObj_str ?_ (by omega)
 refine formatField_str (fun t' tk=>⟨by rw[strLen_append];exact hz,?_⟩) (by omega)
 exact joinParts_nil ⟨.str _,H2,(I2.tok _).tok _,⟨_,rfl⟩,q2⟩ (by rw[strLen_append];exact hz)
theorem sW {x w:Str}{e:Expr}{j j':Nat}{p q r pos:Pos}{t:TE}(hx:x.length<=1000)(h:PE X e t) :
  PE X (.JoinedStr [.Constant (.str x) j p,.FormattedValue e 114 none q,.Constant (.str w) j' r] pos) (fun σ H Q=>t σ H fun v H'=>∃ z,v=.str z/\x.length+(reprText z).length+w.length<=sizeLine/\Q (.str (x++reprText z++w)) H'):=by
 intro pins s σ H Q I hq
 have hs:sizeLine=16777216:=sizeLine_eq
 refine JoinedStr_many (joinParts_cons (DB (eX (X:=X) (x:=x) (j:=j) (pos:=p) pins s σ H (fun v H'=>v=.str x/\H'=H) I ⟨rfl,rfl⟩) fun v s1 ⟨y,H1,I1,r1,e1,e2⟩=>?_))
 subst e1 e2
 obtain⟨t1,rfl⟩:=r1
 have ex:Str.empty++x=x:=Str.empty_append x
 refine⟨by rw[ex];omega,?_⟩
 rw[ex]
 refine joinParts_cons (wpAny_FormattedValue_repr (DB (h pins s1 σ _ _ I1 hq) fun v s2 ⟨y,H2,I2,r2,z,e2,hz,q2⟩=>?_))
 subst e2
 obtain⟨t2,rfl⟩:=r2
 refine pyReprObj_str ?_ (by omega)
 refine formatField_str (fun t' tk=>⟨by rw[strLen_append];omega,?_⟩) (by omega)
 refine joinParts_cons (DB (eX (X:=X) (x:=w) (j:=j') (pos:=r) pins _ σ H2 (fun v H'=>v=.str w/\H'=H2) ((I2.tok _).tok _) ⟨rfl,rfl⟩) fun v s3 ⟨y,H3,I3,r3,e3,e4⟩=>?_)
 subst e3 e4
 obtain⟨t3,rfl⟩:=r3
 refine⟨by rw[strLen_append,strLen_append];omega,?_⟩
 exact joinParts_nil ⟨.str _,_,I3.tok _,⟨_,rfl⟩,q2⟩ (by rw[strLen_append,strLen_append];omega)
end
end L2
namespace L2.Zp
open PySem
inductive Kq where
 | l|t
def Sq (k:Kq)(h:Heap)(a:Addr)(xs:Array Value):Prop:=match k with
 | .l=>h.IsList a xs
 | .t=>h.IsTuple a xs
def It (k:Kq)(h:Heap)(i a:Addr)(n:Nat):Prop:=match k with
 | .l=>h.IsListIter i a n
 | .t=>h.IsTupleIter i a n
theorem Sq.to {k:Kq}{h h':Heap}{a:Addr}{xs:Array Value}(q:Sq k h a xs)(e:∀ o,h.get? a=some o->h'.get? a=some o):Sq k h' a xs:=by
 cases k with
 | l=>obtain⟨o,ho,r⟩:=q;exact⟨o,e o ho,r⟩
 | t=>obtain⟨o,ho,r⟩:=q;exact⟨o,e o ho,r⟩
theorem It.to {k:Kq}{h h':Heap}{i a:Addr}{n:Nat}(q:It k h i a n)(e:∀ o,h.get? i=some o->h'.get? i=some o):It k h' i a n:=by
 cases k with
 | l=>obtain⟨o,ho,r⟩:=q;exact⟨o,e o ho,r⟩
 | t=>obtain⟨o,ho,r⟩:=q;exact⟨o,e o ho,r⟩
theorem It.lt {k:Kq}{h:Heap}{i a:Addr}{n:Nat}(q:It k h i a n):i < h.objs.size:=by
 cases k with
 | l=>obtain⟨o,ho,_⟩:=q;exact Heap.lt_size ho
 | t=>obtain⟨o,ho,_⟩:=q;exact Heap.lt_size ho
section
variable {prog:Program}{w:World}{A:Around}{E:Value->Shared->Prop}{s:Shared}
theorem om {i a:Addr}{n:Nat}{xs:Array Value}{x:Value}{Q:Value->Shared->Prop}(c:s.heap.IsTupleIter i a n)(q:s.heap.IsTuple a xs)(hx:xs[n]? = some x)
  (k:∀ h',h'.IsTupleIter i a (n+1)->Heap.SameBut i s.heap h'->Q x {s with heap:=h'}):wpAny (model prog w) A (Builtin.SmallTypes.nextOf (.ref i)) Q E s:=by
 have ty:=c.typeIs
 obtain⟨oi,gi,ci,di⟩:=c
 obtain⟨oa,ga,_,na,da⟩:=q
 unfold Builtin.SmallTypes.nextOf
 refine wpAny_bind (wpAny_callSpecial?_slot (name:=Str.ofString "__next__") ty F.slot_tuple_iterator_next (wpAny_call_entry F.slot_tuple_iterator_next ty F.entry_tuple_iterator_next ?_ (F.args_tuple_iterator_next_1 _)))
 show wpAny _ _ (field (.ref i) 0 >>= _) _ _ s
 refine wpAny_bind (wpAny_field gi di (x:=.ref a) rfl ?_)
 show wpAny _ _ (if (Value.ref a == Value.none)=true then _ else _) _ _ s
 rw[if_neg (by intro z;cases z)]
 show wpAny _ _ (field (.ref i) 1 >>= _) _ _ s
 refine wpAny_bind (wpAny_field gi di (x:=.int n 0) rfl ?_)
 show wpAny _ _ (seqItems? (.ref a) >>= _) _ _ s
 refine wpAny_bind (wpAny_seqItems ga da ?_)
 simp only[Int.toNat_natCast,hx]
 refine wpAny_bind (wpAny_setField gi di (by simp) (wpAny_pure ⟨x,rfl,wpAny_pure (k _ ⟨_,Heap.get?_update_self _ gi (Obj.isFreed_of_fields (Obj.data_mapFields di _)),(Obj.cls_mapFields ..).trans ci,?_⟩ (Heap.SameBut.update ..))⟩))
 rw[Obj.data_mapFields di]
 simp[rawInt]
theorem sX {i a:Addr}{n:Nat}{xs:Array Value}{Q:Value->Shared->Prop}(hh:A.handled=none)(c:s.heap.IsTupleIter i a n)(q:s.heap.IsTuple a xs)(hx:xs[n]? = none)
  (k:∀ h' e,Heap.ExtBut i s.heap h'->(∃ o,h'.get? e=some o/\o.cls=.type "StopIteration")->E (.ref e) {s with heap:=h'}):wpAny (model prog w) A (Builtin.SmallTypes.nextOf (.ref i)) Q E s:=by
 have ty:=c.typeIs
 obtain⟨oi,gi,ci,di⟩:=c
 obtain⟨oa,ga,_,na,da⟩:=q
 unfold Builtin.SmallTypes.nextOf
 refine wpAny_bind (wpAny_callSpecial?_slot (name:=Str.ofString "__next__") ty F.slot_tuple_iterator_next (wpAny_call_entry F.slot_tuple_iterator_next ty F.entry_tuple_iterator_next ?_ (F.args_tuple_iterator_next_1 _)))
 show wpAny _ _ (field (.ref i) 0 >>= _) _ _ s
 refine wpAny_bind (wpAny_field gi di (x:=.ref a) rfl ?_)
 show wpAny _ _ (if (Value.ref a == Value.none)=true then _ else _) _ _ s
 rw[if_neg (by intro z;cases z)]
 show wpAny _ _ (field (.ref i) 1 >>= _) _ _ s
 refine wpAny_bind (wpAny_field gi di (x:=.int n 0) rfl ?_)
 show wpAny _ _ (seqItems? (.ref a) >>= _) _ _ s
 refine wpAny_bind (wpAny_seqItems ga da ?_)
 simp only[Int.toNat_natCast,hx]
 refine wpAny_bind (wpAny_rule (wpAny_bind (wpAny_setField gi di (by simp) (wpAny_bind ?_))))
 simp only[newExc,newTuple]
 refine wpAny_bind (wpAny_newObj_type (wpAny_bind (m:=firstArgMember _ _) (wpAny_of_eq (a:=Value.none) (by first|rfl|(simp only[firstArgMember];rfl)) (wpAny_newObj_type ?_ (by size_fits)))) (by size_fits))
 simp only[raiseNew]
 refine wpAny_bind (wpAny_handled ?_)
 first|rw[show A.in1.handled=none from hh]|rw[hh]
 exact wpAny_bind (wpAny_pure (wpAny_throw (k _ _ (((Heap.SameBut.update ..).extBut.push _).push _) ⟨_,Heap.get?_push_size _ rfl,rfl⟩)))
theorem hJ {k:Kq}{i a:Addr}{n:Nat}{xs:Array Value}{x:Value}{Q:Value->Shared->Prop}(c:It k s.heap i a n)(q:Sq k s.heap a xs)(hx:xs[n]? = some x)
  (f:∀ h',It k h' i a (n+1)->Heap.SameBut i s.heap h'->Q x {s with heap:=h'}):wpAny (model prog w) A (Builtin.SmallTypes.nextOf (.ref i)) Q E s:=by
 cases k with
 | l=>exact wpAny_nextOf_list_item c q hx f
 | t=>exact om c q hx f
theorem oq {k:Kq}{i a:Addr}{n:Nat}{xs:Array Value}{Q:Value->Shared->Prop}(hh:A.handled=none)(c:It k s.heap i a n)(q:Sq k s.heap a xs)(hx:xs[n]? = none)
  (f:∀ h' e,Heap.ExtBut i s.heap h'->(∃ o,h'.get? e=some o/\o.cls=.type "StopIteration")->E (.ref e) {s with heap:=h'}):wpAny (model prog w) A (Builtin.SmallTypes.nextOf (.ref i)) Q E s:=by
 cases k with
 | l=>exact wpAny_nextOf_list_end hh c q hx f
 | t=>exact sX hh c q hx f
end
section
variable {prog:Program}{w:World}{A:Around}{E:Value->Shared->Prop}{s:Shared}
def Kept (z TO i j:Addr)(h h':Heap):Prop:=∀ c o,c≠z->c≠TO->c≠i->c≠j->h.get? c=some o->h'.get? c=some o
theorem m8 {p q:Kq}{z TI TO i j l m:Addr}{n n':Nat}{xs ys:Array Value}{x y a b:Value}{Q:Value->Shared->Prop}(D:ZipApart z TI TO i j l m)(hz:IsZip s.heap z TI TO .none)(hI:IsPair s.heap TI (.ref i) (.ref j))(hO:IsPair s.heap TO a b)
  (ci:It p s.heap i l n) (cj:It q s.heap j m n') (sl:Sq p s.heap l xs) (sm:Sq q s.heap m ys) (hx:xs[n]? = some x) (hy:ys[n']? = some y)
  (k:∀ h',IsZip h' z TI TO (rawInt s.heap.objs.size)->IsPair h' TO x y->It p h' i l (n+1)->It q h' j m (n' + 1)->IsPair h' s.heap.objs.size x y->h'.objs.size=s.heap.objs.size+1->Kept z TO i j s.heap h'->Q (.ref s.heap.objs.size) {s with heap:=h'}) :
  wpAny (model prog w) A (Builtin.«zip.__next__» ⟨[.ref z],[]⟩) (fun fin s'=>∃ v,fin=.done (.ret v)/\Q v s') E s:=by
 show wpAny _ _ (field (.ref z) 2 >>= _) _ _ _
 refine wpAny_bind (wpAny_field hz rfl (x:=.bool false) rfl ?_)
 show wpAny _ _ (field (.ref z) 3 >>= _) _ _ _
 refine wpAny_bind (wpAny_field hz rfl (x:=.ref TI) rfl (wpAny_bind (wpAny_seqItems hI rfl ?_)))
 show wpAny _ _ (Builtin.SmallTypes.ownedTupleIsFree (.ref z) >>= _) _ _ _
 refine wpAny_bind ?_
 unfold Builtin.SmallTypes.ownedTupleIsFree
 refine wpAny_bind (wpAny_field hz rfl (x:=.none) rfl (wpAny_pure ?_))
 simp only[if_true]
 refine wpAny_bind (wpAny_rule (wpAny_bind (wpAny_field hz rfl (x:=.ref TO) rfl (wpAny_bind (wpAny_setField_rec hz (by simp) fun h1 z1 e1=>?_)))))
 have MW:IsZip h1 z TI TO .ellipsis:=z1
 refine wpAny_bind ?_
 simp only[List.zipIdx_cons,List.zipIdx_nil,List.forIn_cons,List.forIn_nil]
 refine wpAny_bind (wpAny_bind (wpAny_onRaise ?_))
 show wpAny _ _ (Builtin.SmallTypes.nextOf (.ref i) >>= _) _ _ _
 refine wpAny_bind (hJ (ci.to fun o e=>e1.extBut _ _ D.i1z e) (sl.to fun o e=>e1.extBut _ _ D.l1z e) hx fun h2 PV e2=>wpAny_pure ?_)
 have O2:IsPair h2 TO a b:=e2.extBut _ _ D.TOi1 (e1.extBut _ _ D.TOz hO)
 refine wpAny_bind (wpAny_seqItems O2 rfl (wpAny_bind (wpAny_updateSeq_pair O2 fun h3 O3 e3=>?_)))
 have Sm:IsPair h3 TO x b:=O3
 refine wpAny_bind (wpAny_letGo (wpAny_pure (wpAny_bind (wpAny_bind (wpAny_onRaise ?_)))))
 show wpAny _ _ (Builtin.SmallTypes.nextOf (.ref j) >>= _) _ _ _
 refine wpAny_bind (hJ (cj.to fun o e=>e3.extBut _ _ D.TOi2.symm (e2.extBut _ _ D.i12.symm (e1.extBut _ _ D.i2z e))) (sm.to fun o e=>e3.extBut _ _ D.l2TO (e2.extBut _ _ D.l2i1 (e1.extBut _ _ D.l2z e))) hy fun h4 Sn e4=>wpAny_pure ?_)
 have O4:IsPair h4 TO x b:=e4.extBut _ _ D.TOi2 Sm
 refine wpAny_bind (wpAny_seqItems O4 rfl (wpAny_bind (wpAny_updateSeq_pair O4 fun h5 O5 e5=>?_)))
 have PX:IsPair h5 TO x y:=O5
 refine wpAny_bind (wpAny_letGo (wpAny_pure (wpAny_pure (wpAny_bind (wpAny_seqItems PX rfl (wpAny_bind (wpAny_newTuple ?_)))))))
 have sz:h5.objs.size=s.heap.objs.size:=by rw[e5.1,e4.1,e3.1,e2.1,e1.1]
 have z5:IsZip h5 z TI TO .ellipsis:=e5.extBut _ _ D.TOz.symm (e4.extBut _ _ D.i2z.symm (e3.extBut _ _ D.TOz.symm (e2.extBut _ _ D.i1z.symm MW)))
 have k5:Kept z TO i j s.heap h5:=fun c o c1 c2 c3 c4 e=>e5.extBut _ _ c2 (e4.extBut _ _ c4 (e3.extBut _ _ c2 (e2.extBut _ _ c3 (e1.extBut _ _ c1 e))))
 have So:It p h5 i l (n+1):=PV.to fun o e=>e5.extBut _ _ D.TOi1.symm (e4.extBut _ _ D.i12 (e3.extBut _ _ D.TOi1.symm e))
 have Ss:It q h5 j m (n' + 1):=Sn.to fun o e=>e5.extBut _ _ D.TOi2.symm e
 have lz:z < h5.objs.size:=Heap.lt_size z5
 show wpAny _ _ (Builtin.SmallTypes.ownedTupleHandOut (.ref z) (.ref h5.objs.size) >>= _) _ _ _
 refine wpAny_bind ?_
 unfold Builtin.SmallTypes.ownedTupleHandOut
 have z6:IsZip (h5.push {cls:=.type "tuple",data:=.seq #[x,y]}) z TI TO .ellipsis:=Heap.get?_push_of_some _ z5
 refine wpAny_bind (wpAny_setField_rec z6 (by simp) fun h7 z7 e7=>wpAny_setField_rec (show IsZip h7 z TI TO (rawInt h5.objs.size) from z7) (by simp) fun h8 z8 e8=>?_)
 have PY:IsZip h8 z TI TO (rawInt h5.objs.size):=z8
 have up:∀ c o,c≠z->h5.get? c=some o->h8.get? c=some o:=fun c o c1 e=>e8.extBut _ _ c1 (e7.extBut _ _ c1 (Heap.get?_push_of_some _ e))
 have t8:IsPair h8 h5.objs.size x y:=e8.extBut _ _ (Nat.ne_of_gt lz) (e7.extBut _ _ (Nat.ne_of_gt lz) (Heap.get?_push_size _ rfl))
 have s8:h8.objs.size=h5.objs.size+1:=by rw[e8.1,e7.1,Heap.size_push]
 rw[sz] at PY t8 s8
 refine wpAny_pure ⟨_,rfl,?_⟩
 show Q (.ref h5.objs.size) _
 rw[sz]
 exact k h8 PY (up _ _ D.TOz PX) (So.to fun o e=>up _ o D.i1z e) (Ss.to fun o e=>up _ o D.i2z e) t8 s8 fun c o c1 c2 c3 c4 e=>up c o c1 (k5 c o c1 c2 c3 c4 e)
theorem m9 {p q:Kq}{z TI TO i j l m:Addr}{n n':Nat}{xs ys:Array Value}{a b:Value}{Q:PySem.Fin->Shared->Prop}(hh:A.handled=none)(D:ZipApart z TI TO i j l m)(hz:IsZip s.heap z TI TO .none)(hI:IsPair s.heap TI (.ref i) (.ref j))(hO:IsPair s.heap TO a b)
  (ci:It p s.heap i l n) (cj:It q s.heap j m n') (sl:Sq p s.heap l xs) (sm:Sq q s.heap m ys) (J6:xs[n]? = none∨ys[n']? = none)
  (k:∀ h' e,Kept z TO i j s.heap h'->(∃ o,h'.get? e=some o/\o.cls=.type "StopIteration")->E (.ref e) {s with heap:=h'}) :
  wpAny (model prog w) A (Builtin.«zip.__next__» ⟨[.ref z],[]⟩) Q E s:=by
 show wpAny _ _ (field (.ref z) 2 >>= _) _ _ _
 refine wpAny_bind (wpAny_field hz rfl (x:=.bool false) rfl ?_)
 show wpAny _ _ (field (.ref z) 3 >>= _) _ _ _
 refine wpAny_bind (wpAny_field hz rfl (x:=.ref TI) rfl (wpAny_bind (wpAny_seqItems hI rfl ?_)))
 show wpAny _ _ (Builtin.SmallTypes.ownedTupleIsFree (.ref z) >>= _) _ _ _
 refine wpAny_bind ?_
 unfold Builtin.SmallTypes.ownedTupleIsFree
 refine wpAny_bind (wpAny_field hz rfl (x:=.none) rfl (wpAny_pure ?_))
 simp only[if_true]
 refine wpAny_bind (wpAny_rule (wpAny_bind (wpAny_field hz rfl (x:=.ref TO) rfl (wpAny_bind (wpAny_setField_rec hz (by simp) fun h1 z1 e1=>?_)))))
 have MW:IsZip h1 z TI TO .ellipsis:=z1
 refine wpAny_bind ?_
 simp only[List.zipIdx_cons,List.zipIdx_nil,List.forIn_cons,List.forIn_nil]
 refine wpAny_bind (wpAny_bind (wpAny_onRaise ?_))
 show wpAny _ _ (Builtin.SmallTypes.nextOf (.ref i) >>= _) _ _ _
 cases hx:xs[n]? with
 | none=>
  refine wpAny_bind (oq hh (ci.to fun o e=>e1.extBut _ _ D.i1z e) (sl.to fun o e=>e1.extBut _ _ D.l1z e) hx fun h2 e e2 he=>?_)
  obtain⟨oe,g,c⟩:=he
  have z2:IsZip h2 z TI TO .ellipsis:=e2 _ _ D.i1z.symm MW
  have ne:e≠z:=fun v=>by rw[v,z2] at g;cases g;simp at c
  exact wpAny_setField_rec z2 (by simp) fun h3 _ e3=>k h3 e (fun d o c1 _ c3 _ v=>e3.extBut _ _ c1 (e2 _ _ c3 (e1.extBut _ _ c1 v))) ⟨oe,e3.extBut _ _ ne g,c⟩
 | some x=>
  have hy:ys[n']? = none:=by
   rcases J6 with v|v
   ·rw[hx] at v;cases v
   ·exact v
  refine wpAny_bind (hJ (ci.to fun o e=>e1.extBut _ _ D.i1z e) (sl.to fun o e=>e1.extBut _ _ D.l1z e) hx fun h2 PV e2=>wpAny_pure ?_)
  have O2:IsPair h2 TO a b:=e2.extBut _ _ D.TOi1 (e1.extBut _ _ D.TOz hO)
  refine wpAny_bind (wpAny_seqItems O2 rfl (wpAny_bind (wpAny_updateSeq_pair O2 fun h3 O3 e3=>wpAny_bind (wpAny_letGo (wpAny_pure (wpAny_bind (wpAny_bind (wpAny_onRaise ?_))))))))
  show wpAny _ _ (Builtin.SmallTypes.nextOf (.ref j) >>= _) _ _ _
  refine wpAny_bind (oq hh (cj.to fun o e=>e3.extBut _ _ D.TOi2.symm (e2.extBut _ _ D.i12.symm (e1.extBut _ _ D.i2z e))) (sm.to fun o e=>e3.extBut _ _ D.l2TO (e2.extBut _ _ D.l2i1 (e1.extBut _ _ D.l2z e))) hy fun h4 e e4 he=>?_)
  obtain⟨oe,g,c⟩:=he
  have z4:IsZip h4 z TI TO .ellipsis:=e4 _ _ D.i2z.symm (e3.extBut _ _ D.TOz.symm (e2.extBut _ _ D.i1z.symm MW))
  have ne:e≠z:=fun v=>by rw[v,z4] at g;cases g;simp at c
  exact wpAny_setField_rec z4 (by simp) fun h5 _ e5=>k h5 e (fun d o c1 c2 c3 c4 v=>e5.extBut _ _ c1 (e4 _ _ c4 (e3.extBut _ _ c2 (e2.extBut _ _ c3 (e1.extBut _ _ c1 v))))) ⟨oe,e5.extBut _ _ ne g,c⟩
end
noncomputable def K4:Kq->Addr->Obj
 | .l,a=>{cls:=.type "list_iterator",data:=.fields #[.ref a,.int 0 0]}
 | .t,a=>{cls:=.type "tuple_iterator",data:=.fields #[.ref a,.int 0 0]}
noncomputable def Hi (p:Kq)(h:Heap)(l:Addr):Heap:=h.push (K4 p l)
noncomputable def Hj (p q:Kq)(h:Heap)(l m:Addr):Heap:=(Hi p h l).push (K4 q m)
noncomputable def HI (p q:Kq)(h:Heap)(l m:Addr):Heap:=(Hj p q h l m).push {cls:=.type "tuple",data:=.seq #[.ref h.objs.size,.ref (Hi p h l).objs.size]}
noncomputable def HO (p q:Kq)(h:Heap)(l m:Addr):Heap:=(HI p q h l m).push {cls:=.type "tuple",data:=.seq #[.none,.none]}
noncomputable def HZ (p q:Kq)(h:Heap)(l m:Addr):Heap:=(HO p q h l m).push {cls:=.type "zip",data:=.fields #[.none,.bool false,.bool false,.ref (Hj p q h l m).objs.size,.ref (HI p q h l m).objs.size]}
theorem xN (l m:Addr)(xs ys:Array Value):Meets (Builtin.«zip.__new__» ⟨[.type "zip",.ref l,.ref m],[]⟩) (fun _ R s=>Sq .l s.heap l xs/\Sq .l s.heap m ys/\R (.ok (.ret (.ref (HO .l .l s.heap l m).objs.size))) {s with heap:=HZ .l .l s.heap l m}):=
 .of_wp fun prog w A R s h=>by
  obtain⟨hp,g,d,tk,os⟩:=s
  obtain⟨q1,q2,h⟩:=h
  have sub:=sub_zip
  have a1:Heap.IsList (Shared.heap ⟨hp,g,d,tk,os⟩) l xs:=q1
  have a2:Heap.IsList (Shared.heap ⟨hp.push {cls:=.type "list_iterator",data:=.fields #[.ref l,.int 0 0]},g,d,tk,os⟩) m ys:=Heap.IsList.push (show hp.IsList m ys from q2) _
  wp_walk using wpAny_pyIter_list a1,wpAny_pyIter_list a2
  exact⟨_,rfl,h⟩
theorem xO (l m:Addr)(xs ys:Array Value):Meets (Builtin.«zip.__new__» ⟨[.type "zip",.ref l,.ref m],[]⟩) (fun _ R s=>Sq .l s.heap l xs/\Sq .t s.heap m ys/\R (.ok (.ret (.ref (HO .l .t s.heap l m).objs.size))) {s with heap:=HZ .l .t s.heap l m}):=
 .of_wp fun prog w A R s h=>by
  obtain⟨hp,g,d,tk,os⟩:=s
  obtain⟨q1,q2,h⟩:=h
  have sub:=sub_zip
  have a1:Heap.IsList (Shared.heap ⟨hp,g,d,tk,os⟩) l xs:=q1
  have a2:Heap.IsTuple (Shared.heap ⟨hp.push {cls:=.type "list_iterator",data:=.fields #[.ref l,.int 0 0]},g,d,tk,os⟩) m ys:=Heap.IsTuple.push (show hp.IsTuple m ys from q2) _
  wp_walk using wpAny_pyIter_list a1,wpAny_pyIter_tuple a2
  exact⟨_,rfl,h⟩
theorem xP (l m:Addr)(xs ys:Array Value):Meets (Builtin.«zip.__new__» ⟨[.type "zip",.ref l,.ref m],[]⟩) (fun _ R s=>Sq .t s.heap l xs/\Sq .l s.heap m ys/\R (.ok (.ret (.ref (HO .t .l s.heap l m).objs.size))) {s with heap:=HZ .t .l s.heap l m}):=
 .of_wp fun prog w A R s h=>by
  obtain⟨hp,g,d,tk,os⟩:=s
  obtain⟨q1,q2,h⟩:=h
  have sub:=sub_zip
  have a1:Heap.IsTuple (Shared.heap ⟨hp,g,d,tk,os⟩) l xs:=q1
  have a2:Heap.IsList (Shared.heap ⟨hp.push {cls:=.type "tuple_iterator",data:=.fields #[.ref l,.int 0 0]},g,d,tk,os⟩) m ys:=Heap.IsList.push (show hp.IsList m ys from q2) _
  wp_walk using wpAny_pyIter_tuple a1,wpAny_pyIter_list a2
  exact⟨_,rfl,h⟩
theorem xQ (l m:Addr)(xs ys:Array Value):Meets (Builtin.«zip.__new__» ⟨[.type "zip",.ref l,.ref m],[]⟩) (fun _ R s=>Sq .t s.heap l xs/\Sq .t s.heap m ys/\R (.ok (.ret (.ref (HO .t .t s.heap l m).objs.size))) {s with heap:=HZ .t .t s.heap l m}):=
 .of_wp fun prog w A R s h=>by
  obtain⟨hp,g,d,tk,os⟩:=s
  obtain⟨q1,q2,h⟩:=h
  have sub:=sub_zip
  have a1:Heap.IsTuple (Shared.heap ⟨hp,g,d,tk,os⟩) l xs:=q1
  have a2:Heap.IsTuple (Shared.heap ⟨hp.push {cls:=.type "tuple_iterator",data:=.fields #[.ref l,.int 0 0]},g,d,tk,os⟩) m ys:=Heap.IsTuple.push (show hp.IsTuple m ys from q2) _
  wp_walk using wpAny_pyIter_tuple a1,wpAny_pyIter_tuple a2
  exact⟨_,rfl,h⟩
theorem xR (p q:Kq)(l m:Addr)(xs ys:Array Value):Meets (Builtin.«zip.__new__» ⟨[.type "zip",.ref l,.ref m],[]⟩) (fun _ R s=>Sq p s.heap l xs/\Sq q s.heap m ys/\R (.ok (.ret (.ref (HO p q s.heap l m).objs.size))) {s with heap:=HZ p q s.heap l m}):=by
 cases p<;>cases q
 ·exact xN l m xs ys
 ·exact xO l m xs ys
 ·exact xP l m xs ys
 ·exact xQ l m xs ys
theorem ou {k:Kq}{h h':Heap}{i a:Addr}(e:h'.get? i=some (K4 k a)):It k h' i a 0:=by
 cases k with
 | l=>exact⟨_,e,rfl,rfl⟩
 | t=>exact⟨_,e,rfl,rfl⟩
theorem jj (k:Kq)(a:Addr):(K4 k a).isFreed=false:=by cases k<;>rfl
section
variable {prog:Program}{w:World}{A:Around}{E:Value->Shared->Prop}{s:Shared}
theorem HJ {p q:Kq}{l m:Addr}{xs ys:Array Value}{Q:Value->Shared->Prop}(h1:Sq p s.heap l xs)(h2:Sq q s.heap m ys)
  (k:∀ h',IsZip h' (s.heap.objs.size+4) (s.heap.objs.size+2) (s.heap.objs.size+3) .none->IsPair h' (s.heap.objs.size+2) (.ref s.heap.objs.size) (.ref (s.heap.objs.size+1))->IsPair h' (s.heap.objs.size+3) .none .none->
   It p h' s.heap.objs.size l 0->It q h' (s.heap.objs.size+1) m 0->h'.objs.size=s.heap.objs.size+5->(∀ c o,s.heap.get? c=some o->h'.get? c=some o)->Q (.ref (s.heap.objs.size+4)) {s with heap:=h'}) :
  wpAny (model prog w) A (call (.type "zip") [.ref l,.ref m]) Q E s:=by
 refine callType_new F.called_zip (by decide) (F.typeCall_zip_2 _ _) (F.newCall_zip_2 _ _) (fun obj=>F.args_object_init_3 obj _ _) F.entry_zip_new (xR p q l m xs ys) ⟨h1,h2,?_⟩
 have n1:(Hi p s.heap l).objs.size=s.heap.objs.size+1:=Heap.size_push ..
 have n2:(Hj p q s.heap l m).objs.size=s.heap.objs.size+2:=(Heap.size_push ..).trans (by rw[n1])
 have n3:(HI p q s.heap l m).objs.size=s.heap.objs.size+3:=(Heap.size_push ..).trans (by rw[n2])
 have n4:(HO p q s.heap l m).objs.size=s.heap.objs.size+4:=(Heap.size_push ..).trans (by rw[n3])
 have n5:(HZ p q s.heap l m).objs.size=s.heap.objs.size+5:=(Heap.size_push ..).trans (by rw[n4])
 have PZ:∀ c o,(HO p q s.heap l m).get? c=some o->(HZ p q s.heap l m).get? c=some o:=fun c o e=>Heap.get?_push_of_some _ e
 have P0:∀ c o,(HI p q s.heap l m).get? c=some o->(HZ p q s.heap l m).get? c=some o:=fun c o e=>PZ c o (Heap.get?_push_of_some _ e)
 have P1:∀ c o,(Hj p q s.heap l m).get? c=some o->(HZ p q s.heap l m).get? c=some o:=fun c o e=>P0 c o (Heap.get?_push_of_some _ e)
 have P2:∀ c o,(Hi p s.heap l).get? c=some o->(HZ p q s.heap l m).get? c=some o:=fun c o e=>P1 c o (Heap.get?_push_of_some _ e)
 have g5:(HZ p q s.heap l m).get? (HO p q s.heap l m).objs.size=some _:=Heap.get?_push_size _ rfl
 have g4:(HZ p q s.heap l m).get? (HI p q s.heap l m).objs.size=some {cls:=.type "tuple",data:=.seq #[.none,.none]}:=PZ _ _ (Heap.get?_push_size _ rfl)
 have g3:(HZ p q s.heap l m).get? (Hj p q s.heap l m).objs.size=some {cls:=.type "tuple",data:=.seq #[.ref s.heap.objs.size,.ref (Hi p s.heap l).objs.size]}:=P0 _ _ (Heap.get?_push_size _ rfl)
 have g2:(HZ p q s.heap l m).get? (Hi p s.heap l).objs.size=some (K4 q m):=P1 _ _ (Heap.get?_push_size _ (jj q m))
 have g1:(HZ p q s.heap l m).get? s.heap.objs.size=some (K4 p l):=P2 _ _ (Heap.get?_push_size _ (jj p l))
 rw[n2,n3,n4] at g5
 rw[n3] at g4
 rw[n1,n2] at g3
 rw[n1] at g2
 show _/\_
 rw[n4]
 exact⟨⟨_,g5,rfl⟩,k _ g5 g3 g4 (ou (h:=s.heap) g1) (ou (h:=s.heap) g2) n5 fun c o e=>P2 c o (Heap.get?_push_of_some _ e)⟩
end
section
variable {prog:Program}{w:World}{A:Around}{E:Value->Shared->Prop}{s:Shared}
theorem IJ {p q:Kq}{z TI TO i j l m:Addr}{n n':Nat}{xs ys:Array Value}{x y a b:Value}{Q:Option Value->Shared->Prop}(D:ZipApart z TI TO i j l m)(hz:IsZip s.heap z TI TO .none)(hI:IsPair s.heap TI (.ref i) (.ref j))(hO:IsPair s.heap TO a b)
  (ci:It p s.heap i l n) (cj:It q s.heap j m n') (sl:Sq p s.heap l xs) (sm:Sq q s.heap m ys) (hx:xs[n]? = some x) (hy:ys[n']? = some y)
  (k:∀ h',IsZip h' z TI TO (rawInt s.heap.objs.size)->IsPair h' TO x y->It p h' i l (n+1)->It q h' j m (n' + 1)->IsPair h' s.heap.objs.size x y->h'.objs.size=s.heap.objs.size+1->Kept z TO i j s.heap h'->Q (some (.ref s.heap.objs.size)) {s with heap:=h'}) :
  wpAny (model prog w) A (pyNext (.ref z)) Q E s:=by
 have ty:s.TypeIs (.ref z) "zip":=⟨_,hz,rfl⟩
 unfold pyNext
 refine wpAny_bind (wpAny_attempt (wpAny_callSpecial?_slot (name:=Str.ofString "__next__") ty F.slot_zip_next (wpAny_call_entry F.slot_zip_next ty F.entry_zip_next ?_ (F.args_zip_next_1 _))))
 exact m8 D hz hI hO ci cj sl sm hx hy fun h' a1 a2 a3 a4 a5 a6 a7=>wpAny_pure (k h' a1 a2 a3 a4 a5 a6 a7)
theorem IK {p q:Kq}{z TI TO i j l m:Addr}{n n':Nat}{xs ys:Array Value}{a b:Value}{Q:Option Value->Shared->Prop}(hh:A.handled=none)(D:ZipApart z TI TO i j l m)(hz:IsZip s.heap z TI TO .none)(hI:IsPair s.heap TI (.ref i) (.ref j))(hO:IsPair s.heap TO a b)
  (ci:It p s.heap i l n) (cj:It q s.heap j m n') (sl:Sq p s.heap l xs) (sm:Sq q s.heap m ys) (J6:xs[n]? = none∨ys[n']? = none)
  (k:∀ h',Kept z TO i j s.heap h'->Q none {s with heap:=h'}):wpAny (model prog w) A (pyNext (.ref z)) Q E s:=by
 have ty:s.TypeIs (.ref z) "zip":=⟨_,hz,rfl⟩
 unfold pyNext
 refine wpAny_bind (wpAny_attempt (wpAny_callSpecial?_slot (name:=Str.ofString "__next__") ty F.slot_zip_next (wpAny_call_entry F.slot_zip_next ty F.entry_zip_next (m9 hh D hz hI hO ci cj sl sm J6 fun h' e hk he=>?_) (F.args_zip_next_1 _))))
 obtain⟨o,g,c⟩:=he
 exact wpAny_bind (wpAny_isInstance (T:="StopIteration") (b:=true) ⟨o,g,c⟩ isSubtype_stop (wpAny_pure (k _ hk)))
end
end L2.Zp
namespace L2
open PySem PySem.Spec PyProof.Rows
def Hr (K:PySem.W.Frag)(H:Hp)(k:Zp.Kq)(a:Addr)(xs:List V):Prop:=match k with
 | .l=>EB K H a xs
 | .t=>EJ K H a xs
section
variable {X:Cx}{pins:List (Addr×Obj)}{σ:St}{H:Hp}{s:Shared}{h':Heap}{k:Zp.Kq}{a:Addr}{xs ys:List V}
theorem Inv.K5 (I:Inv X pins σ H s)(h:Hr X.K H k a xs):∃ its:List Value,Vals xs its/\Zp.Sq k s.heap a its.toArray:=by
 cases k with
 | l=>obtain⟨its,rv,p,hz⟩:=I.list h;exact⟨its,rv,p.isList⟩
 | t=>obtain⟨its,rv,p,hz⟩:=I.tuple h;exact⟨its,rv,p⟩
theorem Inv.GQ (I:Inv X pins σ H s)(h:Hr X.K H k a xs)(h':Hr X.K H k a ys):xs=ys:=by
 cases k with
 | l=>exact I.D9 h h'
 | t=>exact I.EU h h'
theorem Inv.turns {t':Nat}{ch:List Addr}(I:Inv X pins σ H s)(k:∀ b o,b∉ch->s.heap.get? b=some o->h'.get? b=some o)(hf:∀ b∈ch,dq X pins H b):Inv X pins σ H {s with heap:=h',toks:=t'}:=by
 have Jl:∀ b u,H b=some u->b∉ch:=fun b u e z=>by rw[(hf b z).1] at e;cases e
 refine I.step (g':=s.gens) (d':=s.drawn) (ch:=ch) (fun b hb=>?_) (fun b o _ _ hc e _=>k b o hc e) (fun b o _ _ hc e _=>⟨o.slots,k b o hc e⟩) (fun _ _ _ _ n=>n)
  (fun b o hc e=>⟨o,k b o hc e⟩) (fun _ _ e=>e) (fun _ _ _ e=>e) (fun b ps e=>⟨#[],by rw[e];simp⟩) (fun m hm=>?_) (fun b u e=>?_) I.bare
 ·obtain⟨f0,f1,f2,f3,f4,f5⟩:=hf b hb
  exact⟨f3,f1,f4,f5⟩
 ·obtain⟨o,es,ep,ho,r⟩:=hm
  exact⟨o,es,ep,k _ o (fun z=>(hf _ z).2.1 rfl) ho,r⟩
 ·refine(I.Dz b u e).EI (fun c v hc q=>k c v ?_ q) (fun _ q=>q) fun _ _ q=>q
  rcases hc with z|z
  ·rw[z];exact Jl b u e
  ·exact Jl c _ z
theorem Inv.J7 {t':Nat}{ch:List Addr}{T:Addr}{ho:HO}(I:Inv X pins σ H s)(k:∀ b o,b∉ch->s.heap.get? b=some o->h'.get? b=some o)(hf:∀ b∈ch,dq X pins H b)(hp:s.heap.objs.size<=T)(new:aK X.prog X.w (upd H T ho) h' T ho):Inv X pins σ (upd H T ho) {s with heap:=h',toks:=t'}:=by
 have Jl:∀ b u,H b=some u->b∉ch:=fun b u e z=>by rw[(hf b z).1] at e;cases e
 have hn:H T=none:=I.Dz.fresh hp
 refine I.step (g':=s.gens) (d':=s.drawn) (ch:=ch) (fun b hb=>?_) (fun b o _ _ hc e _=>k b o hc e) (fun b o _ _ hc e _=>⟨o.slots,k b o hc e⟩) (fun b o _ e n=>by rw[ah (Nat.ne_of_lt (Nat.lt_of_lt_of_le (Heap.lt_size e) hp))];exact n)
  (fun b o hc e=>⟨o,k b o hc e⟩) (fun b xs q=>by rw[ah (aB q hn)];exact q) (fun b u xs q=>by rw[ah (aB q hn)];exact q) (fun b ps q=>⟨#[],by rw[ah (aB q hn),q];simp⟩) (fun m hm=>?_) (fun b u e=>?_) I.bare
 ·obtain⟨f0,f1,f2,f3,f4,f5⟩:=hf b hb
  exact⟨f3,f1,f4,f5⟩
 ·obtain⟨o,es,ep,ho,r⟩:=hm
  exact⟨o,es,ep,k _ o (fun z=>(hf _ z).2.1 rfl) ho,r⟩
 ·by_cases hb:b=T
  ·subst hb;rw[ao] at e;cases e;exact new
  ·rw[ah hb] at e
   refine(I.Dz b u e).EI (fun c v hc q=>k c v ?_ q) (fun c q=>by rw[ah (aB q hn)];exact q) fun c xs q=>by rw[ah (aB q hn)];exact q
   rcases hc with z|z
   ·rw[z];exact Jl b u e
   ·exact Jl c _ z
end
noncomputable def N1 (K:PySem.W.Frag)(p q:Zp.Kq)(l m:Addr):It:=
 ⟨fun i H=>∃ xs ys x y,Hr K H p l xs/\Hr K H q m ys/\xs[i]? = some x/\ys[i]? = some y,
  fun i H v H'=>∃ T a b,v=.ref T/\H T=none/\H'=upd H T (.tup [a,b])/\∀ xs ys,Hr K H p l xs->Hr K H q m ys->xs[i]? = some a/\ys[i]? = some b,
  fun i H=>∃ xs ys,Hr K H p l xs/\Hr K H q m ys/\(xs.length<=i∨ys.length<=i)⟩
theorem Zp.It.obj {k:Zp.Kq}{h:Heap}{i a:Addr}{n:Nat}(c:Zp.It k h i a n):∃ o,h.get? i=some o/\∀ v,o.data≠.cell v:=by
 cases k with
 | l=>obtain⟨o,e,c,d⟩:=c;exact⟨o,e,fun v z=>by rw[d] at z;cases z⟩
 | t=>obtain⟨o,e,c,d⟩:=c;exact⟨o,e,fun v z=>by rw[d] at z;cases z⟩
theorem ox {P:Program}{w:World}{K:PySem.W.Frag}{es:List Expr}{c:Nat}{pos:Pos}(p q:Zp.Kq)(z TI TO i j l m:Addr)(D:ZipApart z TI TO i j l m) :
  Turn P w K (.Tuple es c pos) (N1 K p q l m) [z,TI,TO,i,j] z (fun n h=>IsZip h z TI TO .none/\IsPair h TI (.ref i) (.ref j)/\(∃ a b,IsPair h TO a b)/\Zp.It p h i l n/\Zp.It q h j m n) where
 mem:=by simp
 obj:=fun n h st b hb=>by
  obtain⟨hz,hI,⟨a,b',hO⟩,ci,cj⟩:=st
  simp only[List.mem_cons,List.not_mem_nil,or_false] at hb
  rcases hb with rfl|rfl|rfl|rfl|rfl
  ·exact⟨_,hz,fun v z=>by cases z⟩
  ·exact⟨_,hI,fun v z=>by cases z⟩
  ·exact⟨_,hO,fun v z=>by cases z⟩
  ·exact ci.obj
  ·exact cj.obj
 keep:=fun n h h' st k=>by
  obtain⟨hz,hI,⟨a,b',hO⟩,ci,cj⟩:=st
  exact⟨k z (by simp) _ hz,k TI (by simp) _ hI,⟨a,b',k TO (by simp) _ hO⟩,ci.to fun o e=>k i (by simp) o e,cj.to fun o e=>k j (by simp) o e⟩
 item:=by
  intro X hP hw hK hc n pins s σ H E I hf st hg
  subst hP hw hK
  obtain⟨hz,hI,⟨a,b',hO⟩,ci,cj⟩:=st
  obtain⟨xs,ys,x,y,MX,MY,hx,hy⟩:=hg
  obtain⟨IL,IM,p1⟩:=I.K5 MX
  obtain⟨Es,F7,p2⟩:=I.K5 MY
  obtain⟨u1,N2,LX⟩:=IM.get hx
  obtain⟨u2,Su,N3⟩:=F7.get hy
  refine Zp.IJ D hz hI hO ci cj p1 p2 (x:=u1) (y:=u2) (by simpa using N2) (by simpa using Su) fun h1 a1 a2 a3 a4 a5 a6 hk=>?_
  refine⟨_,rfl,?_⟩
  have lz:z < s.heap.objs.size:=Heap.lt_size hz
  have Sw:s.heap.objs.size≠z:=Nat.ne_of_gt lz
  refine wpAny_letOwnedTupleGo_zip (s:={s with heap:=h1}) a1 fun h2 Sy GN=>?_
  have kk:∀ b o,b∉[z,TI,TO,i,j]->s.heap.get? b=some o->h2.get? b=some o:=fun b o hb e=>by
   simp only[List.mem_cons,List.not_mem_nil,or_false,not_or] at hb
   exact GN.extBut _ _ hb.1 (hk b o hb.1 hb.2.2.1 hb.2.2.2.1 hb.2.2.2.2 e)
  have hT:IsPair h2 s.heap.objs.size u1 u2:=GN.extBut _ _ Sw a5
  have I2:Inv X pins σ (upd H s.heap.objs.size (.tup [x,y])) {s with heap:=h2}:=I.J7 (t':=s.toks) kk hf (Nat.le_refl _) ⟨by show 2<=sizeLine;decide,[u1,u2],.cons LX (.cons N3 .nil),⟨_,hT,rfl,_,rfl⟩⟩
  refine⟨.ref s.heap.objs.size,_,I2,rfl,⟨_,x,y,rfl,I.Dz.fresh (Nat.le_refl _),rfl,fun Sz Va g1 g2=>by rw[I.GQ g1 MX,I.GQ g2 MY];exact⟨hx,hy⟩⟩,⟨Sy,GN.extBut _ _ D.TIz (hk _ _ D.TIz D.TITO D.TIi1 D.TIi2 hI),⟨_,_,GN.extBut _ _ D.TOz a2⟩,a3.to fun o e=>GN.extBut _ _ D.i1z e,a4.to fun o e=>GN.extBut _ _ D.i2z e⟩,fun b hb=>?_⟩
  have GR:b < s.heap.objs.size:=by
   simp only[List.mem_cons,List.not_mem_nil,or_false] at hb
   rcases hb with rfl|rfl|rfl|rfl|rfl
   ·exact lz
   ·exact Heap.lt_size hI
   ·exact Heap.lt_size hO
   ·exact ci.lt
   ·exact cj.lt
  rw[ah (Nat.ne_of_lt GR)]
  exact(hf b hb).1
 done:=by
  intro X hP hw hK hc n pins s σ H E I hf st hg
  subst hP hw hK
  obtain⟨hz,hI,⟨a,b',hO⟩,ci,cj⟩:=st
  obtain⟨xs,ys,MX,MY,hx⟩:=hg
  obtain⟨IL,IM,p1⟩:=I.K5 MX
  obtain⟨Es,F7,p2⟩:=I.K5 MY
  have l1:=IM.length
  have l2:=F7.length
  refine Zp.IK (I.ok.hd hc) D hz hI hO ci cj p1 p2 (by
   rcases hx with hx|hx
   ·exact .inl (Array.getElem?_eq_none (by simp;omega))
   ·exact .inr (Array.getElem?_eq_none (by simp;omega))) fun h1 hk=>⟨rfl,I.turns (t':=s.toks) (ch:=[z,TI,TO,i,j]) (fun b o hb e=>?_) hf⟩
  simp only[List.mem_cons,List.not_mem_nil,or_false,not_or] at hb
  exact hk b o hb.1 hb.2.2.1 hb.2.2.2.1 hb.2.2.2.2 e
 self:=fun _ _ _ _ _ st h=>wpAny_pyIter_zip st.1 h
def CH (K:PySem.W.Frag)(ta:TA):TI:=fun σ H R=>ta σ H fun vs H1=>∃ p q l m xs ys,vs=[.ref l,.ref m]/\Hr K H1 p l xs/\Hr K H1 q m ys/\R (N1 K p q l m) H1
theorem Zp.Sq.lt {k:Zp.Kq}{h:Heap}{a:Addr}{xs:Array Value}(q:Zp.Sq k h a xs):a < h.objs.size:=by
 cases k with
 | l=>obtain⟨o,e,_⟩:=q;exact Heap.lt_size e
 | t=>obtain⟨o,e,_⟩:=q;exact Heap.lt_size e
theorem oy (N l m:Nat)(hl:l < N)(hm:m < N):ZipApart (N+4) (N+2) (N+3) N (N+1) l m:=by
 constructor<;>(intro e;have e':(_:Nat)=(_:Nat):=e;omega)
theorem xS {X:Cx}{a b:Expr}{ta:TA}{es:List Expr}{c:Nat}{p tp pos:Pos}(hg:Gl X "zip") (hm:X.mg "zip" = none) (ha:PA X [a,b] ta) (hs:starEach [a,b] X.env=[(false,eval a X.env),(false,eval b X.env)]) (GN:starEach [b] X.env=[(false,eval b X.env)]) :
  PI X (.Tuple es c tp) (.Call (.Name "zip" p) [a,b] [] pos) (CH X.K ta):=by
 intro pins s σ H R I h
 refine Call_ (cN I hg hm boot_zip (PyProof.Rows.callWith_type1 (DB (ha pos pins s σ H _ I h) fun us s1 ⟨vs,H1,I1,r1,q1⟩=>?_) (by rw[hs,GN]) (by rw[GN];rfl)))
 obtain⟨k1,k2,l,m,xs,ys,e,g1,g2,q⟩:=q1
 subst e
 cases r1 with
 | cons r rr=>
  cases rr with
  | cons r' rr=>
   cases rr
   cases r
   cases r'
   obtain⟨IL,IM,p1⟩:=I1.K5 g1
   obtain⟨Es,F7,p2⟩:=I1.K5 g2
   have l1:=p1.lt
   have l2:=p2.lt
   refine Zp.HJ p1 p2 fun h2 b1 b2 b3 b4 b5 b6 b7=>?_
   refine wpAny_pyIter_zip (s:={s1 with heap:=h2}) b1 ?_
   refine⟨s1.heap.objs.size+4,[s1.heap.objs.size+4,s1.heap.objs.size+2,s1.heap.objs.size+3,s1.heap.objs.size,s1.heap.objs.size+1],_,_,H1,rfl,I1.kept (t':=s1.toks) b7,ox k1 k2 _ _ _ _ _ l m (oy _ l m l1 l2),⟨b1,b2,⟨_,_,b3⟩,b4,b5⟩,fun b hb=>?_,q⟩
   have GR:s1.heap.objs.size<=b:=by
    simp only[List.mem_cons,List.not_mem_nil,or_false] at hb
    rcases hb with rfl|rfl|rfl|rfl|rfl
    ·exact Nat.le_add_right _ _
    ·exact Nat.le_add_right _ _
    ·exact Nat.le_add_right _ _
    ·exact Nat.le_refl _
    ·exact Nat.le_add_right _ _
   exact I1.Gw GR (I1.Dz.fresh GR)
end L2
namespace L2.Se
open PySem
open PyProof.Rows
section
variable {prog:Program}{w:World}{A:Around}{E:Value->Shared->Prop}{s:Shared}
instance:Inhabited Str:=⟨⟨#[]⟩⟩
end
end L2.Se
namespace L2.Sv
open PySem PyProof.Rows
noncomputable def SA (σ:List Str)(v:Str):List Str:=if σ.any (· == v) then σ else σ++[v]
end L2.Sv
namespace L2
open PySem PySem.Spec PyProof.Rows PySem.SeqAt
noncomputable def dd (ns:List Int):List Int:=ns.foldl step_dedup []
noncomputable def Aa (x:Str):List Str->List Str
 | []=>[x]
 | y::r=>if ltCps y.cps.toList x.cps.toList=true then y::Aa x r else x::y::r
noncomputable def uT:List Str->List Str
 | []=>[]
 | x::r=>Aa x (uT r)
noncomputable def SD (ns:List Str):List Str:=ns.foldl Sv.SA []
end L2
namespace L2.Sx
open PySem PyProof.Rows
noncomputable def dd (σ:List Str)(v:Str):List Str:=if σ.any (· == v) then σ else σ++[v]
theorem xT (σ:List Str)(v k:Str):(dd σ v).any (· == k)=(σ.any (· == k)||decide (k=v)):=by
 unfold dd
 by_cases h:σ.any (· == v)=true
 ·rw[if_pos h]
  by_cases e:k=v
  ·subst e;rw[h];simp
  ·rw[decide_eq_false e,Bool.or_false]
 ·rw[if_neg h,List.any_append]
  by_cases e:k=v
  ·subst e;simp
  ·have hb:(v == k)=false:=by simpa using fun z:v=k=>e z.symm
   simp[hb,e]
theorem oz (σ:List Str)(v:Str):(dd σ v).length=if σ.any (· == v)=true then σ.length else σ.length+1:=by
 unfold dd
 by_cases h:σ.any (· == v)=true
 ·rw[if_pos h,if_pos h]
 ·rw[if_neg h,if_neg h,List.length_append];rfl
theorem uU:∀ (l σ:List Str),(l.foldl dd σ).length<=σ.length+l.length
 | [],σ=>Nat.le_refl _
 | v::l,σ=>by
  have h:=uU l (dd σ v)
  have h2:=oz σ v
  rw[List.foldl_cons,List.length_cons]
  split at h2<;>omega
section
variable {prog:Program}{w:World}{A:Around}{E:Value->Shared->Prop}{s:Shared}{R:Result->Shared->Prop}{I:Addr}{fp wr:List Addr}{G:Array GenState->Array GenState->Prop}{n:Nat}{P:Nat->Value->Prop}{St:Nat->Shared->Prop}
def EY (prog:Program)(w:World)(h:Heap)(a:Addr)(σ:List Str):Prop:=h.SetOf (PySem.strKind prog w) a (fun k=>σ.any (· == k)) σ.length
theorem EY.moved {h h':Heap}{a:Addr}{σ:List Str}(hS:EY prog w h a σ)(k:∀ o,h.get? a=some o->h'.get? a=some o):EY prog w h' a σ:=by
 obtain⟨o,es,ep,t,ho,D⟩:=hS
 exact⟨o,es,ep,t,k o ho,D⟩
theorem P4 (x:Str)(t:Tok):(PySem.strKind prog w).is x (.str x t)=true:=by
 show (x == x)=true
 simp
theorem loop (W:WalksS prog w A.in1 I fp wr G n P St)(a:Addr)(ha:a∉fp){ns:List Str}(hv:∀ i v,P i v->∃ t,v=.str (ns.getD i ⟨#[]⟩) t)(hn:ns.length=n)(hb:n+1 < scanBound) :
  ∀ (k i:Nat) (s:Shared),n - i=k->i<=n->St i s->EY prog w s.heap a ((ns.take i).foldl dd [])->
   (∀ s',Moved (a::wr) G s s'->EY prog w s'.heap a (ns.foldl dd [])->R (.ok (.ret .none)) s')->
   codeAny (model prog w) A (.builtin "set.update.loop" ⟨[.ref a,.ref I],[]⟩) R s:=by
 have LY:a∉wr:=fun z=>ha (W.sub _ z)
 have sub:∀ b∈wr,b∈a::wr:=fun b z=>List.mem_cons_of_mem _ z
 intro k
 induction k with
 | zero=>
  intro i s hk hi DN hS hR
  have e:i=n:=by omega
  subst e
  rw[<- hn,List.take_length] at hS
  refine codeAny_builtin F.entry_set_update_loop ?_
  rw[Around.under_plainId F.plain_set_update_loop _]
  show wpAny _ A.in1 (pyNext (.ref I) >>= _) _ _ s
  exact wpAny_bind (W.done s _ _ DN fun s' hm=>show wpAny _ A.in1 (ret Value.none) _ _ s' from wpAny_pure (hR s' (hm.mono sub) (hS.moved fun o e=>hm.heap a o LY e)))
 | succ k ih=>
  intro i s hk hi DN hS hR
  have DV:i < n:=by omega
  refine codeAny_builtin F.entry_set_update_loop ?_
  rw[Around.under_plainId F.plain_set_update_loop _]
  show wpAny _ A.in1 (pyNext (.ref I) >>= _) _ _ s
  refine wpAny_bind (W.item i s _ _ DV DN fun v s' hP DF hm=>?_)
  obtain⟨t,rfl⟩:=hv i v hP
  have N4:EY prog w s'.heap a ((ns.take i).foldl dd []):=hS.moved fun o e=>hm.heap a o LY e
  show wpAny _ A.in1 (holding [Value.str (ns.getD i ⟨#[]⟩) t] (setAdd a (.str (ns.getD i ⟨#[]⟩) t)) >>= _) _ _ s'
  unfold setAdd
  refine wpAny_bind (wpAny_holding (wpAny_holding (wpAny_bind ((PySem.strKind prog w).pyHash (P4 _ _) ?_))))
  have hlen:=uU (ns.take i) []
  rw[List.length_take,List.length_nil] at hlen
  refine wpAny_setAddHashed_of (knd:=PySem.strKind prog w) (s:={s' with toks:=s'.toks+1}) (P4 _ _) rfl N4 (by omega) fun h' J4 SE=>?_
  have et:(ns.take (i+1)).foldl dd []=dd ((ns.take i).foldl dd []) (ns.getD i ⟨#[]⟩):=by
   have K6:i < ns.length:=by omega
   rw[List.take_succ,List.foldl_append,List.getElem?_eq_getElem K6,List.getD_eq_getElem?_getD,List.getElem?_eq_getElem K6]
   rfl
  have SF:EY prog w h' a ((ns.take (i+1)).foldl dd []):=by
   unfold EY
   rw[et]
   exact SetOf_congr SE (fun k'=>by rw[xT]) (by rw[oz])
  refine wpAny_pure ⟨plainId_quiet F.plain_set_update_loop _,ih (i+1) _ (by omega) DV (W.frame _ s' _ _ DF (Nat.le_succ _) fun b hb o e=>?_) SF fun G8 HK J8=>?_⟩
  ·rw[J4.2 b fun z=>ha (z ▸ hb)];exact e
  ·refine hR G8 (Moved.trans W.gtrans ((hm.mono sub).then_heap (Nat.le_succ _) fun b o hb e=>?_) HK) J8
   rw[J4.2 b fun z=>hb (z ▸ List.mem_cons_self)];exact e
noncomputable abbrev oN (led:Bool):Obj:={cls:=.type "set",dict:=none,data:=.set #[] 0 (.fresh 0 0 led)}
theorem HL {l:Addr}{items:Array Value}{ns:List Str}{Q:Value->Shared->Prop}(hh:A.handled=none)(hl:s.heap.IsList l items)(hi:∀ (i:Nat)(v:Value),items[i]? = some v->∃ t,v=Value.str (ns.getD i ⟨#[]⟩) t)(hlen:ns.length=items.size)(hb:items.size+1 < scanBound)
  (h:∀ (h':Heap) (tk:Nat),EY prog w h' s.heap.objs.size (ns.foldl dd [])->(∀ b o,b < s.heap.objs.size->s.heap.get? b=some o->h'.get? b=some o)->Q (.ref s.heap.objs.size) {s with heap:=h',toks:=tk}) :
  wpAny (model prog w) A (call (.type "set") [.ref l]) Q E s:=by
 obtain⟨c,tl,mro⟩:=F.called_set.mro
 have made:=F.called_set.made
 have sub:=F.called_set.sub
 refine wpAny_call (codeAny_of_tree (show wpAny _ _ (callAny (.type "set") _) _ _ _ from wpAny_pure ⟨Code.quiet_builtin _ (by decide +kernel),codeAny_builtin F.entry_type_call ?_⟩))
 rw[Around.under_plain (weight_type_call_type "set" [.ref l] []) rfl]
 have n1:=F.called_set.notType
 have n2:=F.called_set.canCreate
 have n3:=F.typeCall_set_1 (.ref l)
 repeat (any_goals (first|assumption|wp_step))
 refine codeAny_mono (code_set_new_1 (.ref l) (E:=E) (Q₁:=fun obj s1=>∃ led,obj=.ref s.heap.objs.size/\s1 = {s with heap:=s.heap.push (oN led)}) fun led=>⟨led,rfl,rfl⟩) fun r s1 hr=>?_
 cases r with
 | error e=>exact hr
 | ok fl=>
  cases fl with
  | ret obj=>
   obtain⟨led,rfl,rfl⟩:=hr
   have gS:(s.heap.push (oN led)).get? s.heap.objs.size=some (oN led):=Heap.get?_push_size _ rfl
   have hT:Shared.TypeIs {s with heap:=s.heap.push (oN led)} (.ref s.heap.objs.size) "set":=⟨_,gS,rfl⟩
   have i1:=F.called_set.init.lookup
   have i2:=F.called_set.init.bind (.ref s.heap.objs.size)
   repeat (any_goals (first|assumption|wp_step))
   refine codeAny_mono (codeAny_call_builtin (R:=wants (fun r s2=>r=.none/\∃ h' tk,s2 = {s with heap:=h',toks:=tk}/\EY prog w h' s.heap.objs.size (ns.foldl dd [])/\
     (∀ b o,b < s.heap.objs.size->s.heap.get? b=some o->h'.get? b=some o)) E) F.called_set.init.plain F.entry_set_init (check_set_init_1 hT ?_)) fun r2 s2 N5=>?_
   ·obtain⟨ol,P5,GS,nl,P6⟩:=hl
    obtain⟨SG,LZ,P7,J9⟩:=ol
    simp only at GS P6
    subst GS;subst P6
    have N6:(s.heap.push (oN led)).get? l=some {cls:=.type "list",dict:=LZ,data:=.seq items nl,slots:=J9}:=Heap.get?_push_of_some _ P5
    have w1:=F.sub_list_set
    have w2:=F.sub_list_frozenset
    have w3:(Value.type "list" == Value.type "dict")=false:=by decide
    have IP:(s.heap.push (oN led)).IsList l items:=⟨_,N6,rfl,nl,rfl⟩
    unfold Builtin.«set.__init__» noKeywords Builtin.Frozenset.updateFrom
    generalize SH:pyIter=PI
    wp_walk
    subst SH
    refine wpAny_pyIter_list IP (wpAny_bind (wpAny_runValue ?_))
    have lS:l < s.heap.objs.size:=Heap.lt_size P5
    have nI:l≠(s.heap.push (oN led)).objs.size:=by rw[Heap.size_push];exact Nat.ne_of_lt (Nat.lt_succ_of_lt lS)
    have aS:s.heap.objs.size∉[(s.heap.push (oN led)).objs.size,l]:=by
     rw[Heap.size_push]
     intro z
     rcases List.mem_cons.mp z with z|z
     ·exact Nat.ne_of_lt (Nat.lt_succ_self _) z
     ·exact Nat.ne_of_gt lS (List.mem_singleton.mp z)
    have f0:EY prog w (s.heap.push (oN led)) s.heap.objs.size []:=SetOf_congr ((setObjOf_fresh (knd:=PySem.strKind prog w) led).setOf gS (by unfold scanBound;omega)) (fun _=>rfl) rfl
    refine loop ((Walks.list (show A.in1.in1.in1.handled=none by simp[hh]) _ l nI items).toS) s.heap.objs.size aS (ns:=ns) hi hlen hb (items.size - 0) 0 _ (by omega) (Nat.zero_le _)
     ⟨⟨_,Heap.get?_push_size _ rfl,rfl,rfl⟩,(IP.push _)⟩ (f0.moved fun o e=>Heap.get?_push_of_some _ e) ?_
    intro s' hm HM
    obtain⟨h',g',d',K7,LJ⟩:=s'
    have eg:g'=s.gens:=hm.gens
    have ed:d'=s.drawn:=hm.drawn
    have eo:LJ=s.os:=hm.os
    subst eg ed eo
    show wpAny _ _ _ _ _ _
    refine wpAny_pure (show wpAny _ _ (ret Value.none) _ _ _ from wpAny_pure ⟨rfl,h',K7,rfl,HM,fun b o hb e=>?_⟩)
    refine hm.heap b o (fun z=>?_) (Heap.get?_push_of_some _ (Heap.get?_push_of_some _ e))
    rcases List.mem_cons.mp z with z|z
    ·exact Nat.ne_of_lt hb z
    ·have:=List.mem_singleton.mp z
     rw[Heap.size_push] at this
     exact Nat.ne_of_lt (Nat.lt_succ_of_lt hb) this
   ·cases r2 with
    | error e=>exact N5
    | ok SI=>
     cases SI with
     | ret r=>
      obtain⟨rfl,h',tk,rfl,HM,N7⟩:=N5
      repeat (any_goals (first|assumption|wp_step))
      exact h _ _ HM N7
     | _=>exact N5.elim
  | _=>exact hr.elim
theorem Eo {a:Addr}{σ:List Str}{Q:Value->Shared->Prop}(hS:EY prog w s.heap a σ)(h:∀ t tk,Q (.int σ.length t) {s with toks:=tk}):wpAny (model prog w) A (call (.builtin "len") [.ref a]) Q E s:=by
 obtain⟨o,es,ep,t,ho,hex,hd,_,_,hb,hf,hn⟩:=hS
 refine call_len_set ho hex hd hf (by unfold scanBound at hb;omega) ?_
 rw[hn]
 exact h _ _
end
end L2.Sx
namespace L2
open PySem PySem.Spec PyProof.Rows
section
variable {X:Cx}{e:Expr}{p p' pos pos':Pos}{t:TE}
theorem sY {ns:List Str}:∀ {us:List Value},Vals (ns.map V.str) us->∀ (i:Nat) (v:Value),us[i]? = some v->∃ t,v=Value.str (ns.getD i ⟨#[]⟩) t:=by
 induction ns with
 | nil=>intro us r i v h;cases r;simp at h
 | cons n ns ih=>
  intro us r i v h
  cases r with
  | cons r rs=>
   obtain⟨t,rfl⟩:=r
   cases i with
   | zero=>exact⟨t,by simpa using h.symm⟩
   | succ j=>simpa using ih rs j v (by simpa using h)
theorem sZ (hc:X.calm=true)(g1:Gl X "len") (m1:X.mg "len" = none) (g2:Gl X "set") (m2:X.mg "set" = none) (he:PE X e t) (DN:∀ es,starEach (e::es) X.env=(false,eval e X.env)::starEach es X.env) :
  PE X (.Call (.Name "len" p) [.Call (.Name "set" p') [e] [] pos'] [] pos) (fun σ H Q=>t σ H fun v H1=>∃ (l:Addr) (ns:List Str),v=.ref l/\EB X.K H1 l (ns.map V.str)/\ns.length < 1000/\Q (.int ((ns.foldl Sx.dd []).length:Nat)) H1):=by
 intro pins s σ H Q I h
 refine wpAny_Call_Name_kw (cN (u:=.builtin "len") I g1 m1 (by decide +kernel) ?_ (by decide) (by decide))
 refine PyProof.Rows.callWith_builtin1 ?_ rfl rfl
 show wpAny _ _ (spliced ((false,eval (.Call (.Name "set" p') [e] [] pos') X.env)::backTo pos (starEach [] X.env))) _ _ s
 have key:wpAny (model X.prog X.w) X.A (eval (.Call (.Name "set" p') [e] [] pos') X.env) (fun u s1=>∃ (a:Addr) (ns:List Str) (H1:Hp),u=.ref a/\Inv X pins σ H1 s1/\Sx.EY X.prog X.w s1.heap a (ns.foldl Sx.dd [])/\Q (.int ((ns.foldl Sx.dd []).length:Nat)) H1) X.xe s:=by
  refine wpAny_Call_Name_kw (cN (u:=.type "set") I g2 m2 (by decide +kernel) ?_ (by decide) (by decide))
  refine PyProof.Rows.callWith_type1 ?_ (DN []) rfl
  rw[DN []]
  show wpAny _ _ (spliced ((false,eval e X.env)::backTo pos' (starEach [] X.env))) _ _ s
  refine Calls.spliced_cons (DB (he pins s σ H _ I h) fun u s1 ⟨x,H1,I1,r1,l,ns,ex,hq,hn,q1⟩=>?_)
  subst ex
  cases r1
  refine Calls.spliced_nil ?_
  obtain⟨its,r',pl,hz⟩:=I1.list hq
  have hl:=r'.length
  rw[List.length_map] at hl
  refine Sx.HL (I1.ok.hd hc) pl.isList (fun i v hv=>sY r' i v (by simpa using hv)) (by rw[List.size_toArray];exact hl) (by rw[List.size_toArray];unfold scanBound;omega) fun h' tk hS hk=>⟨_,ns,H1,rfl,I1.kept (t':=tk) fun b o e=>hk b o (Heap.lt_size e) e,hS,q1⟩
 refine Calls.spliced_cons (DB key fun u s1 ⟨a,ns,H1,eu,I1,hS,q1⟩=>?_)
 subst eu
 refine Calls.spliced_nil ?_
 exact Sx.Eo hS fun t tk=>⟨.int _,H1,I1.tok _,⟨_,rfl⟩,q1⟩
end
section
variable {X:Cx}
def kK:V->List V->Hp->VK->Prop:=fun x vs H Q=>∃ d o kvs more,x=.ref d/\vs=[.ref o]/\d≠o/\H d=some (.dK kvs)/\Rd H o (.dK more)/\kvs.length+more.length<=sizeLine/\Q .DE (upd H d (.dK (bR kvs more)))
theorem nc:PD X "dict.update" kK:=by
 intro pins s σ H x vs v us Q I rx rv h
 obtain⟨d,o,kvs,more,rfl,rfl,Fq,hd,ho,hz,q⟩:=h
 cases rx
 obtain⟨u,rfl,ru⟩:=rv.one
 cases ru
 obtain⟨z1,s1,v1,r1,D1⟩:=uS I.Dz hd
 obtain⟨z2,s2,v2,r2,D2⟩:=dI I.Dz ho
 have e1:=r1.length
 have e2:=r2.length
 refine call_meetsIn F.slot_dict_update D1.typeIs F.entry_dict_update (F.args_dict_update_2 _ _) (meets_dict_update (aC X.prog X.w) d o Fq s2) ⟨v1,v2,D1,D2,by rw[<- e1,<- e2];exact hz,fun h' P8 Vb sb=>?_⟩
 have he:∃ q,h'.get? d=some q:=let ⟨q,_,_,hq,_⟩:=P8;⟨q,hq⟩
 have hl:=b9 more kvs
 exact⟨.DE,_,hG (t':=s.toks) I (by rw[hd];exact True.intro) sb he (jX (by omega) s1 (r2.merge r1) P8),rfl,q⟩
end
end L2
namespace L2.Dp
open PySem PyProof.Rows
section
variable {prog:Program}{w:World}{A:Around}{E:Value->Shared->Prop}{s:Shared}
theorem ng:typeLookup (.type "list") "keys" = pure none:=by rw[typeLookup_type,builtinLookup_eq_fast];kernel_rfl
theorem nh {a:Addr}{o:Obj}{xs:Array Value}{k:Nat}{Q:Option Value->Shared->Prop}(hx:s.heap.get? a=some o)(hc:o.cls=.type "list") (L0:o.data=.seq xs k) (hd:o.dict=none) (hA:A.handled=none)
  (h:∀ h' tk,(∀ b o,s.heap.get? b=some o->h'.get? b=some o)->Q none {s with heap:=h',toks:=tk}):wpAny (model prog w) A (getAttr? (.ref a) "keys") Q E s:=by
 obtain⟨c,Dl,dat,sl⟩:=o
 simp only at hc L0 hd
 subst hc L0 hd
 obtain⟨hp,g,d,tk,os⟩:=s
 have hT:∀ K7,(⟨hp,g,d,K7,os⟩:Shared).TypeIs (.ref a) "list":=fun _=>⟨_,hx,rfl⟩
 have f1:=sub_AttributeError
 have f3:=F.slot_list_getattribute.lookup
 have f4:=F.slot_list_getattribute.bind (.ref a)
 have f5:=am_list_getattr_none
 unfold getAttr? getAttrBy? getAttrBy
 repeat (any_goals (first|assumption|exact hT _|((with_reducible show wpAny _ _ (call (Value.builtin "list.__getattribute__") _ _) _ _ _);refine call_meets F.slot_list_getattribute (hT _) am_entry_list_getattribute (F.args_list_getattribute_2 _ _) (meets_getattribute_miss_list a xs k sl "keys" _ ng (by decide) (by size_fits)) ⟨hx,hA,fun h' K7 e EZ=>?_⟩)|wp_step))
 obtain⟨t',u',he⟩:=EZ.there
 show wpAny _ _ (getattributeRaised _ _ _ _ _ _ _) _ _ _
 unfold getattributeRaised
 repeat (any_goals (first|assumption|wp_step))
 exact h _ _ EZ.of.keeps
theorem fu:entryFor table "dict.update.loop" = some Builtin.«dict.update.loop»:=entryFor_of_tree (by kernel_rfl)
theorem cE:plainId "dict.update.loop" = true:=by decide +kernel
variable {K:Type} [DecidableEq K]{knd:KeyKind prog w K}{I:Addr}{fp wr:List Addr}{G:Array GenState->Array GenState->Prop}{n:Nat}{P:Nat->Value->Prop}{St:Nat->Shared->Prop}{R:Result->Shared->Prop}
def EC (knd:KeyKind prog w K)(h:Heap)(b:Addr)(p:K×Value):Prop:=∃ (key:Value) (od:Option Addr) (m:Nat) (sl:Array (Option Value)),h.get? b=some {cls:=.type "tuple",dict:=od,data:=.seq #[key,p.2] m,slots:=sl}/\knd.is p.1 key=true
theorem EC.keep {h h':Heap}{b:Addr}{p:K×Value}(x:EC knd h b p)(k:∀ o,h.get? b=some o->h'.get? b=some o):EC knd h' b p:=by
 obtain⟨key,od,m,sl,e,hk⟩:=x
 exact⟨key,od,m,sl,k _ e,hk⟩
theorem loop (W:WalksS prog w A.in1 I fp wr G n P St)(d:Addr)(hd:d∉fp){bs:List Addr}{kvs:List (K×Value)}(hv:∀ i v,P i v->∃ b,v=.ref b/\bs[i]? = some b)(hn:kvs.length=n)(hb:n<=sizeLine)(nb:∀ b∈bs,b≠d/\b∉wr) :
  ∀ (k i:Nat) (s:Shared),n - i=k->i<=n->St i s->s.heap.DictOf knd d (merged [] (kvs.take i))->(∀ (j:Nat) (b:Addr) (p:K×Value),bs[j]? = some b->kvs[j]? = some p->EC knd s.heap b p)->
   (∀ s',Moved (d::wr) G s s'->s'.heap.DictOf knd d (merged [] kvs)->R (.ok (.ret .none)) s')->
   codeAny (model prog w) A (.builtin "dict.update.loop" ⟨[.ref d,.ref I,rawInt i,.none],[]⟩) R s:=by
 have LY:d∉wr:=fun z=>hd (W.sub _ z)
 have sub:∀ b∈wr,b∈d::wr:=fun b z=>List.mem_cons_of_mem _ z
 intro k
 induction k with
 | zero=>
  intro i s hk hi DN hS hT hR
  have e:i=n:=by omega
  subst e
  rw[<- hn,List.take_length] at hS
  refine codeAny_builtin fu ?_
  rw[Around.under_plainId cE _]
  show wpAny _ A.in1 (pyNext (.ref I) >>= _) _ _ s
  refine wpAny_bind (W.done s _ _ DN fun s' hm=>?_)
  show wpAny _ A.in1 (Builtin.Dict.addKeywords d [] >>= fun _=>ret Value.none) _ _ s'
  obtain⟨o,es,ep,ho,r⟩:=hS
  exact wpAny_bind (wpAny_pure (wpAny_pure (hR s' (hm.mono sub) ⟨o,es,ep,hm.heap d o LY ho,r⟩)))
 | succ k ih=>
  intro i s hk hi DN hS hT hR
  have DV:i < n:=by omega
  refine codeAny_builtin fu ?_
  rw[Around.under_plainId cE _]
  show wpAny _ A.in1 (pyNext (.ref I) >>= _) _ _ s
  refine wpAny_bind (W.item i s _ _ DV DN fun v s' hP DF hm=>?_)
  obtain⟨b,rfl,SJ⟩:=hv i v hP
  have P9:kvs[i]? = some kvs[i]:=List.getElem?_eq_getElem (by omega)
  have Jv:∀ (j:Nat) (b:Addr) (p:K×Value),bs[j]? = some b->kvs[j]? = some p->EC knd s'.heap b p:=fun j b p h1 h2=>(hT j b p h1 h2).keep fun o e=>hm.heap b o (nb b (List.mem_of_getElem? h1)).2 e
  obtain⟨key,od,m,sl,hg,J'⟩:=Jv i b _ SJ P9
  have N4:s'.heap.DictOf knd d (merged [] (kvs.take i)):=by
   obtain⟨o,es,ep,ho,r⟩:=hS
   exact⟨o,es,ep,hm.heap d o LY ho,r⟩
  have hlen:=merged_length_le [] (kvs.take i)
  rw[List.length_take,List.length_nil] at hlen
  have et:=merged_take_succ [] kvs i _ P9
  generalize SK:dictSet=DS
  obtain⟨hp,gg,dd,tk,os⟩:=s'
  have SM:(⟨hp,gg,dd,tk,os⟩:Shared).TypeIs (.ref b) "tuple":=⟨_,hg,rfl⟩
  have Vc:(Value.type "tuple" == Value.type "list")=false:=by decide
  show wpAny _ A.in1 ((holding [Value.ref b] ((Builtin.Dict.pairItems (.ref b)).tryCatch _ >>= _)) >>= _) _ _ _
  refine wpAny_bind (wpAny_holding (wpAny_bind (wpAny_tryCatch ?_)))
  unfold Builtin.Dict.pairItems
  refine wpAny_bind (wpAny_typeOf SM ?_)
  rw[if_pos (by decide)]
  repeat (any_goals (first|assumption|wp_step))
  subst SK
  refine wpAny_dictSet_pairs (s:=⟨hp,gg,dd,tk,os⟩) J' N4 (fun h' hD J4=>?_) (by omega)
  have F8:∀ b' o,b'≠d->hp.get? b'=some o->h'.get? b'=some o:=fun b' o GR e=>by rw[J4.2 b' GR];exact e
  refine wpAny_pure ⟨plainId_quiet cE _,?_⟩
  refine ih (i+1) _ (by omega) DV (W.frame _ ⟨hp,gg,dd,tk,os⟩ _ _ DF (Nat.le_succ _) fun b' GR o e=>F8 b' o (fun z=>hd (z ▸ GR)) e) (by rw[et];exact hD) (fun j b' p h1 h2=>(Jv j b' p h1 h2).keep fun o e=>F8 b' o (nb b' (List.mem_of_getElem? h1)).1 e) fun G8 HK J8=>?_
  exact hR G8 (Moved.trans W.gtrans ((hm.mono sub).then_heap (Nat.le_succ _) fun b' o GR e=>F8 b' o (fun z=>GR (z ▸ List.mem_cons_self)) e) HK) J8
theorem G9 {l:Addr}{its:Array Value}{lm:Nat}{P':Array (Option Value)}{bs:List Addr}{kvs:List (K×Value)}{Q:Value->Shared->Prop}(hh:A.handled=none)(hl:s.heap.get? l=some {cls:=.type "list",dict:=none,data:=.seq its lm,slots:=P'}) (hi:∀ (i:Nat) (v:Value),its[i]? = some v->∃ b,v=Value.ref b/\bs[i]? = some b)
  (hlen:kvs.length=its.size) (hb:its.size<=sizeLine) (hT:∀ (j:Nat) (b:Addr) (p:K×Value),bs[j]? = some b->kvs[j]? = some p->EC knd s.heap b p) (Qa:∀ b∈bs,b < s.heap.objs.size)
  (h:∀ (h':Heap) (tk:Nat),h'.DictOf knd s.heap.objs.size (merged [] kvs)->(∀ b o,b < s.heap.objs.size->s.heap.get? b=some o->h'.get? b=some o)->Q (.ref s.heap.objs.size) {s with heap:=h',toks:=tk}) :
  wpAny (model prog w) A (call (.type "dict") [.ref l]) Q E s:=by
 refine callType_codes (Q₁:=fun obj DA=>obj=.ref s.heap.objs.size/\DA = {s with heap:=s.heap.push {cls:=.type "dict",data:=.dict #[]}}) F.kt_called_dict (F.kt_typeCall_dict_1 _) F.entry_dict_init (kt_code_dict_new _ ⟨rfl,rfl⟩) ?_
 rintro obj DA ⟨rfl,rfl⟩
 have Ka:(s.heap.push {cls:=.type "dict",data:=.dict #[]}).DictOf knd s.heap.objs.size []:=Heap.DictOf.new s.heap
 have IP:(s.heap.push {cls:=.type "dict",data:=.dict #[]}).get? l=some {cls:=.type "list",dict:=none,data:=.seq its lm,slots:=P'}:=Heap.get?_push_of_some _ hl
 have Qb:l < s.heap.objs.size:=Heap.lt_size hl
 refine⟨Ka.typeIs,F.args_dict_init_2 _ _,?_⟩
 unfold Builtin.«dict.__init__»
 refine wpAny_bind ?_
 unfold Builtin.Dict.selfAndRest
 refine wpAny_bind (wpAny_notOrdered_dict Ka.typeIs ?_)
 show wpAny _ _ (pure (s.heap.objs.size,[Value.ref l])) _ _ _
 refine wpAny_pure ?_
 show wpAny _ _ (Builtin.Dict.updateFrom "dict.__init__" s.heap.objs.size (.ref l) [] .none) _ _ _
 unfold Builtin.Dict.updateFrom
 have SN:Shared.TypeIs {s with heap:=s.heap.push {cls:=.type "dict",data:=.dict #[]}} (.ref l) "list":=⟨_,IP,rfl⟩
 refine wpAny_bind (wpAny_typeOf SN ?_)
 rw[if_pos (by decide)]
 refine wpAny_bind (nh IP rfl rfl rfl (by simp[hh]) fun h1 Vd MZ=>?_)
 simp only[Option.isNone_none,if_true]
 have Kb:h1.IsList l its:=⟨_,MZ _ _ IP,rfl,lm,rfl⟩
 have sz:s.heap.objs.size < h1.objs.size:=Heap.lt_size (MZ _ _ (Heap.get?_push_size _ rfl))
 refine wpAny_bind (wpAny_rule ?_)
 refine wpAny_bind (wpAny_pyIter_list Kb (wpAny_pure ⟨plainId_quiet cE _,?_⟩))
 have nI:l≠h1.objs.size:=Nat.ne_of_lt (Nat.lt_trans Qb sz)
 have Jw:∀ b o,s.heap.get? b=some o->h1.get? b=some o:=fun b o e=>MZ b o (Heap.get?_push_of_some _ e)
 refine loop (A:=A.in1) (n:=its.size) (bs:=bs) (kvs:=kvs) ((Walks.list (show A.in1.in1.handled=none by simp[hh]) h1.objs.size l nI its).toS) s.heap.objs.size (fun z=>?_) hi hlen hb (fun b hb=>⟨Nat.ne_of_lt (Qa b hb),fun z=>?_⟩) (its.size - 0) 0 _ (by omega) (Nat.zero_le _) ⟨⟨_,Heap.get?_push_size _ rfl,rfl,rfl⟩,Kb.push _⟩ ?_ (fun j b p e1 e2=>(hT j b p e1 e2).keep fun o e=>Heap.get?_push_of_some _ (Jw b o e)) fun s' hm hD=>?_
 ·rcases List.mem_cons.mp z with z|z
  ·exact Nat.ne_of_lt sz z
  ·exact Nat.ne_of_gt Qb (List.mem_singleton.mp z)
 ·exact Nat.ne_of_lt (Nat.lt_trans (Qa b hb) sz) (List.mem_singleton.mp z)
 ·obtain⟨o,es,ep,ho,r⟩:=Ka
  exact⟨o,es,ep,Heap.get?_push_of_some _ (MZ _ _ ho),r⟩
 ·obtain⟨h',g',d',K7,LJ⟩:=s'
  have eg:g'=s.gens:=hm.gens
  have ed:d'=s.drawn:=hm.drawn
  have eo:LJ=s.os:=hm.os
  subst eg ed eo
  refine⟨rfl,h h' K7 hD fun b o hb e=>?_⟩
  refine hm.heap b o (fun z=>?_) (Heap.get?_push_of_some _ (Jw b o e))
  rcases List.mem_cons.mp z with z|z
  ·exact Nat.ne_of_lt hb z
  ·exact Nat.ne_of_lt (Nat.lt_trans hb sz) (List.mem_singleton.mp z)
end
end L2.Dp
namespace L2
open PySem PySem.Spec PyProof.Rows
inductive Fx (K:PySem.W.Frag)(H:Hp):List Addr->List (Key×V)->Prop where
 | nil:Fx K H [] []
 | cons {a:Addr}{k:Key}{v:V}{as:List Addr}{kvs:List (Key×V)}:EJ K H a [kV k,v]->Fx K H as kvs->Fx K H (a::as) ((k,v)::kvs)
section
variable {X:Cx}
theorem oA {pins:List (Addr×Obj)}{σ:St}{H:Hp}{s:Shared}(I:Inv X pins σ H s):∀ {as:List Addr}{kvs:List (Key×V)},Fx X.K H as kvs->∃ rs:List (Key×Value),KV kvs rs/\rs.length=as.length/\(∀ b∈as,b < s.heap.objs.size)/\
  ∀ (j:Nat) (b:Addr) (p:Key×Value),as[j]? = some b->rs[j]? = some p->Dp.EC (aC X.prog X.w) s.heap b p
 | _,_,.nil=>⟨[],.nil,rfl,(fun b h=>by cases h),fun j b p h=>by cases h⟩
 | _,_,.cons (a:=a) (k:=k) (v:=v) h1 h2=>by
  obtain⟨rs,r1,r2,r3,r4⟩:=oA I h2
  obtain⟨its,rv,tp,_⟩:=I.tuple h1
  obtain⟨o,ho,hc,m,hd⟩:=tp
  obtain⟨u1,u2,rfl,LX,N3⟩:∃ u1 u2,its=[u1,u2]/\RelV (kV k) u1/\RelV v u2:=by
   cases rv with
   | cons a1 rv=>
    cases rv with
    | cons a2 rv=>cases rv;exact⟨_,_,rfl,a1,a2⟩
  refine⟨(k,u2)::rs,.cons ⟨rfl,N3⟩ r1,by rw[List.length_cons,List.length_cons,r2],fun b hb=>?_,fun j b p e1 e2=>?_⟩
  ·rcases List.mem_cons.mp hb with rfl|hb
   ·exact Heap.lt_size ho
   ·exact r3 b hb
  ·cases j with
   | zero=>
    cases e1
    cases e2
    obtain⟨c,Dl,dat,sl⟩:=o
    simp only at hc hd
    subst hc hd
    exact⟨u1,Dl,m,sl,ho,gp LX⟩
   | succ j=>exact r4 j b p e1 e2
theorem gv:∀ {as:List Addr}{us:List Value},Vals (as.map V.ref) us->us=as.map Value.ref
 | [],_,.nil=>rfl
 | a::as,_,.cons r rs=>by
  rw[gv rs]
  obtain rfl:_=Value.ref a:=r
  rfl
theorem jY (hc:X.calm=true):cg X (.type "dict") (fun xs H Q=>∃ (p:Addr) (as:List Addr) (kvs:List (Key×V)),xs=[.ref p]/\EB X.K H p (as.map V.ref)/\Fx X.K H as kvs/\∀ a,H a=none->Q (.ref a) (upd H a (.dK (bR [] kvs)))):=by
 intro pins s σ H xs us Q I r h
 obtain⟨p,as,kvs,rfl,hq,hp,q⟩:=h
 obtain⟨u,rfl,rx⟩:=r.one
 cases rx
 obtain⟨its,rv,pl,hz⟩:=I.list hq
 obtain⟨o,m,ho,GS,Qc,Qd⟩:=pl
 have e:=gv rv
 subst e
 obtain⟨rs,r1,r2,r3,r4⟩:=oA I hp
 obtain⟨c,Dl,dat,sl⟩:=o
 simp only at GS Qc Qd
 subst GS Qc Qd
 rw[List.length_map] at hz
 have hl:=b9 kvs []
 have Ve:=r1.length
 rw[List.length_nil] at hl
 refine Dp.G9 (knd:=aC X.prog X.w) (bs:=as) (kvs:=rs) (I.ok.hd hc) ho (fun i v hv=>?_) (by rw[List.size_toArray,List.length_map];exact r2) (by rw[List.size_toArray,List.length_map];exact hz) r4 r3 fun h' tk hD hk=>?_
 ·have hv:(as.map Value.ref)[i]? = some v:=by simpa using hv
  rw[List.getElem?_map] at hv
  obtain⟨b,hb,rfl⟩:=Option.map_eq_some_iff.mp hv
  exact⟨b,rfl,hb⟩
 ·exact⟨.ref _,_,I.laid (a:=s.heap.objs.size) (o:=.dK (bR [] kvs)) (t':=tk) (fun b u e=>hk b u (Heap.lt_size e) e) (Nat.le_refl _) (jX (by omega) (beq_eq_false_iff_ne.mpr (Ne.symm (Nat.ne_of_lt I.big))) (KV.merge r1 .nil) hD),rfl,q _ (I.Dz.fresh (Nat.le_refl _))⟩
theorem eL:∀ ns:List Int,preSum (fun i=>ns.getD i 0) ns.length=ns.sum
 | []=>rfl
 | n::ns=>by
  rw[List.length_cons,PySem.W.kdu_shift,List.sum_cons,<- eL ns]
  rfl
theorem oB {pins:List (Addr×Obj)}{σ:St}{H:Hp}{s:Shared}{A:Around}{E:Value->Shared->Prop}{a:Addr}{kvs:List (Key×V)}{Q:Value->Shared->Prop}(I:Inv X pins σ H s)(e:Rd H a (.dK kvs))
  (h:∀ v s',Inv X pins σ H s'->s'.heap.IsValuesView v a->Q (.ref v) s'):wpAny (model X.prog X.w) A (call (.builtin "dict.values") [.ref a]) Q E s:=by
 obtain⟨z,hd,vs,rel,dd⟩:=dI I.Dz e
 refine call_meetsIn F.slot_dict_values dd.typeIs F.entry_dict_values (F.args_dict_values_1 _) (meets_dict_values (aC X.prog X.w) a hd) ⟨⟨_,dd⟩,?_⟩
 exact h _ _ (I.kept (t':=s.toks) fun b o q=>Heap.get?_push_of_some _ q) ⟨_,Heap.get?_push_size _ rfl,rfl,rfl⟩
theorem Ab {pins:List (Addr×Obj)}{σ:St}{H:Hp}{s:Shared}{A:Around}{E:Value->Shared->Prop}{a v:Addr}{kvs:List (Key×V)}{ns:List Int}{Q:Value->Shared->Prop}(hh:A.handled=none)(I:Inv X pins σ H s)(e:Rd H a (.dK kvs))(en:kvs.map (·.2)=ns.map V.int)(hv:s.heap.IsValuesView v a)
  (h:∀ t s',Inv X pins σ H s'->Q (.int ns.sum t) s'):wpAny (model X.prog X.w) A (call (.builtin "sum") [.ref v]) Q E s:=by
 obtain⟨z,hd,vs,rel,dd⟩:=dI I.Dz e
 obtain⟨ep,IQ⟩:=dd.dictAt
 have hlen:vs.length=ns.length:=by
  rw[<- rel.length,<- List.length_map (f:=V.int),<- en,List.length_map]
 refine call_sum_walkG (wpAny_pyIter_values (kvs:=vs) (ep:=ep) hv IQ ?_)
 refine⟨s.heap.objs.size,_,_,vs.length,_,_,fun i=>ns.getD i 0,rfl,Walks.dictValues (knd:=aC X.prog X.w) (show A.in1.handled=none by simp[hh]) s.heap.objs.size a (Nat.ne_of_lt IQ.lt_size) vs ep,⟨⟨_,Heap.get?_push_size _ rfl,rfl,rfl⟩,IQ.push _⟩,fun b hb=>?_,fun i u hu=>?_,fun h' tk t' hk=>?_⟩
 ·show b < (s.heap.push _).objs.size
  rw[Heap.size_push]
  rcases List.mem_cons.mp hb with e|hb
  ·rw[e];exact Nat.lt_succ_self _
  ·rw[List.mem_singleton.mp hb];exact Nat.lt_succ_of_lt IQ.lt_size
 ·obtain⟨k,hx⟩:=hu
  have:∀ {kvs:List (Key×V)}{vs:List (Key×Value)}{ns:List Int}{i:Nat},KV kvs vs->kvs.map (·.2)=ns.map V.int->vs[i]? = some (k,u)->∃ t,u=.int (ns.getD i 0) t:=by
   intro kvs vs ns i r
   unfold KV at r
   induction r generalizing ns i with
   | nil=>intro _ h;simp at h
   | @cons p q ps qs h t ih=>
    intro en hx
    cases ns with
    | nil=>cases en
    | cons n ns=>
     rw[List.map_cons,List.map_cons,List.cons.injEq] at en
     cases i with
     | zero=>
      rw[List.getElem?_cons_zero] at hx
      cases hx
      have h2:=h.2
      rw[en.1] at h2
      obtain⟨t,h2⟩:=h2
      exact⟨t,h2⟩
     | succ i=>
      have hx:qs[i]? = some (k,u):=hx
      exact ih (ns:=ns) (i:=i) en.2 hx
  exact this rel en hx
 ·rw[hlen,eL]
  exact h t' _ (I.kept (t':=tk) fun b o q=>hk b o (fun z=>by
   have:=List.mem_singleton.mp z
   exact Nat.ne_of_lt (Heap.lt_size q) this) (Heap.get?_push_of_some _ q))
theorem tf {o:Expr}{p pos apos Dt:Pos}{td:TE}(hc:X.calm=true)(g1:Gl X "sum") (m1:X.mg "sum" = none) (ho:PE X o td) (EM:attributeBase o "values" X.env (eval o X.env)=eval o X.env) (F5:(apos.endLine == Dt.line)=true) :
  PE X (.Call (.Name "sum" p) [.Call (.Attribute o "values" apos) [] [] Dt] [] pos) (fun σ H Q=>td σ H fun x H1=>∃ (a:Addr) (kvs:List (Key×V)) (ns:List Int),x=.ref a/\Rd H1 a (.dK kvs)/\kvs.map (·.2)=ns.map V.int/\Q (.int ns.sum) H1):=by
 intro pins s σ H Q I h
 refine wpAny_Call_Name_kw (cN (u:=.builtin "sum") I g1 m1 (by decide +kernel) ?_ (by decide) (by decide))
 refine PyProof.Rows.callWith_builtin1 ?_ rfl rfl
 show wpAny _ _ (spliced ((false,eval (.Call (.Attribute o "values" apos) [] [] Dt) X.env)::backTo pos (starEach [] X.env))) _ _ s
 have key:wpAny (model X.prog X.w) X.A (eval (.Call (.Attribute o "values" apos) [] [] Dt) X.env) (fun u s1=>∃ (a v:Addr) (kvs:List (Key×V)) (ns:List Int) (H1:Hp),u=.ref v/\Inv X pins σ H1 s1/\Rd H1 a (.dK kvs)/\kvs.map (·.2)=ns.map V.int/\s1.heap.IsValuesView v a/\Q (.int ns.sum) H1) X.xe s:=by
  refine wpAny_Call_method0_late EM F5 (DB (ho pins s σ H _ I h) fun u s1 ⟨x,H1,I1,r1,a,kvs,ns,ex,rd,en,q1⟩=>?_)
  subst ex
  obtain rfl:u=Value.ref a:=r1
  obtain⟨t1,t2,_⟩:=oh I1 (.inl ⟨kvs,rd⟩)
  exact⟨"dict","dict.values",PySem.F.plainAttrs_dict,PySem.F.slot_dict_values,PySem.F.type_dict_values,t1,t2,Calls.callWith_builtin rfl (PySem.evalArgs_none (oB I1 rd fun v s2 I2 hv=>⟨a,v,kvs,ns,H1,rfl,I2,rd,en,hv,q1⟩))⟩
 refine Calls.spliced_cons (DB key fun u s1 ⟨a,v,kvs,ns,H1,eu,I1,rd,en,hv,q1⟩=>?_)
 subst eu
 refine Calls.spliced_nil ?_
 exact Ab (I1.ok.hd hc) I1 rd en hv fun t s2 I2=>⟨.int _,H1,I2,⟨_,rfl⟩,q1⟩
theorem ti {o e:Expr}{apos Dt:Pos}{td te:TE}(ho:PE X o td)(he:PE X e te)(EM:attributeBase o "update" X.env (eval o X.env)=eval o X.env) (F5:(apos.endLine == Dt.line)=true) (DN:starEach [e] X.env=[(false,eval e X.env)]) :
  PE X (.Call (.Attribute o "update" apos) [e] [] Dt) (fun σ H Q=>td σ H fun x H1=>∃ a,x=.ref a/\PU H1 a/\te σ H1 fun y H2=>kK x [y] H2 Q):=by
 intro pins s σ H Q I h
 have N8:backTo Dt (starEach [e] X.env)=[(false,eval e X.env)]:=by rw[DN];rfl
 refine wpAny_Call_method1_late EM F5 N8 (DB (ho pins s σ H _ I h) fun u s1 ⟨x,H1,I1,r1,a,ex,d,q1⟩=>?_)
 subst ex
 obtain rfl:u=Value.ref a:=r1
 obtain⟨t1,t2,_⟩:=oh I1 d
 refine⟨"dict","dict.update",PySem.F.plainAttrs_dict,PySem.F.slot_dict_update,PySem.F.type_dict_update,t1,t2,?_⟩
 refine Calls.callWith_builtin rfl (Calls.evalArgs_plain (Calls.spliced_cons (DB (he pins s1 σ H1 _ I1 q1) fun fv s2 ⟨y,H2,I2,ry,q2⟩=>Calls.spliced_nil ?_)))
 exact nc pins s2 σ H2 (.ref a) [y] (.ref a) [fv] Q I2 rfl (.cons ry .nil) q2
end
open PySem.SeqAt
section
variable {prog:Program}{w:World}{κ:Type} [DecidableEq κ]{knd:KeyKind prog w κ}{A:Around}{E:Value->Shared->Prop}{s:Shared}{a:Addr}{kvs:List (κ×Value)}{ep:Nat}
theorem hU {Q:List Value->Shared->Prop}(lo:(a == sysModules)=false)(hh:A.handled=none)(hm:s.heap.DictAt knd a kvs ep)(hn:kvs.length<=sizeLine)
  (h:∀ h' tk (acc:Array Value),s.heap.objs.size < h'.objs.size->(∀ b o,s.heap.get? b=some o->h'.get? b=some o)->ItemsOf (fun i v=>∃ k x,kvs[i]? = some (k,x)/\knd.is k v=true) acc kvs.length->Q acc.toList {s with heap:=h',toks:=tk}):wpAny (model prog w) A (collect (.ref a)) Q E s:=by
 have DV:a < s.heap.objs.size:=hm.lt_size
 unfold collect
 refine wpAny_bind (wpAny_runValue (codeAny_builtin entry_proto_collect' ?_))
 rw[Around.under_plainId PySem.F.plain_proto_collect _]
 refine(show wpAny _ A.in1 (newList [] >>= fun l=>again (.builtin "list.__iadd__" ⟨[l,.ref a],[]⟩)) _ _ s from wpAny_bind (wpAny_newObj_type (wpAny_pure ⟨plainId_quiet PySem.F.plain_list_iadd _,codeAny_builtin entry_list_iadd' ?_⟩)))
 rw[Around.under_plainId PySem.F.plain_list_iadd _]
 have g1:(s.heap.push {cls:=.type "list",data:=.seq ([]:List Value).toArray}).get? s.heap.objs.size=some {cls:=.type "list",data:=.seq #[]}:=Heap.get?_push_size _ rfl
 show wpAny _ A.in1 (Builtin.List.listExtendWith (.ref s.heap.objs.size) (.ref a) (.ref s.heap.objs.size)) _ _ _
 have Hs:(s.heap.push {cls:=.type "list",data:=.seq ([]:List Value).toArray}).DictAt knd a kvs ep:=hm.at' fun o e=>Heap.get?_push_of_some _ e
 have key:=PySem.W.kdl_extend (A:=A) (s:={s with heap:=s.heap.push {cls:=.type "list",data:=.seq ([]:List Value).toArray}})
  (R:=fun (q:Result) (s':Shared)=>∃ (h':Heap) (tk:Nat) (acc:Array Value) (c:Nat),q=.ok (.ret (.ref s.heap.objs.size))/\s' = {s with heap:=h',toks:=tk}/\
   (∀ b o,s.heap.get? b=some o->h'.get? b=some o)/\h'.get? s.heap.objs.size=some {cls:=.type "list",dict:=none,data:=.seq acc c,slots:=#[]}/\ItemsOf (fun i v=>∃ k x,kvs[i]? = some (k,x)/\knd.is k v=true) acc kvs.length)
  (PySem.W.kdl_dict lo) hh Hs s.heap.objs.size (Nat.ne_of_gt DV) (Nat.ne_of_gt DV) (.ref s.heap.objs.size) 0 g1
  (fun h' tk acc c hk HM Ex=>⟨h',tk,acc,c,rfl,rfl,fun b o e=>hk b o (Nat.ne_of_lt (Heap.lt_size e)) (Heap.get?_push_of_some _ e),HM,Ex⟩) hn
 refine wpAny_mono key (fun fin s' x=>?_) fun e s' x=>?_
 ·cases fin with
  | done f=>
   obtain⟨h',tk,acc,c,e,rfl,hk,HM,Ex⟩:=x
   cases e
   exact show wpAny _ A (load s.heap.objs.size >>= _) _ _ _ from wpAny_bind (wpAny_load HM (wpAny_pure (h h' tk acc (Heap.lt_size HM) hk Ex)))
  | again c1=>
   refine⟨x.1,codeAny_mono x.2 fun q s2 y=>?_⟩
   obtain⟨h',tk,acc,c,rfl,rfl,hk,HM,Ex⟩:=y
   exact show wpAny _ A (load s.heap.objs.size >>= _) _ _ _ from wpAny_bind (wpAny_load HM (wpAny_pure (h h' tk acc (Heap.lt_size HM) hk Ex)))
 ·obtain⟨_,_,_,_,e',_⟩:=x
  cases e'
theorem jk {Q:Value->Shared->Prop}{ns:List Int}(lo:(a == sysModules)=false)(hh:A.handled=none)(hm:s.heap.DictAt knd a kvs ep)(Qe:kvs.length < 64)(hl:kvs.length=ns.length)(hI:∀ acc:Array Value,ItemsOf (fun i v=>∃ k x,kvs[i]? = some (k,x)/\knd.is k v=true) acc kvs.length->IntsAre acc.toList ns)
  (h:∀ h' tk D (out:Array Value) c K8,(∀ b o,s.heap.get? b=some o->h'.get? b=some o)->s.heap.objs.size<=D->h'.get? D=some (seqObj "list" out c)->IntsAre out.toList K8->K8.Perm ns->K8.Pairwise (·<=·)->Q (.ref D) {s with heap:=h',toks:=tk}) :
  wpAny (model prog w) A (call (.builtin "sorted") [.ref a]) Q E s:=by
 have hz:kvs.length<=sizeLine:=by rw[sizeLine_eq];omega
 refine Calls.call_function_entry kind_sorted plain_sorted entry_sorted (args_sorted1 _) ?_
 unfold Builtin.«sorted»
 refine wpAny_bind (m:=checkCount "sorted" 1 1 _) (wpAny_pure (wpAny_bind (hU (A:=A.in1) lo hh hm hz fun h' tk acc DV hk Ex=>?_)))
 have k1:=hI acc Ex
 have hlen:acc.toList.length=ns.length:=by rw[Array.length_toList,Ex.1,hl]
 refine wpAny_bind (wpAny_newList ?_ (by rw[hlen,<- hl];exact hz))
 have gL:(h'.push (seqObj "list" acc.toList.toArray 0)).get? h'.objs.size=some (seqObj "list" acc.toList.toArray 0):=Heap.get?_push_size _ rfl
 have nD:s.heap.get? h'.objs.size=none:=by
  cases e:s.heap.get? h'.objs.size with
  | none=>rfl
  | some o=>exact absurd (Heap.lt_size (hk _ _ e)) (Nat.lt_irrefl _)
 refine wpAny_bind (wpAny_holding (wpAny_call_entry (s:={s with heap:=h'.push (seqObj "list" acc.toList.toArray 0),toks:=tk}) slot_list_sort ⟨_,gL,rfl⟩ entry_list_sort (list_sort_tree (s:={s with heap:=h'.push (seqObj "list" acc.toList.toArray 0),toks:=tk}) gL k1 (by rw[hlen,<- hl];exact Qe) fun out K8 a1 a2 a3=>⟨_,rfl,?_⟩) (args_list_sort _)))
 obtain⟨c,hc⟩:=sortedHeap_at (out:=out) gL
 refine wpAny_pure ⟨_,rfl,h _ tk _ out c K8 (fun b o e=>?_) (Nat.le_of_lt DV) hc a1 a2 a3⟩
 have e1:=Heap.get?_push_of_some (seqObj "list" acc.toList.toArray 0) (hk b o e)
 rw[sortedHeap_old (fun z=>by rw[z,nD] at e;cases e) (Heap.lt_size e1)]
 exact e1
end
theorem fw:∀ (vs:List Value) (ns:List Int),vs.length=ns.length->(∀ (i:Nat) (v:Value),vs[i]? = some v->∃ n t,ns[i]? = some n/\v=Value.int n t)->IntsAre vs ns
 | [],[],_,_=>.nil
 | v::vs,n::ns,hl,h=>by
  obtain⟨m,t,e,rfl⟩:=h 0 v rfl
  cases e
  exact .cons _ t (fw vs ns (by simpa using hl) fun i u hu=>h (i+1) u hu)
 | [],_::_,hl,_=>by simp at hl
 | _::_,[],hl,_=>by simp at hl
section
variable {X:Cx}
theorem Inv.Dl {pins:List (Addr×Obj)}{σ:St}{H:Hp}{s:Shared}{p:Addr}{kvs:List (Key×V)}(I:Inv X pins σ H s)(e:Rd H p (.dK kvs)):kvs.length<=sizeLine/\(p == sysModules)=false/\∃ vs o es ep,KV kvs vs/\s.heap.get? p=some o/\o.data=.dict es ep/\s.heap.DictAt (aC X.prog X.w) p vs ep:=by
 obtain⟨h1,h2,vs,kv,o,es,ep,ho,c,hd,r⟩:=e.ok I.Dz
 exact⟨h1,h2,vs,o,es,ep,kv,ho,hd,o,es,ho,c,hd,r⟩
theorem KV.at {κ:Type}:∀ {kvs:List (κ×V)}{vs:List (κ×Value)} (r:KV kvs vs) {i:Nat}{q:κ×Value},vs[i]? = some q->∃ v,kvs[i]? = some (q.1,v)/\RelV v q.2
 | _,_,.nil,_,_,h=>by simp at h
 | (k,v)::_,q'::_,.cons r _,0,q,h=>by
  cases h
  obtain⟨r1,r2⟩:=r
  have r1:k=q'.1:=r1
  subst r1
  exact⟨v,rfl,r2⟩
 | _,_,.cons _ r,i+1,q,h=>KV.at r (i:=i) (by simpa using h)
theorem KV.len {κ:Type}{kvs:List (κ×V)}{vs:List (κ×Value)}(r:KV kvs vs):kvs.length=vs.length:=Paired.length r
theorem hW (hc:X.calm=true):cg X (.builtin "sorted") (fun xs H Q=>∃ (p:Addr) (kvs:List (Key×V)) (ns:List Int),xs=[.ref p]/\Rd H p (.dK kvs)/\kvs.map (·.1)=ns.map Sum.inl/\ns.length < 64/\∀ l,H l=none->Q (.ref l) (upd H l (.lst ((PySem.W.sortI ns).map V.int)))):=by
 intro pins s σ H xs us Q I r h
 obtain⟨p,kvs,ns,rfl,hp,hk,Qe,q⟩:=h
 obtain⟨u,rfl,rx⟩:=vals1 r
 cases rx
 obtain⟨_,lo,vs,o,es,ep,kv,ho,hd,hm⟩:=I.Dl hp
 have hl:kvs.length=ns.length:=by have:=congrArg List.length hk;simpa using this
 have hv:=kv.len
 refine jk lo (I.ok.hd hc) hm (by omega) (ns:=ns) (by omega) (fun acc Ex=>fw _ _ (by rw[Array.length_toList,Ex.1];omega) fun i v e=>?_) fun h' tk Dn out c K8 k hD e a1 a2 a3=>?_
 ·obtain⟨k,x,e1,e2⟩:=Ex.2 i v (by rw[<- Array.getElem?_toList];exact e)
  obtain⟨y,e3,_⟩:=kv.at e1
  have e4:(kvs.map (·.1))[i]? = some k:=by rw[List.getElem?_map,e3];rfl
  rw[hk,List.getElem?_map] at e4
  cases en:ns[i]? with
  | none=>rw[en] at e4;cases e4
  | some n=>
   rw[en] at e4
   have e5:Sum.inl n=k:=Option.some.inj e4
   subst e5
   rcases aE (show eW (Sum.inl n) v=true from e2) with ⟨j,t,h1,h2⟩|⟨j,t,h1,h2⟩
   ·cases h1
    exact⟨n,t,rfl,h2⟩
   ·cases h1
 ·rw[PySem.W.eq_sortI a2 a3] at a1
  have K9:Vals ((PySem.W.sortI ns).map V.int) out.toList:=by
   generalize PySem.W.sortI ns=ms at a1
   generalize out.toList=ws at a1
   induction a1 with
   | nil=>exact .nil
   | cons n t _ ih=>exact .cons ⟨t,rfl⟩ ih
  have J:=I.laid (t':=tk) (o:=.lst ((PySem.W.sortI ns).map V.int)) k hD (show aK X.prog X.w _ _ _ (.lst _) from ⟨by rw[List.length_map,(PySem.W.sortI_perm ns).length_eq,sizeLine_eq];omega,out.toList,c,K9,by simpa using e⟩)
  exact⟨.ref _,_,J,rfl,q _ (I.Dz.fresh hD)⟩
theorem ni:cg X (.builtin "len") (fun xs H Q=>∃ (p:Addr) (kvs:List (Key×V)),xs=[.ref p]/\Rd H p (.dK kvs)/\Q (.int kvs.length) H):=by
 intro pins s σ H xs us Q I r h
 obtain⟨p,kvs,rfl,hp,q⟩:=h
 obtain⟨u,rfl,rx⟩:=vals1 r
 cases rx
 obtain⟨hz,lo,vs,o,es,ep,kv,ho,hd,hm⟩:=I.Dl hp
 have hs:sizeLine=16777216:=sizeLine_eq
 have hl:=kv.len
 exact call_len_dict lo hm.dictOf (by omega) ⟨.int kvs.length,H,I.tok _,⟨_,by rw[hl]⟩,q⟩
noncomputable def L1 (d:Addr)(o:Obj)(kvs:List (Key×V)):It:=
 ⟨fun i H=>H d=some (.Dw o (.dK kvs))/\i < kvs.length,fun i H x H'=>H'=H/\∃ k v,kvs[i]? = some (k,v)/\x=kV k,fun i H=>H d=some (.Dw o (.dK kvs))/\kvs.length<=i⟩
theorem xU {P:Program}{w:World}{k:Key}{u:Value}(h:(aC P w).is k u=true):RelV (kV k) u:=by
 rcases aE h with ⟨i,t,rfl,rfl⟩|⟨x,t,rfl,rfl⟩
 ·exact⟨t,rfl⟩
 ·exact⟨t,rfl⟩
theorem nj {P:Program}{w:World}{K:PySem.W.Frag}{tg:Expr}(d it:Addr)(o:Obj)(kvs:List (Key×V))(es:Array DictEntry)(ep:Nat)(hd:o.data=.dict es ep):Turn P w K tg (L1 d o kvs) [it] it (fun i h=>h.IsKeyIter it d i kvs.length ep) where
 mem:=by simp
 obj:=fun i h st b hb=>by
  have e:b=it:=by simpa using hb
  subst e
  obtain⟨o,e,c,d⟩:=st
  exact⟨o,e,fun v z=>by rw[d] at z;cases z⟩
 keep:=fun i h h' st k=>st.at fun o e=>k it (by simp) o e
 item:=by
  intro X hP hw hK hc i pins s σ H E I hf st hg
  subst hP hw hK
  obtain⟨hH,hi⟩:=hg
  obtain⟨_,lo,vs,o',E9,LB,kv,ho,JU,hm⟩:=I.Dl (.inr ⟨o,hH⟩)
  have N9:s.heap.get? d=some o:=(I.Dz d _ hH).1
  rw[N9] at ho
  cases ho
  rw[hd] at JU
  cases JU
  have hl:=kv.len
  obtain⟨q,hq⟩:∃ q,vs[i]? = some q:=⟨vs[i]'(by omega),by simp[hl ▸ hi]⟩
  obtain⟨f0,f1,f2,f3,f4,f5⟩:=hf it (by simp)
  rw[hl] at st ⊢
  refine wpAny_pyNext_dict_item st hm (k:=q.1) (v:=q.2) hq fun key h' J' FW sb=>?_
  have I1:Inv X pins σ H {s with heap:=h'}:=I.turned (t':=s.toks) (fun b o hb e=>(sb.2 b hb).trans e) f0 f1 f3 f4 f5
  obtain⟨v,e3,_⟩:=kv.at hq
  obtain⟨oi,e,c,dd⟩:=id FW
  exact⟨key,rfl,iY (s:={s with heap:=h'}) e c dd (by decide) ⟨kV q.1,H,I1,xU J',⟨rfl,q.1,v,e3,rfl⟩,FW,fun b hb=>(hf b hb).1⟩⟩
 done:=by
  intro X hP hw hK hc i pins s σ H E I hf st hg
  subst hP hw hK
  obtain⟨hH,hi⟩:=hg
  obtain⟨_,lo,vs,o',E9,LB,kv,ho,JU,hm⟩:=I.Dl (.inr ⟨o,hH⟩)
  have N9:s.heap.get? d=some o:=(I.Dz d _ hH).1
  rw[N9] at ho
  cases ho
  rw[hd] at JU
  cases JU
  have hl:=kv.len
  obtain⟨f0,f1,f2,f3,f4,f5⟩:=hf it (by simp)
  rw[hl] at st
  exact wpAny_pyNext_dict_end (I.ok.hd hc) st hm (by rw[List.getElem?_eq_none];omega) fun h' eb=>⟨rfl,I.turned (t':=s.toks) (fun b o hb e=>eb b o hb e) f0 f1 f3 f4 f5⟩
 self:=fun _ _ _ _ _ st h=>wpAny_pyIter_keyiter st h
theorem Inv.N' {pins:List (Addr×Obj)}{σ:St}{H:Hp}{s:Shared}{d:Addr}{kvs:List (Key×V)}{o:Obj}(I:Inv X pins σ H s)(e:H d=some (.dK kvs))(ho:s.heap.get? d=some o):Inv X pins σ (upd H d (.Dw o (.dK kvs))) s/\∀ o' u,X.ET d≠some (.Dw o' u):=by
 have ne:∀ {b:Addr},H b=none->b≠d:=fun z y=>by rw[y,e] at z;cases z
 refine⟨?_,fun o' u z=>by have:=I.base.Ee d o' u z;rw[e] at this;cases this⟩
 have un:Un X.fs [] H (upd H d (.Dw o (.dK kvs))) s.heap s.heap:=⟨fun b ob h n _ _=>h,fun b ob h n _ _=>⟨ob.slots,h⟩,fun b ob h n _=>by rw[ah (ne n)];exact n,fun b ob h _=>⟨ob,h⟩,fun b xs h=>by
  rw[ah (by rintro rfl;rw[e] at h;cases h)];exact h,fun b o' u h=>by
  rw[ah (by rintro rfl;rw[e] at h;cases h)];exact h,fun b ps h=>⟨#[],by
  rw[ah (by rintro rfl;rw[e] at h;cases h)];simpa using h⟩⟩
 refine(I.un (h':=s.heap) (t':=s.toks) un fun b ob q=>?_)
 by_cases hb:b=d
 ·subst hb
  rw[ao] at q
  cases q
  exact⟨ho,show aK X.prog X.w H s.heap b (.dK kvs) from I.Dz b _ e⟩
 ·rw[ah hb] at q
  exact(I.Dz b ob q).EI (fun _ _ _ z=>z) (fun c z=>by rw[ah (by rintro rfl;rw[e] at z;cases z)];exact z) fun c xs z=>by rw[ah (by rintro rfl;rw[e] at z;cases z)];exact z
theorem Inv.ED {pins:List (Addr×Obj)}{σ:St}{H:Hp}{s:Shared}{d:Addr}{kvs:List (Key×V)}{o:Obj}(I:Inv X pins σ H s)(e:H d=some (.Dw o (.dK kvs)))(h0:∀ o' u,X.ET d≠some (.Dw o' u)):Inv X pins σ (upd H d (.dK kvs)) s:=by
 have ne:∀ {b:Addr},H b=none->b≠d:=fun z y=>by rw[y,e] at z;cases z
 refine⟨I.ok,I.os,I.bare,⟨I.base.keep,I.base.slot,fun b ob h n hx=>by have:=I.base.free b ob h n hx;rw[ah (ne this)];exact this,I.base.there,fun b xs h=>by
  have:=I.base.EA b xs h
  rw[ah (by rintro rfl;rw[e] at this;cases this)];exact this,fun b o' u h=>by
  have:=I.base.Ee b o' u h
  rw[ah (by rintro rfl;exact h0 _ _ h)];exact this,fun b ps h=>?_⟩,I.loc,I.cell,by rw[ah (ne I.free)];exact I.free,fun x c h=>by have:=I.Ef x c h;rw[ah (ne this)];exact this,fun p hp=>by
  obtain⟨p1,p2,p3⟩:=I.pin p hp
  exact⟨p1,by rw[ah (ne p2)];exact p2,p3⟩,fun b ob q=>?_,I.len⟩
 ·obtain⟨Qf,Ht⟩:=I.base.Fp b ps h
  refine⟨Qf,?_⟩
  rw[ah (by rintro rfl;rw[e] at Ht;cases Ht)]
  exact Ht
 by_cases hb:b=d
 ·subst hb
  rw[ao] at q
  cases q
  exact(show aK X.prog X.w H s.heap b (.Dw o (.dK kvs)) from I.Dz b _ e).2
 ·rw[ah hb] at q
  exact(I.Dz b ob q).EI (fun _ _ _ z=>z) (fun c z=>by rw[ah (by rintro rfl;rw[e] at z;cases z)];exact z) fun c xs z=>by rw[ah (by rintro rfl;rw[e] at z;cases z)];exact z
def CI (X:Cx)(i:Nat):TI:=fun σ H R=>∃ d kvs,σ[i]? = some (some (.ref d))/\H d=some (.dK kvs)/\∀ o,(∀ o' u,X.ET d≠some (.Dw o' u))->R (L1 d o kvs) (upd H d (.Dw o (.dK kvs)))
theorem tj {tg l:Expr}{i:Nat}(hl:PE X l (mQ i)):PI X tg l (CI X i):=by
 intro pins s σ H R I h
 obtain⟨d,kvs,D5,hH,q⟩:=h
 refine DB (hl pins s σ H (fun x H1=>x=.ref d/\H1=H) I ⟨_,D5,rfl,rfl⟩) fun v s1 ⟨x,H1,I1,r1,q1⟩=>?_
 obtain⟨rfl,rfl⟩:=q1
 cases r1
 obtain⟨_,lo,vs,o,es,ep,kv,ho,hd,hm⟩:=I1.Dl (.inl hH)
 obtain⟨I2,h0⟩:=I1.N' hH ho
 refine wpAny_pyIter_dict lo hm ?_
 refine⟨s1.heap.objs.size,[s1.heap.objs.size],_,_,_,rfl,I2.kept (t':=s1.toks) fun b o e=>Heap.get?_push_of_some _ e,nj d _ o kvs es ep hd,?_,fun b hb=>?_,q o h0⟩
 ·rw[kv.len]
  exact⟨_,Heap.get?_push_size _ rfl,rfl,rfl⟩
 ·have e:b=s1.heap.objs.size:=by simpa using hb
  subst e
  exact I2.Gw (Nat.le_refl _) (I2.Dz.fresh (Nat.le_refl _))
theorem tm {st:Stmt}{t:TS}(h:PS X st t):PS X st fun Dn σ H=>t {Dn with nx:=fun Dy H'=>∃ d o kvs,H' d=some (.Dw o (.dK kvs))/\(∀ o' u,X.ET d≠some (.Dw o' u))/\Dn.nx Dy (upd H' d (.dK kvs))} σ H:=by
 intro pins s σ H Dn I q
 refine DB (h pins s σ H _ I q) fun f s1 q1=>?_
 cases f with
 | next=>
  obtain⟨LG,H1,I1,d,o,kvs,e,h0,q1⟩:=q1
  exact⟨LG,_,I1.ED e h0,q1⟩
 | brk=>exact q1
 | cont=>exact q1
 | ret v=>exact q1
end
inductive D where
 | DE|bl (b:Bool)|int (i:Int)|str (x:Str)|tup (ds:List D)|lst (own:Bool) (ds:List D)|exc (c:Str)|Dl (own:Bool) (ks:List Key) (ds:List D)
 deriving Inhabited
mutual
noncomputable def er:D->D
 | .tup ds=>.tup (Dx ds)
 | .lst _ ds=>.lst false (Dx ds)
 | .Dl _ ks ds=>.Dl false ks (Dx ds)
 | .DE=>.DE
 | .bl b=>.bl b
 | .int i=>.int i
 | .str x=>.str x
 | .exc c=>.exc c
noncomputable def Dx:List D->List D
 | []=>[]
 | d::ds=>er d::Dx ds
end
mutual
noncomputable def ay:D->Bool
 | .tup ds=>ak ds
 | .lst _ _=>false
 | .Dl _ _ _=>false
 | .DE=>true
 | .bl _=>true
 | .int _=>true
 | .str _=>true
 | .exc _=>true
noncomputable def ak:List D->Bool
 | []=>true
 | d::ds=>ay d&&ak ds
end
theorem bE:∀ ds:List D,Dx ds=ds.map er
 | []=>rfl
 | d::ds=>by rw[Dx,bE ds];rfl
theorem bc:∀ ds:List D,ak ds=ds.all ay
 | []=>rfl
 | d::ds=>by rw[ak,bc ds];rfl
theorem bz (ds:List D):(Dx ds).length=ds.length:=by rw[bE,List.length_map]
mutual
theorem oC:∀ {d:D},ay d=true->er d=d
 | .DE,_=>rfl
 | .bl _,_=>rfl
 | .int _,_=>rfl
 | .str _,_=>rfl
 | .exc _,_=>rfl
 | .tup ds,h=>by rw[er,bA (ds:=ds) h]
 | .lst o ds,h=>by cases (show false=true from h)
 | .Dl o ks ds,h=>by cases (show false=true from h)
theorem bA:∀ {ds:List D},ak ds=true->Dx ds=ds
 | [],_=>rfl
 | d::ds,h=>by
  have h':(ay d&&ak ds)=true:=h
  rw[Bool.and_eq_true] at h'
  rw[Dx,oC h'.1,bA h'.2]
end
inductive Exc where
 | stuck|exc (c:Str)
noncomputable abbrev Res (α:Type):=Except Exc α
noncomputable abbrev Dq {α:Type}:Res α:=.error .stuck
noncomputable def U {α β:Type}(x:Res α)(f:α->Res β):Res β:=match x with
 | .ok a=>f a
 | .error e=>.error e
noncomputable def Dk {α:Type}(c:Bool)(x:Res α):Res α:=if c=true then x else Dq
def Df {α:Type}(ex:Str->Prop)(x:Res α)(k:α->Prop):Prop:=match x with
 | .ok a=>k a
 | .error (.exc c)=>ex c
 | .error .stuck=>False
theorem Df.U {α β:Type}{ex:Str->Prop}{x:Res α}{f:α->Res β}{k:β->Prop}(h:Df ex (U x f) k):Df ex x fun a=>Df ex (f a) k:=by
 cases x with
 | ok a=>exact h
 | error e=>cases e<;>exact h
theorem Df.Dk {α:Type}{ex:Str->Prop}{c:Bool}{x:Res α}{k:α->Prop}(h:Df ex (Dk c x) k):c=true/\Df ex x k:=by
 unfold L2.Dk at h
 cases c with
 | true=>exact⟨rfl,h⟩
 | false=>exact False.elim h
theorem Df.mono {α:Type}{ex:Str->Prop}{x:Res α}{k k':α->Prop}(h:Df ex x k)(m:∀ a,k a->k' a):Df ex x k':=by
 cases x with
 | ok a=>exact m a h
 | error e=>cases e<;>exact h
theorem Df.mk {α β:Type}{ex:Str->Prop}{x:Res α}{f:α->Res β}{k:β->Prop}(h:Df ex x fun a=>Df ex (f a) k):Df ex (L2.U x f) k:=by
 cases x with
 | ok a=>exact h
 | error e=>cases e<;>exact h
theorem Df.eq {α:Type}{ex:Str->Prop}{x:Res α}{k:α->Prop}(h:Df ex x k):Df ex x fun a=>x=.ok a/\k a:=by
 cases x with
 | ok a=>exact⟨rfl,h⟩
 | error e=>cases e<;>exact h
theorem Df.ok {α:Type}{ex:Str->Prop}{a:α}{k:α->Prop}(h:Df ex (.ok a:Res α) k):k a:=h
theorem Df.no {α:Type}{ex:Str->Prop}{k:α->Prop}(h:Df ex (Dq:Res α) k):False:=h
inductive LD where
 | l (xs:List V)|d (kvs:List (Key×V))
noncomputable abbrev LD.o:LD->HO
 | .l xs=>.lst xs
 | .d kvs=>.dK kvs
theorem KL.sq {K:PySem.W.Frag}{H:Hp}{a:Addr}{xs:List V}(h:KL K a xs):EB K H a xs:=by
 obtain⟨its,n,h1,h2,h3⟩:=h
 exact .inr ⟨_,its.toArray,n,h1,rfl,rfl,rfl,by simpa using h2,by simpa using h3⟩
theorem Inv.ls {X:Cx}{pins:List (Addr×Obj)}{σ:St}{H:Hp}{s:Shared}{a:Addr}{xs:List V}(I:Inv X pins σ H s)(h:Ls X.K H a xs) :
  xs.length<=sizeLine/\∃ (its:List Value) (n:Nat),Vals xs its/\s.heap.get? a=some {cls:=.type "list",data:=.seq its.toArray n}:=by
 rcases h with h|⟨its,n,h1,h2,h3⟩
 ·obtain⟨z,its,n,r,e⟩:=h.ok I.Dz
  exact⟨z,its,n,r,e⟩
 ·exact⟨by rw[h3.length];exact h2,its,n,h3,I.G7 _ _ h1⟩
noncomputable def nameIn (K:PySem.W.Frag)(C:Addr):Option Str:=match K.lookup C with
 | some ⟨_,_,.cls cd,_⟩=>some cd.name
 | _=>none
noncomputable def XU:HO:=.ext fun _=>True
def XO (K:PySem.W.Frag)(H:Hp)(a:Addr)(c:Str):Prop:=∃ (C:Addr) (o:Obj) (vs:Array Value),PySem.W.nsIn K mainGlobals c=some (some (.ref C))/\nameIn K C=some c/\H a=some (.Dw o XU)/\o.cls=.ref C/\o.data=.fields vs
noncomputable def DP (K:PySem.W.Frag)(H:Hp)(a:Addr):List V ⊕ Str->Prop
 | .inl xs=>EJ K H a xs
 | .inr c=>XO K H a c
mutual
inductive Dg (K:PySem.W.Frag)(S:Addr->Prop)(H:Hp):V->D->Prop where
 | DE:Dg K S H .DE .DE
 | bl (b:Bool):Dg K S H (.bl b) (.bl b)
 | int (i:Int):Dg K S H (.int i) (.int i)
 | str (x:Str):Dg K S H (.str x) (.str x)
 | exc {a:Addr}{c:Str}:DP K H a (.inr c)->Dg K S H (.ref a) (.exc c)
 | tup {a:Addr}{xs:List V}{ds:List D}:EJ K H a xs->De K S H xs ds->Dg K S H (.ref a) (.tup ds)
 | lst {a:Addr}{xs:List V}{o:Bool}{ds:List D}:S a->Rd H a (.lst xs)->De K S H xs ds->Dg K S H (.ref a) (.lst o ds)
 | lstK {a:Addr}{xs:List V}{o:Bool}{ds:List D}:KL K a xs->De K S H xs ds->Dg K S H (.ref a) (.lst o ds)
 | Dl {a:Addr}{kvs:List (Key×V)}{o:Bool}{ks:List Key}{ds:List D}:S a->Rd H a (.dK kvs)->kvs.map (·.1)=ks->De K S H (kvs.map (·.2)) ds->Dg K S H (.ref a) (.Dl o ks ds)
inductive De (K:PySem.W.Frag)(S:Addr->Prop)(H:Hp):List V->List D->Prop where
 | nil:De K S H [] []
 | cons {v:V}{d:D}{vs:List V}{ds:List D}:Dg K S H v d->De K S H vs ds->De K S H (v::vs) (d::ds)
end
mutual
inductive Dv (K:PySem.W.Frag)(F:Addr->Prop)(H:Hp):V->D->List Addr->Prop where
 | DE:Dv K F H .DE .DE []
 | bl (b:Bool):Dv K F H (.bl b) (.bl b) []
 | int (i:Int):Dv K F H (.int i) (.int i) []
 | str (x:Str):Dv K F H (.str x) (.str x) []
 | exc {a:Addr}{c:Str}:DP K H a (.inr c)->Dv K F H (.ref a) (.exc c) []
 | tup {a:Addr}{xs:List V}{ds:List D}{f:List Addr}:EJ K H a xs->Dh K F H xs ds f->Dv K F H (.ref a) (.tup ds) f
 | F9 {a:Addr}{xs:List V}{ds:List D}:F a->Rd H a (.lst xs)->Dh K F H xs ds []->Dv K F H (.ref a) (.lst false ds) []
 | lstK {a:Addr}{xs:List V}{ds:List D}:KL K a xs->Dh K F H xs ds []->Dv K F H (.ref a) (.lst false ds) []
 | EN {a:Addr}{xs:List V}{ds:List D}{f:List Addr}:¬ F a->H a=some (.lst xs)->Dh K F H xs ds f->Dv K F H (.ref a) (.lst true ds) (a::f)
 | GA {a:Addr}{kvs:List (Key×V)}{ks:List Key}{ds:List D}:F a->Rd H a (.dK kvs)->kvs.map (·.1)=ks->Dh K F H (kvs.map (·.2)) ds []->Dv K F H (.ref a) (.Dl false ks ds) []
 | E0 {a:Addr}{kvs:List (Key×V)}{ks:List Key}{ds:List D}{f:List Addr}:¬ F a->H a=some (.dK kvs)->kvs.map (·.1)=ks->Dh K F H (kvs.map (·.2)) ds f->Dv K F H (.ref a) (.Dl true ks ds) (a::f)
inductive Dh (K:PySem.W.Frag)(F:Addr->Prop)(H:Hp):List V->List D->List Addr->Prop where
 | nil:Dh K F H [] [] []
 | cons {v:V}{d:D}{f:List Addr}{vs:List V}{ds:List D}{g:List Addr}:Dv K F H v d f->Dh K F H vs ds g->Dh K F H (v::vs) (d::ds) (f++g)
end
theorem ar.rd {H H':Hp}{a:Addr}{u:HO}(e:ar H H')(h:Rd H a u):Rd H' a u:=by
 rcases h with h|⟨o,h⟩
 ·exact .inl (e _ _ h)
 ·exact .inr ⟨o,e _ _ h⟩
theorem ar.EE {K:PySem.W.Frag}{H H':Hp}{a:Addr}{xs:List V ⊕ Str}(e:ar H H')(h:DP K H a xs):DP K H' a xs:=by
 cases xs with
 | inl xs=>
  rcases h with h|h
  ·exact .inl (e.rd h)
  ·exact .inr h
 | inr c=>
  obtain⟨C,o,vs,h0,h1,h2,h3⟩:=h
  exact⟨C,o,vs,h0,h1,e _ _ h2,h3⟩
theorem DP.upd {K:PySem.W.Frag}{H:Hp}{a l:Addr}{xs:List V ⊕ Str}{ys zs:List V}(hl:H l=some (.lst ys))(h:DP K H a xs):DP K (upd H l (.lst zs)) a xs:=by
 cases xs with
 | inl xs=>
  rcases h with h|h
  ·have:a≠l:=by
    rintro rfl
    rcases h with h|⟨o,h⟩<;>(rw[hl] at h;cases h)
   refine .inl ?_
   unfold Rd
   rw[ah this]
   exact h
  ·exact .inr h
 | inr c=>
  obtain⟨C,o,vs,h0,h1,h2,h3⟩:=h
  have:a≠l:=by
   rintro rfl
   rw[hl] at h2;cases h2
  exact⟨C,o,vs,h0,h1,by rw[ah this];exact h2,h3⟩
theorem Rd.some {H:Hp}{a:Addr}{u:HO}(h:Rd H a u):H a≠none:=by
 rcases h with h|⟨o,h⟩<;>(rw[h];simp)
section
variable {K:PySem.W.Frag}{S S' F F':Addr->Prop}{H H':Hp}
theorem Dg.step (hl:∀ a (u:LD),S a->Rd H a u.o->S' a/\Rd H' a u.o)(ht:∀ a xs,DP K H a xs->DP K H' a xs){v:V}{d:D}(h:Dg K S H v d):Dg K S' H' v d:=
 Dg.rec (motive_1:=fun v d _=>Dg K S' H' v d) (motive_2:=fun v d _=>De K S' H' v d) .DE .bl .int .str (fun h=>.exc (ht _ (.inr _) h)) (fun h1 _ i=>.tup (ht _ (.inl _) h1) i)
  (fun h0 h1 _ i=>.lst (hl _ (.l _) h0 h1).1 (hl _ (.l _) h0 h1).2 i) (fun h1 _ i=>.lstK h1 i) (fun h0 h1 h2 _ i=>.Dl (hl _ (.d _) h0 h1).1 (hl _ (.d _) h0 h1).2 h2 i) .nil (fun _ _ i j=>.cons i j) h
theorem De.step (hl:∀ a (u:LD),S a->Rd H a u.o->S' a/\Rd H' a u.o)(ht:∀ a xs,DP K H a xs->DP K H' a xs){v:List V}{d:List D}(h:De K S H v d):De K S' H' v d:=
 De.rec (motive_1:=fun v d _=>Dg K S' H' v d) (motive_2:=fun v d _=>De K S' H' v d) .DE .bl .int .str (fun h=>.exc (ht _ (.inr _) h)) (fun h1 _ i=>.tup (ht _ (.inl _) h1) i)
  (fun h0 h1 _ i=>.lst (hl _ (.l _) h0 h1).1 (hl _ (.l _) h0 h1).2 i) (fun h1 _ i=>.lstK h1 i) (fun h0 h1 h2 _ i=>.Dl (hl _ (.d _) h0 h1).1 (hl _ (.d _) h0 h1).2 h2 i) .nil (fun _ _ i j=>.cons i j) h
theorem Dg.mono {v:V}{d:D}(h:Dg K S H v d)(hS:∀ a,S a->S' a)(e:ar H H'):Dg K S' H' v d:=h.step (fun a xs s r=>⟨hS a s,e.rd r⟩) fun a xs s=>e.EE s
theorem De.mono {v:List V}{d:List D}(h:De K S H v d)(hS:∀ a,S a->S' a)(e:ar H H'):De K S' H' v d:=h.step (fun a xs s r=>⟨hS a s,e.rd r⟩) fun a xs s=>e.EE s
theorem De.Ga {v:List V}{d:List D}(h:De K S H v d):De K (fun a=>S a/\H a≠none) H v d:=h.step (fun a xs s r=>⟨⟨s,r.some⟩,r⟩) fun a xs s=>s
theorem Dg.frozen {v:V}{d:D}(h:Dg K F H v d):Dv K F H v (L2.er d) []:=
 Dg.rec (motive_1:=fun v d _=>Dv K F H v (L2.er d) []) (motive_2:=fun v d _=>Dh K F H v (L2.Dx d) []) .DE .bl .int .str (fun h=>.exc h) (fun h1 _ i=>.tup h1 i) (fun h0 h1 _ i=>.F9 h0 h1 i) (fun h1 _ i=>.lstK h1 i) (fun h0 h1 h2 _ i=>.GA h0 h1 h2 i) .nil (fun _ _ i j=>.cons (f:=[]) (g:=[]) i j) h
theorem De.frozen {v:List V}{d:List D}(h:De K F H v d):Dh K F H v (L2.Dx d) []:=
 De.rec (motive_1:=fun v d _=>Dv K F H v (L2.er d) []) (motive_2:=fun v d _=>Dh K F H v (L2.Dx d) []) .DE .bl .int .str (fun h=>.exc h) (fun h1 _ i=>.tup h1 i) (fun h0 h1 _ i=>.F9 h0 h1 i) (fun h1 _ i=>.lstK h1 i) (fun h0 h1 h2 _ i=>.GA h0 h1 h2 i) .nil (fun _ _ i j=>.cons (f:=[]) (g:=[]) i j) h
theorem tq {a b:Bool}(h:(a&&b)=true):a=true/\b=true:=by rwa [Bool.and_eq_true] at h
theorem Dg.free {v:V}{d:D}(n:ay d=true)(h:Dg K S H v d):Dv K F H v d []:=
 Dg.rec (motive_1:=fun v d _=>ay d=true->Dv K F H v d []) (motive_2:=fun v d _=>ak d=true->Dh K F H v d []) (fun _=>.DE) (fun b _=>.bl b) (fun b _=>.int b) (fun b _=>.str b) (fun h _=>.exc h) (fun h1 _ i n=>.tup h1 (i n)) (fun _ _ _ _ n=>nomatch n) (fun _ _ _ n=>nomatch n) (fun _ _ _ _ _ n=>nomatch n) (fun _=>.nil) (fun _ _ i j n=>.cons (f:=[]) (g:=[]) (i (tq n).1) (j (tq n).2)) h n
theorem De.free {v:List V}{d:List D}(n:ak d=true)(h:De K S H v d):Dh K F H v d []:=
 De.rec (motive_1:=fun v d _=>ay d=true->Dv K F H v d []) (motive_2:=fun v d _=>ak d=true->Dh K F H v d []) (fun _=>.DE) (fun b _=>.bl b) (fun b _=>.int b) (fun b _=>.str b) (fun h _=>.exc h) (fun h1 _ i n=>.tup h1 (i n)) (fun _ _ _ _ n=>nomatch n) (fun _ _ _ n=>nomatch n) (fun _ _ _ _ _ n=>nomatch n) (fun _=>.nil) (fun _ _ i j n=>.cons (f:=[]) (g:=[]) (i (tq n).1) (j (tq n).2)) h n
theorem bp {p:Addr->Prop}:∀ a∈([]:List Addr),p a:=fun _ h=>nomatch h
theorem Dv.read {v:V}{d:D}{f:List Addr}(hF:∀ a,F a->S a)(hf:∀ a∈f,S a)(h:Dv K F H v d f):Dg K S H v d:=
 Dv.rec (motive_1:=fun v d f _=>(∀ a∈f,S a)->Dg K S H v d) (motive_2:=fun v d f _=>(∀ a∈f,S a)->De K S H v d) (fun _=>.DE) (fun b _=>.bl b) (fun b _=>.int b) (fun b _=>.str b) (fun h _=>.exc h) (fun h1 _ i hf=>.tup h1 (i hf))
  (fun h0 h1 _ i _=>.lst (hF _ h0) h1 (i bp)) (fun h1 _ i _=>.lstK h1 (i bp)) (fun _ h1 _ i hf=>.lst (hf _ (.head _)) (.inl h1) (i fun b hb=>hf b (.tail _ hb))) (fun h0 h1 h2 _ i _=>.Dl (hF _ h0) h1 h2 (i bp)) (fun _ h1 h2 _ i hf=>.Dl (hf _ (.head _)) (.inl h1) h2 (i fun b hb=>hf b (.tail _ hb))) (fun _=>.nil)
  (fun _ _ i j hf=>.cons (i fun a ha=>hf a (List.mem_append_left _ ha)) (j fun a ha=>hf a (List.mem_append_right _ ha))) h hf
theorem Dh.read {v:List V}{d:List D}{f:List Addr}(hF:∀ a,F a->S a)(hf:∀ a∈f,S a)(h:Dh K F H v d f):De K S H v d:=
 Dh.rec (motive_1:=fun v d f _=>(∀ a∈f,S a)->Dg K S H v d) (motive_2:=fun v d f _=>(∀ a∈f,S a)->De K S H v d) (fun _=>.DE) (fun b _=>.bl b) (fun b _=>.int b) (fun b _=>.str b) (fun h _=>.exc h) (fun h1 _ i hf=>.tup h1 (i hf))
  (fun h0 h1 _ i _=>.lst (hF _ h0) h1 (i bp)) (fun h1 _ i _=>.lstK h1 (i bp)) (fun _ h1 _ i hf=>.lst (hf _ (.head _)) (.inl h1) (i fun b hb=>hf b (.tail _ hb))) (fun h0 h1 h2 _ i _=>.Dl (hF _ h0) h1 h2 (i bp)) (fun _ h1 h2 _ i hf=>.Dl (hf _ (.head _)) (.inl h1) h2 (i fun b hb=>hf b (.tail _ hb))) (fun _=>.nil)
  (fun _ _ i j hf=>.cons (i fun a ha=>hf a (List.mem_append_left _ ha)) (j fun a ha=>hf a (List.mem_append_right _ ha))) h hf
theorem bY {α:Type}{x:Option α}{y:α}(h:x=some y):x≠none:=fun e=>nomatch h.symm.trans e
theorem Dv.step (hl:∀ a (u:LD),F a->Rd H a u.o->F' a/\Rd H' a u.o)(ht:∀ a xs,DP K H a xs->DP K H' a xs){v:V}{d:D}{f:List Addr}(k:∀ a∈f,¬ F a->H a≠none->¬ F' a/\H' a=H a)
  (h:Dv K F H v d f):Dv K F' H' v d f:=
 Dv.rec (motive_1:=fun v d f _=>(∀ a∈f,¬ F a->H a≠none->¬ F' a/\H' a=H a)->Dv K F' H' v d f) (motive_2:=fun v d f _=>(∀ a∈f,¬ F a->H a≠none->¬ F' a/\H' a=H a)->Dh K F' H' v d f) (fun _=>.DE) (fun b _=>.bl b) (fun b _=>.int b) (fun b _=>.str b)
  (fun h _=>.exc (ht _ (.inr _) h)) (fun h1 _ i k=>.tup (ht _ (.inl _) h1) (i k)) (fun h0 h1 _ i _=>.F9 (hl _ (.l _) h0 h1).1 (hl _ (.l _) h0 h1).2 (i bp)) (fun h1 _ i _=>.lstK h1 (i bp))
  (fun h0 h1 _ i k=>.EN (k _ (.head _) h0 (bY h1)).1 ((k _ (.head _) h0 (bY h1)).2.trans h1) (i fun b hb=>k b (.tail _ hb))) (fun h0 h1 h2 _ i _=>.GA (hl _ (.d _) h0 h1).1 (hl _ (.d _) h0 h1).2 h2 (i bp)) (fun h0 h1 h2 _ i k=>.E0 (k _ (.head _) h0 (bY h1)).1 ((k _ (.head _) h0 (bY h1)).2.trans h1) h2 (i fun b hb=>k b (.tail _ hb))) (fun _=>.nil)
  (fun _ _ i j k=>.cons (i fun a ha=>k a (List.mem_append_left _ ha)) (j fun a ha=>k a (List.mem_append_right _ ha))) h k
theorem Dh.step (hl:∀ a (u:LD),F a->Rd H a u.o->F' a/\Rd H' a u.o)(ht:∀ a xs,DP K H a xs->DP K H' a xs){v:List V}{d:List D}{f:List Addr}(k:∀ a∈f,¬ F a->H a≠none->¬ F' a/\H' a=H a)
  (h:Dh K F H v d f):Dh K F' H' v d f:=
 Dh.rec (motive_1:=fun v d f _=>(∀ a∈f,¬ F a->H a≠none->¬ F' a/\H' a=H a)->Dv K F' H' v d f) (motive_2:=fun v d f _=>(∀ a∈f,¬ F a->H a≠none->¬ F' a/\H' a=H a)->Dh K F' H' v d f) (fun _=>.DE) (fun b _=>.bl b) (fun b _=>.int b) (fun b _=>.str b)
  (fun h _=>.exc (ht _ (.inr _) h)) (fun h1 _ i k=>.tup (ht _ (.inl _) h1) (i k)) (fun h0 h1 _ i _=>.F9 (hl _ (.l _) h0 h1).1 (hl _ (.l _) h0 h1).2 (i bp)) (fun h1 _ i _=>.lstK h1 (i bp))
  (fun h0 h1 _ i k=>.EN (k _ (.head _) h0 (bY h1)).1 ((k _ (.head _) h0 (bY h1)).2.trans h1) (i fun b hb=>k b (.tail _ hb))) (fun h0 h1 h2 _ i _=>.GA (hl _ (.d _) h0 h1).1 (hl _ (.d _) h0 h1).2 h2 (i bp)) (fun h0 h1 h2 _ i k=>.E0 (k _ (.head _) h0 (bY h1)).1 ((k _ (.head _) h0 (bY h1)).2.trans h1) h2 (i fun b hb=>k b (.tail _ hb))) (fun _=>.nil)
  (fun _ _ i j k=>.cons (i fun a ha=>k a (List.mem_append_left _ ha)) (j fun a ha=>k a (List.mem_append_right _ ha))) h k
theorem tu {p:Addr->Prop}{x:Addr}{f:List Addr}(h:p x)(i:∀ a∈f,p a):∀ a∈x::f,p a:=by
 intro b hb
 rcases List.mem_cons.mp hb with rfl|hb
 ·exact h
 ·exact i b hb
theorem Ac {p:Addr->Prop}{f g:List Addr}(h:∀ a∈f,p a)(i:∀ a∈g,p a):∀ a∈f++g,p a:=fun b hb=>(List.mem_append.mp hb).elim (h b) (i b)
theorem Dv.own {v:V}{d:D}{f:List Addr}(h:Dv K F H v d f):∀ a∈f,¬ F a/\∃ u,H a=some u:=
 Dv.rec (motive_1:=fun _ _ f _=>∀ a∈f,¬ F a/\∃ u,H a=some u) (motive_2:=fun _ _ f _=>∀ a∈f,¬ F a/\∃ u,H a=some u) bp (fun _=>bp) (fun _=>bp) (fun _=>bp) (fun _=>bp) (fun _ _ i=>i) (fun _ _ _ _=>bp) (fun _ _ _=>bp)
  (fun h0 h1 _ i=>tu ⟨h0,_,h1⟩ i) (fun _ _ _ _ _=>bp) (fun h0 h1 _ _ i=>tu ⟨h0,_,h1⟩ i) bp (fun _ _ i j=>Ac i j) h
theorem Dh.own {v:List V}{d:List D}{f:List Addr}(h:Dh K F H v d f):∀ a∈f,¬ F a/\∃ u,H a=some u:=
 Dh.rec (motive_1:=fun _ _ f _=>∀ a∈f,¬ F a/\∃ u,H a=some u) (motive_2:=fun _ _ f _=>∀ a∈f,¬ F a/\∃ u,H a=some u) bp (fun _=>bp) (fun _=>bp) (fun _=>bp) (fun _=>bp) (fun _ _ i=>i) (fun _ _ _ _=>bp) (fun _ _ _=>bp)
  (fun h0 h1 _ i=>tu ⟨h0,_,h1⟩ i) (fun _ _ _ _ _=>bp) (fun h0 h1 _ _ i=>tu ⟨h0,_,h1⟩ i) bp (fun _ _ i j=>Ac i j) h
theorem De.ind {P:List V->List D->Prop}(n:P [] [])(c:∀ v d vs ds,Dg K S H v d->De K S H vs ds->P vs ds->P (v::vs) (d::ds)){vs:List V}{ds:List D}(h:De K S H vs ds):P vs ds:=
 De.rec (motive_1:=fun _ _ _=>True) (motive_2:=fun v d _=>P v d) trivial (fun _=>trivial) (fun _=>trivial) (fun _=>trivial) (fun _=>trivial) (fun _ _ _=>trivial) (fun _ _ _ _=>trivial) (fun _ _ _=>trivial) (fun _ _ _ _ _=>trivial) n (fun a b _ j=>c _ _ _ _ a b j) h
theorem Dh.ind {P:List V->List D->List Addr->Prop}(n:P [] [] [])(c:∀ v d f vs ds g,Dv K F H v d f->Dh K F H vs ds g->P vs ds g->P (v::vs) (d::ds) (f++g)){vs:List V}{ds:List D}{f:List Addr}(h:Dh K F H vs ds f):P vs ds f:=
 Dh.rec (motive_1:=fun _ _ _ _=>True) (motive_2:=fun v d f _=>P v d f) trivial (fun _=>trivial) (fun _=>trivial) (fun _=>trivial) (fun _=>trivial) (fun _ _ _=>trivial) (fun _ _ _ _=>trivial) (fun _ _ _=>trivial) (fun _ _ _ _=>trivial) (fun _ _ _ _ _=>trivial) (fun _ _ _ _ _=>trivial) n (fun a b _ j=>c _ _ _ _ _ _ a b j) h
theorem De.length {vs:List V}{ds:List D}(h:De K S H vs ds):vs.length=ds.length:=
 De.ind (P:=fun v d=>v.length=d.length) rfl (fun _ _ _ _ _ _ j=>congrArg (· + 1) j) h
theorem De.get {i:Nat}{vs:List V}{ds:List D}{d:D}(h:De K S H vs ds)(e:ds[i]? = some d):∃ v,vs[i]? = some v/\Dg K S H v d:=
 De.ind (P:=fun vs ds=>∀ i d,ds[i]? = some d->∃ v,vs[i]? = some v/\Dg K S H v d) (fun i d e=>nomatch (show none=some d from e)) (fun v d _ _ a _ j i d e=>by
  cases i with
  | zero=>exact⟨_,rfl,Option.some.inj e ▸ a⟩
  | succ i=>exact j i d e) h i d e
theorem De.Kc {i:Nat}{vs:List V}{ds:List D}{v:V}(h:De K S H vs ds)(e:vs[i]? = some v):∃ d,ds[i]? = some d/\Dg K S H v d:=
 De.ind (P:=fun vs ds=>∀ i v,vs[i]? = some v->∃ d,ds[i]? = some d/\Dg K S H v d) (fun i d e=>nomatch (show none=some d from e)) (fun v d _ _ a _ j i d e=>by
  cases i with
  | zero=>exact⟨_,rfl,Option.some.inj e ▸ a⟩
  | succ i=>exact j i d e) h i v e
theorem De.append {vs ws:List V}{ds es:List D}(h:De K S H vs ds)(h':De K S H ws es):De K S H (vs++ws) (ds++es):=
 De.ind (P:=fun v d=>De K S H (v++ws) (d++es)) h' (fun _ _ _ _ a _ j=>.cons a j) h
theorem De.take {vs:List V}{ds:List D}(n:Nat)(h:De K S H vs ds):De K S H (vs.take n) (ds.take n):=
 De.ind (P:=fun v d=>∀ n,De K S H (v.take n) (d.take n)) (fun n=>by cases n<;>exact .nil) (fun _ _ _ _ a _ j n=>by
  cases n with
  | zero=>exact .nil
  | succ n=>exact .cons a (j n)) h n
theorem De.drop {vs:List V}{ds:List D}(n:Nat)(h:De K S H vs ds):De K S H (vs.drop n) (ds.drop n):=
 De.ind (P:=fun v d=>∀ n,De K S H (v.drop n) (d.drop n)) (fun n=>by cases n<;>exact .nil) (fun _ _ _ _ a b j n=>by
  cases n with
  | zero=>exact .cons a b
  | succ n=>exact j n) h n
theorem Dh.length {vs:List V}{ds:List D}{f:List Addr}(h:Dh K F H vs ds f):vs.length=ds.length:=
 Dh.ind (P:=fun v d _=>v.length=d.length) rfl (fun _ _ _ _ _ _ _ _ j=>congrArg (· + 1) j) h
theorem Dh.append {vs ws:List V}{ds es:List D}{f g:List Addr}(h:Dh K F H vs ds f)(h':Dh K F H ws es g):Dh K F H (vs++ws) (ds++es) (f++g):=
 Dh.ind (P:=fun v d f=>Dh K F H (v++ws) (d++es) (f++g)) h' (fun _ _ _ _ _ _ a _ j=>by
  rw[List.append_assoc]
  exact .cons a j) h
theorem Dg.D7 {v:V}{o:Bool}{ds:List D}(h:Dg K S H v (.lst o ds)):∃ a xs,v=.ref a/\EB K H a xs/\De K S H xs ds:=by
 cases h with
 | lst h0 h1 h2=>exact⟨_,_,rfl,.inl h1,h2⟩
 | lstK h1 h2=>exact⟨_,_,rfl,h1.sq,h2⟩
theorem Dg.IT {v:V}{o:Bool}{ds:List D}(h:Dg K S H v (.lst o ds)):∃ a xs,v=.ref a/\Ls K H a xs/\De K S H xs ds:=by
 cases h with
 | lst h0 h1 h2=>exact⟨_,_,rfl,.inl h1,h2⟩
 | lstK h1 h2=>exact⟨_,_,rfl,.inr h1,h2⟩
theorem Dg.Ek {v:V}{ds:List D}(h:Dg K S H v (.tup ds)):∃ a xs,v=.ref a/\EJ K H a xs/\De K S H xs ds:=by
 cases h with
 | tup h1 h2=>exact⟨_,_,rfl,h1,h2⟩
theorem Dg.DD {v:V}{i:Int}(h:Dg K S H v (.int i)):v=.int i:=by cases h;rfl
theorem Dg.Jx {v:V}{i:Bool}(h:Dg K S H v (.bl i)):v=.bl i:=by cases h;rfl
theorem Dg.DY {v:V}{i:Str}(h:Dg K S H v (.str i)):v=.str i:=by cases h;rfl
theorem Dg.FK {v:V}(h:Dg K S H v .DE):v=.DE:=by cases h;rfl
theorem De.ints {vs:List V}{ns:List Int}(h:De K S H vs (ns.map .int)):vs=ns.map .int:=
 De.ind (P:=fun v d=>∀ ns:List Int,d=ns.map .int->v=ns.map .int) (fun ns e=>by
  cases ns with
  | nil=>rfl
  | cons n ns=>exact nomatch e) (fun _ _ _ _ a _ j ns e=>by
  cases ns with
  | nil=>exact nomatch e
  | cons n ns=>
   obtain⟨h1,h2⟩:=List.cons.inj e
   subst h1
   rw[j ns h2,a.DD]
   rfl) h ns rfl
theorem De.strs {vs:List V}{ns:List Str}(h:De K S H vs (ns.map .str)):vs=ns.map .str:=
 De.ind (P:=fun v d=>∀ ns:List Str,d=ns.map .str->v=ns.map .str) (fun ns e=>by
  cases ns with
  | nil=>rfl
  | cons n ns=>exact nomatch e) (fun _ _ _ _ a _ j ns e=>by
  cases ns with
  | nil=>exact nomatch e
  | cons n ns=>
   obtain⟨h1,h2⟩:=List.cons.inj e
   subst h1
   rw[j ns h2,a.DY]
   rfl) h ns rfl
theorem De.ofInts:∀ (ns:List Int),De K S H (ns.map .int) (ns.map .int)
 | []=>.nil
 | n::ns=>.cons (.int n) (De.ofInts ns)
end
theorem ar.upd {H:Hp}{a:Addr}{o:HO}(h:H a=none):ar H (upd H a o):=fun b u e=>by
 rw[ah (aB e h)]
 exact e
inductive HN where
 | add|sub|mul|fdiv|mod|pow
 deriving DecidableEq
inductive Hu where
 | eq|ne|lt|le|gt|ge|M0|L3|Oa|Qg
 deriving DecidableEq
inductive Kd where
 | str|int|bool|list|tuple
 deriving DecidableEq
inductive Bi where
 | len|sum|min2|max2|IU|sorted|list|tuple|ord|int|all|any|str|set|abs
 deriving DecidableEq
inductive Mt where
 | join|index|starts
 deriving DecidableEq
inductive Tg where
 | nm (i:Nat)|tp (ts:List Tg)
structure Gm where
 N:List Str
 kd:List NameKind
 gl:List Nat
 df:Bool
 cm:Bool:=true
 rs:Bool:=true
 tr:Bool:=false
 io:Option Nat:=none
mutual
inductive IR where
 | c (d:D)
 | g (n:Nat) (d:D)
 | v (i:Nat)
 | bin (op:HN) (a b:IR)
 | neg (a:IR)
 | cmp (op:Hu) (a b:IR)
 | chain (op M1:Hu) (a b c:IR)
 | Fs (a b:IR)
 | HP (a b:IR)
 | HQ (a:IR)
 | ite (t a b:IR)
 | tup (es:List IR)
 | lst (es:List IR)
 | idx (a i:IR)
 | sl (a:IR) (lo hi:Option IR)
 | call (f:Nat) (es:List IR)
 | bi (f:Bi) (es:List IR)
 | EF
 | DG (a k:IR)
 | Hv (n:Bool) (k a:IR)
 | M3 (a:IR) (k:Kd)
 | M4 (a:IR) (ns:List Nat) (tb:List (Str×Bool))
 | IV (a:IR)
 | sset (a:IR)
 | FI (a:IR)
 | Gb (a:IR)
 | GU (a k e:IR)
 | Hw (x:Str) (a:IR) (y:Option Str)
 | Ik (m:Mt) (o:IR) (es:List IR)
 | comp (G:Gm) (fr:List Nat) (tg:Tg) (src:Sr) (ifs:List IR) (elt:IR)
inductive Sr where
 | Eb (n:IR)|Ey (a b:IR)|val (e:IR)|zip (a b:IR)
end
inductive IS where
 | asg (tg:Tg) (e:IR)
 | par (i j:Nat) (a b:IR)
 | Jy (i:Nat) (k e:IR)
 | app (i:Nat) (e:IR)
 | L4 (i:Nat) (k:Nat) (e:IR)
 | EG (i:Nat) (k e:IR)
 | Et (i:Nat) (k e:IR)
 | Gd (j i:Nat) (body:List IS)
 | ext (i:Nat) (e:IR)
 | ins (i:Nat) (k e:IR)
 | Qh (i:Nat)
 | pop (j i:Nat)
 | Qi (j f:Nat) (es:List IR) (i:Nat)
 | FL (j g:Nat) (a:IR) (f:Nat) (es:List IR) (i:Nat)
 | Ke (j:Nat) (e:IR)
 | GB (i j:Nat)
 | Qj (i:Nat)
 | exp (e:IR)
 | ret (e:IR)
 | IW
 | Eh (t:IR) (a b:List IS)
 | DZ (tg:Tg) (src:Sr) (body:List IS)
 | HR (t:IR) (body:List IS)
 | brk|cnt|pass
 | never
 | Eu (n:Nat) (c:Str) (w:Str)
 | D4 (n:Nat) (c:Str) (e:IR)
 | L5 (i f:Nat) (es:List IR) (n:Nat) (cs:List Str) (k:Nat) (h:List IS)
 | L6 (body:List IS) (n:Nat) (cs:List Str) (i:Nat) (h:List IS)
noncomputable abbrev Ev:=List (Option D)
inductive Fl where
 | nx (τ:Ev)|rt (d:D)|bk (τ:Ev)|ct (τ:Ev)
noncomputable def cF {α:Type}(xs:List α)(lo hi:Option Int):List α:=(xs.drop (HT.Fw xs.length 0 lo)).take (HT.Fw xs.length xs.length hi - HT.Fw xs.length 0 lo)
noncomputable def aZ (n:Nat):Bool:=decide (n<=sizeLine)
noncomputable def bW (n:Nat):Bool:=decide (n < sizeLine)
noncomputable def Fm:HN->D->D->Res D
 | .add,.int a,.int b=>.ok (.int (a+b))
 | .add,.str a,.str b=>Dk (aZ (a.length+b.length)) (.ok (.str (a++b)))
 | .add,.lst _ a,.lst _ b=>Dk (aZ (a.length+b.length)) (.ok (.lst true (a++b)))
 | .sub,.int a,.int b=>.ok (.int (a - b))
 | .mul,.int a,.int b=>Dk (decide (-(2 ^ 64) < a/\a < 2 ^ 64)||decide (-(2 ^ 64) < b/\b < 2 ^ 64)) (.ok (.int (a*b)))
 | .mul,.str a,.int b=>Dk (decide (-16000<=b/\b<=16000/\a.length<=1000)) (.ok (.str (Txt.mul a b)))
 | .fdiv,.int a,.int b=>Dk (decide (0 < b/\b < 1073741824)) (.ok (.int (a / b)))
 | .mod,.int a,.int b=>Dk (decide (0 < b)) (.ok (.int (a % b)))
 | .pow,.int a,.int b=>Dk (decide (0<=b/\b<=1000000/\a.natAbs < 2 ^ 64)) (.ok (.int (a ^ b.toNat)))
 | _,_,_=>Dq
noncomputable def aW:D->D->Res D
 | .lst _ ds,.int i=>match EW ds i with
  | some d=>.ok d
  | none=>Dq
 | .tup ds,.int i=>match EW ds i with
  | some d=>.ok d
  | none=>Dq
 | .str z,.int i=>Dk (aZ z.length) (match EW z.cps.toList i with
  | some c=>.ok (.str ⟨#[c]⟩)
  | none=>Dq)
 | _,_=>Dq
noncomputable def ia:D->Option Int->Option Int->Res D
 | .lst _ ds,lo,hi=>.ok (.lst true (cF ds lo hi))
 | .str z,lo,hi=>Dk (aZ z.length) (.ok (.str (Txt.slice z lo hi)))
 | _,_,_=>Dq
noncomputable def aU:D->Res Bool
 | .DE=>.ok false
 | .bl b=>.ok b
 | .int i=>.ok (i != 0)
 | .str x=>Dk (aZ x.length) (.ok ((x.length:Int) != 0))
 | .tup ds=>.ok (!ds.isEmpty)
 | .lst _ ds=>.ok (!ds.isEmpty)
 | .exc _=>Dq
 | .Dl _ _ _=>Dq
noncomputable def bJ (f:D->D->Res Bool):List D->List D->Res Bool
 | [],[]=>.ok true
 | a::r,b::t=>U (f a b) fun x=>U (bJ f r t) fun y=>.ok (x&&y)
 | _,_=>.ok false
noncomputable def D3:Nat->D->D->Res Bool
 | 0,_,_=>Dq
 | _+1,.exc _,_=>Dq
 | _+1,_,.exc _=>Dq
 | _+1,.Dl _ _ _,_=>Dq
 | _+1,_,.Dl _ _ _=>Dq
 | _+1,.DE,.DE=>.ok true
 | _+1,.DE,_=>.ok false
 | _+1,.bl a,.bl b=>.ok (a == b)
 | _+1,.bl a,.int b=>.ok ((if a then 1 else 0) == b)
 | _+1,.bl _,_=>.ok false
 | _+1,.int a,.bl b=>.ok (a == (if b then 1 else 0))
 | _+1,.int a,.int b=>.ok (a == b)
 | _+1,.int _,_=>.ok false
 | _+1,.str a,.str b=>.ok (a == b)
 | _+1,.str _,_=>.ok false
 | n+1,.tup a,.tup b=>bJ (D3 n) a b
 | _+1,.tup _,_=>.ok false
 | n+1,.lst _ a,.lst _ b=>bJ (D3 n) a b
 | _+1,.lst _ _,_=>.ok false
noncomputable def E1 (d:D):List D->Res Bool
 | []=>.ok false
 | e::r=>U (D3 40 e d) fun x=>U (E1 d r) fun y=>.ok (x||y)
noncomputable def Ad (x y:Str):Bool:=!(Builtin.Str.occurrences x y 0 x.length 1).isEmpty
noncomputable def oD:D->Bool
 | .DE=>true
 | _=>false
noncomputable def CJ:D->Bool
 | .exc _=>false
 | .Dl _ _ _=>false
 | _=>true
noncomputable def GV:Hu->D->D->Res Bool
 | .eq,a,b=>D3 40 a b
 | .ne,a,b=>U (D3 40 a b) fun r=>.ok !r
 | .lt,.int a,.int b=>.ok (decide (a < b))
 | .le,.int a,.int b=>.ok (decide (a<=b))
 | .gt,.int a,.int b=>.ok (decide (b < a))
 | .L3,.str y,.str x=>.ok (!Ad x y)
 | .M0,a,.lst _ ds=>E1 a ds
 | .L3,a,.lst _ ds=>U (E1 a ds) fun r=>.ok !r
 | .M0,a,.tup ds=>E1 a ds
 | .L3,a,.tup ds=>U (E1 a ds) fun r=>.ok !r
 | .Oa,a,.DE=>.ok (oD a)
 | _,_,_=>Dq
noncomputable def bf:List D->Option (List Int)
 | []=>some []
 | .int i::r=>(bf r).map (i::·)
 | _::_=>none
noncomputable def bB:List D->Option (List Str)
 | []=>some []
 | .str i::r=>(bB r).map (i::·)
 | _::_=>none
noncomputable def CK:Kd->D->Bool
 | .str,.str _=>true
 | .int,.int _=>true
 | .int,.bl _=>true
 | .bool,.bl _=>true
 | .list,.lst _ _=>true
 | .tuple,.tup _=>true
 | _,_=>false
noncomputable def CL (tb:List (Str×Bool)):D->Res D
 | .exc c=>match tb.lookup c with
  | some b=>.ok (.bl b)
  | none=>Dq
 | _=>Dq
noncomputable def cP (x:Str):List D:=x.cps.toList.map fun c=>.str ⟨#[c]⟩
noncomputable def du:List Key->Option (List Int)
 | []=>some []
 | .inl i::r=>(du r).map (i::·)
 | .inr _::_=>none
noncomputable def bX:Bi->List D->Res D
 | .len,[.str x]=>Dk (aZ x.length) (.ok (.int x.length))
 | .len,[.tup ds]=>.ok (.int ds.length)
 | .len,[.lst _ ds]=>.ok (.int ds.length)
 | .len,[.Dl _ ks _]=>.ok (.int ks.length)
 | .min2,[.int a,.int b]=>.ok (.int (if b < a then b else a))
 | .max2,[.int a,.int b]=>.ok (.int (if b > a then b else a))
 | .sorted,[.Dl _ ks _]=>match du ks with
  | some ns=>Dk (decide (ns.length < 64)) (.ok (.lst true ((PySem.W.sortI ns).map .int)))
  | none=>Dq
 | .list,[.lst _ ds]=>.ok (.lst true ds)
 | .list,[.tup ds]=>.ok (.lst true ds)
 | .list,[.str x]=>Dk (aZ x.length) (.ok (.lst true (cP x)))
 | .sum,[.lst _ ds]=>match bf ds with
  | some ns=>Dk (decide (ns.length<=1000000)) (.ok (.int ns.sum))
  | none=>Dq
 | _,_=>Dq
noncomputable def oE:D->Bool
 | .DE=>true
 | .bl _=>true
 | .int _=>true
 | .str _=>true
 | _=>false
noncomputable def aF (ds:List D):Bool:=ds.all oE
noncomputable def bQ:D->Option Key
 | .int i=>some (.inl i)
 | .str x=>some (.inr x)
 | _=>none
noncomputable def look:List Key->List D->Key->Option D
 | k::ks,d::ds,q=>if k=q then some d else look ks ds q
 | _,_,_=>none
noncomputable def fY (ks:List Key)(q:Key):Bool:=ks.any fun k=>decide (k=q)
noncomputable def bg (ks:List Key)(q:Key):List Key:=if fY ks q=true then ks else ks++[q]
noncomputable def aR (ks:List Key)(ds:List D)(q:Key)(d:D):List D:=if fY ks q=true then List.zipWith (fun k e=>if k=q then d else e) ks ds else ds++[d]
noncomputable def fx:D->D->Res D
 | .Dl _ ks ds,y=>match bQ y with
  | some q=>(match look ks ds q with
   | some d=>.ok d
   | none=>Dq)
  | none=>Dq
 | _,_=>Dq
noncomputable def jl (n:Bool):D->D->Res D
 | .Dl _ ks ds,y=>match bQ y with
  | some q=>.ok (.bl (n != (look ks ds q).isSome))
  | none=>Dq
 | _,_=>Dq
noncomputable def xV:D->Bool
 | .Dl _ _ _=>true
 | _=>false
noncomputable def xW:D->D->D->Res D
 | .Dl _ ks ds,y,z=>match bQ y with
  | some q=>.ok ((look ks ds q).getD z)
  | none=>Dq
 | _,_,_=>Dq
noncomputable def kL:D->Res D
 | .Dl _ _ ds=>match bf ds with
  | some ns=>.ok (.int ns.sum)
  | none=>Dq
 | _=>Dq
noncomputable def kM:D->Res D
 | .lst _ ds=>match bB ds with
  | some ns=>Dk (decide (ns.length < 1000)) (.ok (.int ((ns.foldl Sx.dd []).length:Nat)))
  | none=>Dq
 | _=>Dq
noncomputable def dJ:List D->Option (List (Key×D))
 | []=>some []
 | .tup [k,v]::r=>match bQ k,dJ r with
  | some q,some ps=>some ((q,v)::ps)
  | _,_=>none
 | _::_=>none
noncomputable def E2:List (Key×D)->List Key->List D->List Key×List D
 | [],ks,ds=>(ks,ds)
 | (q,d)::r,ks,ds=>E2 r (bg ks q) (aR ks ds q d)
noncomputable def nk (j:Nat)(τ:List (Option D)):D->Res (List (Option D))
 | .lst _ ds=>match dJ ds with
  | some ps=>Dk (aF (ps.map (·.2))) (.ok (τ.set j (some (.Dl true (E2 ps [] []).1 (E2 ps [] []).2))))
  | none=>Dq
 | _=>Dq
noncomputable def oF (i:Nat)(τ:List (Option D)):Option D->Option D->Res (List (Option D))
 | some (.Dl true ks ds),some (.Dl _ Ha GW)=>Dk (aF ds&&aF GW&&aZ (ks.length+Ha.length)) (.ok (τ.set i (some (.Dl true (E2 (Ha.zip GW) ks ds).1 (E2 (Ha.zip GW) ks ds).2))))
 | _,_=>Dq
noncomputable def dy:D->Bool
 | .str _=>true
 | _=>false
noncomputable def fy:Mt->D->List D->Res D
 | .join,.str x,[.lst _ ds]=>match bB ds with
  | some ys=>Dk (decide ((ys.map (·.length)).sum+ys.length*x.length<=16777216)) (.ok (.str (Txt.join x ys)))
  | none=>Dq
 | _,_,_=>Dq
noncomputable def ib:D->Res (List D)
 | .lst _ ds=>.ok ds
 | .tup ds=>.ok ds
 | .str x=>Dk (aZ x.length) (.ok (cP x))
 | _=>Dq
noncomputable def jZ:D->Res (List D)
 | .lst _ ds=>.ok ds
 | .tup ds=>.ok ds
 | _=>Dq
noncomputable def nq (ds es:List D):List D:=List.zipWith (fun a b=>.tup [a,b]) ds es
noncomputable def Ae (x y:D):Res (List D):=U (jZ x) fun ds=>U (jZ y) fun es=>.ok (nq ds es)
noncomputable def bI (a b:Int):List D:=(List.range (b - a).toNat).map fun k=>.int (a+(k:Nat))
noncomputable def CM:D->Res D
 | .lst _ ds=>.ok (.lst true ds.reverse)
 | _=>Dq
noncomputable def Af:D->Res D
 | .lst _ ds=>match bf ds with
  | some ns=>Dk (decide (ns.length < 64)) (.ok (.lst true ((PySem.W.sortI (dd ns)).map .int)))
  | none=>match bB ds with
   | some ns=>Dk (decide (ns.length < 64)) (.ok (.lst true ((uT (SD ns)).map .str)))
   | none=>Dq
 | _=>Dq
noncomputable def oG (x:Str)(y:Option Str):D->Res D
 | .str z=>Dk (aZ (x.length+(reprText z).length+(y.getD Str.empty).length)) (.ok (.str (x++reprText z++y.getD Str.empty)))
 | _=>Dq
noncomputable def bo (i:Int):Bool:=decide (-(2 ^ 62)<=i/\i < 2 ^ 62)
noncomputable def ba {α β:Type}(f:α->Res (Option β)):List α->Res (List β)
 | []=>.ok []
 | x::xs=>U (f x) fun
  | some d=>U (ba f xs) fun r=>.ok (d::r)
  | none=>ba f xs
noncomputable def E3 {α:Type}:Res α->Res α
 | .error _=>Dq
 | .ok a=>.ok a
mutual
noncomputable def bq:Tg->D->Ev->Res Ev
 | .nm i,d,τ=>.ok (τ.set i (some d))
 | .tp ts,.tup ds,τ=>Dk (decide (ds.length=ts.length)) (dM ts ds τ)
 | .tp ts,.lst _ ds,τ=>Dk (decide (ds.length=ts.length)) (dM ts ds τ)
 | .tp _,_,_=>Dq
noncomputable def dM:List Tg->List D->Ev->Res Ev
 | t::ts,d::ds,τ=>U (bq t d τ) fun Di=>dM ts ds Di
 | [],[],τ=>.ok τ
 | _,_,_=>Dq
end
noncomputable def aj (τ:Ev)(i:Nat):Option D:=(τ[i]?).join
mutual
noncomputable def vars:IR->List Nat
 | .c _=>[]
 | .g _ _=>[]
 | .v i=>[i]
 | .bin _ a b=>vars a++vars b
 | .neg a=>vars a
 | .cmp _ a b=>vars a++vars b
 | .chain _ _ a b c=>vars a++vars b++vars c
 | .Fs a b=>vars a++vars b
 | .HP a b=>vars a++vars b
 | .HQ a=>vars a
 | .ite t a b=>vars t++vars a++vars b
 | .tup es=>aq es
 | .lst es=>aq es
 | .idx a i=>vars a++vars i
 | .sl a lo hi=>vars a++oH lo++oH hi
 | .call _ es=>aq es
 | .bi _ es=>aq es
 | .EF=>[]
 | .DG a k=>vars a++vars k
 | .Hv _ k a=>vars k++vars a
 | .M3 a _=>vars a
 | .M4 a _ _=>vars a
 | .IV a=>vars a
 | .sset a=>vars a
 | .FI a=>vars a
 | .Gb a=>vars a
 | .GU a k e=>vars a++vars k++vars e
 | .Hw _ a _=>vars a
 | .Ik _ o es=>vars o++aq es
 | .comp _ fr _ src _ _=>fr++dN src
noncomputable def aq:List IR->List Nat
 | []=>[]
 | e::es=>vars e++aq es
noncomputable def oH:Option IR->List Nat
 | none=>[]
 | some e=>vars e
noncomputable def dN:Sr->List Nat
 | .Eb n=>vars n
 | .Ey a b=>vars a++vars b
 | .val e=>vars e
 | .zip a b=>vars a++vars b
end
mutual
noncomputable def Dj (cl:Nat->List D->Res D):IR->Ev->Res D
 | .c d,_=>.ok d
 | .g _ d,_=>.ok d
 | .v i,τ=>match aj τ i with
  | some d=>.ok d
  | none=>Dq
 | .bin op a b,τ=>U (Dj cl a τ) fun x=>U (Dj cl b τ) fun y=>Fm op x y
 | .neg a,τ=>U (Dj cl a τ) fun
  | .int i=>.ok (.int (-i))
  | _=>Dq
 | .cmp op a b,τ=>U (Dj cl a τ) fun x=>U (Dj cl b τ) fun y=>U (GV op x y) fun r=>.ok (.bl r)
 | .chain op M1 a b c,τ=>U (Dj cl a τ) fun x=>U (Dj cl b τ) fun y=>U (GV op x y) fun r=>
  if r=true then U (Dj cl c τ) fun z=>U (GV M1 y z) fun r'=>.ok (.bl r') else .ok (.bl false)
 | .Fs a b,τ=>U (Dj cl a τ) fun x=>U (aU x) fun r=>if r=true then Dj cl b τ else .ok x
 | .HP a b,τ=>U (Dj cl a τ) fun x=>U (aU x) fun r=>if r=true then .ok x else Dj cl b τ
 | .HQ a,τ=>U (Dj cl a τ) fun x=>U (aU x) fun r=>.ok (.bl !r)
 | .ite t a b,τ=>U (Dj cl t τ) fun x=>U (aU x) fun r=>if r=true then Dj cl a τ else Dj cl b τ
 | .tup es,τ=>U (aH cl es τ) fun ds=>Dk (aZ ds.length) (.ok (.tup ds))
 | .lst es,τ=>U (aH cl es τ) fun ds=>Dk (aZ ds.length) (.ok (.lst true ds))
 | .idx a i,τ=>U (Dj cl a τ) fun x=>U (Dj cl i τ) fun y=>aW x y
 | .sl a lo hi,τ=>U (Dj cl a τ) fun x=>U (ic cl lo τ) fun l=>U (ic cl hi τ) fun h=>ia x l h
 | .call f es,τ=>U (aH cl es τ) fun ds=>cl f (Dx ds)
 | .bi f es,τ=>U (aH cl es τ) fun ds=>bX f ds
 | .EF,_=>.ok (.Dl true [] [])
 | .DG a k,τ=>U (Dj cl a τ) fun x=>U (Dj cl k τ) fun y=>fx x y
 | .Hv n k a,τ=>U (Dj cl k τ) fun y=>U (Dj cl a τ) fun x=>jl n x y
 | .M3 a k,τ=>U (Dj cl a τ) fun x=>Dk (CJ x) (.ok (.bl (CK k x)))
 | .M4 a _ tb,τ=>U (Dj cl a τ) (CL tb)
 | .IV a,τ=>U (Dj cl a τ) CM
 | .sset a,τ=>U (Dj cl a τ) Af
 | .FI a,τ=>U (Dj cl a τ) kM
 | .Gb a,τ=>U (Dj cl a τ) kL
 | .GU a k e,τ=>U (Dj cl a τ) fun x=>Dk (xV x) (U (Dj cl k τ) fun y=>U (Dj cl e τ) fun z=>xW x y z)
 | .Hw x a y,τ=>U (Dj cl a τ) (oG x y)
 | .Ik m o es,τ=>U (Dj cl o τ) fun x=>Dk (dy x) (U (aH cl es τ) fun ds=>fy m x ds)
 | .comp G fr tg src ifs elt,τ=>U (cQ cl src τ) fun its=>Dk (bW its.length) (U (E3 (ba (fun x=>U (bq tg x (fr.map (aj τ)++List.replicate (G.N.length - fr.length) none)) fun IX=>
   U (dz cl ifs IX) fun r=>if r=true then U (Dj cl elt IX) fun d=>.ok (some d) else .ok none) its)) fun ds=>.ok (.lst true ds))
noncomputable def aH (cl:Nat->List D->Res D):List IR->Ev->Res (List D)
 | [],_=>.ok []
 | e::es,τ=>U (Dj cl e τ) fun d=>U (aH cl es τ) fun ds=>.ok (d::ds)
noncomputable def ic (cl:Nat->List D->Res D):Option IR->Ev->Res (Option Int)
 | none,_=>.ok none
 | some e,τ=>U (Dj cl e τ) fun
  | .int i=>.ok (some i)
  | _=>Dq
noncomputable def dz (cl:Nat->List D->Res D):List IR->Ev->Res Bool
 | [],_=>.ok true
 | e::es,τ=>U (U (Dj cl e τ) aU) fun r=>if r=true then dz cl es τ else .ok false
noncomputable def cQ (cl:Nat->List D->Res D):Sr->Ev->Res (List D)
 | .Eb n,τ=>U (Dj cl n τ) fun
  | .int i=>Dk (bo i) (.ok (bI 0 i))
  | _=>Dq
 | .Ey a b,τ=>U (Dj cl a τ) fun x=>U (Dj cl b τ) fun y=>match x,y with
  | .int i,.int j=>Dk (bo i&&bo j) (.ok (bI i j))
  | _,_=>Dq
 | .val e,τ=>U (Dj cl e τ) ib
 | .zip a b,τ=>U (Dj cl a τ) fun x=>U (Dj cl b τ) fun y=>Ae x y
end
noncomputable def L7 (cl:Nat->List D->Res D)(t:IR)(τ:Ev):Res Bool:=U (Dj cl t τ) aU
noncomputable def ej (is:List Nat):Nat->Ev->Ev
 | _,[]=>[]
 | k,o::τ=>(if is.contains k then o.map er else o)::ej is (k+1) τ
noncomputable abbrev Dw (is:List Nat)(τ:Ev):Ev:=ej is 0 τ
noncomputable def br : IR->Bool
 | .bin .add _ _=>true
 | .sl _ _ _=>true
 | .bi .list _=>true
 | .comp _ _ _ _ _ _=>true
 | _=>false
noncomputable def aP (e:IR)(d:D)(τ:Ev):D×Ev:=
 if ay d=true then (d,τ)
 else match br e,d with
  | true,.lst _ ds=>if ak ds=true then (.lst true ds,τ) else (.lst true (Dx ds),Dw (vars e) τ)
  | _,_=>(er d,Dw (vars e) τ)
mutual
noncomputable def Ei (cl:Nat->List D->Res D)(mv:Bool):IR->Ev->Res (D×Ev)
 | .v i,τ=>match aj τ i with
  | some d=>if mv=true then .ok (d,τ.set i none) else .ok (er d,τ.set i (some (er d)))
  | none=>Dq
 | .tup es,τ=>U (fA cl mv es τ) fun p=>Dk (aZ p.1.length) (.ok (.tup p.1,p.2))
 | .lst es,τ=>U (fA cl mv es τ) fun p=>Dk (aZ p.1.length) (.ok (.lst true p.1,p.2))
 | .EF,τ=>.ok (.Dl true [] [],τ)
 | .ite t a b,τ=>U (L7 cl t τ) fun r=>if r=true then Ei cl mv a τ else Ei cl mv b τ
 | .call f es,τ=>U (aH cl es τ) fun ds=>U (cl f (Dx ds)) fun d=>if ay d=true then .ok (d,τ) else .ok (d,Dw (aq es) τ)
 | e,τ=>U (Dj cl e τ) fun d=>.ok (aP e d τ)
noncomputable def fA (cl:Nat->List D->Res D)(mv:Bool):List IR->Ev->Res (List D×Ev)
 | [],τ=>.ok ([],τ)
 | e::es,τ=>U (Ei cl mv e τ) fun p=>U (fA cl mv es p.2) fun q=>.ok (p.1::q.1,q.2)
end
noncomputable def forM (body:D->Ev->Res Fl):List D->Ev->Res Fl
 | [],τ=>.ok (.nx τ)
 | x::xs,τ=>U (body x τ) fun
  | .nx Di=>forM body xs Di
  | .ct Di=>forM body xs Di
  | .bk Di=>.ok (.nx Di)
  | .rt d=>.ok (.rt d)
noncomputable def j0 (test:Ev->Res Bool)(body:Ev->Res Fl):Nat->Ev->Res Fl
 | 0,_=>Dq
 | n+1,τ=>U (test τ) fun r=>if r=true then U (body τ) fun
  | .nx Di=>j0 test body n Di
  | .ct Di=>j0 test body n Di
  | .bk Di=>.ok (.nx Di)
  | .rt d=>.ok (.rt d)
  else .ok (.nx τ)
noncomputable def jm (cl:Nat->List D->Res D)(s:Sr)(τ:Ev):Res (List D×Ev):=U (cQ cl s τ) fun its=>match s with
 | .Eb _=>.ok (its,τ)
 | .Ey _ _=>.ok (its,τ)
 | s=>.ok (Dx its,Dw (dN s) τ)
noncomputable def CN (j i:Nat)(τ:Ev):D->Res Fl
 | .tup [d,.Dl false ks vs]=>Dk (aF vs) (.ok (.nx ((τ.set i (some (.Dl true ks vs))).set j (some d))))
 | _=>Dq
noncomputable def gw (cl:Nat->List D->Res D)(j g i:Nat)(x:D)(τ:Ev):D->Res Fl
 | .tup [d,.Dl false ks vs]=>Dk (aF vs) (U (E3 (cl g [er x,er d])) fun r=>.ok (.nx ((τ.set i (some (.Dl true ks vs))).set j (some r))))
 | _=>Dq
mutual
noncomputable def dO:D->Bool
 | .lst o ds=>!o&&aV ds
 | .tup ds=>aV ds
 | .Dl o _ ds=>!o&&aV ds
 | _=>true
noncomputable def aV:List D->Bool
 | []=>true
 | d::ds=>dO d&&aV ds
end
mutual
noncomputable def bS:D->Bool
 | .lst _ ds=>aT ds
 | .tup ds=>aT ds
 | .Dl o _ ds=>o&&aT ds
 | _=>true
noncomputable def aT:List D->Bool
 | []=>true
 | d::ds=>bS d&&aT ds
end
noncomputable def Hb:Ev->Bool
 | []=>true
 | none::τ=>Hb τ
 | some d::τ=>bS d&&Hb τ
noncomputable def cJ:Key->D
 | .inl i=>.int i
 | .inr x=>.str x
noncomputable def uV (i:Nat)(τ:Ev):Option D->Res Fl
 | some (.Dl false ks ds)=>Dk (Hb (τ.set i none)&&aT ds) (.ok (.nx (τ.set i (some (.Dl true ks ds)))))
 | _=>Dq
noncomputable def gx (i:Nat):Fl->Res Fl
 | .nx τ=>uV i τ (aj τ i)
 | .rt d=>.ok (.rt d)
 | _=>Dq
noncomputable def Ag:Nat:=1000000
mutual
noncomputable def D6 (cl:Nat->List D->Res D):IS->Ev->Res Fl
 | .asg tg e,τ=>U (Ei cl false e τ) fun p=>U (bq tg p.1 p.2) fun Di=>.ok (.nx Di)
 | .par i j a b,τ=>U (fA cl false [a,b] τ) fun p=>match p.1 with
  | [x,y]=>.ok (.nx ((p.2.set i (some x)).set j (some y)))
  | _=>Dq
 | .Jy i k e,τ=>U (Ei cl false e τ) fun p=>match aj p.2 i with
  | some (.lst true ds)=>U (Dj cl k p.2) fun
   | .int z=>(match IA ds.length z with
    | some j=>.ok (.nx (p.2.set i (some (.lst true (ds.set j p.1)))))
    | none=>Dq)
   | _=>Dq
  | _=>Dq
 | .app i e,τ=>match aj τ i with
  | some (.lst _ _)=>U (Ei cl false e τ) fun p=>(match aj p.2 i with
   | some (.lst true ds)=>Dk (bW ds.length) (.ok (.nx (p.2.set i (some (.lst true (ds++[p.1]))))))
   | _=>Dq)
  | _=>Dq
 | .EG i k e,τ=>U (Dj cl e τ) fun d=>match aj τ i with
  | some (.Dl true ks ds)=>U (Dj cl k τ) fun y=>(match bQ y with
   | some q=>Dk (ay d&&ak ds&&bW ks.length) (.ok (.nx (τ.set i (some (.Dl true (bg ks q) (aR ks ds q d))))))
   | none=>Dq)
  | _=>Dq
 | .Et i k e,τ=>U (Dj cl e τ) fun d=>match aj τ i with
  | some (.Dl true ks ds)=>U (Dj cl k (Dw (vars e) τ)) fun y=>(match bQ y with
   | some q=>Dk (aV ds&&bW ks.length) (.ok (.nx ((Dw (vars e) τ).set i (some (.Dl true (bg ks q) (Dx (aR ks ds q d)))))))
   | none=>Dq)
  | _=>Dq
 | .Gd j i body,τ=>match aj τ i with
  | some (.Dl true ks ds)=>Dk (aV ds) (U (forM (fun x τ=>U (bq (.nm j) x τ) fun Di=>ax cl body Di) (ks.map cJ) (τ.set i (some (.Dl false ks ds)))) (gx i))
  | _=>Dq
 | .ext i e,τ=>match aj τ i with
  | some (.lst _ _)=>U (Ei cl false e τ) fun p=>(match p.1,aj p.2 i with
   | .lst _ es,some (.lst true ds)=>Dk (aZ (ds.length+es.length)) (.ok (.nx (p.2.set i (some (.lst true (ds++es))))))
   | _,_=>Dq)
  | _=>Dq
 | .ins i k e,τ=>match aj τ i with
  | some (.lst _ _)=>U (Dj cl k τ) fun y=>U (Ei cl false e τ) fun p=>(match y,aj p.2 i with
   | .int z,some (.lst true ds)=>Dk (decide (0<=z/\z.toNat<=ds.length)&&bW ds.length) (.ok (.nx (p.2.set i (some (.lst true (ds.take z.toNat++p.1::ds.drop z.toNat))))))
   | _,_=>Dq)
  | _=>Dq
 | .L4 _ _ _,_=>Dq
 | .Qh i,τ=>match aj τ i with
  | some (.lst true ds)=>.ok (.nx (τ.set i (some (.lst true ds.reverse))))
  | _=>Dq
 | .pop j i,τ=>match aj τ i with
  | some (.lst true (.str x::ds))=>.ok (.nx ((τ.set i (some (.lst true ds))).set j (some (.str x))))
  | _=>Dq
 | .Ke j e,τ=>U (Dj cl e τ) fun d=>U (nk j τ d) fun Di=>.ok (.nx Di)
 | .GB i j,τ=>U (oF i τ (aj τ i) (aj τ j)) fun Di=>.ok (.nx Di)
 | .Qi j f es i,τ=>match aj τ i with
  | some (.Dl true ks vs)=>Dk (aF vs) (U (aH cl es τ) fun ds=>U (E3 (cl f (Dx ds++[.Dl false ks vs]))) (CN j i (Dw (aq es) τ)))
  | _=>Dq
 | .FL j g a f es i,τ=>match aj τ i with
  | some (.Dl true ks vs)=>Dk (aF vs) (U (Dj cl a τ) fun x=>U (aH cl es τ) fun ds=>U (E3 (cl f (Dx ds++[.Dl false ks vs]))) (gw cl j g i x (Dw (vars a++aq es) τ)))
  | _=>Dq
 | .Qj i,τ=>match aj τ i with
  | some (.lst true _)=>.ok (.nx (τ.set i (some (.lst true []))))
  | _=>Dq
 | .exp e,τ=>U (Dj cl e τ) fun _=>.ok (.nx τ)
 | .ret e,τ=>U (Ei cl true e τ) fun p=>.ok (.rt p.1)
 | .IW,_=>.ok (.rt .DE)
 | .Eh t a b,τ=>U (L7 cl t τ) fun r=>if r=true then ax cl a τ else ax cl b τ
 | .DZ tg s body,τ=>U (jm cl s τ) fun p=>forM (fun x τ=>U (bq tg x τ) fun Di=>ax cl body Di) p.1 p.2
 | .HR t body,τ=>j0 (L7 cl t) (ax cl body) Ag τ
 | .brk,τ=>.ok (.bk τ)
 | .cnt,τ=>.ok (.ct τ)
 | .pass,τ=>.ok (.nx τ)
 | .never,_=>Dq
 | .Eu _ c _,_=>.error (.exc c)
 | .D4 _ c e,τ=>U (E3 (Dj cl e τ)) fun _=>.error (.exc c)
 | .L5 i f es _ cs k h,τ=>U (E3 (aH cl es τ)) fun ds=>match cl f (Dx ds) with
  | .ok d=>if ay d=true then .ok (.nx (τ.set i (some d))) else .ok (.nx ((Dw (aq es) τ).set i (some d)))
  | .error (.exc c)=>Dk (cs.contains c) (U (E3 (ax cl h (τ.set k (some (.exc c))))) fun
   | .nx Di=>.ok (.nx (Di.set k none))
   | _=>Dq)
  | .error .stuck=>Dq
 | .L6 body _ cs i h,τ=>match ax cl body τ with
  | .ok (.nx Di)=>.ok (.nx Di)
  | .error (.exc c)=>Dk (cs.contains c) (U (E3 (ax cl h ((List.replicate τ.length none).set i (some (.exc c))))) fun
   | .nx Di=>.ok (.nx (Di.set i none))
   | _=>Dq)
  | _=>Dq
noncomputable def ax (cl:Nat->List D->Res D):List IS->Ev->Res Fl
 | [],τ=>.ok (.nx τ)
 | s::r,τ=>U (D6 cl s τ) fun
  | .nx Di=>ax cl r Di
  | .ct Di=>.ok (.ct Di)
  | .bk Di=>.ok (.bk Di)
  | .rt d=>.ok (.rt d)
end
structure Fn where
 np:Nat
 G:Gm
 body:List IS
 io:Option IR:=none
noncomputable def cK (cl:Nat->List D->Res D)(fn:Fn)(ds:List D):Res D:=
 Dk (decide (ds.length=fn.np)) (U (ax cl fn.body (ds.map some++List.replicate (fn.G.N.length - fn.np) none)) fun
  | .nx _=>.ok .DE
  | .rt d=>.ok d
  | _=>Dq)
noncomputable def CO:D->D
 | .Dl _ ks vs=>.Dl true ks vs
 | d=>d
noncomputable def nt:List D->List D
 | []=>[]
 | [d]=>[CO d]
 | d::ds=>d::nt ds
noncomputable def L8 (p:Nat)(q:D×Ev):Res D:=match aj q.2 p with
 | some (.Dl true ks vs)=>Dk (aF vs) (.ok (.tup [q.1,.Dl false ks vs]))
 | _=>Dq
noncomputable def cL (cl:Nat->List D->Res D)(fn:Fn)(e:IR)(ds:List D):Res D:=
 Dk (decide (ds.length=fn.np)) (U (ax cl fn.body ((nt ds).map some++List.replicate (fn.G.N.length - fn.np) none)) fun
  | .nx τ=>U (Ei cl true e τ) (L8 (fn.np - 1))
  | _=>Dq)
noncomputable abbrev Tb:=Nat->Option Fn
noncomputable def aa (T:Tb):Nat->Nat->List D->Res D
 | 0,_,_=>Dq
 | n+1,f,ds=>match T f with
  | some fn=>(match fn.io with
   | none=>cK (aa T n) fn ds
   | some e=>cL (aa T n) fn e ds)
  | none=>Dq
theorem Ah {cl:Nat->List D->Res D}{i:Nat}{τ:Ev}:Dj cl (.v i) τ=(match aj τ i with|some d=>.ok d|none=>Dq):=rfl
theorem Ai {cl:Nat->List D->Res D}{i:Nat}{τ:Ev}{mv:Bool}:Ei cl mv (.v i) τ=(match aj τ i with|some d=>if mv=true then .ok (d,τ.set i none) else .ok (er d,τ.set i (some (er d)))|none=>Dq):=rfl
section
variable {X:Cx}{pins:List (Addr×Obj)}{σ:St}{H:Hp}{S:Addr->Prop}{s:Shared}
theorem Inv.EO (I:Inv X pins σ H s){a:Addr}{xs ys:List V}(h1:EB X.K H a xs)(h2:EJ X.K H a ys):False:=by
 obtain⟨its,_,⟨o,n,e,c,_⟩,_⟩:=I.list h1
 obtain⟨its',_,⟨o',e',c',_⟩,_⟩:=I.tuple h2
 rw[e] at e';cases e'
 rw[c] at c'
 injection c' with c'
 exact absurd c' (by decide)
theorem Inv.Ff (I:Inv X pins σ H s){a:Addr}{c:Str}(h:DP X.K H a (.inr c)):∃ C o vs,PySem.W.nsIn X.K mainGlobals c=some (some (.ref C))/\nameIn X.K C=some c/\s.heap.get? a=some o/\o.cls=.ref C/\o.data=.fields vs:=by
 obtain⟨C,o,vs,h0,h1,h2,h3,h4⟩:=h
 exact⟨C,o,vs,h0,h1,(I.Dz a _ h2).1,h3,h4⟩
theorem Inv.IY (I:Inv X pins σ H s){a:Addr}{c c':Str}(h:DP X.K H a (.inr c))(k:DP X.K H a (.inr c')):c=c':=by
 obtain⟨C,o,vs,_,n1,e,c1,_⟩:=I.Ff h
 obtain⟨C',o',Vf,_,n2,e',c2,_⟩:=I.Ff k
 rw[e] at e';cases e'
 rw[c1] at c2;cases c2
 rw[n1] at n2;cases n2
 rfl
theorem Inv.GX (I:Inv X pins σ H s){a:Addr}{c:Str}{xs:List V}(h:DP X.K H a (.inr c))(k:EJ X.K H a xs):False:=by
 obtain⟨C,o,vs,_,_,e,c1,_⟩:=I.Ff h
 obtain⟨its',_,⟨o',e',c',_⟩,_⟩:=I.tuple k
 rw[e] at e';cases e'
 rw[c1] at c';cases c'
theorem Inv.E4 (I:Inv X pins σ H s){a:Addr}{c:Str}{xs:List V}(h:DP X.K H a (.inr c))(k:EB X.K H a xs):False:=by
 obtain⟨C,o,vs,_,_,e,c1,_⟩:=I.Ff h
 obtain⟨its',_,⟨o',n,e',c',_⟩,_⟩:=I.list k
 rw[e] at e';cases e'
 rw[c1] at c';cases c'
theorem Inv.GC (I:Inv X pins σ H s){a:Addr}{kvs:List (Key×V)}(h:Rd H a (.dK kvs)):∃ o es ep,s.heap.get? a=some o/\o.data=.dict es ep:=by
 obtain⟨_,_,vs,_,o,es,ep,e,c,d,_⟩:=h.ok I.Dz
 exact⟨o,es,ep,e,d⟩
theorem Inv.GY (I:Inv X pins σ H s){a:Addr}{kvs:List (Key×V)}{xs:List V}(h:Rd H a (.dK kvs))(k:EJ X.K H a xs):False:=by
 obtain⟨o,es,ep,e,d⟩:=I.GC h
 obtain⟨its',_,⟨o',e',c',n,d'⟩,_⟩:=I.tuple k
 rw[e] at e';cases e'
 rw[d] at d';cases d'
theorem Inv.E5 (I:Inv X pins σ H s){a:Addr}{kvs:List (Key×V)}{xs:List V}(h:Rd H a (.dK kvs))(k:EB X.K H a xs):False:=by
 obtain⟨o,es,ep,e,d⟩:=I.GC h
 obtain⟨its',_,⟨o',n,e',c',n',d'⟩,_⟩:=I.list k
 rw[e] at e';cases e'
 rw[d] at d';cases d'
theorem Inv.GZ (I:Inv X pins σ H s){a:Addr}{c:Str}{kvs:List (Key×V)}(h:DP X.K H a (.inr c))(k:Rd H a (.dK kvs)):False:=by
 obtain⟨C,o,vs,_,_,e,c1,d1⟩:=I.Ff h
 obtain⟨o',es,ep,e',d⟩:=I.GC k
 rw[e] at e';cases e'
 rw[d] at d1;cases d1
theorem Rd.dk {H:Hp}{a:Addr}{u v:List (Key×V)}(h:Rd H a (.dK u))(k:Rd H a (.dK v)):u=v:=by
 rcases h with h|⟨o,h⟩<;>rcases k with k|⟨o',k⟩<;>(rw[h] at k;cases k;try rfl)
mutual
theorem Dg.one (I:Inv X pins σ H s):∀ {v:V}{d e:D},Dg X.K S H v d->Dg X.K S H v e->er d=er e
 | _,_,_,.DE,h=>by cases h;rfl
 | _,_,_,.bl b,h=>by cases h;rfl
 | _,_,_,.int i,h=>by cases h;rfl
 | _,_,_,.str x,h=>by cases h;rfl
 | _,_,_,.exc h0,h=>by
  cases h with
  | exc k1=>exact congrArg D.exc (I.IY h0 k1)
  | tup k1 k2=>exact(I.GX h0 k1).elim
  | lst k0 k1 k2=>exact(I.E4 h0 (.inl k1)).elim
  | lstK k1 k2=>exact(I.E4 h0 k1.sq).elim
  | Dl k0 k1 k2 k3=>exact(I.GZ h0 k1).elim
 | _,_,_,.tup h1 h2,h=>by
  cases h with
  | exc k1=>exact(I.GX k1 h1).elim
  | tup k1 k2=>
   have e:=I.EU h1 k1
   subst e
   rw[er,er,De.one I h2 k2]
  | lst k0 k1 k2=>exact(I.EO (.inl k1) h1).elim
  | lstK k1 k2=>exact(I.EO k1.sq h1).elim
  | Dl k0 k1 k2 k3=>exact(I.GY k1 h1).elim
 | _,_,_,.lst h0 h1 h2,h=>by
  cases h with
  | exc k1=>exact(I.E4 k1 (.inl h1)).elim
  | tup k1 k2=>exact(I.EO (.inl h1) k1).elim
  | lst k0 k1 k2=>
   have e:=I.D9 (.inl h1) (.inl k1)
   subst e
   rw[er,er,De.one I h2 k2]
  | lstK k1 k2=>
   have e:=I.D9 (.inl h1) k1.sq
   subst e
   rw[er,er,De.one I h2 k2]
  | Dl k0 k1 k2 k3=>exact(I.E5 k1 (.inl h1)).elim
 | _,_,_,.lstK h1 h2,h=>by
  cases h with
  | exc k1=>exact(I.E4 k1 h1.sq).elim
  | tup k1 k2=>exact(I.EO h1.sq k1).elim
  | lst k0 k1 k2=>
   have e:=I.D9 h1.sq (.inl k1)
   subst e
   rw[er,er,De.one I h2 k2]
  | lstK k1 k2=>
   have e:=I.D9 h1.sq k1.sq
   subst e
   rw[er,er,De.one I h2 k2]
  | Dl k0 k1 k2 k3=>exact(I.E5 k1 h1.sq).elim
 | _,_,_,.Dl h0 h1 h2 h3,h=>by
  cases h with
  | exc k1=>exact(I.GZ k1 h1).elim
  | tup k1 k2=>exact(I.GY h1 k1).elim
  | lst k0 k1 k2=>exact(I.E5 h1 (.inl k1)).elim
  | lstK k1 k2=>exact(I.E5 h1 k1.sq).elim
  | Dl k0 k1 k2 k3=>
   have e:=Rd.dk h1 k1
   subst e
   rw[er,er,De.one I h3 k3,<- h2,<- k2]
theorem De.one (I:Inv X pins σ H s):∀ {vs:List V}{ds es:List D},De X.K S H vs ds->De X.K S H vs es->Dx ds=Dx es
 | _,_,_,.nil,h=>by cases h;rfl
 | _,_,_,.cons h1 h2,h=>by
  cases h with
  | cons k1 k2=>rw[Dx,Dx,Dg.one I h1 k1,De.one I h2 k2]
end
end
theorem bP {α β:Type}{x:Res α}{f:α->Res β}{b:β}(h:U x f=.ok b):∃ a,x=.ok a/\f a=.ok b:=by
 cases x with
 | error e=>cases h
 | ok a=>exact⟨a,rfl,h⟩
theorem ig {α:Type}{c:Bool}{x:Res α}{b:α}(h:Dk c x=.ok b):c=true/\x=.ok b:=by
 unfold Dk at h
 cases c with
 | true=>exact⟨rfl,h⟩
 | false=>cases h
theorem cp {f:D->D->Res Bool}(hf:∀ d e r,f d e=.ok r->er d=er e->r=true):∀ {ds es:List D}{r:Bool},bJ f ds es=.ok r->Dx ds=Dx es->r=true
 | [],[],r,h,_=>by cases h;rfl
 | [],_::_,_,_,h=>by rw[Dx,Dx] at h;cases h
 | _::_,[],_,_,h=>by rw[Dx,Dx] at h;cases h
 | a::ds,b::es,r,h,h'=>by
  rw[Dx,Dx] at h'
  injection h' with e1 e2
  obtain⟨x,hx,h⟩:=bP (show U (f a b) (fun x=>U (bJ f ds es) fun y=>.ok (x&&y))=.ok r from h)
  obtain⟨y,hy,h⟩:=bP h
  cases h
  rw[hf a b x hx e1,cp hf hy e2]
  rfl
theorem dP:∀ (n:Nat) (d e:D) (r:Bool),D3 n d e=.ok r->er d=er e->r=true
 | 0,_,_,_,h,_=>by cases h
 | n+1,d,e,r,h,h'=>by
  cases d with
  | tup ds=>
   cases e with
   | tup es=>
    rw[er,er] at h'
    injection h' with e1
    exact cp (dP n) h e1
   | DE=>rw[er,er] at h';cases h'
   | bl _=>rw[er,er] at h';cases h'
   | int _=>rw[er,er] at h';cases h'
   | str _=>rw[er,er] at h';cases h'
   | lst _ _=>rw[er,er] at h';cases h'
   | exc _=>cases h
   | Dl _ _ _=>cases h
  | lst o ds=>
   cases e with
   | lst o' es=>
    rw[er,er] at h'
    injection h' with _ e1
    exact cp (dP n) h e1
   | DE=>rw[er,er] at h';cases h'
   | bl _=>rw[er,er] at h';cases h'
   | int _=>rw[er,er] at h';cases h'
   | str _=>rw[er,er] at h';cases h'
   | tup _=>rw[er,er] at h';cases h'
   | exc _=>cases h
   | Dl _ _ _=>cases h
  | exc _=>cases h
  | Dl _ _ _=>cases e<;>cases h
  | DE=>cases e<;>first|(cases h;done)|(cases h;rfl)|(exfalso;simp[er] at h')
  | bl b=>cases e<;>first|(simp only[er,D.bl.injEq] at h';subst h';cases h;simp)|(exfalso;simp[er] at h')
  | int b=>cases e<;>first|(simp only[er,D.int.injEq] at h';subst h';cases h;simp)|(exfalso;simp[er] at h')
  | str b=>cases e<;>first|(simp only[er,D.str.injEq] at h';subst h';cases h;simp)|(exfalso;simp[er] at h')
theorem jn {f:D->D->Res Bool}:∀ {ds es:List D}{r:Bool},bJ f ds es=.ok r->ds.length≠es.length->r=false
 | [],[],_,_,h=>absurd rfl h
 | [],_::_,_,h,_=>by cases h;rfl
 | _::_,[],_,h,_=>by cases h;rfl
 | a::ds,b::es,r,h,n=>by
  obtain⟨x,hx,h⟩:=bP (show U (f a b) (fun x=>U (bJ f ds es) fun y=>.ok (x&&y))=.ok r from h)
  obtain⟨y,hy,h⟩:=bP h
  cases h
  rw[jn hy (fun z=>n (by rw[List.length_cons,List.length_cons,z]))]
  simp
theorem kN {f:D->D->Res Bool}:∀ {ds es:List D}{r:Bool},bJ f ds es=.ok r->ds.length=es.length->
  ∃ e:Nat->Bool,(∀ j a b,ds[j]? = some a->es[j]? = some b->f a b=.ok (e j))/\r=(List.range ds.length).all e
 | [],[],r,h,_=>by cases h;exact⟨fun _=>true,fun j a b h=>by simp at h,rfl⟩
 | [],_::_,_,_,h=>by cases h
 | _::_,[],_,_,h=>by cases h
 | a::ds,b::es,r,h,n=>by
  obtain⟨x,hx,h⟩:=bP (show U (f a b) (fun x=>U (bJ f ds es) fun y=>.ok (x&&y))=.ok r from h)
  obtain⟨y,hy,h⟩:=bP h
  cases h
  obtain⟨e,h1,h2⟩:=kN hy (by simpa using n)
  refine⟨fun j=>match j with|0=>x|k+1=>e k,fun j a' b' e1 e2=>?_,?_⟩
  ·cases j with
   | zero=>simp at e1 e2;subst e1 e2;exact hx
   | succ k=>exact h1 k a' b' (by simpa using e1) (by simpa using e2)
  ·rw[h2,List.length_cons,List.range_succ_eq_map,List.all_cons,List.all_map]
   rfl
section
variable {X:Cx}{pins:List (Addr×Obj)}{σ:St}{H:Hp}{S:Addr->Prop}{s:Shared}
structure Jz (A:Around)(s:Shared)(v u:Value)(r:Bool):Prop where
 eq:EqAt A s v u r
 rc:RcAt A s v u r
 ne:RcNeAt A s v u (!r)
theorem jo (n:Nat)(A:Around)(ih:∀ (x y:V)(v u:Value)(d e:D)(r:Bool),Dg X.K S H x d->Dg X.K S H y e->RelV x v->RelV y u->D3 n d e=.ok r->EqAt A.in1 s v u r)
  {xs ys:List V}{ds es:List D}{its its':List Value}{r:Bool} (rv:Vals xs its) (K9:Vals ys its') (h2:De X.K S H xs ds) (k2:De X.K S H ys es) (hr:bJ (D3 n) ds es=.ok r) :
  ∃ e:Nat->Bool,(∀ j (q1:j < its.toArray.size) (q2:j < its'.toArray.size),EqAt A.in1 s its.toArray[j] its'.toArray[j] (e j))/\r=((List.range (min its.toArray.size its'.toArray.size)).all e&&its.toArray.size == its'.toArray.size):=by
 have l1:=h2.length
 have l2:=k2.length
 have l3:=rv.length
 have l4:=K9.length
 have pair:∀ j (j1:j < its.toArray.size) (j2:j < its'.toArray.size) (b:Bool) (d1:j < ds.length) (d2:j < es.length),D3 n ds[j] es[j]=.ok b->EqAt A.in1 s its.toArray[j] its'.toArray[j] b:=by
  intro j j1 j2 b d1 d2 hb
  obtain⟨x',e1,m1⟩:=h2.get (i:=j) (d:=ds[j]) (by simp)
  obtain⟨y',e2,m2⟩:=k2.get (i:=j) (d:=es[j]) (by simp)
  obtain⟨v',ev,IM⟩:=rv.get e1
  obtain⟨u',eu,LX⟩:=K9.get e2
  have hv:its.toArray[j]=v':=by
   have:=(List.getElem?_eq_some_iff.mp ev).2
   simpa using this
  have M5:its'.toArray[j]=u':=by
   have:=(List.getElem?_eq_some_iff.mp eu).2
   simpa using this
  rw[hv,M5]
  exact ih x' y' v' u' _ _ _ m1 m2 IM LX hb
 have z1:its.toArray.size=ds.length:=by simp;omega
 have z2:its'.toArray.size=es.length:=by simp;omega
 by_cases hl:ds.length=es.length
 ·obtain⟨e,q1,q2⟩:=kN hr hl
  refine⟨e,fun j j1 j2=>pair j j1 j2 _ (by omega) (by omega) (q1 j _ _ (by simp) (by simp)),?_⟩
  rw[q2,z1,z2,hl]
  simp
 ·have JA:=jn hr hl
  have each:∀ (ds es:List D) (r:Bool),bJ (D3 n) ds es=.ok r->∀ j (q1:j < ds.length) (q2:j < es.length),∃ b,D3 n ds[j] es[j]=.ok b:=by
   intro ds
   induction ds with
   | nil=>intro es r _ j q1;simp at q1
   | cons a ds ih=>
    intro es r h j q1 q2
    cases es with
    | nil=>simp at q2
    | cons b es=>
     obtain⟨x,hx,h⟩:=bP (show U (D3 n a b) (fun x=>U (bJ (D3 n) ds es) fun y=>.ok (x&&y))=.ok r from h)
     obtain⟨y,hy,h⟩:=bP h
     cases j with
     | zero=>exact⟨x,hx⟩
     | succ k=>exact ih es y hy k (by simpa using q1) (by simpa using q2)
  refine⟨fun j=>if q:j < ds.length/\j < es.length then ((match D3 n (ds[j]'q.1) (es[j]'q.2) with|.ok b=>b|.error _=>false)) else false,fun j j1 j2=>?_,?_⟩
  ·have d1:j < ds.length:=by omega
   have d2:j < es.length:=by omega
   obtain⟨b,hb⟩:=each ds es r hr j d1 d2
   have q:=pair j j1 j2 b d1 d2 hb
   show EqAt A.in1 s its.toArray[j] its'.toArray[j] (dite _ _ _)
   rw[dif_pos (show j < ds.length/\j < es.length from ⟨d1,d2⟩),hb]
   exact q
  ·rw[JA]
   have:(its.toArray.size == its'.toArray.size)=false:=by
    rw[beq_eq_false_iff_ne,z1,z2]
    exact hl
   rw[this,Bool.and_false]
theorem oI (I:Inv X pins σ H s)(n:Nat)(A:Around)(ih:∀ (x y:V)(v u:Value)(d e:D)(r:Bool),Dg X.K S H x d->Dg X.K S H y e->RelV x v->RelV y u->D3 n d e=.ok r->EqAt A.in1 s v u r)
  {a b:Addr}{o o':Bool}{xs ys:List V}{ds es:List D}{r:Bool} (ha:EB X.K H a xs) (hb:EB X.K H b ys) (h2:De X.K S H xs ds) (k2:De X.K S H ys es)
  (m1:Dg X.K S H (.ref a) (.lst o ds)) (m2:Dg X.K S H (.ref b) (.lst o' es)) (hr:bJ (D3 n) ds es=.ok r) (DL:A.units < cLine):Jz A s (.ref a) (.ref b) r:=by
 obtain⟨its,rv,p,_⟩:=I.list ha
 obtain⟨its',K9,p',_⟩:=I.list hb
 obtain⟨e,he,La⟩:=jo n A ih rv K9 h2 k2 hr
 have both:RcAt A s (.ref a) (.ref b) r/\RcNeAt A s (.ref a) (.ref b) (!r):=by
  by_cases hl:its.toArray.size=its'.toArray.size
  ·have Kf:r=(List.range its.toArray.size).all e:=by
    rw[La,<- hl,Nat.min_self]
    simp
   rw[Kf]
   exact⟨.lists p.isList p'.isList hl DL he,.lists p.isList p'.isList hl DL he⟩
  ·have Fq:(its.toArray.size != its'.toArray.size)=true:=by simpa using hl
   have Kf:r=false:=by
    rw[La]
    have:(its.toArray.size == its'.toArray.size)=false:=by rw[beq_eq_false_iff_ne];exact hl
    rw[this,Bool.and_false]
   rw[Kf]
   exact⟨.lists_lengths p.isList p'.isList Fq DL,.lists_lengths p.isList p'.isList Fq DL⟩
 refine⟨?_,both.1,both.2⟩
 by_cases L9:a=b
 ·subst L9
  have hd:=Dg.one I m1 m2
  rw[er,er] at hd
  injection hd with _ hd
  rw[cp (dP n) hr hd]
  exact .same _
 ·exact .of_refs L9 both.1
set_option maxHeartbeats 4000000 in
theorem ij (I:Inv X pins σ H s):∀ (n:Nat) (A:Around) (x y:V) (v u:Value) (d e:D) (r:Bool),Dg X.K S H x d->Dg X.K S H y e->RelV x v->RelV y u->D3 n d e=.ok r->
  A.units+n < cLine->Jz A s v u r
 | 0,_,_,_,_,_,_,_,_,_,_,_,_,h,_=>by cases h
 | n+1,A,x,y,v,u,d,e,r,hx,hy,rx,ry,h,hu=>by
  have DL:A.units < cLine:=by omega
  have N2:A.in1.units+n < cLine:=by show A.units+1+n < cLine;omega
  have ih:∀ (x y:V) (v u:Value) (d e:D) (r:Bool),Dg X.K S H x d->Dg X.K S H y e->RelV x v->RelV y u->D3 n d e=.ok r->EqAt A.in1 s v u r:=
   fun x y v u d e r a1 a2 a3 a4 a5=>(ij I n A.in1 x y v u d e r a1 a2 a3 a4 a5 N2).eq
  cases d with
  | DE=>
   cases hx.FK;cases rx
   cases e with
   | DE=>cases hy.FK;cases ry;cases h;exact⟨.same _,.none_none,.none_none⟩
   | bl b'=>cases hy.Jx;cases ry;cases h;exact⟨.none_bool _,.none_bool _,.none_bool _⟩
   | int i'=>cases hy.DD;obtain⟨t2,rfl⟩:=ry;cases h;exact⟨.none_int _ _,.none_int _ _,.none_int _ _⟩
   | str z'=>cases hy.DY;obtain⟨t2,rfl⟩:=ry;cases h;exact⟨.none_str _ _,.none_str _ _,.none_str _ _⟩
   | tup es=>obtain⟨a2,HS,rfl,q2,m2⟩:=hy.Ek;cases ry;obtain⟨Es,F7,p2,_⟩:=I.tuple q2;cases h;exact⟨.none_tuple p2 DL,.none_tuple p2 DL,.none_tuple p2 DL⟩
   | lst o' es=>obtain⟨a2,HS,rfl,q2,m2⟩:=hy.D7;cases ry;obtain⟨Es,F7,p2,_⟩:=I.list q2;cases h;exact⟨.none_list p2.isList DL,.none_list p2.isList DL,.none_list p2.isList DL⟩
   | exc _=>cases h
   | Dl _ _ _=>cases h
  | bl b=>
   cases hx.Jx;cases rx
   cases e with
   | DE=>cases hy.FK;cases ry;cases h;exact⟨.bool_none _,.bool_none _,.bool_none _⟩
   | bl b'=>cases hy.Jx;cases ry;cases h;exact⟨.bool_bool _ _,.bool_bool _ _,.bool_bool _ _⟩
   | int i'=>cases hy.DD;obtain⟨t2,rfl⟩:=ry;cases h;exact⟨.bool_int _ _ _,.bool_int _ _ _,.bool_int _ _ _⟩
   | str z'=>cases hy.DY;obtain⟨t2,rfl⟩:=ry;cases h;exact⟨.bool_str _ _ _,.bool_str _ _ _,.bool_str _ _ _⟩
   | tup es=>obtain⟨a2,HS,rfl,q2,m2⟩:=hy.Ek;cases ry;obtain⟨Es,F7,p2,_⟩:=I.tuple q2;cases h;exact⟨.bool_tuple _ p2 DL,.bool_tuple _ p2 DL,.bool_tuple _ p2 DL⟩
   | lst o' es=>obtain⟨a2,HS,rfl,q2,m2⟩:=hy.D7;cases ry;obtain⟨Es,F7,p2,_⟩:=I.list q2;cases h;exact⟨.bool_list _ p2.isList DL,.bool_list _ p2.isList DL,.bool_list _ p2.isList DL⟩
   | exc _=>cases h
   | Dl _ _ _=>cases h
  | int i=>
   cases hx.DD;obtain⟨t1,rfl⟩:=rx
   cases e with
   | DE=>cases hy.FK;cases ry;cases h;exact⟨.int_none _ _,.int_none _ _,.int_none _ _⟩
   | bl b'=>cases hy.Jx;cases ry;cases h;exact⟨.int_bool _ _ _,.int_bool _ _ _,.int_bool _ _ _⟩
   | int i'=>cases hy.DD;obtain⟨t2,rfl⟩:=ry;cases h;exact⟨.int_int _ _ _ _,.int_int _ _ _ _,.int_int _ _ _ _⟩
   | str z'=>cases hy.DY;obtain⟨t2,rfl⟩:=ry;cases h;exact⟨.int_str _ _ _ _,.int_str _ _ _ _,.int_str _ _ _ _⟩
   | tup es=>obtain⟨a2,HS,rfl,q2,m2⟩:=hy.Ek;cases ry;obtain⟨Es,F7,p2,_⟩:=I.tuple q2;cases h;exact⟨.int_tuple _ _ p2 DL,.int_tuple _ _ p2 DL,.int_tuple _ _ p2 DL⟩
   | lst o' es=>obtain⟨a2,HS,rfl,q2,m2⟩:=hy.D7;cases ry;obtain⟨Es,F7,p2,_⟩:=I.list q2;cases h;exact⟨.int_list _ _ p2.isList DL,.int_list _ _ p2.isList DL,.int_list _ _ p2.isList DL⟩
   | exc _=>cases h
   | Dl _ _ _=>cases h
  | str z=>
   cases hx.DY;obtain⟨t1,rfl⟩:=rx
   cases e with
   | DE=>cases hy.FK;cases ry;cases h;exact⟨.str_none _ _,.str_none _ _,.str_none _ _⟩
   | bl b'=>cases hy.Jx;cases ry;cases h;exact⟨.str_bool _ _ _,.str_bool _ _ _,.str_bool _ _ _⟩
   | int i'=>cases hy.DD;obtain⟨t2,rfl⟩:=ry;cases h;exact⟨.str_int _ _ _ _,.str_int _ _ _ _,.str_int _ _ _ _⟩
   | str z'=>cases hy.DY;obtain⟨t2,rfl⟩:=ry;cases h;exact⟨.str_str _ _ _ _,.str_str _ _ _ _,.str_str _ _ _ _⟩
   | tup es=>obtain⟨a2,HS,rfl,q2,m2⟩:=hy.Ek;cases ry;obtain⟨Es,F7,p2,_⟩:=I.tuple q2;cases h;exact⟨.str_tuple _ _ p2 DL,.str_tuple _ _ p2 DL,.str_tuple _ _ p2 DL⟩
   | lst o' es=>obtain⟨a2,HS,rfl,q2,m2⟩:=hy.D7;cases ry;obtain⟨Es,F7,p2,_⟩:=I.list q2;cases h;exact⟨.str_list _ _ p2.isList DL,.str_list _ _ p2.isList DL,.str_list _ _ p2.isList DL⟩
   | exc _=>cases h
   | Dl _ _ _=>cases h
  | tup ds=>
   obtain⟨a1,SO,rfl,q1,m1⟩:=hx.Ek;cases rx;obtain⟨IL,IM,p1,_⟩:=I.tuple q1
   cases e with
   | DE=>cases hy.FK;cases ry;cases h;exact⟨.tuple_none p1 DL,.tuple_none p1 DL,.tuple_none p1 DL⟩
   | bl b'=>cases hy.Jx;cases ry;cases h;exact⟨.tuple_bool _ p1 DL,.tuple_bool _ p1 DL,.tuple_bool _ p1 DL⟩
   | int i'=>cases hy.DD;obtain⟨t2,rfl⟩:=ry;cases h;exact⟨.tuple_int _ _ p1 DL,.tuple_int _ _ p1 DL,.tuple_int _ _ p1 DL⟩
   | str z'=>cases hy.DY;obtain⟨t2,rfl⟩:=ry;cases h;exact⟨.tuple_str _ _ p1 DL,.tuple_str _ _ p1 DL,.tuple_str _ _ p1 DL⟩
   | tup es=>
    have EZ:=hx
    have L':=hy
    obtain⟨a2,HS,rfl,q2,m2⟩:=hy.Ek;cases ry;obtain⟨Es,F7,p2,_⟩:=I.tuple q2
    have hr:bJ (D3 n) ds es=.ok r:=h
    obtain⟨e,he,La⟩:=jo n A ih IM F7 m1 m2 hr
    refine⟨?_,?_,?_⟩
    ·by_cases L9:a1=a2
     ·subst L9
      have hd:=Dg.one I EZ L'
      rw[er,er] at hd
      injection hd with hd
      rw[cp (dP n) hr hd]
      exact .same _
     ·rw[La]
      exact .of_refs L9 (.tuples p1 p2 DL he)
    ·rw[La]
     exact .tuples p1 p2 DL he
    ·rw[La]
     exact .tuples p1 p2 DL he
   | lst o' es=>obtain⟨a2,HS,rfl,q2,m2⟩:=hy.D7;cases ry;obtain⟨Es,F7,p2,_⟩:=I.list q2;cases h;exact⟨.tuple_list p1 p2.isList DL,.tuple_list p1 p2.isList DL,.tuple_list p1 p2.isList DL⟩
   | exc _=>cases h
   | Dl _ _ _=>cases h
  | lst o ds=>
   obtain⟨a1,SO,rfl,q1,m1⟩:=hx.D7;cases rx;obtain⟨IL,IM,p1,_⟩:=I.list q1
   cases e with
   | DE=>cases hy.FK;cases ry;cases h;exact⟨.list_none p1.isList DL,.list_none p1.isList DL,.list_none p1.isList DL⟩
   | bl b'=>cases hy.Jx;cases ry;cases h;exact⟨.list_bool _ p1.isList DL,.list_bool _ p1.isList DL,.list_bool _ p1.isList DL⟩
   | int i'=>cases hy.DD;obtain⟨t2,rfl⟩:=ry;cases h;exact⟨.list_int _ _ p1.isList DL,.list_int _ _ p1.isList DL,.list_int _ _ p1.isList DL⟩
   | str z'=>cases hy.DY;obtain⟨t2,rfl⟩:=ry;cases h;exact⟨.list_str _ _ p1.isList DL,.list_str _ _ p1.isList DL,.list_str _ _ p1.isList DL⟩
   | tup es=>obtain⟨a2,HS,rfl,q2,m2⟩:=hy.Ek;cases ry;obtain⟨Es,F7,p2,_⟩:=I.tuple q2;cases h;exact⟨.list_tuple p1.isList p2 DL,.list_tuple p1.isList p2 DL,.list_tuple p1.isList p2 DL⟩
   | lst o' es=>
    have EZ:=hx
    have L':=hy
    obtain⟨a2,HS,rfl,q2,m2⟩:=hy.D7;cases ry;obtain⟨Es,F7,p2,_⟩:=I.list q2
    exact oI I n A ih q1 q2 m1 m2 EZ L' h DL
   | exc _=>cases h
   | Dl _ _ _=>cases h
  | exc _=>cases h
  | Dl _ _ _=>cases e<;>cases h
end
abbrev nw (S:Addr->Prop)(H:Hp):Addr->Prop:=fun a=>S a∨H a=none
abbrev Kk (K:PySem.W.Frag)(S:Addr->Prop)(H:Hp)(Q:VK):D->Prop:=fun d=>∀ w H',ar H H'->Dg K (nw S H) H' w d->Q w H'
theorem Dg.nw {K:PySem.W.Frag}{S:Addr->Prop}{H:Hp}{v:V}{d:D}(h:Dg K S H v d):Dg K (nw S H) H v d:=h.mono (fun _=>.inl) (.refl _)
theorem CP {K:PySem.W.Frag}{S:Addr->Prop}{H:Hp}{p:Addr}{vs:List V}{ds:List D}(hp:H p=none)(h:De K S H vs ds):Dg K (nw S H) (upd H p (.tup vs)) (.ref p) (.tup ds):=
 .tup (.inl (.inl ao)) (h.mono (fun _=>.inl) (.upd hp))
theorem j5 {K:PySem.W.Frag}{S:Addr->Prop}{H:Hp}{p:Addr}{vs:List V}{ds:List D}{o:Bool}(hp:H p=none)(h:De K S H vs ds):Dg K (nw S H) (upd H p (.lst vs)) (.ref p) (.lst o ds):=
 .lst (.inr hp) (.inl ao) (h.mono (fun _=>.inl) (.upd hp))
noncomputable def Kg:HN->Operator
 | .add=>.Add|.sub=>.Sub|.mul=>.Mult|.fdiv=>.FloorDiv|.mod=>.Mod|.pow=>.Pow
noncomputable def Kh:Hu->CmpOp
 | .eq=>.Eq|.ne=>.NotEq|.lt=>.Lt|.le=>.LtE|.gt=>.Gt|.ge=>.GtE|.M0=>.In|.L3=>.NotIn|.Oa=>.Is|.Qg=>.IsNot
noncomputable def CQ (K:PySem.W.Frag)(ex:Str->Prop)(op:HN):R2:=fun x y H Q=>∃ S d e,Dg K S H x d/\Dg K S H y e/\Df ex (Fm op d e) (Kk K S H Q)
noncomputable def CS (K:PySem.W.Frag)(ex:Str->Prop)(op:Hu):R2:=fun x y H Q=>∃ S d e,Dg K S H x d/\Dg K S H y e/\Df ex (GV op d e) fun r=>Q (.bl r) H
section
variable {X:Cx}{ex:Str->Prop}
theorem aQ {n:Nat}(h:aZ n=true):n<=sizeLine:=of_decide_eq_true h
theorem eQ {n:Nat}(h:bW n=true):n < sizeLine:=of_decide_eq_true h
theorem kO:Gk X (binaryOp .Add) (fun x y H Q=>∃ l b xs zs,x=.ref l/\y=.ref b/\Ls X.K H l xs/\Ls X.K H b zs/\xs.length+zs.length<=sizeLine/\∀ p,H p=none->Q (.ref p) (upd H p (.lst (xs++zs)))):=by
 intro pins s σ H x y v u Q I rx ry h
 obtain⟨l,b,xs,zs,rfl,rfl,hH,hB,hz,q⟩:=h
 cases rx
 cases ry
 obtain⟨hl,its,n,r,e⟩:=I.ls hH
 obtain⟨Kb,Es,n2,r2,e'⟩:=I.ls hB
 have e1:=r.length
 have e2:=r2.length
 refine PySem.P.add_list e e' ?_ (by rw[List.size_toArray,List.size_toArray];omega)
 have ea:its.toArray++Es.toArray=(its++Es).toArray:=by simp
 rw[ea]
 exact⟨.ref _,_,I.LM (t':=s.toks) (r.append r2) (by rw[List.length_append];omega),rfl,q _ I.fresh⟩
theorem xX (op:HN):Gk X (binaryOp (Kg op)) (CQ X.K ex op):=by
 intro pins s σ H x y v u Q I rx ry h
 obtain⟨S,d,e,hx,hy,h⟩:=h
 have stuck:∀ {P:Prop},Fm op d e=Dq->P:=fun z=>by rw[z] at h;exact h.no.elim
 cases op with
 | add=>
  cases d with
  | int a=>
   cases e with
   | int b=>cases hx.DD;cases hy.DD;exact xx pins s σ H _ _ v u Q I rx ry ⟨a,b,rfl,rfl,h.ok _ _ (.refl _) (.int _)⟩
   | _=>exact stuck rfl
  | str a=>
   cases e with
   | str b=>
    cases hx.DY;cases hy.DY
    obtain⟨g,h⟩:=Df.Dk h
    exact jU pins s σ H _ _ v u Q I rx ry ⟨a,b,rfl,rfl,aQ g,h.ok _ _ (.refl _) (.str _)⟩
   | _=>exact stuck rfl
  | lst o a=>
   cases e with
   | lst o' b=>
    obtain⟨p,xs,rfl,q1,m1⟩:=hx.IT
    obtain⟨p',ys,rfl,q2,m2⟩:=hy.IT
    obtain⟨g,h⟩:=Df.Dk h
    have g':=aQ g
    have l1:=m1.length
    have l2:=m2.length
    exact kO pins s σ H _ _ v u Q I rx ry ⟨p,p',xs,ys,rfl,rfl,q1,q2,by omega,fun z hz=>h.ok _ _ (.upd hz) (j5 hz (m1.append m2))⟩
   | _=>exact stuck rfl
  | _=>exact stuck rfl
 | sub=>
  cases d with
  | int a=>
   cases e with
   | int b=>cases hx.DD;cases hy.DD;exact xy pins s σ H _ _ v u Q I rx ry ⟨a,b,rfl,rfl,h.ok _ _ (.refl _) (.int _)⟩
   | _=>exact stuck rfl
  | _=>exact stuck rfl
 | mul=>
  cases d with
  | int a=>
   cases e with
   | int b=>
    cases hx.DD;cases hy.DD
    obtain⟨g,h⟩:=Df.Dk h
    rw[Bool.or_eq_true] at g
    exact xA pins s σ H _ _ v u Q I rx ry ⟨a,b,rfl,rfl,g.elim (fun z=>.inl (of_decide_eq_true z)) (fun z=>.inr (of_decide_eq_true z)),h.ok _ _ (.refl _) (.int _)⟩
   | _=>exact stuck rfl
  | str a=>
   cases e with
   | int b=>
    cases hx.DY;cases hy.DD
    obtain⟨g,h⟩:=Df.Dk h
    have g':=of_decide_eq_true g
    exact jV pins s σ H _ _ v u Q I rx ry ⟨a,b,rfl,rfl,g'.1,g'.2.1,g'.2.2,h.ok _ _ (.refl _) (.str _)⟩
   | _=>exact stuck rfl
  | lst _ _=>cases e<;>exact stuck rfl
  | _=>exact stuck rfl
 | fdiv=>
  cases d with
  | int a=>
   cases e with
   | int b=>
    cases hx.DD;cases hy.DD
    obtain⟨g,h⟩:=Df.Dk h
    exact sx pins s σ H _ _ v u Q I rx ry ⟨a,b,rfl,rfl,show 0 < b/\b < 1073741824 from of_decide_eq_true g,h.ok _ _ (.refl _) (.int _)⟩
   | _=>exact stuck rfl
  | _=>exact stuck rfl
 | mod=>
  cases d with
  | int a=>
   cases e with
   | int b=>
    cases hx.DD;cases hy.DD
    obtain⟨g,h⟩:=Df.Dk h
    exact xB pins s σ H _ _ v u Q I rx ry ⟨a,b,rfl,rfl,of_decide_eq_true g,h.ok _ _ (.refl _) (.int _)⟩
   | _=>exact stuck rfl
  | _=>exact stuck rfl
 | pow=>
  cases d with
  | int a=>
   cases e with
   | int b=>
    cases hx.DD;cases hy.DD
    obtain⟨g,h⟩:=Df.Dk h
    exact xC pins s σ H _ _ v u Q I rx ry ⟨a,b,rfl,rfl,show 0<=b/\b<=1000000/\a.natAbs < 2 ^ 64 from of_decide_eq_true g,h.ok _ _ (.refl _) (.int _)⟩
   | _=>exact stuck rfl
  | _=>exact stuck rfl
theorem Df.D3 {ex:Str->Prop}:∀ {n:Nat}{d e:D}{k:Bool->Prop},Df ex (L2.D3 n d e) k->∃ r,L2.D3 n d e=.ok r/\k r:=by
 have no:∀ (n:Nat) (d e:D) (c:Str),L2.D3 n d e≠.error (.exc c):=by
  intro n
  have Ob:∀ (f:D->D->Res Bool),(∀ d e c,f d e≠.error (.exc c))->∀ (ds es:List D) (c:Str),bJ f ds es≠.error (.exc c):=by
   intro f hf ds
   induction ds with
   | nil=>intro es c h;cases es<;>cases h
   | cons a ds ih=>
    intro es c h
    cases es with
    | nil=>cases h
    | cons b es=>
     have h':L2.U (f a b) (fun x=>L2.U (bJ f ds es) fun y=>.ok (x&&y))=.error (.exc c):=h
     cases q:f a b with
     | error z=>rw[q] at h';exact hf a b c (by rw[q];exact h')
     | ok x=>
      rw[q] at h'
      have h2:L2.U (bJ f ds es) (fun y=>.ok (x&&y))=.error (.exc c):=h'
      cases q2:bJ f ds es with
      | error z=>rw[q2] at h2;exact ih es c (by rw[q2];exact h2)
      | ok y=>rw[q2] at h2;cases h2
  induction n with
  | zero=>intro d e c h;cases h
  | succ n ih=>
   intro d e c h
   cases d<;>cases e<;>first|cases h|exact Ob _ ih _ _ _ h
 intro n d e k h
 cases q:L2.D3 n d e with
 | ok r=>rw[q] at h;exact⟨r,rfl,h⟩
 | error z=>
  rw[q] at h
  cases z with
  | stuck=>exact h.no.elim
  | exc c=>exact absurd q (no n d e c)
theorem Df.E1 {ex:Str->Prop}{d:D}:∀ {ds:List D}{k:Bool->Prop},Df ex (L2.E1 d ds) k->∃ f:Nat->Bool,(∀ i e,ds[i]? = some e->L2.D3 40 e d=.ok (f i))/\k ((List.range ds.length).any f)
 | [],k,h=>⟨fun _=>false,fun i e z=>by simp at z,h⟩
 | e::r,k,h=>by
  obtain⟨x,Po,h1⟩:=Df.D3 (Df.U h)
  obtain⟨f,h2,h3⟩:=Df.E1 (Df.U h1)
  refine⟨fun i=>match i with|0=>x|j+1=>f j,fun i e' z=>?_,?_⟩
  ·cases i with
   | zero=>simp at z;subst z;exact Po
   | succ j=>exact h2 j e' (by simpa using z)
  ·rw[List.length_cons,List.range_succ_eq_map,List.any_cons,List.any_map]
   exact h3
theorem j6 {A:Around}{s:Shared}{v:Value}(its:List Value)(f:Nat->Bool)(h:∀ i u,its[i]? = some u->EqAt A s u v (f i)) :
  ∃ e:Value->Bool,(∀ y,y∈its.toArray->EqAt A s y v (e y))/\its.toArray.any e=(List.range its.length).any f:=by
 classical
 refine⟨fun y=>decide (∃ i,its[i]? = some y/\f i=true),fun y hy=>?_,?_⟩
 ·have L':y∈its:=by simpa using hy
  obtain⟨j,hj⟩:=List.getElem?_of_mem L'
  show EqAt A s y v (decide (∃ i,its[i]? = some y/\f i=true))
  by_cases q:∃ i,its[i]? = some y/\f i=true
  ·rw[decide_eq_true q]
   obtain⟨i,hi,fi⟩:=q
   have:=h i y hi
   rw[fi] at this
   exact this
  ·rw[decide_eq_false q]
   have:=h j y hj
   have fj:f j=false:=by
    cases z:f j with
    | false=>rfl
    | true=>exact absurd ⟨j,hj,z⟩ q
   rw[fj] at this
   exact this
 ·rw[Bool.eq_iff_iff]
  simp only[List.any_toArray,List.any_eq_true,List.mem_range,decide_eq_true_eq]
  constructor
  ·rintro ⟨y,hy,i,hi,fi⟩
   exact⟨i,(List.getElem?_eq_some_iff.mp hi).1,fi⟩
  ·rintro ⟨i,hi,fi⟩
   exact⟨its[i],List.getElem_mem hi,i,by simp[hi],fi⟩
theorem c7 (hu:X.A.units+42 < cLine){pins:List (Addr×Obj)}{s:Shared}{σ:St}{H:Hp}{S:Addr->Prop}{x:V}{v:Value}{d:D}{k:Bool->Prop}(I:Inv X pins σ H s)(rx:RelV x v)(hx:Dg X.K S H x d)
  {xs:List V}{its:List Value}{ds:List D} (rv:Vals xs its) (m:De X.K S H xs ds) (h:Df ex (E1 d ds) k) :
  ∃ e:Value->Bool,(∀ y,y∈its.toArray->EqAt X.A.in1 s y v (e y))/\k (its.toArray.any e):=by
 obtain⟨f,h1,h2⟩:=Df.E1 h
 have l1:=rv.length
 have l2:=m.length
 obtain⟨e,h3,h4⟩:=j6 (A:=X.A.in1) (s:=s) (v:=v) its f fun i u hi=>by
  have DV:i < its.length:=(List.getElem?_eq_some_iff.mp hi).1
  obtain⟨y,hy,my⟩:=m.get (i:=i) (d:=ds[i]'(by omega)) (by simp)
  obtain⟨u',M5,ru⟩:=rv.get hy
  rw[hi] at M5;cases M5
  exact(ij I 40 X.A.in1 y x u v _ d _ my hx ru rx (h1 i _ (by simp)) (by show X.A.units+1+40 < cLine;omega)).eq
 refine⟨e,h3,?_⟩
 rw[h4,show its.length=ds.length by omega]
 exact h2
theorem oJ (hu:X.A.units+42 < cLine)(op:Hu):Gk X (compareOp (Kh op)) (CS X.K ex op):=by
 intro pins s σ H x y v u Q I rx ry h
 obtain⟨S,d,e,hx,hy,h⟩:=h
 have stuck:∀ {P:Prop},GV op d e=Dq->P:=fun z=>by rw[z] at h;exact h.no.elim
 have fin:∀ {b:Bool},Q (.bl b) H->EP X pins σ Q (.bool b) s:=fun q=>⟨.bl _,H,I,rfl,q⟩
 cases op with
 | eq=>
  obtain⟨r,h1,h2⟩:=Df.D3 h
  exact(ij I 40 X.A x y v u d e r hx hy rx ry h1 (by omega)).rc _ _ _ _ (fin h2)
 | ne=>
  obtain⟨r,h1,h2⟩:=Df.D3 (Df.U h)
  exact(ij I 40 X.A x y v u d e r hx hy rx ry h1 (by omega)).ne _ _ _ _ (fin h2.ok)
 | lt=>
  cases d with
  | int a=>
   cases e with
   | int b=>cases hx.DD;cases hy.DD;obtain⟨t,rfl⟩:=rx;obtain⟨t',rfl⟩:=ry;exact lt_int (fin h.ok)
   | _=>exact stuck rfl
  | _=>exact stuck rfl
 | le=>
  cases d with
  | int a=>
   cases e with
   | int b=>cases hx.DD;cases hy.DD;obtain⟨t,rfl⟩:=rx;obtain⟨t',rfl⟩:=ry;exact le_int (fin h.ok)
   | _=>exact stuck rfl
  | _=>exact stuck rfl
 | gt=>
  cases d with
  | int a=>
   cases e with
   | int b=>cases hx.DD;cases hy.DD;obtain⟨t,rfl⟩:=rx;obtain⟨t',rfl⟩:=ry;exact gt_int (fin h.ok)
   | _=>exact stuck rfl
  | _=>exact stuck rfl
 | ge=>cases d<;>cases e<;>exact stuck rfl
 | M0=>
  cases e with
  | str b=>cases d<;>exact stuck rfl
  | lst o ds=>
   obtain⟨a,xs,rfl,q1,m1⟩:=hy.D7
   cases ry
   obtain⟨its,rv,pl,_⟩:=I.list q1
   obtain⟨e,h1,h2⟩:=c7 (ex:=ex) hu I rx hx rv m1 (by cases d<;>exact h)
   exact in_listAt e pl.isList h1 (fin h2)
  | tup ds=>
   obtain⟨a,xs,rfl,q1,m1⟩:=hy.Ek
   cases ry
   obtain⟨its,rv,pl,_⟩:=I.tuple q1
   obtain⟨e,h1,h2⟩:=c7 (ex:=ex) hu I rx hx rv m1 (by cases d<;>exact h)
   exact in_tupleAt e pl h1 (fin h2)
  | DE=>cases d<;>exact stuck rfl
  | bl _=>cases d<;>exact stuck rfl
  | int _=>cases d<;>exact stuck rfl
  | exc _=>cases d<;>exact stuck rfl
  | Dl _ _ _=>cases d<;>exact stuck rfl
 | L3=>
  cases e with
  | str b=>
   cases d with
   | str a=>cases hx.DY;cases hy.DY;obtain⟨t,rfl⟩:=rx;obtain⟨t',rfl⟩:=ry;exact notIn_str (fin h.ok)
   | _=>exact stuck rfl
  | lst o ds=>
   obtain⟨a,xs,rfl,q1,m1⟩:=hy.D7
   cases ry
   obtain⟨its,rv,pl,_⟩:=I.list q1
   obtain⟨e,h1,h2⟩:=c7 (ex:=ex) (k:=fun r=>Q (.bl !r) H) hu I rx hx rv m1 ((Df.U (show Df ex (U (E1 d ds) fun r=>.ok !r) (fun r=>Q (.bl r) H) by cases d<;>exact h)).mono fun _ z=>z)
   exact notIn_listAt e pl.isList h1 (fin h2)
  | tup ds=>
   obtain⟨a,xs,rfl,q1,m1⟩:=hy.Ek
   cases ry
   obtain⟨its,rv,pl,_⟩:=I.tuple q1
   obtain⟨e,h1,h2⟩:=c7 (ex:=ex) (k:=fun r=>Q (.bl !r) H) hu I rx hx rv m1 ((Df.U (show Df ex (U (E1 d ds) fun r=>.ok !r) (fun r=>Q (.bl r) H) by cases d<;>exact h)).mono fun _ z=>z)
   exact notIn_tupleAt e pl h1 (fin h2)
  | DE=>cases d<;>exact stuck rfl
  | bl _=>cases d<;>exact stuck rfl
  | int _=>cases d<;>exact stuck rfl
  | exc _=>cases d<;>exact stuck rfl
  | Dl _ _ _=>cases d<;>exact stuck rfl
 | Oa=>
  cases e with
  | DE=>
   cases hy.FK;cases ry
   have ev:oD d=(v == Value.none):=by
    cases hx with
    | DE=>cases rx;rfl
    | bl b=>cases rx;rfl
    | int i=>obtain⟨t,rfl⟩:=rx;rfl
    | str z=>obtain⟨t,rfl⟩:=rx;rfl
    | tup _ _=>cases rx;rfl
    | lst _ _ _=>cases rx;rfl
    | lstK _ _=>cases rx;rfl
    | exc _=>cases rx;rfl
    | Dl _ _ _ _=>cases rx;rfl
   have h':Q (.bl (oD d)) H:=by cases d<;>exact h
   rw[ev] at h'
   exact is_none_gen (fin h')
  | _=>cases d<;>exact stuck rfl
 | Qg=>cases d<;>cases e<;>exact stuck rfl
theorem eR {pins:List (Addr×Obj)}{s:Shared}{σ:St}{H:Hp}{S:Addr->Prop}{x:V}{v:Value}{d:D}{Q:Bool->Hp->Prop}(I:Inv X pins σ H s)(rx:RelV x v)(hx:Dg X.K S H x d)(h:Df ex (aU d) fun b=>Q b H) :
  wpAny (model X.prog X.w) X.A (truthy v) (TP X pins σ Q) X.xe s:=by
 refine xE pins s σ H x v Q I rx ?_
 cases d with
 | exc c=>exact h.no.elim
 | Dl _ _ _=>exact h.no.elim
 | DE=>cases hx.FK;exact⟨false,rfl,h⟩
 | bl b=>cases hx.Jx;exact⟨b,rfl,h⟩
 | int i=>cases hx.DD;exact⟨_,rfl,h⟩
 | str z=>
  cases hx.DY
  obtain⟨g,h⟩:=Df.Dk h
  exact⟨_,⟨aQ g,rfl⟩,h⟩
 | tup ds=>
  obtain⟨a,xs,rfl,q,m⟩:=hx.Ek
  refine⟨!ds.isEmpty,.inr (.inl ⟨xs,q,?_⟩),h⟩
  have:=m.length
  cases xs<;>cases ds<;>simp_all
 | lst o ds=>
  obtain⟨a,xs,rfl,q,m⟩:=hx.D7
  refine⟨!ds.isEmpty,.inl ⟨xs,q,?_⟩,h⟩
  have:=m.length
  cases xs<;>cases ds<;>simp_all
theorem kP {K:PySem.W.Frag}{S:Addr->Prop}{H:Hp}{vs:List V}{ds:List D}{i:Int}{d:D}(m:De K S H vs ds)(h:EW ds i=some d):∃ v,EW vs i=some v/\Dg K S H v d:=by
 unfold EW at h ⊢
 rw[m.length]
 cases q:IA ds.length i with
 | none=>rw[q] at h;cases h
 | some j=>rw[q] at h;exact m.get h
noncomputable def CT (K:PySem.W.Frag)(ex:Str->Prop):R2:=fun x y H Q=>∃ S d e,Dg K S H x d/\Dg K S H y e/\Df ex (aW d e) (Kk K S H Q)
theorem tw:Ij X (CT X.K ex):=by
 intro value slice pins s σ H x y v u Q I rx ry h hs
 obtain⟨S,d,e,hx,hy,h⟩:=h
 refine xH value slice pins s σ H x y v u Q I rx ry ?_ hs
 have stuck:∀ {P:Prop},aW d e=Dq->P:=fun z=>by rw[z] at h;exact h.no.elim
 cases e with
 | int i=>
  cases hy.DD
  cases d with
  | lst o ds=>
   obtain⟨a,xs,rfl,q,m⟩:=hx.D7
   have h':Df ex (match EW ds i with|some d=>.ok d|none=>Dq) (Kk X.K S H Q):=h
   cases z:EW ds i with
   | none=>rw[z] at h';exact h'.no.elim
   | some d=>
    rw[z] at h'
    obtain⟨w,ew,mw⟩:=kP m z
    exact .inl ⟨a,xs,i,w,rfl,rfl,q,ew,h'.ok _ _ (.refl _) mw.nw⟩
  | tup ds=>
   obtain⟨a,xs,rfl,q,m⟩:=hx.Ek
   have h':Df ex (match EW ds i with|some d=>.ok d|none=>Dq) (Kk X.K S H Q):=h
   cases z:EW ds i with
   | none=>rw[z] at h';exact h'.no.elim
   | some d=>
    rw[z] at h'
    obtain⟨w,ew,mw⟩:=kP m z
    exact .inr (.inl ⟨a,xs,i,w,rfl,rfl,q,ew,h'.ok _ _ (.refl _) mw.nw⟩)
  | str z=>
   cases hx.DY
   obtain⟨g,h⟩:=Df.Dk h
   cases q:EW z.cps.toList i with
   | none=>rw[q] at h;exact h.no.elim
   | some c=>
    rw[q] at h
    exact .inr (.inr ⟨z,i,c,rfl,rfl,aQ g,q,h.ok _ _ (.refl _) (.str _)⟩)
  | _=>exact stuck rfl
 | _=>cases d<;>exact stuck rfl
def CU (K:PySem.W.Frag)(ex:Str->Prop):V->Option Int->Option Int->Hp->VK->Prop:=fun x lo hi H Q=>∃ S d,Dg K S H x d/\Df ex (ia d lo hi) (Kk K S H Q)
theorem xY:MR X (fun x lo hi H Q=>∃ z,x=.str z/\z.length<=sizeLine/\Q (.str (Txt.slice z lo hi)) H):=by
 intro pins s σ H x v vl vu lo hi sl Q I rx hs pl pu h
 obtain⟨z,rfl,hz,q⟩:=h
 obtain⟨t,rfl⟩:=rx
 refine⟨"str",_,F.slot_str_getitem.lookup,typeIs_str s z t,?_⟩
 have fin:∀ (l u:Option (Int×Tok)),vl=partValue l->vu=partValue u->l.map (·.1)=lo->u.map (·.1)=hi->wpAny (model X.prog X.w) X.A (getItem (.str z t) (.ref sl)) (EP X pins σ Q) X.xe s:=by
  intro l u e1 e2 e3 e4
  subst e1 e2 e3 e4
  refine wpAny_getItem_str_slice (l:=l) (u:=u) (st:=none) hs rfl ?_
  exact post_val_or_str ⟨Nat.le_trans (Txt.slice_le z _ _) hz,fun t' k=>⟨.str _,H,I.tok _,⟨_,rfl⟩,q⟩⟩
 cases pl with
 | none=>
  cases pu with
  | none=>exact fin none none rfl rfl rfl rfl
  | int j t'=>exact fin none (some (j,t')) rfl rfl rfl rfl
 | int i t'=>
  cases pu with
  | none=>exact fin (some (i,t')) none rfl rfl rfl rfl
  | int j SQ=>exact fin (some (i,t')) (some (j,SQ)) rfl rfl rfl rfl
end
open PySem.W
section
variable {prog:Program}{w:World}{A:Around}{E:Value->Shared->Prop}{K:Frag}{x C:Addr}{hh:Heap}{g:Array GenState}{d:Drawn}{t:Nat}{os:OsState}
structure ExcAt (K:Frag)(C:Addr):Prop where
 ga:findIn K (.ref C) "__getattribute__" = some (some (.builtin "BaseException.__getattribute__"))
 no:findIn K (.ref C) "__getattr__" = some none
 cl:findIn K (.ref C) "__class__" = some (some (.builtin "object.__class__"))
 be:mroIn K C (.type "BaseException")=some true
 ob:mroIn K C (.type "object")=some true
 is:(clsIn K C).isSome=true
open Builtin Builtin.ObjectAttr Builtin.Getset_descriptor in
end
section
variable {X:Cx}{ex:Str->Prop}
theorem kQ {K:PySem.W.Frag}{S:Addr->Prop}{H:Hp}{vs:List V}{ds:List D}(lo hi:Option Int)(m:De K S H vs ds):De K S H (mW vs lo hi) (cF ds lo hi):=by
 unfold mW cF
 rw[m.length]
 exact(m.drop _).take _
theorem tx:MR X (CU X.K ex):=by
 intro pins s σ H x v vl vu lo hi sl Q I rx hs pl pu h
 obtain⟨S,d,hx,h⟩:=h
 cases d with
 | lst o ds=>
  obtain⟨a,xs,rfl,q,m⟩:=hx.D7
  exact kG pins s σ H _ v vl vu lo hi sl Q I rx hs pl pu ⟨a,xs,rfl,q,fun p hp=>h.ok _ _ (.upd hp) (j5 hp (kQ lo hi m))⟩
 | str z=>
  cases hx.DY
  obtain⟨g,h⟩:=Df.Dk h
  exact xY pins s σ H _ v vl vu lo hi sl Q I rx hs pl pu ⟨z,rfl,aQ g,h.ok _ _ (.refl _) (.str _)⟩
 | _=>exact h.no.elim
theorem jq {ns:List Int}{us:List Value}(r:Vals (ns.map V.int) us):IntsAre us ns:=intsAre_of r
theorem jr {ns:List Str}:∀ {us:List Value},Vals (ns.map V.str) us->StrsAre us ns:=by
 induction ns with
 | nil=>intro us r;rw[List.map_nil] at r;cases r;exact .nil
 | cons n ns ih=>
  intro us r
  rw[List.map_cons] at r
  cases r with
  | cons r1 r2=>
   obtain⟨t,e⟩:=r1
   subst e
   exact .cons n t (ih r2)
theorem dA:∀ {ds:List D}{ns:List Int},bf ds=some ns->ds=ns.map .int
 | [],ns,h=>by cases h;rfl
 | .int i::r,ns,h=>by
  have h':(bf r).map (i::·)=some ns:=h
  cases q:bf r with
  | none=>rw[q] at h';cases h'
  | some ms=>
   rw[q] at h'
   cases h'
   rw[dA q]
   rfl
 | .DE::_,_,h=>by cases h
 | .bl _::_,_,h=>by cases h
 | .str _::_,_,h=>by cases h
 | .tup _::_,_,h=>by cases h
 | .lst _ _::_,_,h=>by cases h
theorem dB:∀ {ds:List D}{ns:List Str},bB ds=some ns->ds=ns.map .str
 | [],ns,h=>by cases h;rfl
 | .str i::r,ns,h=>by
  have h':(bB r).map (i::·)=some ns:=h
  cases q:bB r with
  | none=>rw[q] at h';cases h'
  | some ms=>
   rw[q] at h'
   cases h'
   rw[dB q]
   rfl
 | .DE::_,_,h=>by cases h
 | .bl _::_,_,h=>by cases h
 | .int _::_,_,h=>by cases h
 | .tup _::_,_,h=>by cases h
 | .lst _ _::_,_,h=>by cases h
theorem nu (hc:X.calm=true):cg X (.builtin "sum") (fun xs H Q=>∃ (p:Addr) (ns:List Int),xs=[.ref p]/\EB X.K H p (ns.map V.int)/\Q (.int ns.sum) H):=by
 intro pins s σ H xs us Q I r h
 obtain⟨p,ns,rfl,hq,q⟩:=h
 obtain⟨u,rfl,rx⟩:=vals1 r
 cases rx
 obtain⟨its,rv,pl,hz⟩:=I.list hq
 have hi:=jq rv
 refine call_sum_walkG (wpAny_pyIter_list pl.isList ?_)
 have DV:p < s.heap.objs.size:=by
  obtain⟨o,e,_⟩:=pl.isList
  exact Heap.lt_size e
 refine⟨s.heap.objs.size,_,_,_,_,_,fun i=>ns.getD i 0,rfl,Walks.list (A:=X.A.in1) (show X.A.in1.handled=none from I.ok.hd hc) s.heap.objs.size p (Nat.ne_of_lt DV) its.toArray,⟨⟨_,Heap.get?_push_size _ rfl,rfl,rfl⟩,?_⟩,?_,?_,?_⟩
 ·obtain⟨o,e,c,n,d⟩:=pl.isList
  exact⟨o,Heap.get?_push_of_some _ e,c,n,d⟩
 ·intro b hb
  have:b=s.heap.objs.size∨b=p:=by simpa using hb
  have hs:(s.heap.push {cls:=.type "list_iterator",data:=.fields #[.ref p,.int 0 0]}).objs.size=s.heap.objs.size+1:=Heap.size_push ..
  show b < (s.heap.push _).objs.size
  rw[Heap.size_push]
  rcases this with rfl|rfl
  ·exact Nat.lt_succ_self _
  ·exact Nat.lt_succ_of_lt DV
 ·intro i v hv
  have SR:its[i]? = some v:=by simpa using hv
  have key:∀ {us:List Value}{ns:List Int},IntsAre us ns->∀ i v,us[i]? = some v->∃ t,v=Value.int (ns.getD i 0) t:=by
   intro us ns hI
   induction hI with
   | nil=>intro i v z;simp at z
   | cons n t _ ih=>
    intro i v z
    cases i with
    | zero=>simp at z;exact⟨t,by rw[<- z];simp⟩
    | succ j=>simpa using ih j v (by simpa using z)
  exact key hi i v SR
 ·intro h' tk t' kp
  refine⟨.int ns.sum,H,?_,⟨t',?_⟩,q⟩
  ·refine I.kept (t':=tk) fun b o e=>kp b o ?_ (Heap.get?_push_of_some _ e)
   intro hm
   have hb:b=s.heap.objs.size:=by simpa using hm
   subst hb
   exact absurd (Heap.lt_size e) (Nat.lt_irrefl _)
  ·have hl:=rv.length
   rw[List.length_map] at hl
   rw[preSum_getD,show its.toArray.size=ns.length by simp[hl],List.take_length]
noncomputable def cG:Bi->Str
 | .len=>"len" | .sum=>"sum" | .min2=>"min" | .max2=>"max" | .IU=>"max" | .sorted=>"sorted" | .list=>"list" | .tuple=>"tuple" | .ord=>"ord" | .int=>"int" | .all=>"all" | .any=>"any" | .str=>"str" | .set=>"set" | .abs=>"abs"
noncomputable def Aj:Bi->Bool
 | .list=>true|.tuple=>true|.int=>true|.str=>true|.set=>true
 | _=>false
noncomputable def Ak:Bi->String
 | .len=>"len" | .sum=>"sum" | .min2=>"min" | .max2=>"max" | .IU=>"max" | .sorted=>"sorted" | .list=>"list" | .tuple=>"tuple" | .ord=>"ord" | .int=>"int" | .all=>"all" | .any=>"any" | .str=>"str" | .set=>"set" | .abs=>"abs"
noncomputable def oK (f:Bi):Value:=if Aj f=true then .type (Ak f) else .builtin (Ak f)
theorem kR (f:Bi):bootBuiltins (cG f)=some (oK f):=by cases f<;>decide +kernel
def Qk (K:PySem.W.Frag)(ex:Str->Prop)(f:Bi):List V->Hp->VK->Prop:=fun xs H Q=>∃ S ds,De K S H xs ds/\Df ex (bX f ds) (Kk K S H Q)
theorem De.Ki {K:PySem.W.Frag}{S:Addr->Prop}{H:Hp}{xs:List V}{d:D}(h:De K S H xs [d]):∃ x,xs=[x]/\Dg K S H x d:=by
 cases h with
 | cons h1 h2=>cases h2;exact⟨_,rfl,h1⟩
theorem De.Oc {K:PySem.W.Frag}{S:Addr->Prop}{H:Hp}{xs:List V}{d e:D}(h:De K S H xs [d,e]):∃ x y,xs=[x,y]/\Dg K S H x d/\Dg K S H y e:=by
 cases h with
 | cons h1 h2=>
  cases h2 with
  | cons h3 h4=>cases h4;exact⟨_,_,rfl,h1,h3⟩
theorem ints_rep {K:PySem.W.Frag}{S:Addr->Prop}{H:Hp}(ns:List Int):De K S H (ns.map V.int) (ns.map D.int):=by
 induction ns with
 | nil=>exact .nil
 | cons c cs ih=>exact .cons (.int _) ih
theorem gy {K:PySem.W.Frag}{S:Addr->Prop}{H:Hp}(z:Str):De K S H (dw z) (cP z):=by
 unfold dw cP
 induction z.cps.toList with
 | nil=>exact .nil
 | cons c cs ih=>exact .cons (.str _) ih
theorem gA:∀ {ks:List Key}{ns:List Int},du ks=some ns->ks=ns.map Sum.inl
 | [],ns,h=>by cases h;rfl
 | .inl i::r,ns,h=>by
  have h':(du r).map (i::·)=some ns:=h
  cases z:du r with
  | none=>rw[z] at h';cases h'
  | some ms=>
   rw[z] at h'
   have:i::ms=ns:=Option.some.inj h'
   rw[<- this,gA z]
   rfl
 | .inr _::_,ns,h=>by cases h
theorem tD (hc:X.calm=true)(f:Bi):cg X (oK f) (Qk X.K ex f):=by
 intro pins s σ H xs us Q I r h
 obtain⟨S,ds,hx,h⟩:=h
 have stuck:∀ {P:Prop},bX f ds=Dq->P:=fun z=>by rw[z] at h;exact h.no.elim
 have one:∀ {d e:D}{r':List D},ds=d::e::r'->¬ (f=.min2∨f=.max2)->bX f ds=Dq:=by
  intro d e r' z nf
  subst z
  cases f<;>first|rfl|(exfalso;exact nf (.inl rfl))|(exfalso;exact nf (.inr rfl))|(cases d<;>rfl)
 have two:∀ {d e g:D}{r':List D},ds=d::e::g::r'->bX f ds=Dq:=by
  intro d e g r' z
  subst z
  cases f<;>first|rfl|(cases d<;>rfl)|(cases d<;>cases e<;>rfl)
 have nil:ds=[]->bX f ds=Dq:=by
  intro z
  subst z
  cases f<;>rfl
 match ds,hx with
 | [],hx=>exact stuck (nil rfl)
 | d::e::g::r',hx=>exact stuck (two rfl)
 | [d,e],hx=>
  by_cases nf:f=.min2∨f=.max2
  ·obtain⟨x,y,rfl,hd,he⟩:=hx.Oc
   rcases nf with rfl|rfl
   ·cases d with
    | int a=>
     cases e with
     | int b=>cases hd.DD;cases he.DD;exact mU hc pins s σ H _ us Q I r ⟨a,b,rfl,h.ok _ _ (.refl _) (.int _)⟩
     | _=>exact stuck rfl
    | _=>exact stuck rfl
   ·cases d with
    | int a=>
     cases e with
     | int b=>cases hd.DD;cases he.DD;exact mT hc pins s σ H _ us Q I r ⟨a,b,rfl,h.ok _ _ (.refl _) (.int _)⟩
     | _=>exact stuck rfl
    | _=>exact stuck rfl
  ·exact stuck (one rfl nf)
 | [d],hx=>
  obtain⟨x,rfl,hd⟩:=hx.Ki
  cases f with
  | len=>
   cases d with
   | str z=>cases hd.DY;obtain⟨g,h⟩:=Df.Dk h;exact Eo pins s σ H _ us Q I r ⟨_,_,rfl,⟨aQ g,rfl⟩,h.ok _ _ (.refl _) (.int _)⟩
   | tup ds=>
    obtain⟨a,ys,rfl,q,m⟩:=hd.Ek
    exact Eo pins s σ H _ us Q I r ⟨_,ds.length,rfl,.inr ⟨ys,q,m.length.symm⟩,h.ok _ _ (.refl _) (.int _)⟩
   | lst o ds=>
    obtain⟨a,ys,rfl,q,m⟩:=hd.D7
    exact Eo pins s σ H _ us Q I r ⟨_,ds.length,rfl,.inl ⟨ys,q,m.length.symm⟩,h.ok _ _ (.refl _) (.int _)⟩
   | Dl o ks es=>
    cases hd with
    | Dl h0 h1 h2 h3=>exact ni pins s σ H _ us Q I r ⟨_,_,rfl,h1,by rw[<- List.length_map (f:=(·.1)),h2];exact h.ok _ _ (.refl _) (.int _)⟩
   | _=>exact stuck rfl
  | sum=>
   cases d with
   | lst o ds=>
    obtain⟨a,ys,rfl,q,m⟩:=hd.D7
    have h':Df ex (match bf ds with|some ns=>Dk (decide (ns.length<=1000000)) (.ok (.int ns.sum))|none=>Dq) (Kk X.K S H Q):=h
    cases z:bf ds with
    | none=>rw[z] at h';exact h'.no.elim
    | some ns=>
     rw[z] at h'
     obtain⟨_,h'⟩:=Df.Dk h'
     rw[dA z] at m
     rw[m.ints] at q
     exact nu hc pins s σ H _ us Q I r ⟨a,ns,rfl,q,h'.ok _ _ (.refl _) (.int _)⟩
   | _=>exact stuck rfl
  | all=>cases d<;>exact stuck rfl
  | any=>cases d<;>exact stuck rfl
  | ord=>cases d<;>exact stuck rfl
  | int=>cases d<;>exact stuck rfl
  | list=>
   cases d with
   | tup ds=>
    obtain⟨a,ys,rfl,q,m⟩:=hd.Ek
    exact cD pins s σ H _ us Q I r ⟨a,ys,rfl,.inr q,fun p hp=>h.ok _ _ (.upd hp) (j5 hp m)⟩
   | lst o ds=>
    obtain⟨a,ys,rfl,q,m⟩:=hd.D7
    exact cD pins s σ H _ us Q I r ⟨a,ys,rfl,.inl q,fun p hp=>h.ok _ _ (.upd hp) (j5 hp m)⟩
   | str z=>
    cases hd.DY
    obtain⟨g,h⟩:=Df.Dk h
    exact dt hc pins s σ H _ us Q I r ⟨z,rfl,aQ g,fun p hp=>h.ok _ _ (.upd hp) (j5 hp (gy z))⟩
   | _=>exact stuck rfl
  | abs=>cases d<;>exact stuck rfl
  | min2=>cases d<;>exact stuck rfl
  | max2=>cases d<;>exact stuck rfl
  | IU=>cases d<;>exact stuck rfl
  | sorted=>
   cases d with
   | Dl o ks es=>
    have h':Df ex (match du ks with|some ns=>Dk (decide (ns.length < 64)) (.ok (.lst true ((PySem.W.sortI ns).map .int)))|none=>Dq) (Kk X.K S H Q):=h
    cases z:du ks with
    | none=>rw[z] at h';exact h'.no.elim
    | some ns=>
     rw[z] at h'
     obtain⟨g,h'⟩:=Df.Dk h'
     cases hd with
     | Dl h0 h1 h2 h3=>exact hW hc pins s σ H _ us Q I r ⟨_,_,ns,rfl,h1,h2.trans (gA z),of_decide_eq_true g,fun p hp=>h'.ok _ _ (.upd hp) (j5 hp (ints_rep _))⟩
   | _=>exact stuck rfl
  | tuple=>cases d<;>exact stuck rfl
  | str=>exact stuck rfl
  | set=>exact stuck rfl
def CV (X:Cx)(x:Str)(v:V):Prop:=(∃ C,v=.ref C/\X.mg x=some (.ref C))∨(∃ T,v=.ty T/\X.mg x=none/\bootBuiltins x=some (.type T))
noncomputable def vv:V->Value
 | .ref C=>.ref C
 | .ty T=>.type T
 | _=>.none
noncomputable def fB:Mt->Str
 | .join=>"join" | .index=>"index" | .starts=>"startswith"
noncomputable def CW:Mt->String
 | .join=>"str.join" | .index=>"str.index" | .starts=>"str.startswith"
def Ql (K:PySem.W.Frag)(ex:Str->Prop)(m:Mt):V->List V->Hp->VK->Prop:=fun x xs H Q=>∃ S d ds,Dg K S H x d/\De K S H xs ds/\Df ex (fy m d ds) (Kk K S H Q)
theorem oM {m:Mt}{d:D}{ds:List D}{k:D->Prop}(h:Df ex (fy m d ds) k):∃ x,d=.str x:=by
 cases m<;>cases d<;>first|exact⟨_,rfl⟩|exact h.no.elim
theorem il (m:Mt)(hc:m=.index->X.calm=true):Py X (CW m) (Ql X.K ex m):=by
 intro pins s σ H x xs v us Q I rx rs h
 obtain⟨S,d,ds,hx,hs,h⟩:=h
 obtain⟨z,rfl⟩:=oM h
 cases hx.DY
 obtain⟨t,rfl⟩:=rx
 have stuck:∀ {P:Prop},fy m (.str z) ds=Dq->P:=fun z=>by rw[z] at h;exact h.no.elim
 match ds,hs with
 | [],_=>cases m<;>exact stuck rfl
 | d::e::r,_=>cases m<;>cases d<;>exact stuck rfl
 | [d],hs=>
  obtain⟨y,rfl,hd⟩:=hs.Ki
  obtain⟨u,rfl,ru⟩:=vals1 rs
  cases m with
  | join=>
   cases d with
   | lst o ds=>
    obtain⟨a,ys,rfl,q,m⟩:=hd.D7
    cases ru
    have h':Df ex (match bB ds with|some ys=>Dk (decide ((ys.map (·.length)).sum+ys.length*z.length<=16777216)) (.ok (.str (Txt.join z ys)))|none=>Dq) (Kk X.K S H Q):=h
    cases w:bB ds with
    | none=>rw[w] at h';exact h'.no.elim
    | some ns=>
     rw[w] at h'
     obtain⟨g,h'⟩:=Df.Dk h'
     rw[dB w] at m
     rw[m.strs] at q
     obtain⟨its,rv,pl,_⟩:=I.list q
     exact join_list pl.isList (by simpa using jr rv) (of_decide_eq_true g) fun t' k=>⟨.str _,H,I.tok _,⟨_,rfl⟩,h'.ok _ _ (.refl _) (.str _)⟩
   | _=>exact stuck rfl
  | index=>cases d<;>exact stuck rfl
  | starts=>cases d<;>exact stuck rfl
noncomputable def Od (x:Str):It:=⟨fun i _=>i < x.cps.size,fun i H v H'=>H'=H/\∃ c,x.cps[i]? = some c/\v=.str ⟨#[c]⟩,fun i _=>x.cps.size<=i⟩
theorem oO {P:Program}{w:World}{K:PySem.W.Frag}{tg:Expr}{it:Addr}{x:Str}{t:Tok}{ty:String}(K2:ty = "str_ascii_iterator"∨ty = "str_iterator")
  (W:∀ A':Around,A'.handled=none->Walks P w A' it [it] [it] x.cps.size (SignAt x) (fun i h=>h.IsStrIter it ty x t i)):Turn P w K tg (Od x) [it] it (fun i h=>i<=x.cps.size/\h.IsStrIter it ty x t i) where
 mem:=by simp
 obj:=fun i h st b hb=>by
  have e:b=it:=by simpa using hb
  subst e
  obtain⟨_,o,e,c,d⟩:=st
  exact⟨o,e,fun v z=>by rw[d] at z;cases z⟩
 keep:=fun i h h' st k=>by
  obtain⟨l,o,e,c,d⟩:=st
  exact⟨l,o,k it (by simp) o e,c,d⟩
 item:=by
  intro X hP hw hK hc i pins s σ H E I hf st hg
  subst hP hw hK
  obtain⟨f0,f1,f2,f3,f4,f5⟩:=hf it (by simp)
  refine(W X.A (I.ok.hd hc)).item i s _ _ hg st.2 fun v h' tk hv FW kk=>?_
  obtain⟨c,u,SU,rfl⟩:=hv
  have I1:Inv X pins σ H {s with heap:=h',toks:=tk}:=I.turned (fun b o hb e=>kk b o (by simpa using hb) e) f0 f1 f3 f4 f5
  obtain⟨o,e,cc,d⟩:=id FW
  refine⟨_,rfl,iY (s:={s with heap:=h',toks:=tk}) (n:=ty) e cc d (by rcases K2 with rfl|rfl<;>decide) ⟨.str ⟨#[c]⟩,H,I1,⟨u,rfl⟩,⟨rfl,c,SU,rfl⟩,⟨hg,FW⟩,fun b hb=>(hf b hb).1⟩⟩
 done:=by
  intro X hP hw hK hc i pins s σ H E I hf st hg
  subst hP hw hK
  obtain⟨f0,f1,f2,f3,f4,f5⟩:=hf it (by simp)
  have e:i=x.cps.size:=Nat.le_antisymm st.1 hg
  refine(W X.A (I.ok.hd hc)).done s _ _ (by rw[<- e];exact st.2) fun h' tk kk=>⟨rfl,I.turned (fun b o hb e=>kk b o (by simpa using hb) e) f0 f1 f3 f4 f5⟩
 self:=fun A i s Q E st h=>by
  obtain⟨_,st⟩:=st
  rcases K2 with rfl|rfl
  ·exact wpAny_pyIter_striter_ascii st h
  ·exact wpAny_pyIter_striter_wide st h
theorem xZ {tg:Expr}{pins:List (Addr×Obj)}{s:Shared}{σ:St}{H:Hp}{x:Str}{t:Tok}{R:It->Hp->Prop}(I:Inv X pins σ H s)(q:R (Od x) H):wpAny (model X.prog X.w) X.A (pyIter (.str x t)) (K0 X pins σ tg R) X.xe s:=by
 have fin:∀ ty,(ty = "str_ascii_iterator"∨ty = "str_iterator")->(∀ A':Around,A'.handled=none->Walks X.prog X.w A' s.heap.objs.size [s.heap.objs.size] [s.heap.objs.size] x.cps.size (SignAt x) (fun i h=>h.IsStrIter s.heap.objs.size ty x t i))->
   K0 X pins σ tg R (.ref s.heap.objs.size) {s with heap:=s.heap.push {cls:=.type ty,data:=.fields #[.str x t,.int 0 0]}}:=fun ty K2 W=>by
  refine⟨s.heap.objs.size,[s.heap.objs.size],_,_,H,rfl,I.kept (t':=s.toks) fun b o e=>Heap.get?_push_of_some _ e,oO K2 W,⟨Nat.zero_le _,_,Heap.get?_push_size _ rfl,rfl,rfl⟩,fun b hb=>?_,q⟩
  have e:b=s.heap.objs.size:=by simpa using hb
  subst e
  exact I.Gw (Nat.le_refl _) (I.Dz.fresh (Nat.le_refl _))
 cases ha:x.cps.all (· < 128)
 ·exact wpAny_pyIter_wide ha (fin _ (.inr rfl) fun A' hA=>Walks.strWide hA _ x t)
 ·exact wpAny_pyIter_ascii ha (fin _ (.inl rfl) fun A' hA=>Walks.strAscii hA _ x t)
end
theorem aK.at {P:Program}{w:World}{H:Hp}{h:Heap}{a:Addr}{o:HO}(x:aK P w H h a o):∃ ob,h.get? a=some ob:=by
 cases o with
 | lst xs=>obtain⟨_,_,_,_,e⟩:=x;exact⟨_,e⟩
 | tup xs=>obtain⟨_,_,_,ob,e,_⟩:=x;exact⟨_,e⟩
 | dK kvs=>obtain⟨_,_,_,_,o,_,_,e,_⟩:=x;exact⟨_,e⟩
 | dT kvs=>obtain⟨_,_,_,_,o,_,_,e,_⟩:=x;exact⟨_,e⟩
 | set S n=>obtain⟨o,_,_,_,e,_⟩:=x;exact⟨_,e⟩
 | ins C dx fs=>obtain⟨_,_,_,e,_⟩:=x;exact⟨_,e⟩
 | own y=>exact x
 | xd fs=>obtain⟨_,⟨_,_,_,e,_⟩,_⟩:=x;exact⟨_,e⟩
 | G4 lo hi=>obtain⟨_,_,_,e⟩:=x;exact⟨_,e⟩
 | Dw ob u=>exact⟨_,x.1⟩
 | Jk ps=>exact⟨_,x⟩
 | met f y=>exact⟨_,x⟩
 | ext φ=>exact x.2.1
noncomputable def indep:HO->Bool
 | .lst _=>true
 | .tup _=>true
 | .ext _=>true
 | .dK _=>true
 | _=>false
theorem dQ {P:Program}{w:World}{H H':Hp}{h:Heap}{a:Addr}{u:HO}(i:indep u=true)(x:aK P w H h a u):aK P w H' h a u:=by
 cases u with
 | lst _=>exact x
 | tup _=>exact x
 | ext _=>exact x
 | dK _=>exact x
 | _=>cases i
noncomputable def aA (h:Heap)(H:Hp):Hp:=fun b=>match H b with
 | some (.lst xs)=>(h.get? b).map fun o=>.Dw o (.lst xs)
 | some (.dK kvs)=>(h.get? b).map fun o=>.Dw o (.dK kvs)
 | some (.tup xs)=>some (.tup xs)
 | some (.Dw o u)=>if indep u=true then some (.Dw o u) else none
 | _=>none
noncomputable def cM (H H':Hp):Hp:=fun b=>match H b with
 | some o=>some o
 | none=>H' b
def Kj (H:Hp):Prop:=∀ b o,H b=some o->(∃ ob u,o=.Dw ob u)∨∃ xs,o=.tup xs
theorem oP (h:Heap)(H:Hp):Kj (aA h H):=fun b o e=>by
 unfold aA at e
 split at e
 ·obtain⟨ob,_,rfl⟩:=Option.map_eq_some_iff.mp e
  exact .inl ⟨_,_,rfl⟩
 ·obtain⟨ob,_,rfl⟩:=Option.map_eq_some_iff.mp e
  exact .inl ⟨_,_,rfl⟩
 ·cases e;exact .inr ⟨_,rfl⟩
 ·split at e
  ·cases e;exact .inl ⟨_,_,rfl⟩
  ·cases e
 ·cases e
structure Ge (h:Heap)(Hc H':Hp):Prop where
 Ee:∀ b o u,Hc b=some (.Dw o u)->H' b=some (.Dw o u)
 EA:∀ b xs,Hc b=some (.tup xs)->H' b=some (.tup xs)
 free:∀ b o,h.get? b=some o->Hc b=none->H' b=none
inductive Bk (h:Heap)(H H':Hp)(b:Addr):HO->Prop where
 | lst {xs:List V}{ob:Obj}:h.get? b=some ob->H' b=some (.Dw ob (.lst xs))->Bk h H H' b (.lst xs)
 | dK {xs:List (Key×V)}{ob:Obj}:h.get? b=some ob->H' b=some (.Dw ob (.dK xs))->Bk h H H' b (.dK xs)
 | tup {xs:List V}:H' b=some (.tup xs)->Bk h H H' b (.tup xs)
 | Dw {o:Obj}{u:HO}:indep u=true->H' b=some (.Dw o u)->Bk h H H' b (.Dw o u)
 | DQ {o:HO}{ob:Obj}:h.get? b=some ob->aA h H b=none->H' b=none->(∀ xs,o≠.lst xs)->(∀ xs,o≠.tup xs)->(∀ xs,o≠.dK xs)->Bk h H H' b o
section
variable {P:Program}{w:World}{H H':Hp}{h g:Heap}
theorem gB (x:DU P w H h)(p:Ge h (aA h H) H'){b:Addr}{o:HO}(e:H b=some o):Bk h H H' b o:=by
 obtain⟨ob,he⟩:=(x b o e).at
 have hc:aA h H b=(match (some o:Option HO) with
  | some (.lst xs)=>(h.get? b).map fun o=>.Dw o (.lst xs)
  | some (.dK kvs)=>(h.get? b).map fun o=>.Dw o (.dK kvs)
  | some (.tup xs)=>some (.tup xs)
  | some (.Dw o u)=>if indep u=true then some (.Dw o u) else none
  | _=>none):=by unfold aA;rw[e]
 cases o with
 | lst xs=>
  have hc:aA h H b=(h.get? b).map fun o=>.Dw o (.lst xs):=hc
  rw[he] at hc
  exact .lst he (p.Ee _ _ _ hc)
 | dK xs=>
  have hc:aA h H b=(h.get? b).map fun o=>.Dw o (.dK xs):=hc
  rw[he] at hc
  exact .dK he (p.Ee _ _ _ hc)
 | tup xs=>exact .tup (p.EA _ _ hc)
 | Dw o' u=>
  have hc:aA h H b=if indep u=true then some (.Dw o' u) else none:=hc
  by_cases i:indep u=true
  ·rw[if_pos i] at hc
   exact .Dw i (p.Ee _ _ _ hc)
  ·rw[if_neg i] at hc
   exact .DQ he hc (p.free _ _ he hc) (fun _ z=>by cases z) (fun _ z=>by cases z) (fun _ z=>by cases z)
 | _=>exact .DQ he hc (p.free _ _ he hc) (fun _ z=>by cases z) (fun _ z=>by cases z) (fun _ z=>by cases z)
theorem j7 (x:DU P w H h):DU P w (aA h H) h:=fun b o e=>by
 cases q:H b with
 | none=>unfold aA at e;rw[q] at e;cases e
 | some u=>
  have y:=x b u q
  unfold aA at e
  rw[q] at e
  cases u with
  | lst xs=>
   obtain⟨ob,he⟩:=y.at
   have e:(h.get? b).map (fun o=>HO.Dw o (.lst xs))=some o:=e
   rw[he] at e
   cases e
   exact⟨he,y⟩
  | dK xs=>
   obtain⟨ob,he⟩:=y.at
   have e:(h.get? b).map (fun o=>HO.Dw o (.dK xs))=some o:=e
   rw[he] at e
   cases e
   exact⟨he,y⟩
  | tup xs=>cases e;exact y
  | Dw o' u=>
   have e:(if indep u=true then some (HO.Dw o' u) else none)=some o:=e
   by_cases i:indep u=true
   ·rw[if_pos i] at e;cases e;exact⟨y.1,dQ i y.2⟩
   ·rw[if_neg i] at e;cases e
  | _=>cases e
theorem bt (e:H a=none):aA h H a=none:=by unfold aA;rw[e]
theorem res_some {b:Addr}{o:HO}(e:H b=some o):cM H H' b=some o:=by unfold cM;rw[e]
theorem res_none {b:Addr}(e:H b=none):cM H H' b=H' b:=by unfold cM;rw[e]
theorem jt:ar H (cM H H'):=fun b o e=>res_some e
theorem ip (x:DU P w H h)(y:DU P w H' g)(p:Ge h (aA h H) H'){fs:List Addr}(keep:∀ b o,H b≠none->h.get? b=some o->aA h H b=none->b∉fs->g.get? b=some o)(fr:∀ b∈fs,H b=none):DU P w (cM H H') g:=by
 have tp:∀ c xs,H' c=some (.tup xs)->cM H H' c=some (.tup xs):=fun c xs e=>by
  cases q:H c with
  | none=>rw[res_none q];exact e
  | some o=>
   rw[res_some q]
   cases gB x p q with
   | lst _ z=>rw[z] at e;cases e
   | dK _ z=>rw[z] at e;cases e
   | tup z=>rw[z] at e;exact e
   | Dw _ z=>rw[z] at e;cases e
   | DQ _ _ z _ _ _=>rw[z] at e;cases e
 intro b o e
 cases q:H b with
 | some o'=>
  rw[res_some q] at e
  cases e
  cases gB x p q with
  | lst h1 z=>
   have h2:=(y b _ z).1
   obtain⟨a1,its,n,a2,a3⟩:=x b _ q
   rw[h1] at a3
   exact⟨a1,its,n,a2,by rw[h2,<- a3]⟩
  | dK h1 z=>exact dQ rfl (y b _ z).2
  | tup z=>exact y b _ z
  | Dw i z=>exact⟨(y b _ z).1,dQ i (y b _ z).2⟩
  | DQ h1 h2 z n1 n2 n3=>
   refine(x b _ q).EI (fun c u hc hu=>?_) (fun c hc=>res_some hc) fun c xs hc=>res_some hc
   rcases hc with rfl|hc
   ·exact keep _ _ (by rw[q];simp) hu h2 fun z=>by rw[fr _ z] at q;cases q
   ·refine keep _ _ (by rw[hc];simp) hu ?_ fun z=>by rw[fr _ z] at hc;cases hc
    unfold aA
    rw[hc]
 | none=>
  rw[res_none q] at e
  refine(y b o e).EI (fun _ _ _ z=>z) (fun c hc=>?_) tp
  cases q':H c with
  | none=>rw[res_none q'];exact hc
  | some o'=>
   exfalso
   cases gB x p q' with
   | lst _ z=>rw[z] at hc;cases hc
   | dK _ z=>rw[z] at hc;cases hc
   | tup z=>rw[z] at hc;cases hc
   | Dw _ z=>rw[z] at hc;cases hc
   | DQ _ _ z _ _ _=>rw[z] at hc;cases hc
theorem dR {fs:List Addr}(u:Un fs [] (aA h H) H' h g):Ge h (aA h H) H':=⟨u.Ee,u.EA,fun b o e n=>u.free b o e n (by simp)⟩
theorem j8 {fs:List Addr}(x:DU P w H h)(u:Un fs [] (aA h H) H' h g):Un fs [] H (cM H H') h g where
 keep:=fun b o e n f i=>u.keep b o e (bt n) f i
 slot:=fun b o e n f i=>u.slot b o e (bt n) f i
 free:=fun b o e n i=>by rw[res_none n];exact u.free b o e (bt n) i
 there:=u.there
 EA:=fun b xs e=>res_some e
 Ee:=fun b o v e=>res_some e
 Fp:=fun b ps e=>⟨#[],by rw[res_some e];simp⟩
end
noncomputable def H0:Hp:=fun _=>none
noncomputable def EH (P:Program)(w:World):Er:=fun outer H s E e s'=>∃ (a:Addr) (cls a0:Value) (H':Hp) (B:Heap),e=.ref a/\s'.os=s.os/\AllBare s'.gens/\Un (Em outer) [] H H' s.heap s'.heap/\DU P w H' B/\ar H H'/\
 (∀ b o,s.heap.get? b=some o->H b=none->b∉Em outer->B.get? b=some o)/\Heap.FlyingW B outer a cls a0 s'.heap/\E cls none H0
def Gp (K:PySem.W.Frag):XK->Hp->Str->Prop:=fun E _ c=>∀ C,PySem.W.nsIn K mainGlobals c=some (some (.ref C))->E (.ref C) none H0
noncomputable def a8:List Str:=["len","sum","min","max","sorted","list","tuple","ord","int","all","any","str","set","abs","isinstance","range","bool","zip","reversed","dict"]
noncomputable def gC:Bi->Nat
 | .len=>0|.sum=>1|.min2=>2|.max2=>3|.IU=>3|.sorted=>4|.list=>5|.tuple=>6|.ord=>7|.int=>8|.all=>9|.any=>10|.str=>11|.set=>12|.abs=>13
theorem oQ (f:Bi):a8[gC f]? = some (cG f):=by cases f<;>rfl
mutual
noncomputable def nv:D->D->Bool
 | .DE,.DE=>true
 | .bl a,.bl b=>a == b
 | .int a,.int b=>a == b
 | .str a,.str b=>a == b
 | .tup a,.tup b=>fC a b
 | .lst o a,.lst o' b=>o == o'&&fC a b
 | _,_=>false
noncomputable def fC:List D->List D->Bool
 | [],[]=>true
 | a::r,b::s=>nv a b&&fC r s
 | _,_=>false
end
mutual
theorem kS:∀ {a b:D},nv a b=true->a=b
 | .DE,b,h=>by cases b<;>first|rfl|cases h
 | .bl a,b,h=>by cases b<;>first|(rw[eq_of_beq (show (a == _)=true from h)])|cases h
 | .int a,b,h=>by cases b<;>first|(rw[eq_of_beq (show (a == _)=true from h)])|cases h
 | .str a,b,h=>by cases b<;>first|(rw[eq_of_beq (show (a == _)=true from h)])|cases h
 | .tup a,b,h=>by
  cases b with
  | tup b=>rw[fD (show fC a b=true from h)]
  | _=>cases h
 | .lst o a,b,h=>by
  cases b with
  | lst o' b=>
   have h':(o == o'&&fC a b)=true:=h
   rw[Bool.and_eq_true] at h'
   rw[eq_of_beq h'.1,fD h'.2]
  | _=>cases h
theorem fD:∀ {a b:List D},fC a b=true->a=b
 | [],b,h=>by cases b<;>first|rfl|cases h
 | a::r,b,h=>by
  cases b with
  | nil=>cases h
  | cons b s=>
   have h':(nv a b&&fC r s)=true:=h
   rw[Bool.and_eq_true] at h'
   rw[kS h'.1,fD h'.2]
end
structure Sg where
 nm:List Str
 Lb:List (Nat×D)
 fns:List Nat
 cls:List Nat:=[]
 xt:List (Str×Nat×Bool):=[]
 pl:List Nat:=[]
 rc:List (Nat×Str):=[]
 xm:List (Str×Nat):=[]
 Ft:List Nat:=[]
noncomputable def Sg.name (Z:Sg)(n:Nat):Option Str:=(a8++Z.nm)[n]?
noncomputable def Gm.Gq (G:Gm)(n:Nat):Bool:=G.cm&&G.gl.contains n
theorem iq {G:Gm}{n:Nat}(h:G.Gq n=true):G.gl.contains n=true:=by
 unfold Gm.Gq at h;rw[Bool.and_eq_true] at h;exact h.2
theorem ir {G:Gm}{n:Nat}(h:G.Gq n=true):G.cm=true:=by
 unfold Gm.Gq at h;rw[Bool.and_eq_true] at h;exact h.1
noncomputable def Sg.Hx (Z:Sg)(G:Gm)(f:Nat):Bool:=Z.fns.contains f&&(G.cm||Z.pl.contains f)
theorem ez {Z:Sg}{G:Gm}{f:Nat}(h:Z.Hx G f=true):f∈Z.fns/\(G.cm=true∨f∈Z.pl):=by
 unfold Sg.Hx at h
 rw[Bool.and_eq_true,Bool.or_eq_true] at h
 exact⟨by simpa using h.1,h.2.elim .inl fun z=>.inr (by simpa using z)⟩
noncomputable def j9:Mt->Bool
 | .join=>true
 | _=>false
noncomputable def notStar:Expr->Bool
 | .Starred ..=>false
 | _=>true
noncomputable def aX:Expr->Bool
 | .Slice ..=>false
 | _=>true
noncomputable def fE:Expr->Bool
 | .Call _ [] [] _=>false
 | _=>true
noncomputable def cq (G:Gm)(i:Nat)(x:Str):Bool:=G.N[i]? == some x&&(G.kd[i]? == some .local||G.kd[i]? == some .cell||G.kd[i]? == some .free)
noncomputable def bN (Z:Sg)(G:Gm)(n:Nat)(x:Str):Bool:=Z.name n == some x&&G.gl.contains n
noncomputable def Am:D->Const->Bool
 | .int i,.int j=>i == j
 | .str x,.str y=>x == y
 | .bl a,.bool b=>a == b
 | .DE,.none=>true
 | _,_=>false
mutual
noncomputable def bC (G:Gm):Tg->Expr->Bool
 | .nm i,.Name x _=>(G.N[i]? == some x&&(G.kd[i]? == some .local||(G.df&&G.kd[i]? == some .cell)))&&G.io != some i
 | .tp ts,.Tuple es _ _=>G.cm&&dv G ts es
 | _,_=>false
noncomputable def dv (G:Gm):List Tg->List Expr->Bool
 | [],[]=>true
 | t::ts,e::es=>notStar e&&bC G t e&&dv G ts es
 | _,_=>false
end
mutual
noncomputable def Fg:Tg->List Nat
 | .nm i=>[i]
 | .tp ts=>ju ts
noncomputable def ju:List Tg->List Nat
 | []=>[]
 | t::ts=>Fg t++ju ts
end
noncomputable def bF (Z : Sg)(G : Gm)(scope : Scope)(G' : Gm)(fr : List Nat) : Bool :=
  (G.cm&&scope.kind == .function)&&!G'.tr&&!G'.df&&G'.kd.length == G'.N.length
 &&scope.names.all (fun y => y.2 != .cell)&&scope.names.all (fun y => y.2 != .local||scope.names.lookup y.1 == some .local)
 &&scope.names.all (fun y => y.2 != .free||(List.range G.N.length).any fun i => G.N[i]? == some y.1&&(G.kd[i]? == some .cell||G.kd[i]? == some .free))
 &&(List.range fr.length).all (fun j => G'.N[j]? == (fr[j]?).bind (G.N[·]?)&&((G'.N[j]?).bind (scope.names.lookup ·) == some .free)&&((fr[j]?).bind (G.kd[·]?) == some .cell||(fr[j]?).bind (G.kd[·]?) == some .free)
     &&(G'.kd[j]? == some (if ((fr[j]?).bind (G.kd[·]?) == some .cell) then .cell else .free)))
 &&decide (fr.length <= G'.N.length)
 &&((List.range G'.N.length).drop fr.length).all (fun j => (G'.N[j]?).bind (scope.names.lookup ·) == some .local&&G'.kd[j]? == some .local)
 &&G'.N.all (fun x => !(x == "__debug__")&&!(x == "__classdict__"))
 &&decide (G'.N.Nodup)
 &&G'.gl.all (fun n => match Z.name n with|some x => scope.names.lookup x == some .globalImplicit|none => false)
theorem af {P:Prop}(h:false=true):P:=by cases h
noncomputable def ny:List Comprehension->(Expr->Expr->List Expr->Bool)->Bool
 | [⟨t,it,fs,0⟩],k=>k t it fs
 | _,_=>false
theorem iu {gens:List Comprehension}{k:Expr->Expr->List Expr->Bool}(h:ny gens k=true):∃ t it fs,gens=[⟨t,it,fs,0⟩]/\k t it fs=true:=by
 unfold ny at h
 split at h
 ·exact⟨_,_,_,rfl,h⟩
 ·cases h
noncomputable def x4:Expr->Bool
 | .Tuple _ _ _=>true
 | _=>false
noncomputable def eP:Sr->Expr->Bool
 | .zip _ _,t=>x4 t
 | _,_=>true
noncomputable def M6:Expr->(Str->Expr->Option Str->Bool)->Bool
 | .JoinedStr [.Constant (.str x) _ _,.FormattedValue e n none _] _,k=>n == 114&&k x e none
 | .JoinedStr [.Constant (.str x) _ _,.FormattedValue e n none _,.Constant (.str y) _ _] _,k=>n == 114&&k x e (some y)
 | _,_=>false
theorem ya {e:Expr}{k:Str->Expr->Option Str->Bool}(h:M6 e k=true):∃ x e' y,k x e' y=true/\((∃ j p q pos,y=none/\e=.JoinedStr [.Constant (.str x) j p,.FormattedValue e' 114 none q] pos)∨
  ∃ w j p q j' r pos,y=some w/\e=.JoinedStr [.Constant (.str x) j p,.FormattedValue e' 114 none q,.Constant (.str w) j' r] pos):=by
 unfold M6 at h
 split at h
 ·rw[Bool.and_eq_true] at h
  rw[eq_of_beq h.1]
  exact⟨_,_,_,h.2,.inl ⟨_,_,_,_,rfl,rfl⟩⟩
 ·rw[Bool.and_eq_true] at h
  rw[eq_of_beq h.1]
  exact⟨_,_,_,h.2,.inr ⟨_,_,_,_,_,_,_,rfl,rfl⟩⟩
 ·cases h
noncomputable def nA:Bool->CmpOp
 | true=>.NotIn
 | false=>.In
noncomputable def M7:Expr->Bool
 | .Dict ks vs _=>ks.isEmpty&&vs.isEmpty
 | _=>false
theorem oR {e:Expr}(h:M7 e=true):∃ p,e=.Dict [] [] p:=by
 cases e with
 | Dict ks vs p=>
  have h':=Bool.and_eq_true_iff.mp (show (ks.isEmpty&&vs.isEmpty)=true from h)
  cases ks with
  | cons _ _=>exact af h'.1
  | nil=>
   cases vs with
   | cons _ _=>exact af h'.2
   | nil=>exact⟨p,rfl⟩
 | _=>exact af h
noncomputable def M8:Expr->(Expr->Expr->Bool)->Bool
 | .Subscript o s _,k=>k o s
 | _,_=>false
theorem yb {e:Expr}{k:Expr->Expr->Bool}(h:M8 e k=true):∃ o s p,e=.Subscript o s p/\k o s=true:=by
 unfold M8 at h
 split at h
 ·exact⟨_,_,_,rfl,h⟩
 ·cases h
noncomputable def M9:Expr->(Expr->CmpOp->Expr->Bool)->Bool
 | .Compare l [o] [r] _,k=>k l o r
 | _,_=>false
theorem yd {e:Expr}{k:Expr->CmpOp->Expr->Bool}(h:M9 e k=true):∃ l o r p,e=.Compare l [o] [r] p/\k l o r=true:=by
 unfold M9 at h
 split at h
 ·exact⟨_,_,_,_,rfl,h⟩
 ·cases h
noncomputable def M':Expr->(Str->Str->Expr->Bool)->Bool
 | .Call (.Name x _) [.Call (.Name y _) [e] [] _] [] _,k=>k x y e
 | _,_=>false
theorem yf {e:Expr}{k:Str->Str->Expr->Bool}(h:M' e k=true):∃ x p y p' e' q' q,e=.Call (.Name x p) [.Call (.Name y p') [e'] [] q'] [] q/\k x y e'=true:=by
 unfold M' at h
 split at h
 ·exact⟨_,_,_,_,_,_,_,rfl,h⟩
 ·cases h
noncomputable def isNm:Expr->Bool
 | .Name ..=>true
 | _=>false
noncomputable def Na:Expr->(Str->Expr->Str->Bool->Bool)->Bool
 | .Call (.Name x _) [.Call (.Attribute o name apos) [] [] Dt] [] _,k=>k x o name (apos.endLine == Dt.line)
 | _,_=>false
theorem yg {e:Expr}{k:Str->Expr->Str->Bool->Bool}(h:Na e k=true):∃ x p o name apos Dt q,e=.Call (.Name x p) [.Call (.Attribute o name apos) [] [] Dt] [] q/\k x o name (apos.endLine == Dt.line)=true:=by
 unfold Na at h
 split at h
 ·exact⟨_,_,_,_,_,_,_,rfl,h⟩
 ·cases h
mutual
noncomputable def Du (Z:Sg)(G:Gm):IR->Expr->Bool
 | .c d,.Constant k _ _=>Am d k
 | .g n d,.Name x _=>bN Z G n x&&Z.Lb.any fun p=>p.1 == n&&nv p.2 d
 | .v i,.Name x _=>cq G i x
 | .bin op a b,.BinOp l o r _=>o == Kg op&&Du Z G a l&&Du Z G b r
 | .neg a,.UnaryOp .USub e _=>Du Z G a e
 | .cmp op a b,.Compare l [o] [r] _=>o == Kh op&&Du Z G a l&&Du Z G b r&&!behindInMarks o r
 | .Fs a b,.BoolOp .And [e,e'] _=>Du Z G a e&&Du Z G b e'
 | .Fs a b,.BoolOp .And (e::e'::Oe::rest) p=>Du Z G a e&&Du Z G b (.BoolOp .And (e'::Oe::rest) p)
 | .HP a b,.BoolOp .Or [e,e'] _=>Du Z G a e&&Du Z G b e'
 | .HP a b,.BoolOp .Or (e::e'::Oe::rest) p=>Du Z G a e&&Du Z G b (.BoolOp .Or (e'::Oe::rest) p)
 | .HQ a,.UnaryOp .Not e _=>Du Z G a e
 | .tup es,.Tuple l _ _=>aD Z G es l
 | .lst es,.List l _=>aD Z G es l
 | .sl a lo hi,.Subscript e (.Slice l h none _) _=>Du Z G a e&&ka Z G lo l&&ka Z G hi h
 | .idx a i,.Subscript e s _=>aX s&&Du Z G a e&&Du Z G i s
 | .call f es,.Call (.Name x _) args [] _=>bN Z G f x&&Z.Hx G f&&aD Z G es args
 | .bi f es,.Call (.Name x _) (a::args) [] _=>x == cG f&&G.Gq (gC f)&&aD Z G es (a::args)
 | .EF,e=>M7 e
 | .DG a k,e=>M8 e fun o s=>aX s&&Du Z G a o&&Du Z G k s
 | .Hv n k a,e=>M9 e fun l o r=>o == nA n&&Du Z G k l&&Du Z G a r&&!behindInMarks o r
 | .FI a,e=>M' e fun x y e=>x == "len"&&G.gl.contains 0&&y == "set"&&G.gl.contains 12&&(notStar e&&G.cm)&&Du Z G a e
 | .Gb a,e=>Na e fun x o n l=>x == "sum"&&G.Gq 1&&isNm o&&n == "values"&&l&&Du Z G a o
 | .Hw x a y,e=>M6 e fun x' e' y'=>x == x'&&y == y'&&decide (x.length<=1000)&&Du Z G a e'
 | .Ik m o es,.Call (.Attribute oe name apos) (a::args) [] Dt=>name == fB m&&fE oe&&apos.endLine == Dt.line&&(decide ((a::args).length < 29)&&(G.cm||j9 m))&&Du Z G o oe&&aD Z G es (a::args)
 | .comp G' fr tg src ifs elt,.ListComp e gens scope _=>ny gens fun t it fs=>bF Z G scope G' fr&&bC G' tg t&&(Fg tg).all (fun i=>decide (fr.length<=i))&&(bT Z G src it&&eP src t)&&aD Z G' ifs fs&&Du Z G' elt e
 | _,_=>false
noncomputable def aD (Z:Sg)(G:Gm):List IR->List Expr->Bool
 | [],[]=>true
 | a::es,e::l=>notStar e&&Du Z G a e&&aD Z G es l
 | _,_=>false
noncomputable def ka (Z:Sg)(G:Gm):Option IR->Option Expr->Bool
 | none,none=>true
 | some a,some e=>Du Z G a e
 | _,_=>false
noncomputable def bT (Z:Sg)(G:Gm):Sr->Expr->Bool
 | .Eb n,.Call (.Name x _) [e] [] _=>x == "range"&&G.gl.contains 15&&notStar e&&Du Z G n e
 | .Ey a b,.Call (.Name x _) [e,e'] [] _=>x == "range"&&G.gl.contains 15&&notStar e&&notStar e'&&Du Z G a e&&Du Z G b e'
 | .zip a b,.Call (.Name x _) [e,e'] [] _=>x == "zip"&&G.gl.contains 17&&notStar e&&notStar e'&&Du Z G a e&&Du Z G b e'
 | .val a,e=>Du Z G a e
 | _,_=>false
end
noncomputable def Lc:List Value:=[.type "ValueError",.type "Exception",.type "BaseException",.type "object"]
def Fy (F:Addr->Prop)(H:Hp):Prop:=∀ a,F a->H a≠none
structure Out (K:PySem.W.Frag)(F:Addr->Prop)(H:Hp)(F':Addr->Prop)(H':Hp)(v:V)(d:D)(fv:List Addr):Prop where
 DC:Fy F' H'
 same:ar H H'
 rep:Dv K F' H' v d fv
 DJ:fv.Nodup
 new:∀ a∈fv,H a=none
 Ec:∀ a,F a->F' a
 out:∀ a,F' a->F a∨H a=none
noncomputable def Kl (K:PySem.W.Frag)(cl:Nat->List D->Res D)(xp:XK->Hp->Str->Prop)(f:Nat)(ps:List Str):Sp:=fun vs H Q E=>vs.length=ps.length/\Kj H/\∃ F ds,Fy F H/\De K F H vs ds/\
 Df (xp E H) (cl f (Dx ds)) fun d=>∀ v H' F' fv,Out K F H F' H' v d fv->Q v H'
structure Km (P:Program)(w:World)(K:PySem.W.Frag)(mg:Str->Option Value)(base:Heap)(CX:Er)(A:Around)(cl:Nat->List D->Res D)(xp:XK->Hp->Str->Prop)(f:Nat)(x:Str):Prop where
 ex:∃ (k:Nat) (fa:Addr) (fd:FuncData) (ps:List Str),mg x=some (.ref fa)/\PySem.W.keepIn K (.ref fa)=true/\Binds K fd ps []/\EL P w K mg base CX k fa fd ps (Kl K cl xp f ps)/\Ep k A/\
  ∀ (ex:Str->Prop) ds (k:D->Prop),Df ex (cl f ds) k->ds.length=ps.length
noncomputable def rm (a:Addr)(H:Hp):Hp:=fun b=>if b=a then none else H b
structure IZ (K:PySem.W.Frag)(a:Addr)(F:Addr->Prop)(H:Hp)(F':Addr->Prop)(H':Hp)(v:V)(d:D)(fv:List Addr)(kvs':List (Key×V))(Gr:List Key)(E9:List D):Prop where
 out:Out K F (rm a H) F' H' v d fv
 nF:¬ F' a
 nf:a∉fv
 at_:H' a=some (.dK kvs')
 ks:kvs'.map (·.1)=Gr
 vs:De K F' H' (kvs'.map (·.2)) E9
structure Ma (K:PySem.W.Frag)(a:Addr)(F:Addr->Prop)(H:Hp)(ws:List V)(ds:List D)(kvs:List (Key×V))(es:List D):Prop where
 DC:Fy F H
 nF:¬ F a
 at_:H a=some (.dK kvs)
 ws:De K F H ws ds
 vs:De K F H (kvs.map (·.2)) es
 lf:aF es=true
noncomputable def Mb (K:PySem.W.Frag)(cl:Nat->List D->Res D)(f:Nat)(ps:List Str):Sp:=fun vs H Q _=>vs.length=ps.length/\∃ a F ws ds kvs es,vs=ws++[.ref a]/\Ma K a F H ws ds kvs es/\
 ∃ d Gr E9,cl f (Dx ds++[.Dl false (kvs.map (·.1)) es])=.ok (.tup [d,.Dl false Gr E9])/\aF E9=true/\∀ v H' F' fv kvs',IZ K a F H F' H' v d fv kvs' Gr E9->Q v H'
structure Nb (P:Program)(w:World)(K:PySem.W.Frag)(mg:Str->Option Value)(base:Heap)(CX:Er)(A:Around)(cl:Nat->List D->Res D)(f:Nat)(x:Str):Prop where
 ex:∃ (k:Nat) (fa:Addr) (fd:FuncData) (ps:List Str),mg x=some (.ref fa)/\PySem.W.keepIn K (.ref fa)=true/\Binds K fd ps []/\EL P w K mg base CX k fa fd ps (Mb K cl f ps)/\Ep k A/\
  ∀ ds r,cl f ds=.ok r->ds.length=ps.length
structure Of (Z:Sg)(CX:Er)(cl:Nat->List D->Res D)(xp:XK->Hp->Str->Prop)(X:Cx):Prop where
 st:X.stack=X.env::X.outer
 fr:X.env.frame=some X.env.locals
 lt:Kj X.ET
 pl:∀ a:Addr,∀ f∈Z.fns,f∈Z.pl->∀ x,Z.name f=some x->Km X.prog X.w X.K X.mg X.base CX (X.A.mark (some (.ref a))) cl xp f x
 cx:∀ (outer:List Env) (H:Hp) (s:Shared) (E:XK) (e:Value) (s':Shared),CX outer H s E e s'->EH X.prog X.w outer H s E e s'
 xp:∀ (c:Str) (C:Addr) (H:Hp),PySem.W.nsIn X.K mainGlobals c=some (some (.ref C))->xp (fun cls _ _=>cls=.ref C) H c
structure DM (Z:Sg)(CX:Er)(cl:Nat->List D->Res D)(xp:XK->Hp->Str->Prop)(X:Cx)(ex:Str->Prop)(G:Gm):Prop where
 N:X.N=G.N
 DJ:G.N.Nodup
 calm:G.cm=true->X.calm=true
 fk:X.env.scope.kind=.function
 un:X.A.units+42 < cLine
 own:G.rs=true->PassesOwn (model X.prog X.w) X.A X.env X.xe
 kd:∀ (i:Nat) (x:Str),G.N[i]? = some x->X.env.kindOf x=G.kd[i]?
 Hd:∀ (i:Nat) (x:Str),G.N[i]? = some x->(x == ("__debug__" : Str))=false/\(x == ("__classdict__" : Str))=false
 gl:∀ n∈G.gl,∀ x,Z.name n=some x->Gl X x
 HU:∀ n x,Z.name n=some x->x≠"__name__"/\(x == ("__debug__" : Str))=false
 df:G.df=true->∀ x,X.fn x=true
 blt:∀ (n:Nat) (x:Str),a8[n]? = some x->X.mg x=none
 cst:∀ n d x,(n,d)∈Z.Lb->Z.name n=some x->∃ u v,X.mg x=some u/\RelV v u/\∀ S H,Dg X.K S H v d
 fns:∀ f∈Z.fns,(G.cm=true∨f∈Z.pl)->∀ x,Z.name f=some x->Km X.prog X.w X.K X.mg X.base CX X.A cl xp f x
 Ft:∀ f∈Z.Ft,G.cm=true->∀ x,Z.name f=some x->Nb X.prog X.w X.K X.mg X.base CX X.A cl f x
 I0:∀ n∈Z.cls,∀ x,Z.name n=some x->∃ v,CV X x v
 Ja:∀ c n b x,(c,n,b)∈Z.xt->Z.name n=some x->∃ C,PySem.W.nsIn X.K mainGlobals c=some (some (.ref C))/\ExcAt X.K C/\∀ v,CV X x v->PySem.W.kitOne X.K (.ref C) (vv v)=some b
 Jb:∀ c n x,(c,n)∈Z.xm->Z.name n=some x->∃ C C',PySem.W.nsIn X.K mainGlobals c=some (some (.ref C))/\PySem.W.nsIn X.K mainGlobals x=some (some (.ref C'))/\nameIn X.K C=some c/\X.mg x=some (.ref C')/\PySem.W.exmOne X.K (.ref C) (.ref C')=some true
 HV:∀ n c,(n,c)∈Z.rc->Z.name n=some c/\∃ C,X.mg c=some (.ref C)/\PySem.W.nsIn X.K mainGlobals c=some (some (.ref C))/\PySem.W.excIn X.K C Lc "ValueError.__new__" = true
 Mc:G.rs=true->∀ (pins:List (Addr×Obj)) (σ:St) (H:Hp) (s:Shared) (c:Str) (C:Addr) (h':Heap) (e:Addr) (vs:List Value),Inv X pins σ H s->ex c->PySem.W.nsIn X.K mainGlobals c=some (some (.ref C))->Heap.MadeExcOf s.heap h' e (.ref C) vs->X.xe (.ref e) {s with heap:=h'}
 tr:G.tr=true->Of Z CX cl xp X
 Ld:∃ E:XK,Passes CX X E/\∀ c H,ex c->xp E H c
 JB:∀ (outer:List Env) (H:Hp) (s:Shared) (E:XK) (e:Value) (s':Shared),DU X.prog X.w H s.heap->(∀ b∈Em outer,H b=none)->CX outer (aA s.heap H) s E e s'->CX outer H s E e s'
 JC:∀ (H:Hp) (outer:List Env) (s:Shared) (e:Value) (s':Shared),¬ CX outer H s (fun _ _ _=>False) e s'
section
variable {P:Program}{w:World}{H H':Hp}{h:Heap}{K:PySem.W.Frag}{Fc F':Addr->Prop}
theorem iw {vs:List V}{ds:List D}(x:DU P w H h)(m:De K Fc H vs ds):De K (fun a=>Fc a/\aA h H a≠none) (aA h H) vs ds:=by
 refine(m.step (S':=Fc) (H':=aA h H) (fun a xs f r=>⟨f,?_⟩) fun a xs r=>?_).Ga
 ·rcases r with r|⟨o,r⟩
  ·obtain⟨ob,he⟩:=(x a _ r).at
   refine .inr ⟨ob,?_⟩
   unfold aA
   rw[r]
   cases xs with
   | l ys=>show (h.get? a).map _=_;rw[he];rfl
   | d ys=>show (h.get? a).map _=_;rw[he];rfl
  ·refine .inr ⟨o,?_⟩
   unfold aA
   rw[r]
   cases xs<;>rfl
 ·cases xs with
  | inl xs=>
   rcases r with (r|⟨o,r⟩)|r
   ·refine .inl (.inl ?_)
    unfold aA
    rw[r]
   ·refine .inl (.inr ⟨o,?_⟩)
    unfold aA
    rw[r]
    rfl
   ·exact .inr r
  | inr c=>
   obtain⟨C,o,vs,h0,h1,h2,h3⟩:=r
   refine⟨C,o,vs,h0,h1,?_,h3⟩
   unfold aA
   rw[h2]
   rfl
theorem jv (x:DU P w H h)(p:Ge h (aA h H) H'){a:Addr}(n:aA h H a=none)(e:H' a≠none):H a=none:=by
 cases q:H a with
 | none=>rfl
 | some o=>
  obtain⟨ob,he⟩:=(x a o q).at
  exact absurd (p.free a ob he n) e
theorem iy {v:V}{d:D}{fv:List Addr}(x:DU P w H h)(DC:Fy Fc H)(p:Ge h (aA h H) H')(o:Out K (fun a=>Fc a/\aA h H a≠none) (aA h H) F' H' v d fv):Out K Fc H (fun a=>Fc a∨F' a) (cM H H') v d fv:=by
 have new:∀ a∈fv,H a=none:=fun a ha=>jv x p (o.new a ha) (by obtain⟨_,xs,e⟩:=o.rep.own a ha;rw[e];simp)
 refine⟨fun a ha=>?_,jt,o.rep.step (fun a xs f r=>⟨.inr f,?_⟩) (fun a xs r=>?_) fun a ha nf hn=>⟨fun z=>?_,res_none (new a ha)⟩,o.DJ,new,fun a ha=>.inl ha,fun a ha=>?_⟩
 ·cases q:H a with
  | some u=>rw[res_some q];simp
  | none=>
   rw[res_none q]
   rcases ha with ha|ha
   ·exact absurd q (DC a ha)
   ·exact o.DC a ha
 ·cases q:H a with
  | none=>unfold Rd;rw[res_none q];exact r
  | some u=>
   unfold Rd
   rw[res_some q]
   cases gB x p q with
   | lst _ z=>
    cases xs with
    | l ys=>
     rcases r with r|⟨o',r⟩
     ·rw[z] at r;cases r
     ·rw[z] at r;cases r;exact .inl rfl
    | d ys=>rcases r with r|⟨o',r⟩<;>(rw[z] at r;cases r)
   | dK _ z=>
    cases xs with
    | d ys=>
     rcases r with r|⟨o',r⟩
     ·rw[z] at r;cases r
     ·rw[z] at r;cases r;exact .inl rfl
    | l ys=>rcases r with r|⟨o',r⟩<;>(rw[z] at r;cases r)
   | tup z=>cases xs<;>rcases r with r|⟨o',r⟩<;>(rw[z] at r;cases r)
   | Dw _ z=>
    cases xs with
    | l ys=>
     rcases r with r|⟨o',r⟩
     ·rw[z] at r;cases r
     ·rw[z] at r;cases r;exact .inr ⟨_,rfl⟩
    | d ys=>
     rcases r with r|⟨o',r⟩
     ·rw[z] at r;cases r
     ·rw[z] at r;cases r;exact .inr ⟨_,rfl⟩
   | DQ _ _ z _ _ _=>exact absurd z r.some
 ·cases xs with
  | inl xs=>
   rcases r with r|r
   ·refine .inl ?_
    cases q:H a with
    | none=>unfold Rd;rw[res_none q];exact r
    | some u=>
     unfold Rd
     rw[res_some q]
     cases gB x p q with
     | lst _ z=>rcases r with r|⟨o',r⟩<;>(rw[z] at r;cases r)
     | dK _ z=>rcases r with r|⟨o',r⟩<;>(rw[z] at r;cases r)
     | tup z=>
      rcases r with r|⟨o',r⟩
      ·rw[z] at r;cases r;exact .inl rfl
      ·rw[z] at r;cases r
     | Dw _ z=>
      rcases r with r|⟨o',r⟩
      ·rw[z] at r;cases r
      ·rw[z] at r;cases r;exact .inr ⟨_,rfl⟩
     | DQ _ _ z _ _ _=>exact absurd z r.some
   ·exact .inr r
  | inr c=>
   obtain⟨C,ob,vs,h0,h1,h2,h3⟩:=r
   refine⟨C,ob,vs,h0,h1,?_,h3⟩
   cases q:H a with
   | none=>rw[res_none q];exact h2
   | some u=>
    rw[res_some q]
    cases gB x p q with
    | lst _ z=>rw[z] at h2;cases h2
    | dK _ z=>rw[z] at h2;cases h2
    | tup z=>rw[z] at h2;cases h2
    | Dw _ z=>rw[z] at h2;cases h2;rfl
    | DQ _ _ z _ _ _=>rw[z] at h2;cases h2
 ·rcases z with z|z
  ·exact DC a z (new a ha)
  ·exact nf z
 ·rcases ha with ha|ha
  ·exact .inl ha
  ·rcases o.out a ha with z|z
   ·exact .inl z.1
   ·exact .inr (jv x p z (o.DC a ha))
end
section
variable {X:Cx}{CX:Er}{cl:Nat->List D->Res D}{xp:XK->Hp->Str->Prop}
theorem Inv.Md {pins:List (Addr×Obj)}{σ:St}{H:Hp}{s:Shared}(I:Inv X pins σ H s):Gy X.prog X.w X.K X.mg X.base X.A X.stack s (aA s.heap H):=
 ⟨I.Fd.frames,I.Fd.mod,fun b o e=>⟨(I.Fd.bs b o e).1,bt (I.Fd.bs b o e).2⟩,I.Fd.Hq,I.Fd.En,fun b hb=>bt (I.Fd.Gi b hb),j7 I.Dz,I.Fd.bare⟩
theorem iz {k:Nat}{f:Nat}{fa:Addr}{fd:FuncData}{ps:List Str}{E:XK}{pins:List (Addr×Obj)}{σ:St}{H:Hp}{s:Shared}{Q:VK}{us:List Value}{vs:List V}{ds:List D}{Fc:Addr->Prop}
  (F:EL X.prog X.w X.K X.mg X.base CX k fa fd ps (Kl X.K cl xp f ps)) (hr:Ep k X.A) (hb:Binds X.K fd ps []) (hx:Passes CX X E)
  (hh:∀ (outer:List Env) (H:Hp) (s:Shared) (E:XK) (e:Value) (s':Shared),DU X.prog X.w H s.heap->(∀ b∈Em outer,H b=none)->CX outer (aA s.heap H) s E e s'->CX outer H s E e s')
  (I:Inv X pins σ H s) (r:Vals vs us) (hl:vs.length=ps.length) (DC:Fy Fc H) (m:De X.K Fc H vs ds)
  (q:Df (xp E (aA s.heap H)) (cl f (Dx ds)) fun d=>∀ v H' F' fv,Out X.K Fc H F' H' v d fv->Q v H'):wpAny (model X.prog X.w) X.A (call (.ref fa) us) (EP X pins σ Q) X.xe s:=by
 have Gn:Kl X.K cl xp f ps vs (aA s.heap H) (fun v H'=>Ge s.heap (aA s.heap H) H'->Q v (cM H H')) E:=
  ⟨hl,oP _ _,_,ds,fun a h=>h.2,iw I.Dz m,q.mono fun d hd v H' F' fv o p=>hd v _ _ fv (iy I.Dz DC p o)⟩
 have Kb:(us++([]:List Value)).length=ps.length:=by rw[List.append_nil,<- r.length];exact hl
 have bd:=hb s us I.G7 Kb
 rw[List.append_nil] at bd
 refine wpAny_call (codeAny_mono (F.run X.A X.stack s (aA s.heap H) ⟨us,[]⟩ us vs _ E hr I.Md bd r Gn) fun r' s' hq=>?_)
 cases r' with
 | error e=>exact hx pins σ H s e s' I (hh X.stack H s E e s' I.Dz I.Fd.Gi hq)
 | ok fl=>
  cases fl with
  | ret u=>
   obtain⟨v,H',a1,a2,a3,a4,a5,a6⟩:=hq
   exact I.after (Q:=Q) ⟨v,cM H H',a1,a2,j8 I.Dz a3,ip I.Dz a4 (dR a3) (fs:=Em X.stack) (fun b o _ e n f=>a3.keep b o e n f (by simp)) I.Fd.Gi,a5,a6 (dR a3)⟩
  | next=>exact False.elim hq
  | brk=>exact False.elim hq
  | cont=>exact False.elim hq
end
def Slots (K:PySem.W.Frag)(S:Addr->Prop)(H:Hp)(σ:St)(τ:Ev)(is:List Nat):Prop:=∀ i∈is,∀ d,aj τ i=some d->∃ v,σ[i]? = some (some v)/\Dg K S H v d
theorem Slots.sub {K:PySem.W.Frag}{S:Addr->Prop}{H:Hp}{σ:St}{τ:Ev}{is js:List Nat}(h:Slots K S H σ τ is)(s:∀ i∈js,i∈is):Slots K S H σ τ js:=fun i hi d e=>h i (s i hi) d e
theorem Slots.left {K:PySem.W.Frag}{S:Addr->Prop}{H:Hp}{σ:St}{τ:Ev}{is js:List Nat}(h:Slots K S H σ τ (is++js)):Slots K S H σ τ is:=h.sub fun _ hi=>List.mem_append_left _ hi
theorem Slots.right {K:PySem.W.Frag}{S:Addr->Prop}{H:Hp}{σ:St}{τ:Ev}{is js:List Nat}(h:Slots K S H σ τ (is++js)):Slots K S H σ τ js:=h.sub fun _ hi=>List.mem_append_right _ hi
theorem Slots.go {K:PySem.W.Frag}{S:Addr->Prop}{H H':Hp}{σ:St}{τ:Ev}{is:List Nat}(h:Slots K S H σ τ is)(e:ar H H'):Slots K (nw S H) H' σ τ is:=fun i hi d z=>by
 obtain⟨v,h1,h2⟩:=h i hi d z
 exact⟨v,h1,h2.mono (fun _=>.inl) e⟩
def RD (K:PySem.W.Frag)(ex:Str->Prop)(is:List Nat)(f:Ev->Res D):TE:=fun σ H Q=>∃ S τ,Slots K S H σ τ is/\Df ex (f τ) (Kk K S H Q)
def RT (K:PySem.W.Frag)(ex:Str->Prop)(is:List Nat)(f:Ev->Res Bool):TT:=fun σ H Q=>∃ S τ,Slots K S H σ τ is/\Df ex (f τ) fun b=>∀ H',ar H H'->Q b H'
def RA (K:PySem.W.Frag)(ex:Str->Prop)(is:List Nat)(f:Ev->Res (List D)):TA:=fun σ H Q=>∃ S τ,Slots K S H σ τ is/\Df ex (f τ) fun ds=>∀ vs H',ar H H'->De K (nw S H) H' vs ds->Q vs H'
noncomputable def Le (K:PySem.W.Frag)(ex:Str->Prop)(is:List Nat)(f:Ev->Res (Option Int)):TO:=fun σ H Q=>∃ S τ,Slots K S H σ τ is/\Df ex (f τ) fun o=>∀ H',ar H H'->Q o H'
def WS (K:PySem.W.Frag)(S:Addr->Prop)(H:Hp)(k:Zp.Kq)(a:Addr)(xs:List V):Prop:=match k with
 | .l=>(S a/\Rd H a (.lst xs))∨KL K a xs
 | .t=>EJ K H a xs
theorem WS.sq {K:PySem.W.Frag}{S:Addr->Prop}{H:Hp}{k:Zp.Kq}{a:Addr}{xs:List V}(h:WS K S H k a xs):Hr K H k a xs:=by
 cases k with
 | l=>exact h.elim (fun z=>.inl z.2) fun z=>z.sq
 | t=>exact h
inductive Fh (K:PySem.W.Frag)(S:Addr->Prop)(H:Hp):It->List D->Prop where
 | lst {a:Addr}{xs:List V}{ds:List D}:S a->Rd H a (.lst xs)->De K S H xs ds->Fh K S H (MO K a) ds
 | lstK {a:Addr}{xs:List V}{ds:List D}:KL K a xs->De K S H xs ds->Fh K S H (MO K a) ds
 | tup {a:Addr}{xs:List V}{ds:List D}:EJ K H a xs->De K S H xs ds->Fh K S H (NB K a) ds
 | G4 (lo hi:Int):Fh K S H (K1 lo (hi - lo).toNat) (bI lo hi)
 | str (x:Str):Fh K S H (Od x) (cP x)
 | zip {p q:Zp.Kq}{l m:Addr}{xs ys:List V}{ds es:List D}:WS K S H p l xs->WS K S H q m ys->De K S H xs ds->De K S H ys es->Fh K S H (N1 K p q l m) (nq ds es)
def RI (K:PySem.W.Frag)(ex:Str->Prop)(is:List Nat)(f:Ev->Res (List D)):TI:=fun σ H R=>∃ S τ,Slots K S H σ τ is/\Df ex (f τ) fun ds=>∀ J H',ar H H'->Fh K (nw S H) H' J ds->R J H'
theorem gD {S:Addr->Prop}{H H1:Hp}(e:ar H H1):∀ a,nw (nw S H) H1 a->nw S H a:=fun a h=>by
 rcases h with h|h
 ·exact h
 ·exact .inr (e.free h)
section
variable {Z:Sg}{CX:Er}{cl:Nat->List D->Res D}{xp:XK->Hp->Str->Prop}{X:Cx}{ex:Str->Prop}{G:Gm}
theorem Kk.fit {K:PySem.W.Frag}{S:Addr->Prop}{H H1:Hp}{Q:VK}{d:D}(e:ar H H1)(h:Kk K S H Q d):Kk K (nw S H) H1 Q d:=fun w H' e' m=>h w H' (e.trans e') (m.mono (gD e) (.refl _))
theorem fF (g:DM Z CX cl xp X ex G){n:Nat}{x:Str}(h:bN Z G n x=true):Gl X x/\Z.name n=some x/\x≠"__name__"/\(x == ("__debug__" : Str))=false:=by
 unfold bN at h
 rw[Bool.and_eq_true] at h
 have e:Z.name n=some x:=eq_of_beq h.1
 exact⟨g.gl n (by simpa using h.2) x e,e,g.HU n x e⟩
theorem uW (Z:Sg){n:Nat}{x:Str}(h:a8[n]? = some x):Z.name n=some x:=by
 unfold Sg.name
 rw[List.getElem?_append_left (List.getElem?_eq_some_iff.mp h).1]
 exact h
theorem cU (g:DM Z CX cl xp X ex G){n:Nat}{x:Str}(h:a8[n]? = some x)(hc:G.gl.contains n=true):Gl X x/\X.mg x=none/\x≠"__name__"/\(x == ("__debug__" : Str))=false:=
 ⟨g.gl n (by simpa using hc) x (uW Z h),g.blt n x h,g.HU n x (uW Z h)⟩
theorem ai {e:Expr}(h:notStar e=true)(es:List Expr)(env:Env):starEach (e::es) env=(false,eval e env)::starEach es env:=by
 cases e<;>first|rfl|cases h
theorem bj (Z:Sg)(G:Gm):∀ {es:List IR}{l:List Expr} (p:Pos) (env:Env),aD Z G es l=true->(backTo p (starEach l env)).any (·.1)=false
 | [],[],_,_,_=>rfl
 | a::es,e::l,p,env,h=>by
  have h':(notStar e&&Du Z G a e&&aD Z G es l)=true:=h
  simp only[Bool.and_eq_true] at h'
  rw[ai h'.1.1]
  have ih:=bj Z G (es:=es) (l:=l) p env h'.2
  show (false||(backTo p (starEach l env)).any (·.1))=false
  rw[ih]
  rfl
 | [],_::_,_,_,h=>by cases h
 | _::_,[],_,_,h=>by cases h
theorem oS {d:D}{v:V}(h:∀ S H,Dg X.K S H v d){σ:St}{H:Hp}{Q:VK}{is:List Nat}(q:RD X.K ex is (fun _=>.ok d) σ H Q):Q v H:=by
 obtain⟨S,τ,_,q⟩:=q
 exact q.ok _ _ (.refl _) (h _ _)
theorem An {e:Expr}{is:List Nat}{f:Ev->Res D}(h:PE X e (RD X.K ex is f))(he:∀ whole,isTrue e X.env whole=(do let v <- whole;standAt e.pos;holding [v] (truthy v))):PT X e (RT X.K ex is fun τ=>U (f τ) aU):=by
 intro pins s σ H Q I hw
 obtain⟨S,τ,hs,hw⟩:=hw
 refine isTrue_plain (DB (h pins s σ H (fun v H'=>∃ d,ar H H'/\Dg X.K (nw S H) H' v d/\Df ex (aU d) fun b=>∀ H',ar H H'->Q b H') I ⟨S,τ,hs,(Df.U hw).mono fun d hd v H' e m=>⟨d,e,m,hd⟩⟩) fun v s1 ⟨x,H1,I1,r1,d,e,m,hd⟩=>?_) (he _)
 exact eR I1 r1 m (hd.mono fun b z=>z H1 e)
end
section
variable {Z:Sg}{CX:Er}{cl:Nat->List D->Res D}{xp:XK->Hp->Str->Prop}{X:Cx}{ex:Str->Prop}{G:Gm}{K:PySem.W.Frag}{S:Addr->Prop}{H H1:Hp}{σ:St}{τ:Ev}
theorem aM {is:List Nat}{f:Ev->Res D}{Kt:D->Prop}{Q:VK}(e:ar H H1)(hs:Slots K S H σ τ is)(h:Df ex (f τ) Kt)(k:∀ x v H2,ar H H2->ar H1 H2->Dg K (nw S H) H2 v x->Kt x->Q v H2):RD K ex is f σ H1 Q:=
 ⟨nw S H,τ,hs.go e,h.mono fun x hx v H2 e2 m=>k x v H2 (e.trans e2) e2 (m.mono (gD e) (.refl _)) hx⟩
theorem iA {is:List Nat}{f:Ev->Res Bool}{Kt:Bool->Prop}{Q:Bool->Hp->Prop}(e:ar H H1)(hs:Slots K S H σ τ is)(h:Df ex (f τ) Kt)(k:∀ x H2,ar H H2->ar H1 H2->Kt x->Q x H2):RT K ex is f σ H1 Q:=
 ⟨nw S H,τ,hs.go e,h.mono fun x hx H2 e2=>k x H2 (e.trans e2) e2 hx⟩
theorem jw {is:List Nat}{f:Ev->Res (List D)}{Kt:List D->Prop}{Q:List V->Hp->Prop}(e:ar H H1)(hs:Slots K S H σ τ is)(h:Df ex (f τ) Kt)(k:∀ x v H2,ar H H2->ar H1 H2->De K (nw S H) H2 v x->Kt x->Q v H2):RA K ex is f σ H1 Q:=
 ⟨nw S H,τ,hs.go e,h.mono fun x hx v H2 e2 m=>k x v H2 (e.trans e2) e2 (m.mono (gD e) (.refl _)) hx⟩
theorem tE {is:List Nat}{f:Ev->Res (Option Int)}{Kt:Option Int->Prop}{Q:Option Int->Hp->Prop}(e:ar H H1)(hs:Slots K S H σ τ is)(h:Df ex (f τ) Kt)(k:∀ x H2,ar H H2->ar H1 H2->Kt x->Q x H2):Le K ex is f σ H1 Q:=
 ⟨nw S H,τ,hs.go e,h.mono fun x hx H2 e2=>k x H2 (e.trans e2) e2 hx⟩
theorem Dg.later {v:V}{d:D}{H2:Hp}(h:Dg K (L2.nw S H) H1 v d)(e:ar H1 H2):Dg K (L2.nw S H) H2 v d:=h.mono (fun _ z=>z) e
theorem De.later {v:List V}{d:List D}{H2:Hp}(h:De K (L2.nw S H) H1 v d)(e:ar H1 H2):De K (L2.nw S H) H2 v d:=h.mono (fun _ z=>z) e
theorem SV (g:DM Z CX cl xp X ex G){i:Nat}{x:Str}{pos:Pos}(h:cq G i x=true):PE X (.Name x pos) (RD X.K ex [i] (Dj cl (.v i))):=by
 unfold cq at h
 rw[Bool.and_eq_true] at h
 have hx:G.N[i]? = some x:=eq_of_beq h.1
 have hk:=g.kd i x hx
 have hv:Lx X.env.scope x:=by
  have h2:=h.2
  rw[Bool.or_eq_true,Bool.or_eq_true] at h2
  rcases h2 with (h2|h2)|h2
  ·exact .inl (hk.trans (eq_of_beq h2))
  ·exact .inr (.inl (hk.trans (eq_of_beq h2)))
  ·exact .inr (.inr (hk.trans (eq_of_beq h2)))
 refine az (nL (i:=i) (by rw[g.N];exact hx) hv (g.Hd i x hx).1 (g.Hd i x hx).2) fun σ H Q q=>?_
 obtain⟨S,τ,hs,q⟩:=q
 rw[Ah] at q
 cases z:aj τ i with
 | none=>rw[z] at q;exact q.no.elim
 | some d=>
  rw[z] at q
  obtain⟨v,h1,h2⟩:=hs i (by simp) d z
  exact⟨v,h1,q.ok _ _ (.refl _) h2.nw⟩
theorem SW {d:D}{k:Const}{j:Nat}{pos:Pos}(h:Am d k=true):PE X (.Constant k j pos) (RD X.K ex [] (Dj cl (.c d))):=by
 cases d with
 | DE=>
  cases k with
  | none=>exact az xc fun σ H Q q=>oS (fun _ _=>.DE) q
  | _=>cases h
 | bl b=>
  cases k with
  | bool b'=>
   have e:b=b':=eq_of_beq h
   subst e
   exact az zD fun σ H Q q=>oS (fun _ _=>.bl _) q
  | _=>cases h
 | int b=>
  cases k with
  | int b'=>
   have e:b=b':=eq_of_beq h
   subst e
   exact az w9 fun σ H Q q=>oS (fun _ _=>.int _) q
  | _=>cases h
 | str b=>
  cases k with
  | str b'=>
   have e:b=b':=eq_of_beq h
   subst e
   exact az eX fun σ H Q q=>oS (fun _ _=>.str _) q
  | _=>cases h
 | tup _=>cases k<;>cases h
 | lst _ _=>cases k<;>cases h
 | exc _=>cases k<;>cases h
 | Dl o ks ds=>cases k<;>cases h
theorem SX (g:DM Z CX cl xp X ex G){n:Nat}{d:D}{x:Str}{pos:Pos}(h:bN Z G n x=true)(hk:Z.Lb.any (fun p=>p.1 == n&&nv p.2 d)=true):PE X (.Name x pos) (RD X.K ex [] (Dj cl (.g n d))):=by
 obtain⟨h1,h2,h3,h4⟩:=fF g h
 rw[List.any_eq_true] at hk
 obtain⟨⟨m,d'⟩,hm,hk⟩:=hk
 rw[Bool.and_eq_true] at hk
 have e1:m=n:=eq_of_beq hk.1
 have e2:d'=d:=kS hk.2
 subst e1 e2
 obtain⟨u,v,hu,r,hr⟩:=g.cst m d' x hm h2
 exact az (si h1 hu r h4) fun σ H Q q=>oS hr q
theorem Ao {op:HN}{a b:Expr}{pos:Pos}{va vb:List Nat}{fa fb:Ev->Res D}(ha:PE X a (RD X.K ex va fa))(hb:PE X b (RD X.K ex vb fb)) :
  PE X (.BinOp a (Kg op) b pos) (RD X.K ex (va++vb) fun τ=>U (fa τ) fun x=>U (fb τ) fun y=>Fm op x y):=by
 refine az (uP (xX (ex:=ex) op) ha hb) fun σ H Q ⟨S,τ,hs,q⟩=>?_
 refine aM (.refl _) hs.left (Df.U q) fun x v H1 e1 _ m1 q1=>?_
 refine aM e1 hs.right (Df.U q1) fun y w H2 e2 Eg m2 q2=>?_
 exact⟨nw S H,x,y,m1.later Eg,m2,q2.mono fun d hd=>hd.fit e2⟩
theorem Ap {a:Expr}{pos:Pos}{va:List Nat}{fa:Ev->Res D}(ha:PE X a (RD X.K ex va fa)) :
  PE X (.UnaryOp .USub a pos) (RD X.K ex va fun τ=>U (fa τ) fun|.int i=>.ok (.int (-i))|_=>Dq):=by
 refine az (zN xD ha) fun σ H Q ⟨S,τ,hs,q⟩=>?_
 refine aM (.refl _) hs (Df.U q) fun x v H1 e1 _ m1 q1=>?_
 cases x with
 | int i=>cases m1.DD;exact⟨i,rfl,q1.ok _ _ e1 (.int _)⟩
 | _=>exact q1.no.elim
theorem Aq (g:DM Z CX cl xp X ex G){op:Hu}{a b:Expr}{pos:Pos}{va vb:List Nat}{fa fb:Ev->Res D}(ha:PE X a (RD X.K ex va fa))(hb:PE X b (RD X.K ex vb fb))(hm:behindInMarks (Kh op) b=false) :
  PE X (.Compare a [Kh op] [b] pos) (RD X.K ex (va++vb) fun τ=>U (fa τ) fun x=>U (fb τ) fun y=>U (GV op x y) fun r=>.ok (.bl r))/\
  PT X (.Compare a [Kh op] [b] pos) (RT X.K ex (va++vb) fun τ=>U (U (fa τ) fun x=>U (fb τ) fun y=>U (GV op x y) fun r=>.ok (.bl r)) aU):=by
 refine⟨az (sy (oJ (ex:=ex) g.un op) ha hb hm) fun σ H Q ⟨S,τ,hs,q⟩=>?_,eh (sE (oJ (ex:=ex) g.un op) ha hb hm) fun σ H Q ⟨S,τ,hs,q⟩=>?_⟩
 ·refine aM (.refl _) hs.left (Df.U q) fun x v H1 e1 _ m1 q1=>?_
  refine aM e1 hs.right (Df.U q1) fun y w H2 e2 Eg m2 q2=>?_
  exact⟨nw S H,x,y,m1.later Eg,m2,(Df.U q2).mono fun d hd=>hd.ok _ _ e2 (.bl _)⟩
 ·refine aM (.refl _) hs.left (Df.U (Df.U q)) fun x v H1 e1 _ m1 q1=>?_
  refine aM e1 hs.right (Df.U q1) fun y w H2 e2 Eg m2 q2=>?_
  exact⟨nw S H,x,y,m1.later Eg,m2,(Df.U q2).mono fun d hd=>⟨d,rfl,hd.ok.ok H2 e2⟩⟩
theorem uX {a b:Expr}{rest:List Expr}{pos:Pos}{va vb:List Nat}{fa fb:Ev->Res D}(ha:PE X a (RD X.K ex va fa))(hb:PE X (.BoolOp .And (b::rest) pos) (RD X.K ex vb fb)) :
  PE X (.BoolOp .And (a::b::rest) pos) (RD X.K ex (va++vb) fun τ=>U (fa τ) fun x=>U (aU x) fun r=>if r=true then fb τ else .ok x):=by
 intro pins s σ H Q I h
 obtain⟨S,τ,hs,q⟩:=h
 refine BoolOp_and (DB (ha pins s σ H (fun v H'=>∃ d,ar H H'/\Dg X.K (nw S H) H' v d/\_) I (aM (.refl _) hs.left (Df.U q) fun x v H1 e1 _ m1 q1=>⟨x,e1,m1,q1⟩)) fun v s1 ⟨x,H1,I1,r1,d,e1,m1,q1⟩=>?_)
 refine DB (eR (Q:=fun b H'=>H'=H1/\Df ex (if b=true then fb τ else .ok d) (Kk X.K S H Q)) I1 r1 m1 ((Df.U q1).mono fun b z=>⟨rfl,z⟩)) fun c s2 ⟨H2,I2,e2,q2⟩=>?_
 subst e2
 cases c with
 | true=>
  rw[if_pos rfl] at q2 ⊢
  exact hb pins s2 σ _ Q I2 (aM e1 hs.right q2 fun y w H3 e3 _ m3 q3=>q3 _ _ e3 m3)
 | false=>
  rw[if_neg Bool.false_ne_true] at q2 ⊢
  exact⟨x,_,I2,r1,q2.ok _ _ e1 m1⟩
theorem Ar {a b:Expr}{rest:List Expr}{pos:Pos}{va vb:List Nat}{fa fb:Ev->Res D}(ha:PE X a (RD X.K ex va fa))(hb:PE X (.BoolOp .Or (b::rest) pos) (RD X.K ex vb fb)) :
  PE X (.BoolOp .Or (a::b::rest) pos) (RD X.K ex (va++vb) fun τ=>U (fa τ) fun x=>U (aU x) fun r=>if r=true then .ok x else fb τ):=by
 intro pins s σ H Q I h
 obtain⟨S,τ,hs,q⟩:=h
 refine BoolOp_or (DB (ha pins s σ H (fun v H'=>∃ d,ar H H'/\Dg X.K (nw S H) H' v d/\_) I (aM (.refl _) hs.left (Df.U q) fun x v H1 e1 _ m1 q1=>⟨x,e1,m1,q1⟩)) fun v s1 ⟨x,H1,I1,r1,d,e1,m1,q1⟩=>?_)
 refine DB (eR (Q:=fun b H'=>H'=H1/\Df ex (if b=true then .ok d else fb τ) (Kk X.K S H Q)) I1 r1 m1 ((Df.U q1).mono fun b z=>⟨rfl,z⟩)) fun c s2 ⟨H2,I2,e2,q2⟩=>?_
 subst e2
 cases c with
 | false=>
  rw[if_neg Bool.false_ne_true] at q2 ⊢
  exact hb pins s2 σ _ Q I2 (aM e1 hs.right q2 fun y w H3 e3 _ m3 q3=>q3 _ _ e3 m3)
 | true=>
  rw[if_pos rfl] at q2 ⊢
  exact⟨x,_,I2,r1,q2.ok _ _ e1 m1⟩
theorem As {a:Expr}{pos:Pos}{va:List Nat}{fa:Ev->Res D}(ha:PE X a (RD X.K ex va fa))(ht:PT X a (RT X.K ex va fun τ=>U (fa τ) aU)) :
  PE X (.UnaryOp .Not a pos) (RD X.K ex va fun τ=>U (fa τ) fun x=>U (aU x) fun r=>.ok (.bl !r))/\PT X (.UnaryOp .Not a pos) (RT X.K ex va fun τ=>U (U (fa τ) fun x=>U (aU x) fun r=>.ok (.bl !r)) aU):=by
 constructor
 ·intro pins s σ H Q I h
  obtain⟨S,τ,hs,q⟩:=h
  refine UnaryOp_ (DB (ha pins s σ H (fun v H'=>∃ d,ar H H'/\Dg X.K (nw S H) H' v d/\_) I (aM (.refl _) hs (Df.U q) fun x v H1 e1 _ m1 q1=>⟨x,e1,m1,q1⟩)) fun v s1 ⟨x,H1,I1,r1,d,e1,m1,q1⟩=>?_)
  refine not_of (DB (eR (Q:=fun b H'=>Q (.bl !b) H') I1 r1 m1 ((Df.U q1).mono fun b z=>z.ok _ _ e1 (.bl _))) fun c s2 ⟨H2,I2,q2⟩=>⟨.bl !c,H2,I2,rfl,q2⟩)
 ·refine eh (xk ht) fun σ H Q ⟨S,τ,hs,q⟩=>?_
  exact iA (.refl _) hs (Df.mk ((Df.U (Df.U q)).mono fun x hx=>(Df.U hx).mono fun r hr=>hr.ok.ok)) fun x H2 e2 _ k=>k H2 e2
theorem oT {e:Expr}{pos:Pos}{op:BoolOp}{es:List Expr}{t:TT}(h:PT X (.BoolOp op es pos) t):PW X (.BoolOp op es pos) t:=fun _ pins s σ H Q I q=>h pins s σ H Q I q
theorem uY {a b:Expr}{rest:List Expr}{pos:Pos}{va vb:List Nat}{fa fb:Ev->Res D}(ha:PT X a (RT X.K ex va fun τ=>U (fa τ) aU))(hb:PW X (.BoolOp .And (b::rest) pos) (RT X.K ex vb fun τ=>U (fb τ) aU)) :
  PT X (.BoolOp .And (a::b::rest) pos) (RT X.K ex (va++vb) fun τ=>U (U (fa τ) fun x=>U (aU x) fun r=>if r=true then fb τ else .ok x) aU):=by
 refine eh (xi ha hb).pt fun σ H Q ⟨S,τ,hs,q⟩=>?_
 refine iA (.refl _) hs.left (Kt:=fun r=>Df ex (if r=true then U (fb τ) aU else .ok false) fun b=>∀ H',ar H H'->Q b H') (Df.mk ((Df.U (Df.U q)).mono fun x hx=>(Df.U hx).eq.mono fun r hr=>?_)) fun r H2 e2 _ k=>?_
 ·obtain⟨er,hr⟩:=hr
  cases r with
  | true=>rw[if_pos rfl] at hr ⊢;exact Df.mk hr
  | false=>
   rw[if_neg Bool.false_ne_true] at hr ⊢
   have JA:Df ex (aU x) _:=hr
   rw[er] at JA
   exact JA
 ·cases r with
  | true=>rw[if_pos rfl] at k ⊢;exact iA e2 hs.right k fun b H3 e3 _ z=>z H3 e3
  | false=>rw[if_neg Bool.false_ne_true] at k ⊢;exact k.ok H2 e2
theorem Au {a b:Expr}{rest:List Expr}{pos:Pos}{va vb:List Nat}{fa fb:Ev->Res D}(ha:PT X a (RT X.K ex va fun τ=>U (fa τ) aU))(hb:PW X (.BoolOp .Or (b::rest) pos) (RT X.K ex vb fun τ=>U (fb τ) aU)) :
  PT X (.BoolOp .Or (a::b::rest) pos) (RT X.K ex (va++vb) fun τ=>U (U (fa τ) fun x=>U (aU x) fun r=>if r=true then .ok x else fb τ) aU):=by
 refine eh (zF ha hb).pt fun σ H Q ⟨S,τ,hs,q⟩=>?_
 refine iA (.refl _) hs.left (Kt:=fun r=>Df ex (if r=true then .ok true else U (fb τ) aU) fun b=>∀ H',ar H H'->Q b H') (Df.mk ((Df.U (Df.U q)).mono fun x hx=>(Df.U hx).eq.mono fun r hr=>?_)) fun r H2 e2 _ k=>?_
 ·obtain⟨er,hr⟩:=hr
  cases r with
  | false=>rw[if_neg Bool.false_ne_true] at hr ⊢;exact Df.mk hr
  | true=>
   rw[if_pos rfl] at hr ⊢
   have JA:Df ex (aU x) _:=hr
   rw[er] at JA
   exact JA
 ·cases r with
  | false=>rw[if_neg Bool.false_ne_true] at k ⊢;exact iA e2 hs.right k fun b H3 e3 _ z=>z H3 e3
  | true=>rw[if_pos rfl] at k ⊢;exact k.ok H2 e2
theorem Av {es:List Expr}{n:Nat}{pos:Pos}{va:List Nat}{fa:Ev->Res (List D)}(h:PA X es (RA X.K ex va fa)):PE X (.Tuple es n pos) (RD X.K ex va fun τ=>U (fa τ) fun ds=>Dk (aZ ds.length) (.ok (.tup ds))):=by
 refine az (nW h) fun σ H Q ⟨S,τ,hs,q⟩=>?_
 refine jw (.refl _) hs (Df.U q) fun ds vs H1 e1 _ m1 q1=>?_
 obtain⟨g,q1⟩:=Df.Dk q1
 exact⟨by rw[m1.length];exact aQ g,fun p hp=>q1.ok _ _ (e1.trans (.upd hp)) ((CP hp m1).mono (gD e1) (.refl _))⟩
theorem Aw {es:List Expr}{pos:Pos}{va:List Nat}{fa:Ev->Res (List D)}(h:PA X es (RA X.K ex va fa)):PE X (.List es pos) (RD X.K ex va fun τ=>U (fa τ) fun ds=>Dk (aZ ds.length) (.ok (.lst true ds))):=by
 refine az (nX h) fun σ H Q ⟨S,τ,hs,q⟩=>?_
 refine jw (.refl _) hs (Df.U q) fun ds vs H1 e1 _ m1 q1=>?_
 obtain⟨g,q1⟩:=Df.Dk q1
 exact⟨by rw[m1.length];exact aQ g,fun p hp=>q1.ok _ _ (e1.trans (.upd hp)) ((j5 hp m1).mono (gD e1) (.refl _))⟩
theorem Ax {a b:Expr}{pos:Pos}{va vb:List Nat}{fa fb:Ev->Res D}(ha:PE X a (RD X.K ex va fa))(hb:PE X b (RD X.K ex vb fb))(hp:aX b=true) :
  PE X (.Subscript a b pos) (RD X.K ex (va++vb) fun τ=>U (fa τ) fun x=>U (fb τ) fun y=>aW x y):=by
 refine az (zR (tw (ex:=ex)) ha hb fun o i=>by cases b<;>first|rfl|cases hp) fun σ H Q ⟨S,τ,hs,q⟩=>?_
 refine aM (.refl _) hs.left (Df.U q) fun x v H1 e1 _ m1 q1=>?_
 refine aM e1 hs.right (Df.U q1) fun y w H2 e2 Eg m2 q2=>?_
 exact⟨nw S H,x,y,m1.later Eg,m2,q2.mono fun d hd=>hd.fit e2⟩
theorem CY {a:Expr}{lo hi:Option Expr}{pos p2:Pos}{va vl vh:List Nat}{fa:Ev->Res D}{fl fh:Ev->Res (Option Int)}(ha:PE X a (RD X.K ex va fa))(hl:PO X lo (Le X.K ex vl fl))(hh:PO X hi (Le X.K ex vh fh)) :
  PE X (.Subscript a (.Slice lo hi none p2) pos) (RD X.K ex (va++vl++vh) fun τ=>U (fa τ) fun x=>U (fl τ) fun l=>U (fh τ) fun h=>ia x l h):=by
 refine az (jc (tx (ex:=ex)) ha hl hh) fun σ H Q ⟨S,τ,hs,q⟩=>?_
 refine aM (.refl _) hs.left.left (Df.U q) fun x v H1 e1 _ m1 q1=>?_
 refine tE e1 hs.left.right (Df.U q1) fun l H2 e2 Eg q2=>?_
 refine tE e2 hs.right (Df.U q2) fun h H3 e3 Ko q3=>?_
 exact⟨nw S H,x,m1.later (Eg.trans Ko),q3.mono fun d hd=>hd.fit e3⟩
theorem s_call (g:DM Z CX cl xp X ex G){f:Nat}{x:Str}{p pos:Pos}{es:List IR}{args:List Expr}(h1:bN Z G f x=true)(h2:Z.Hx G f=true)(DN:aD Z G es args=true)(h:PA X args (RA X.K ex (aq es) (aH cl es))) :
  PE X (.Call (.Name x p) args [] pos) (RD X.K ex (aq es) fun τ=>U (aH cl es τ) fun ds=>cl f (Dx ds)):=by
 obtain⟨k1,k2,k3,k4⟩:=fF g h1
 obtain⟨k,Me,fd,ps,hm,F8,hb,F,hr,hlen⟩:=(g.fns f (ez h2).1 (ez h2).2 x k2).ex
 obtain⟨E,hP,hE⟩:=g.Ld
 intro pins s σ H Q I q
 obtain⟨S,τ,hs,q⟩:=q
 have fin:∀ (us:List Value) (s1:Shared) (vs:List V) (H1:Hp) (ds:List D),Inv X pins σ H1 s1->Vals vs us->ar H H1->De X.K (nw S H) H1 vs ds->Df ex (cl f (Dx ds)) (Kk X.K S H Q)->wpAny (model X.prog X.w) X.A (call (.ref Me) us) (EP X pins σ Q) X.xe s1:=by
  intro us s1 vs H1 ds I1 r e m q1
  have hl:=hlen ex _ _ q1
  rw[bz] at hl
  refine iz F hr hb hP g.JB I1 r (by rw[m.length];exact hl) (Fc:=fun a=>nw S H a/\H1 a≠none) (fun a z=>z.2) m.Ga ?_
  cases z:cl f (Dx ds) with
  | error er=>
   rw[z] at q1
   cases er with
   | stuck=>exact q1.no.elim
   | exc c=>exact hE c _ q1
  | ok d=>
   rw[z] at q1
   intro v H' F' fv o
   refine q1.ok _ _ (e.trans o.same) (o.rep.read (fun a ha=>?_) fun a ha=>?_)
   ·rcases o.out a ha with z|z
    ·exact z.1
    ·exact .inr (e.free z)
   ·exact .inr (e.free (o.new a ha))
 refine wpAny_Call_Name_kw (cA I k1 hm ?_ k4)
 cases args with
 | nil=>
  cases es with
  | cons _ _=>cases DN
  | nil=>
   exact PySem.W.callWith_K0 I.G7 F8 (fin [] s [] H [] I .nil (.refl _) .nil q)
 | cons e l=>
  cases es with
  | nil=>cases DN
  | cons a es=>
   have DF:(notStar e&&Du Z G a e&&aD Z G es l)=true:=DN
   simp only[Bool.and_eq_true] at DF
   refine PySem.W.callWith_K (h₀:=X.base) I.ok.mod.Ig F8 (DB (h pos pins s σ H (fun vs H1=>∃ ds,ar H H1/\De X.K (nw S H) H1 vs ds/\Df ex (cl f (Dx ds)) (Kk X.K S H Q)) I ⟨S,τ,hs,(Df.U q).mono fun ds hd vs H1 e m=>⟨ds,e,m,hd⟩⟩) fun us s1 ⟨vs,H1,I1,r,ds,e,m,q1⟩=>⟨I1.G7,?_⟩) (ai DF.1.1 l X.env) (bj Z G (es:=es) pos X.env DF.2)
   exact fin us s1 vs H1 ds I1 r e m q1
theorem CZ (g:DM Z CX cl xp X ex G){f:Bi}{p pos:Pos}{es:List IR}{a:Expr}{args:List Expr}(hg:G.Gq (gC f)=true)(DN:aD Z G es (a::args)=true)(h:PA X (a::args) (RA X.K ex (aq es) (aH cl es))) :
  PE X (.Call (.Name (cG f) p) (a::args) [] pos) (RD X.K ex (aq es) fun τ=>U (aH cl es τ) fun ds=>bX f ds):=by
 obtain⟨k1,k2,k3,k4⟩:=cU g (oQ f) (iq hg)
 cases es with
 | nil=>cases DN
 | cons b es=>
  have DF:(notStar a&&Du Z G b a&&aD Z G es args)=true:=DN
  simp only[Bool.and_eq_true] at DF
  have mono:∀ σ H Q,RD X.K ex (aq (b::es)) (fun τ=>U (aH cl (b::es) τ) fun ds=>bX f ds) σ H Q->NI (Qk X.K ex f) (RA X.K ex (aq (b::es)) (aH cl (b::es))) σ H Q:=by
   rintro σ H Q ⟨S,τ,hs,q⟩
   refine jw (.refl _) hs (Df.U q) fun ds vs H1 e1 _ m1 q1=>?_
   exact⟨nw S H,ds,m1,q1.mono fun d hd=>hd.fit e1⟩
  refine az ?_ mono
  have hv:=kR f
  have hc:=tD (X:=X) (ex:=ex) (g.calm (ir hg)) f
  unfold oK at hv hc
  cases z:Aj f with
  | true=>
   rw[z,if_pos rfl] at hv hc
   exact ee hc k1 k2 hv h k3 k4 (ai DF.1.1 args X.env) (bj Z G (es:=es) pos X.env DF.2)
  | false=>
   rw[z,if_neg Bool.false_ne_true] at hv hc
   exact nY hc k1 k2 hv h k3 k4 (ai DF.1.1 args X.env) (bj Z G (es:=es) pos X.env DF.2)
theorem Ay {x:Str}{y:Option Str}{e e':Expr}{va:List Nat}{fa:Ev->Res D}(hx:x.length<=1000)(he:(∃ j p q pos,y=none/\e=.JoinedStr [.Constant (.str x) j p,.FormattedValue e' 114 none q] pos)∨∃ w j p q j' r pos,y=some w/\e=.JoinedStr [.Constant (.str x) j p,.FormattedValue e' 114 none q,.Constant (.str w) j' r] pos)(ha:PE X e' (RD X.K ex va fa)) :
  PE X e (RD X.K ex va fun τ=>U (fa τ) (oG x y)):=by
 rcases he with ⟨j,p,q,pos,rfl,rfl⟩|⟨w,j,p,q,j',r,pos,rfl,rfl⟩
 ·refine az (sV hx ha) fun σ H Q ⟨S,τ,hs,q⟩=>?_
  refine aM (.refl _) hs (Df.U q) fun d v H1 e1 _ m1 q1=>?_
  cases d with
  | str z=>
   cases m1.DY
   obtain⟨g,q1⟩:=Df.Dk q1
   have g:=aQ g
   have e0:Str.empty.length=0:=rfl
   have g:x.length+(reprText z).length+Str.empty.length<=sizeLine:=g
   have q1:Kk X.K S H Q (.str (x++reprText z++Str.empty)):=q1.ok
   rw[Str.append_empty] at q1
   exact⟨z,rfl,by omega,q1 _ _ e1 (.str _)⟩
  | _=>exact q1.no.elim
 ·refine az (sW hx ha) fun σ H Q ⟨S,τ,hs,q⟩=>?_
  refine aM (.refl _) hs (Df.U q) fun d v H1 e1 _ m1 q1=>?_
  cases d with
  | str z=>
   cases m1.DY
   obtain⟨g,q1⟩:=Df.Dk q1
   exact⟨z,rfl,aQ g,q1.ok _ _ e1 (.str _)⟩
  | _=>exact q1.no.elim
theorem kb {d:D}(h:dy d=true):∃ x,d=.str x:=by
 cases d<;>first|exact⟨_,rfl⟩|cases h
theorem Az (g:DM Z CX cl xp X ex G){m:Mt}{o:Expr}{apos Dt:Pos}{vo:List Nat}{fo:Ev->Res D}{es:List IR}{a:Expr}{args:List Expr}(hn:fE o=true)(hl:(apos.endLine == Dt.line)=true)(hlen:(a::args).length < 29)(Fo:(G.cm||j9 m)=true)
  (DN:aD Z G es (a::args)=true) (ho:PE X o (RD X.K ex vo fo)) (h:PA X (a::args) (RA X.K ex (aq es) (aH cl es))) :
  PE X (.Call (.Attribute o (fB m) apos) (a::args) [] Dt) (RD X.K ex (vo++aq es) fun τ=>U (fo τ) fun x=>Dk (dy x) (U (aH cl es τ) fun ds=>fy m x ds)):=by
 cases es with
 | nil=>cases DN
 | cons b es=>
  have DF:(notStar a&&Du Z G b a&&aD Z G es args)=true:=DN
  simp only[Bool.and_eq_true] at DF
  have star:=bj Z G (es:=es) Dt X.env DF.2
  have mono:∀ σ H Q,RD X.K ex (vo++aq (b::es)) (fun τ=>U (fo τ) fun x=>Dk (dy x) (U (aH cl (b::es) τ) fun ds=>fy m x ds)) σ H Q->PB X.K "str" (Ql X.K ex m) (RD X.K ex vo fo) (RA X.K ex (aq (b::es)) (aH cl (b::es))) σ H Q:=by
   rintro σ H Q ⟨S,τ,hs,q⟩
   refine aM (.refl _) hs.left (Df.U q) fun x v H1 e1 _ m1 q1=>?_
   obtain⟨gd,q1⟩:=Df.Dk q1
   obtain⟨z,rfl⟩:=kb gd
   cases m1.DY
   refine⟨rfl,jw e1 hs.right (Df.U q1) fun ds vs H2 e2 Eg m2 q2=>?_⟩
   exact⟨nw S H,.str z,ds,.str z,m2,q2.mono fun d hd=>hd.fit e2⟩
  have EM:attributeBase o (fB m) X.env (eval o X.env)=eval o X.env:=by
   cases o with
   | Call f args Fi pos=>
    cases args with
    | nil=>
     cases Fi with
     | nil=>cases hn
     | cons _ _=>cases f<;>rfl
    | cons _ _=>cases f<;>rfl
   | _=>rfl
  have Og:(backTo Dt (starEach (a::args) X.env)).all (fun x=>!x.1)=true:=by
   rw[ai DF.1.1]
   show (true&&(backTo Dt (starEach args X.env)).all (fun x=>!x.1))=true
   rw[Bool.true_and,List.all_eq_true]
   intro y hy
   have:=List.any_eq_false.mp star y hy
   simpa using this
  have F4:((backTo Dt (starEach (a::args) X.env)).all (fun x=>!x.1)&&(backToKw Dt (keywordEach [] X.env)).all (fun x=>x.1.isSome)&&decide ((a::args).length+([]:List Keyword).length+(if ([]:List Keyword).isEmpty then 0 else 1) < 30))=true:=by
   rw[Og]
   have:decide ((a::args).length+([]:List Keyword).length+(if ([]:List Keyword).isEmpty then 0 else 1) < 30)=true:=decide_eq_true (by simp at hlen ⊢;omega)
   rw[this]
   rfl
  refine az ?_ mono
  cases m with
  | join=>exact kH PySem.F.plainAttrs_str PySem.F.slot_str_join PySem.F.type_str_join (il (ex:=ex) .join fun z=>by cases z) ho h EM F4 hl (ai DF.1.1 args X.env) star
  | index=>exact kH PySem.F.plainAttrs_str PySem.F.slot_str_index PySem.F.type_str_index (il (ex:=ex) .index fun _=>g.calm (by rw[Bool.or_eq_true] at Fo;exact Fo.elim id fun z=>by cases z)) ho h EM F4 hl (ai DF.1.1 args X.env) star
  | starts=>exact kH PySem.F.plainAttrs_str PySem.F.slot_str_startswith PySem.F.type_str_startswith (il (ex:=ex) .starts fun z=>by cases z) ho h EM F4 hl (ai DF.1.1 args X.env) star
end
section
variable {Z:Sg}{CX:Er}{cl:Nat->List D->Res D}{xp:XK->Hp->Str->Prop}{X:Cx}{ex:Str->Prop}{G:Gm}
theorem c8 {K:PySem.W.Frag}{S:Addr->Prop}{H:Hp}{w:V}{y:D}{q:Key}(m:Dg K S H w y)(h:bQ y=some q):w=kV q:=by
 cases y with
 | int i=>cases h;cases m.DD;rfl
 | str x=>cases h;cases m.DY;rfl
 | _=>cases h
theorem fG {K:PySem.W.Frag}{S:Addr->Prop}{H:Hp}(q:Key):∀ (kvs:List (Key×V)) (ds:List D),De K S H (kvs.map (·.2)) ds->
  (∀ d,look (kvs.map (·.1)) ds q=some d->∃ v,ei kvs q=some v/\Dg K S H v d)/\(look (kvs.map (·.1)) ds q).isSome=(ei kvs q).isSome:=by
 intro kvs
 induction kvs with
 | nil=>intro ds _;exact⟨fun d h=>(by cases h),rfl⟩
 | cons p kvs ih=>
  intro ds m
  rw[List.map_cons] at m
  cases ds with
  | nil=>exact absurd m.length (by simp)
  | cons d ds=>
   cases m with
   | cons m1 m2=>
    obtain⟨i1,i2⟩:=ih ds m2
    have e1:look ((p::kvs).map (·.1)) (d::ds) q=if p.1=q then some d else look (kvs.map (·.1)) ds q:=rfl
    rw[e1]
    unfold ei at i1 i2 ⊢
    rw[List.find?_cons]
    by_cases h:p.1=q
    ·rw[if_pos h,decide_eq_true h]
     exact⟨fun d' z=>⟨p.2,rfl,by cases z;exact m1⟩,rfl⟩
    ·rw[if_neg h,decide_eq_false h]
     exact⟨i1,i2⟩
theorem Dg.HW {K:PySem.W.Frag}{S:Addr->Prop}{H:Hp}{v:V}{o:Bool}{ks:List Key}{ds:List D}(h:Dg K S H v (.Dl o ks ds)):∃ a kvs,v=.ref a/\Rd H a (.dK kvs)/\kvs.map (·.1)=ks/\De K S H (kvs.map (·.2)) ds:=by
 cases h with
 | Dl h0 h1 h2 h3=>exact⟨_,_,rfl,h1,h2,h3⟩
theorem yh {pos:Pos}:PE X (.Dict [] [] pos) (RD X.K ex [] (Dj cl .EF)):=by
 refine az ji fun σ H Q ⟨S,τ,hs,q⟩=>fun p hp=>?_
 exact q.ok _ _ (.upd hp) (.Dl (kvs:=[]) (.inr hp) (.inl ao) rfl .nil)
theorem yi (g:DM Z CX cl xp X ex G){a b:Expr}{pos:Pos}{va vb:List Nat}{fa fb:Ev->Res D}(ha:PE X a (RD X.K ex va fa))(hb:PE X b (RD X.K ex vb fb))(hp:aX b=true) :
  PE X (.Subscript a b pos) (RD X.K ex (va++vb) fun τ=>U (fa τ) fun x=>U (fb τ) fun y=>fx x y):=by
 have hu:=g.un
 refine az (sU (by omega) ha hb fun o i=>by cases b<;>first|rfl|cases hp) fun σ H Q ⟨S,τ,hs,q⟩=>?_
 refine aM (.refl _) hs.left (Df.U q) fun x v H1 e1 _ m1 q1=>?_
 refine aM e1 hs.right (Df.U q1) fun y w H2 e2 Eg m2 q2=>?_
 cases x with
 | Dl o ks ds=>
  have q3:Df ex (match bQ y with|some q=>(match look ks ds q with|some d=>.ok d|none=>Dq)|none=>Dq) (Kk X.K S H Q):=q2
  cases hk:bQ y with
  | none=>rw[hk] at q3;exact q3.no.elim
  | some k=>
   simp only[hk] at q3
   obtain⟨p,kvs,rfl,h1,rfl,h3⟩:=(m1.later Eg).HW
   cases hl:look (kvs.map (·.1)) ds k with
   | none=>rw[hl] at q3;exact q3.no.elim
   | some d=>
    rw[hl] at q3
    obtain⟨v,hv,mv⟩:=(fG k kvs ds h3).1 d hl
    exact⟨p,v,rfl,.inl ⟨kvs,k,h1,c8 m2 hk,hv.symm⟩,q3.ok _ _ e2 mv⟩
 | _=>exact q2.no.elim
theorem bZ {is:List Nat}{f:Ev->Res D}{σ:St}{H:Hp}{Q Q':VK}(h:RD X.K ex is f σ H Q)(m:∀ v H',Q v H'->Q' v H'):RD X.K ex is f σ H Q':=by
 obtain⟨S,τ,hs,q⟩:=h
 exact⟨S,τ,hs,q.mono fun d hd w H' e r=>m w H' (hd w H' e r)⟩
theorem jx {n:Bool}{va vb:List Nat}{fa fb:Ev->Res D}{σ:St}{H:Hp}{Q:VK}(h:RD X.K ex (vb++va) (fun τ=>U (fb τ) fun y=>U (fa τ) fun x=>jl n x y) σ H Q) :
  RD X.K ex vb fb σ H fun y H1=>RD X.K ex va fa σ H1 fun x H2=>∃ a o,x=.ref a/\g9 H2 a y o/\Q (.bl (n != o.isSome)) H2:=by
 obtain⟨S,τ,hs,q⟩:=h
 refine aM (.refl _) hs.left (Df.U q) fun y w H1 e1 _ m1 q1=>?_
 refine aM e1 hs.right (Df.U q1) fun x v H2 e2 Eg m2 q2=>?_
 cases x with
 | Dl o ks ds=>
  have q3:Df ex (match bQ y with|some q=>.ok (.bl (n != (look ks ds q).isSome))|none=>Dq) (Kk X.K S H Q):=q2
  cases hk:bQ y with
  | none=>rw[hk] at q3;exact q3.no.elim
  | some k=>
   simp only[hk] at q3
   obtain⟨p,kvs,rfl,h1,rfl,h3⟩:=m2.HW
   rw[(fG k kvs ds h3).2] at q3
   exact⟨p,_,rfl,.inl ⟨kvs,k,h1,c8 (m1.later Eg) hk,rfl⟩,q3.ok _ _ e2 (.bl _)⟩
 | _=>exact q2.no.elim
theorem gE {n:Bool}{va vb:List Nat}{fa fb:Ev->Res D}{σ:St}{H:Hp}{Q:Bool->Hp->Prop}(h:RT X.K ex (vb++va) (fun τ=>U (U (fb τ) fun y=>U (fa τ) fun x=>jl n x y) aU) σ H Q) :
  RD X.K ex vb fb σ H fun y H1=>RD X.K ex va fa σ H1 fun x H2=>∃ a o,x=.ref a/\g9 H2 a y o/\∃ c,V.bl (n != o.isSome)=.bl c/\Q c H2:=by
 obtain⟨S,τ,hs,q⟩:=h
 refine aM (.refl _) hs.left (Df.U (Df.U q)) fun y w H1 e1 _ m1 q1=>?_
 refine aM e1 hs.right (Df.U q1) fun x v H2 e2 Eg m2 q2=>?_
 cases x with
 | Dl o ks ds=>
  cases hk:bQ y with
  | none=>
   have q3:jl n (.Dl o ks ds) y=Dq:=by show ((match bQ y with|some q=>.ok (.bl (n != (look ks ds q).isSome))|none=>Dq:Res D))=_;rw[hk]
   rw[q3] at q2;exact q2.no.elim
  | some k=>
   have q3:jl n (.Dl o ks ds) y=.ok (.bl (n != (look ks ds k).isSome)):=by show ((match bQ y with|some q=>.ok (.bl (n != (look ks ds q).isSome))|none=>Dq:Res D))=_;rw[hk]
   rw[q3] at q2
   obtain⟨p,kvs,rfl,h1,rfl,h3⟩:=m2.HW
   rw[(fG k kvs ds h3).2] at q2
   exact⟨p,_,rfl,.inl ⟨kvs,k,h1,c8 (m1.later Eg) hk,rfl⟩,_,rfl,(q2.ok).ok _ e2⟩
 | _=>exact q2.no.elim
theorem AB (g:DM Z CX cl xp X ex G){n:Bool}{a b:Expr}{pos:Pos}{va vb:List Nat}{fa fb:Ev->Res D}(hb:PE X b (RD X.K ex vb fb))(ha:PE X a (RD X.K ex va fa))(hm:behindInMarks (nA n) a=false) :
  PE X (.Compare b [nA n] [a] pos) (RD X.K ex (vb++va) fun τ=>U (fb τ) fun y=>U (fa τ) fun x=>jl n x y)/\
  PT X (.Compare b [nA n] [a] pos) (RT X.K ex (vb++va) fun τ=>U (U (fb τ) fun y=>U (fa τ) fun x=>jl n x y) aU):=by
 have hu:=g.un
 cases n with
 | false=>
  refine⟨az (nM (n9 (by omega) hb ha) hm) fun σ H Q h=>?_,eh (nN (n9 (by omega) hb ha) hm) fun σ H Q h=>?_⟩
  ·refine bZ (jx h) fun y H1 z=>bZ z fun x H2 ⟨p,o,e,d,q⟩=>⟨p,o,e,d,?_⟩
   rw[show (false != o.isSome)=o.isSome by cases o.isSome<;>rfl] at q
   exact q
  ·refine bZ (gE h) fun y H1 z=>bZ z fun x H2 ⟨p,o,e,d,q⟩=>⟨p,o,e,d,?_⟩
   rw[show (false != o.isSome)=o.isSome by cases o.isSome<;>rfl] at q
   exact q
 | true=>
  refine⟨az (nM (gu (by omega) hb ha) hm) fun σ H Q h=>?_,eh (nN (gu (by omega) hb ha) hm) fun σ H Q h=>?_⟩
  ·refine bZ (jx h) fun y H1 z=>bZ z fun x H2 ⟨p,o,e,d,q⟩=>⟨p,o,e,d,?_⟩
   rw[show (true != o.isSome) = !o.isSome by cases o.isSome<;>rfl] at q
   exact q
  ·refine bZ (gE h) fun y H1 z=>bZ z fun x H2 ⟨p,o,e,d,q⟩=>⟨p,o,e,d,?_⟩
   rw[show (true != o.isSome) = !o.isSome by cases o.isSome<;>rfl] at q
   exact q
end
section
variable {Z:Sg}{CX:Er}{cl:Nat->List D->Res D}{xp:XK->Hp->Str->Prop}{X:Cx}{ex:Str->Prop}{G:Gm}
theorem yj (g:DM Z CX cl xp X ex G){e:Expr}{p p' pos pos':Pos}{va:List Nat}{fa:Ev->Res D}(h1:G.gl.contains 0=true)(h2:G.gl.contains 12=true)(hn:notStar e=true)(Fo:G.cm=true)(ha:PE X e (RD X.K ex va fa)) :
  PE X (.Call (.Name "len" p) [.Call (.Name "set" p') [e] [] pos'] [] pos) (RD X.K ex va fun τ=>U (fa τ) kM):=by
 obtain⟨k1,k2,k3,k4⟩:=cU g (show a8[0]? = some ("len" : Str) from rfl) h1
 obtain⟨j1,j2,j3,j4⟩:=cU g (show a8[12]? = some ("set" : Str) from rfl) h2
 refine az (sZ (g.calm Fo) k1 k2 j1 j2 ha fun es=>ai hn es X.env) fun σ H Q ⟨S,τ,hs,q⟩=>?_
 refine aM (.refl _) hs (Df.U q) fun x v H1 e1 _ m1 q1=>?_
 cases x with
 | lst o ds=>
  obtain⟨a,ys,rfl,qq,m⟩:=m1.D7
  have q2:Df ex (match bB ds with|some ns=>Dk (decide (ns.length < 1000)) (.ok (.int ((ns.foldl Sx.dd []).length:Nat)))|none=>Dq) (Kk X.K S H Q):=q1
  cases z:bB ds with
  | none=>rw[z] at q2;exact q2.no.elim
  | some ns=>
   rw[z] at q2
   obtain⟨gd,q3⟩:=Df.Dk q2
   rw[dB z] at m
   rw[m.strs] at qq
   exact⟨a,ns,rfl,qq,of_decide_eq_true gd,q3.ok _ _ e1 (.int _)⟩
 | _=>exact q1.no.elim
theorem yk (g:DM Z CX cl xp X ex G){o:Expr}{p pos apos Dt:Pos}{va:List Nat}{fa:Ev->Res D}(h1:G.Gq 1=true)(hn:isNm o=true)(hl:(apos.endLine == Dt.line)=true)(ha:PE X o (RD X.K ex va fa)) :
  PE X (.Call (.Name "sum" p) [.Call (.Attribute o "values" apos) [] [] Dt] [] pos) (RD X.K ex va fun τ=>U (fa τ) kL):=by
 obtain⟨k1,k2,k3,k4⟩:=cU g (show a8[1]? = some ("sum" : Str) from rfl) (iq h1)
 refine az (tf (g.calm (ir h1)) k1 k2 ha (by cases o<;>first|rfl|cases hn) hl) fun σ H Q ⟨S,τ,hs,q⟩=>?_
 refine aM (.refl _) hs (Df.U q) fun x v H1 e1 _ m1 q1=>?_
 cases x with
 | Dl o ks ds=>
  obtain⟨a,kvs,rfl,rd,_,m⟩:=m1.HW
  have q2:Df ex (match bf ds with|some ns=>.ok (.int ns.sum)|none=>Dq) (Kk X.K S H Q):=q1
  cases z:bf ds with
  | none=>rw[z] at q2;exact q2.no.elim
  | some ns=>
   rw[z] at q2
   rw[dA z] at m
   exact⟨a,kvs,ns,rfl,rd,m.ints,q2.ok _ _ e1 (.int _)⟩
 | _=>exact q1.no.elim
end
section
variable {prog:Program}{w:World}{A:Around}{E:Value->Shared->Prop}{s:Shared}
theorem fH {it t:Addr}{items:Array Value}(Fq:t≠it):∀ (n i:Nat) (s:Shared) (Q:List Value->Shared->Prop),s.heap.IsListIter it t i->s.heap.IsList t items->i+n<=items.size->
  (∀ h',h'.IsListIter it t (i+n)->Heap.SameBut it s.heap h'->Q ((items.toList.drop i).take n) {s with heap:=h'})->wpAny (model prog w) A (draw (.ref it) n) Q E s
 | 0,i,s,Q,hit,_,_,hQ=>by
  show wpAny _ _ (pure []) Q E s
  exact wpAny_pure (by simpa using hQ s.heap hit (Heap.SameBut.refl ..))
 | n+1,i,s,Q,hit,ht,hle,hQ=>by
  have DV:i < items.size:=by omega
  show wpAny _ _ (pyNext (.ref it) >>= _) Q E s
  refine wpAny_bind (wpAny_pyNext_list_item hit ht (x:=items[i]) (by simp[DV]) fun II GD Gf=>?_)
  refine wpAny_bind (wpAny_holding (fH Fq n (i+1) _ _ GD (ht.extBut Gf.extBut Fq) (by omega) fun Gz Kp Mf=>wpAny_pure ?_))
  have hd:items.toList.drop i=items[i]::items.toList.drop (i+1):=by simp[List.drop_eq_getElem_cons,DV]
  have:=hQ Gz (by rw[show i+(n+1)=i+1+n by omega];exact Kp) (Gf.trans Mf)
  rw[hd,List.take_succ_cons] at this
  exact this
theorem eA {t:Addr}{items:Array Value}{Q:List Value->Shared->Prop}(hh:A.handled=none)(ht:s.heap.IsList t items)
  (hQ:∀ h',Heap.ExtBut s.heap.objs.size s.heap h'->Q items.toList {s with heap:=h'}):wpAny (model prog w) A (unpackItems (.ref t) items.size none) Q E s:=by
 have DV:t≠s.heap.objs.size:=by obtain⟨o,ho,_⟩:=ht;exact Nat.ne_of_lt (Heap.lt_size ho)
 have push:∀ o,(s.heap.push o).IsList t items:=fun o=>by
  obtain⟨ob,e,c,n,d⟩:=ht
  exact⟨ob,Heap.get?_push_of_some _ e,c,n,d⟩
 unfold unpackItems
 refine wpAny_bind ?_
 ·unfold notIterableAtAll
  refine wpAny_bind (wpAny_specialOf ht.typeIs slot_list_iter.lookup ?_)
  refine wpAny_pure ?_
  simp only[Bool.false_eq_true,if_false]
  refine wpAny_bind (wpAny_holding (wpAny_pyIter_list ht ?_))
  refine wpAny_bind (wpAny_holding (fH DV items.size 0 _ _ ⟨_,Heap.get?_push_size _ rfl,rfl,rfl⟩ (push _) (by omega) fun II GD Gf=>?_))
  have HG:List.take items.size (List.drop 0 items.toList)=items.toList:=by
   rw[List.drop_zero];exact List.take_of_length_le (by simp)
  rw[HG]
  rw[if_neg (by simp)]
  have Mg:II.IsList t items:=(push _).extBut Gf.extBut DV
  refine wpAny_bind (wpAny_holding (wpAny_pyNext_list_end hh GD Mg (by simp) fun Gz Mh=>?_))
  simp only[Option.isSome_none,Bool.false_eq_true,if_false]
  refine wpAny_pure (hQ Gz fun b o hb e=>Mh b o hb (Gf.extBut b o hb (Heap.get?_push_of_some _ e)))
end
def AD (K:PySem.W.Frag)(n:Nat)(t:Jp):TG:=fun v σ H Q=>∃ a xs,v=.ref a/\(EJ K H a xs∨EB K H a xs)/\xs.length=n/\t xs σ H Q
theorem yl {X:Cx}{pos:Pos}{es:List Expr}{k:Nat}{t:Jp}{n:Nat}(hc:X.calm=true)(h:LF X es t)(hn:(assignEach es X.env).length=n)(DN:(assignEach es X.env).findIdx? (·.1)=none):PG X (.Tuple es k pos) (AD X.K n t):=by
 intro pins s σ H v u Q I r hw
 obtain⟨a,xs,e1,hq,hl,hw⟩:=hw
 subst e1
 cases r
 rcases hq with hq|hq
 ·obtain⟨its,rv,ht,hz⟩:=I.tuple hq
  refine assign_Tuple_tuple (I.ok.hd hc) ht (by simp[hn,<- hl,rv.length]) DN fun h' hx=>?_
  have I1:Inv X pins σ H {s with heap:=h'}:=I.kept (t':=s.toks) fun b o e=>hx b o (Nat.ne_of_lt (Heap.lt_size e)) e
  exact h pins _ σ H xs _ Q I1 (by simpa using rv) hw
 ·obtain⟨its,rv,pl,hz⟩:=I.list hq
  rw[assign_Tuple]
  refine wpAny_bind (wpAny_standAt ?_)
  unfold unpack
  have hlen:(assignEach es X.env).length=its.toArray.size:=by simp[hn,<- hl,rv.length]
  rw[hlen,DN]
  refine wpAny_bind (wpAny_holding (eA (I.ok.hd hc) pl.isList fun h' hx=>?_))
  have I1:Inv X pins σ H {s with heap:=h'}:=I.kept (t':=s.toks) fun b o e=>hx b o (Nat.ne_of_lt (Heap.lt_size e)) e
  exact h pins _ σ H xs _ Q I1 (by simpa using rv) hw
mutual
noncomputable def gT (K:PySem.W.Frag):Tg->TG
 | .nm i=>nU i
 | .tp ts=>AD K ts.length (Mi K ts)
noncomputable def Mi (K:PySem.W.Frag):List Tg->Jp
 | []=>zK
 | t::ts=>uO (gT K t) (Mi K ts)
end
theorem dS {e:Expr}(h:notStar e=true)(es:List Expr)(env:Env):assignEach (e::es) env=(false,assign e env)::assignEach es env:=by
 cases e<;>first|rfl|cases h
section
variable {Z:Sg}{CX:Er}{cl:Nat->List D->Res D}{xp:XK->Hp->Str->Prop}{X:Cx}{ex:Str->Prop}{G:Gm}
theorem fI (G:Gm):∀ {ts:List Tg}{es:List Expr} (env:Env),dv G ts es=true->(assignEach es env).length=ts.length/\(assignEach es env).findIdx? (·.1)=none
 | [],[],_,_=>⟨rfl,rfl⟩
 | t::ts,e::es,env,h=>by
  have h':(notStar e&&bC G t e&&dv G ts es)=true:=h
  simp only[Bool.and_eq_true] at h'
  obtain⟨h1,h2⟩:=fI G (ts:=ts) (es:=es) env h'.2
  rw[dS h'.1.1]
  refine⟨by rw[List.length_cons,h1,List.length_cons],?_⟩
  rw[List.findIdx?_cons,if_neg (by simp),h2]
  rfl
 | [],_::_,_,h=>by cases h
 | _::_,[],_,h=>by cases h
mutual
theorem JD (g:DM Z CX cl xp X ex G):∀ (t:Tg) (e:Expr),bC G t e=true->PG X e (gT X.K t)
 | .nm i,e,h=>by
  cases e with
  | Name x pos=>
   have h':(G.N[i]? == some x&&(G.kd[i]? == some .local||(G.df&&G.kd[i]? == some .cell)))=true:=(Bool.and_eq_true_iff.mp h).1
   rw[Bool.and_eq_true,Bool.or_eq_true,Bool.and_eq_true] at h'
   obtain⟨h1,h2⟩:=h'
   have hx:G.N[i]? = some x:=eq_of_beq h1
   have hk:=g.kd i x hx
   refine su (by rw[g.N];exact g.DJ) (by rw[g.N];exact hx) ?_ ?_
   ·rcases h2 with h2|h2
    ·exact .inl (hk.trans (eq_of_beq h2))
    ·exact .inr (hk.trans (eq_of_beq h2.2))
   ·rcases h2 with h2|h2
    ·exact .inr (hk.trans (eq_of_beq h2))
    ·exact .inl (g.df h2.1 x)
  | _=>cases h
 | .tp ts,e,h=>by
  cases e with
  | Tuple es k pos=>
   have h0:(G.cm&&dv G ts es)=true:=h
   rw[Bool.and_eq_true] at h0
   have h':=h0.2
   obtain⟨h1,h2⟩:=fI G X.env h'
   exact yl (g.calm h0.1) (AE g ts es h') h1 h2
  | _=>cases h
theorem AE (g:DM Z CX cl xp X ex G):∀ (ts:List Tg) (es:List Expr),dv G ts es=true->LF X es (Mi X.K ts)
 | [],[],_=>sv
 | t::ts,e::es,h=>by
  have h':(notStar e&&bC G t e&&dv G ts es)=true:=h
  simp only[Bool.and_eq_true] at h'
  exact nV (JD g t e h'.1.2) (AE g ts es h'.2) (by rw[dS h'.1.1];rfl)
 | [],_::_,h=>by cases h
 | _::_,[],h=>by cases h
end
end
mutual
theorem dU {G:Gm}:∀ (t:Tg) (e:Expr),bC G t e=true->∀ j∈Fg t,G.io≠some j
 | .nm i,e,h,j,hj=>by
  cases e with
  | Name x pos=>
   have h':=(Bool.and_eq_true_iff.mp (show ((G.N[i]? == some x&&(G.kd[i]? == some .local||(G.df&&G.kd[i]? == some .cell)))&&G.io != some i)=true from h)).2
   have e:j=i:=by simpa[Fg] using hj
   subst e
   simpa using h'
  | _=>cases h
 | .tp ts,e,h,j,hj=>by
  cases e with
  | Tuple es k pos=>
   have h0:(G.cm&&dv G ts es)=true:=h
   exact jy ts es (Bool.and_eq_true_iff.mp h0).2 j hj
  | _=>cases h
theorem jy {G:Gm}:∀ (ts:List Tg) (es:List Expr),dv G ts es=true->∀ j∈ju ts,G.io≠some j
 | [],_,_,j,hj=>by cases hj
 | t::ts,[],h,_,_=>by cases h
 | t::ts,e::es,h,j,hj=>by
  have h':(notStar e&&bC G t e&&dv G ts es)=true:=h
  simp only[Bool.and_eq_true] at h'
  rcases List.mem_append.mp (show j∈Fg t++ju ts from hj) with hj|hj
  ·exact dU t e h'.1.2 j hj
  ·exact jy ts es h'.2 j hj
end
def Lf (K:PySem.W.Frag)(S:Addr->Prop)(H:Hp)(σ:St)(τ:Ev):Prop:=τ.length=σ.length/\∀ i d,aj τ i=some d->∃ v,σ[i]? = some (some v)/\Dg K S H v d
theorem gG {τ:Ev}{i j:Nat}{o:Option D}:aj (τ.set i o) j=if i=j/\i < τ.length then o else aj τ j:=by
 unfold aj
 rw[List.getElem?_set]
 by_cases h:i=j
 ·subst h
  by_cases h2:i < τ.length
  ·simp[h2]
  ·rw[if_pos rfl,if_neg h2,if_neg (by omega)]
   rw[List.getElem?_eq_none (by omega)]
 ·rw[if_neg h,if_neg (by omega)]
section
variable {K:PySem.W.Frag}{S:Addr->Prop}{H:Hp}{ex:Str->Prop}
mutual
theorem kT:∀ (t:Tg) {σ:St}{τ:Ev}{v:V}{d:D}{Kt:Ev->Prop}{Q:St->Hp->Prop},Lf K S H σ τ->Dg K S H v d->Df ex (bq t d τ) Kt->
  (∀ Di Dy,Lf K S H Dy Di->Dy.length=σ.length->(∀ j,j∉Fg t->Dy[j]? = σ[j]?)->Kt Di->Q Dy H)->gT K t v σ H Q
 | .nm i,σ,τ,v,d,Kt,Q,hs,m,h,k=>by
  refine k (τ.set i (some d)) (σ.set i (some v)) ⟨by rw[List.length_set,List.length_set,hs.1],fun j e z=>?_⟩ (by rw[List.length_set]) (fun j hj=>?_) h.ok
  ·rw[gG] at z
   by_cases q:i=j/\i < τ.length
   ·rw[if_pos q] at z
    obtain⟨rfl,q⟩:=q
    cases z
    exact⟨v,by rw[List.getElem?_set_self (by rw[<- hs.1];exact q)],m⟩
   ·rw[if_neg q] at z
    obtain⟨w,h1,h2⟩:=hs.2 j e z
    refine⟨w,?_,h2⟩
    by_cases q2:i=j
    ·subst q2
     exfalso
     have:i < σ.length:=by
      have:=(List.getElem?_eq_some_iff.mp h1).1
      exact this
     exact q ⟨rfl,by rw[hs.1];exact this⟩
    ·rw[List.getElem?_set_ne q2];exact h1
  ·have:i≠j:=fun z=>hj (by subst z;simp[Fg])
   rw[List.getElem?_set_ne this]
 | .tp ts,σ,τ,v,d,Kt,Q,hs,m,h,k=>by
  cases d with
  | tup ds=>
   obtain⟨a,xs,rfl,q,ms⟩:=m.Ek
   obtain⟨g,h⟩:=Df.Dk h
   have g':ds.length=ts.length:=of_decide_eq_true g
   exact⟨a,xs,rfl,.inl q,by rw[ms.length,g'],fJ ts hs ms h k⟩
  | lst o ds=>
   obtain⟨a,xs,rfl,q,ms⟩:=m.D7
   obtain⟨g,h⟩:=Df.Dk h
   have g':ds.length=ts.length:=of_decide_eq_true g
   exact⟨a,xs,rfl,.inr q,by rw[ms.length,g'],fJ ts hs ms h k⟩
  | _=>exact h.no.elim
theorem fJ:∀ (ts:List Tg) {σ:St}{τ:Ev}{vs:List V}{ds:List D}{Kt:Ev->Prop}{Q:St->Hp->Prop},Lf K S H σ τ->De K S H vs ds->Df ex (dM ts ds τ) Kt->
  (∀ Di Dy,Lf K S H Dy Di->Dy.length=σ.length->(∀ j,j∉ju ts->Dy[j]? = σ[j]?)->Kt Di->Q Dy H)->Mi K ts vs σ H Q
 | [],σ,τ,vs,ds,Kt,Q,hs,m,h,k=>by
  cases m with
  | nil=>exact⟨rfl,k τ σ hs rfl (fun _ _=>rfl) h.ok⟩
  | cons _ _=>exact h.no.elim
 | t::ts,σ,τ,vs,ds,Kt,Q,hs,m,h,k=>by
  cases m with
  | nil=>exact h.no.elim
  | cons m1 m2=>
   refine⟨_,_,rfl,kT t hs m1 (Df.U h) fun Di Dy Lg hn hk h'=>?_⟩
   refine fJ ts Lg m2 h' fun He Kr Oh Fb N7 Oi=>k He Kr Oh (Fb.trans hn) (fun j hj=>?_) Oi
   have Lh:j∉Fg t/\j∉ju ts:=by
    constructor<;>(intro z;apply hj;simp[ju,z])
   rw[N7 j Lh.2,hk j Lh.1]
end
end
section
variable {K:PySem.W.Frag}{S S':Addr->Prop}{H H':Hp}{J:It}{ds:List D}
theorem WS.step (hl:∀ a (u:LD),S a->Rd H a u.o->S' a/\Rd H' a u.o)(ht:∀ a xs,DP K H a xs->DP K H' a xs){k:Zp.Kq}{a:Addr}{xs:List V}(h:WS K S H k a xs):WS K S' H' k a xs:=by
 cases k with
 | l=>exact h.elim (fun z=>.inl (hl _ (.l _) z.1 z.2)) fun z=>.inr z
 | t=>exact ht _ (.inl _) h
theorem jz (ds es:List D):(nq ds es).length=min ds.length es.length:=by unfold nq;rw[List.length_zipWith]
theorem Fh.step (hl:∀ a (u:LD),S a->Rd H a u.o->S' a/\Rd H' a u.o)(ht:∀ a xs,DP K H a xs->DP K H' a xs)(h:Fh K S H J ds):Fh K S' H' J ds:=by
 cases h with
 | lst h0 h1 h2=>exact .lst (hl _ (.l _) h0 h1).1 (hl _ (.l _) h0 h1).2 (h2.step hl ht)
 | lstK h1 h2=>exact .lstK h1 (h2.step hl ht)
 | tup h1 h2=>exact .tup (ht _ (.inl _) h1) (h2.step hl ht)
 | G4 lo hi=>exact .G4 lo hi
 | str x=>exact .str x
 | zip h1 h2 h3 h4=>exact .zip (h1.step hl ht) (h2.step hl ht) (h3.step hl ht) (h4.step hl ht)
theorem Fh.mono (h:Fh K S H J ds)(hS:∀ a,S a->S' a)(e:ar H H'):Fh K S' H' J ds:=h.step (fun a xs s r=>⟨hS a s,e.rd r⟩) fun a xs s=>e.EE s
theorem fK (x:Str):(cP x).length=x.cps.size:=by unfold cP;simp
theorem cu (a b:Int):(bI a b).length=(b - a).toNat:=by unfold bI;simp
theorem Fh.stop (h:Fh K S H J ds){i:Nat}(hi:ds.length<=i):J.stop i H:=by
 cases h with
 | lst h0 h1 h2=>exact⟨_,.inl h1,by rw[h2.length];exact hi⟩
 | lstK h1 h2=>exact⟨_,h1.sq,by rw[h2.length];exact hi⟩
 | tup h1 h2=>exact⟨_,h1,by rw[h2.length];exact hi⟩
 | G4 lo K6=>rw[cu] at hi;exact hi
 | str x=>rw[fK] at hi;exact hi
 | zip h1 h2 h3 h4=>exact⟨_,_,h1.sq,h2.sq,by rw[jz] at hi;rw[h3.length,h4.length];omega⟩
theorem Fh.go (h:Fh K S H J ds){i:Nat}(hi:i < ds.length):J.go i H:=by
 cases h with
 | lst h0 h1 h2=>obtain⟨v,hv,_⟩:=h2.get (i:=i) (d:=ds[i]) (by simp[hi]);exact⟨_,v,.inl h1,hv⟩
 | lstK h1 h2=>obtain⟨v,hv,_⟩:=h2.get (i:=i) (d:=ds[i]) (by simp[hi]);exact⟨_,v,h1.sq,hv⟩
 | tup h1 h2=>obtain⟨v,hv,_⟩:=h2.get (i:=i) (d:=ds[i]) (by simp[hi]);exact⟨_,v,h1,hv⟩
 | G4 lo K6=>rw[cu] at hi;exact hi
 | str x=>rw[fK] at hi;exact hi
 | zip h1 h2 h3 h4=>
  rename_i ds' E9
  rw[jz] at hi
  obtain⟨v,hv,_⟩:=h3.get (i:=i) (d:=ds'[i]) (by rw[List.getElem?_eq_getElem])
  obtain⟨u,hu,_⟩:=h4.get (i:=i) (d:=E9[i]) (by rw[List.getElem?_eq_getElem])
  exact⟨_,_,v,u,h1.sq,h2.sq,hv,hu⟩
theorem Fh.Ih (h:Fh K S H J ds){i:Nat}{x:V}{H2:Hp}(y:J.Ih i H x H2){d:D}(hd:ds[i]? = some d):ar H H2/\Dg K S H2 x d:=by
 have fin:∀ {xs:List V},De K S H xs ds->xs[i]? = some x->Dg K S H x d:=fun m e=>by
  obtain⟨d',e',m'⟩:=m.Kc e
  rw[hd] at e';cases e';exact m'
 cases h with
 | lst h0 h1 h2=>obtain⟨e,y⟩:=y;subst e;exact⟨.refl _,fin h2 (y _ (.inl h1))⟩
 | lstK h1 h2=>obtain⟨e,y⟩:=y;subst e;exact⟨.refl _,fin h2 (y _ h1.sq)⟩
 | tup h1 h2=>obtain⟨e,y⟩:=y;subst e;exact⟨.refl _,fin h2 (y _ h1)⟩
 | zip h1 h2 h3 h4=>
  obtain⟨T,a,b,e1,hT,e2,hy⟩:=y
  subst e1 e2
  obtain⟨y1,y2⟩:=hy _ _ h1.sq h2.sq
  obtain⟨d1,g1,m1⟩:=h3.Kc y1
  obtain⟨d2,g2,m2⟩:=h4.Kc y2
  unfold nq at hd
  rw[List.getElem?_zipWith,g1,g2] at hd
  cases hd
  have e:ar H (upd H T (.tup [a,b])):=.upd hT
  exact⟨e,.tup (EJ.of ao) (.cons (m1.mono (fun _ z=>z) e) (.cons (m2.mono (fun _ z=>z) e) .nil))⟩
 | G4 lo K6=>
  obtain⟨e1,e2⟩:=y
  subst e1
  refine⟨.refl _,?_⟩
  subst e2
  unfold bI at hd
  rw[List.getElem?_map] at hd
  have hi:i < (K6 - lo).toNat:=by
   have:=(Option.map_eq_some_iff.mp hd)
   obtain⟨z,h1,_⟩:=this
   have:=(List.getElem?_eq_some_iff.mp h1).1
   simpa using this
  rw[List.getElem?_range hi] at hd
  cases hd
  exact .int _
 | str x=>
  obtain⟨e1,c,h1,e2⟩:=y
  subst e1
  refine⟨.refl _,?_⟩
  subst e2
  unfold cP at hd
  rw[List.getElem?_map] at hd
  have h2:x.cps.toList[i]? = some c:=by simpa using h1
  rw[h2] at hd
  cases hd
  exact .str _
end
section
variable {Z:Sg}{CX:Er}{cl:Nat->List D->Res D}{xp:XK->Hp->Str->Prop}{X:Cx}{ex:Str->Prop}{G:Gm}{K:PySem.W.Frag}{S:Addr->Prop}{H H1:Hp}{σ:St}{τ:Ev}
theorem AF {is:List Nat}{f:Ev->Res (List D)}{Kt:List D->Prop}{R:It->Hp->Prop}(e:ar H H1)(hs:Slots K S H σ τ is)(h:Df ex (f τ) Kt)(k:∀ ds J H2,ar H H2->ar H1 H2->Fh K (nw S H) H2 J ds->Kt ds->R J H2):RI K ex is f σ H1 R:=
 ⟨nw S H,τ,hs.go e,h.mono fun x hx J H2 e2 m=>k x J H2 (e.trans e2) e2 (m.mono (gD e) (.refl _)) hx⟩
theorem kU {tg:Expr}{pins:List (Addr×Obj)}{s:Shared}{a:Addr}{xs:List V}{R:It->Hp->Prop}(I:Inv X pins σ H s)(hq:EB X.K H a xs)(q:R (MO X.K a) H):wpAny (model X.prog X.w) X.A (pyIter (.ref a)) (K0 X pins σ tg R) X.xe s:=by
 obtain⟨its,rv,p,hz⟩:=I.list hq
 refine wpAny_pyIter_list p.isList ?_
 refine⟨s.heap.objs.size,[s.heap.objs.size],_,_,H,rfl,I.kept (t':=s.toks) fun b o e=>Heap.get?_push_of_some _ e,mR a _,⟨_,Heap.get?_push_size _ rfl,rfl,rfl⟩,fun b hb=>?_,q⟩
 have e:b=s.heap.objs.size:=by simpa using hb
 subst e
 exact I.Gw (Nat.le_refl _) (I.Dz.fresh (Nat.le_refl _))
theorem oU {tg:Expr}{pins:List (Addr×Obj)}{s:Shared}{a:Addr}{xs:List V}{R:It->Hp->Prop}(I:Inv X pins σ H s)(hq:EJ X.K H a xs)(q:R (NB X.K a) H):wpAny (model X.prog X.w) X.A (pyIter (.ref a)) (K0 X pins σ tg R) X.xe s:=by
 obtain⟨its,rv,p,hz⟩:=I.tuple hq
 refine wpAny_pyIter_tuple (show s.heap.IsTuple a its.toArray from p) ?_
 refine⟨s.heap.objs.size,[s.heap.objs.size],_,_,H,rfl,I.kept (t':=s.toks) fun b o e=>Heap.get?_push_of_some _ e,jQ a _,⟨_,Heap.get?_push_size _ rfl,rfl,rfl⟩,fun b hb=>?_,q⟩
 have e:b=s.heap.objs.size:=by simpa using hb
 subst e
 exact I.Gw (Nat.le_refl _) (I.Dz.fresh (Nat.le_refl _))
theorem AG {tg e:Expr}{va:List Nat}{fa:Ev->Res D}(ha:PE X e (RD X.K ex va fa)):PI X tg e (RI X.K ex va fun τ=>U (fa τ) ib):=by
 intro pins s σ H R I h
 obtain⟨S,τ,hs,q⟩:=h
 refine DB (ha pins s σ H (fun v H'=>∃ d,ar H H'/\Dg X.K (nw S H) H' v d/\_) I (aM (.refl _) hs (Df.U q) fun x v H1 e1 _ m1 q1=>⟨x,e1,m1,q1⟩)) fun v s1 ⟨x,H1,I1,r1,d,e1,m1,q1⟩=>?_
 cases d with
 | lst o ds=>
  cases m1 with
  | lst h0 h1 h2=>cases r1;exact kU I1 (.inl h1) (q1.ok _ _ e1 (.lst h0 h1 h2))
  | lstK h1 h2=>cases r1;exact kU I1 h1.sq (q1.ok _ _ e1 (.lstK h1 h2))
 | tup ds=>
  obtain⟨a,xs,rfl,h1,h2⟩:=m1.Ek
  cases r1
  exact oU I1 h1 (q1.ok _ _ e1 (.tup h1 h2))
 | str z=>
  cases m1.DY
  obtain⟨t,rfl⟩:=r1
  obtain⟨_,q1⟩:=Df.Dk q1
  exact xZ I1 (q1.ok _ _ e1 (.str z))
 | _=>exact q1.no.elim
theorem ym (g:DM Z CX cl xp X ex G){tg e:Expr}{p pos:Pos}{va:List Nat}{fa:Ev->Res D}(hg:G.gl.contains 15=true)(hn:notStar e=true)(ha:PE X e (RD X.K ex va fa)) :
  PI X tg (.Call (.Name "range" p) [e] [] pos) (RI X.K ex va fun τ=>U (fa τ) fun|.int i=>Dk (bo i) (.ok (bI 0 i))|_=>Dq):=by
 obtain⟨k1,k2,_,_⟩:=cU g (show a8[15]? = some ("range" : Str) from rfl) hg
 refine e9 (f7 k1 k2 (aN ha bO (ai hn _ _)) (ai hn _ _)) fun σ H Q ⟨S,τ,hs,q⟩=>?_
 refine aM (.refl _) hs (Df.U q) fun x v H1 e1 _ m1 q1=>?_
 cases x with
 | int i=>
  cases m1.DD
  obtain⟨gd,q1⟩:=Df.Dk q1
  have Il : -(2 ^ 62)<=i/\i < 2 ^ 62:=of_decide_eq_true gd
  refine⟨i,rfl,Il.1,Il.2,?_⟩
  have:=q1.ok _ _ e1 (.G4 0 i)
  rw[Int.sub_zero] at this
  exact this
 | _=>exact q1.no.elim
theorem yn (g:DM Z CX cl xp X ex G){tg e e':Expr}{p pos:Pos}{va vb:List Nat}{fa fb:Ev->Res D}(hg:G.gl.contains 15=true)(hn:notStar e=true)(Fb:notStar e'=true)(ha:PE X e (RD X.K ex va fa))(hb:PE X e' (RD X.K ex vb fb)) :
  PI X tg (.Call (.Name "range" p) [e,e'] [] pos) (RI X.K ex (va++vb) fun τ=>U (fa τ) fun x=>U (fb τ) fun y=>match x,y with|.int i,.int j=>Dk (bo i&&bo j) (.ok (bI i j))|_,_=>Dq):=by
 obtain⟨k1,k2,_,_⟩:=cU g (show a8[15]? = some ("range" : Str) from rfl) hg
 refine e9 (f9 k1 k2 (aN ha (aN hb bO (ai Fb _ _)) (ai hn _ _)) (by rw[ai hn,ai Fb];rfl) (ai Fb _ _)) fun σ H Q ⟨S,τ,hs,q⟩=>?_
 refine aM (.refl _) hs.left (Df.U q) fun x v H1 e1 _ m1 q1=>?_
 refine aM e1 hs.right (Df.U q1) fun y w H2 e2 Eg m2 q2=>?_
 cases x with
 | int i=>
  cases y with
  | int j=>
   cases m1.DD;cases m2.DD
   obtain⟨gd,q2⟩:=Df.Dk q2
   rw[Bool.and_eq_true] at gd
   have g1 : -(2 ^ 62)<=i/\i < 2 ^ 62:=of_decide_eq_true gd.1
   have g2 : -(2 ^ 62)<=j/\j < 2 ^ 62:=of_decide_eq_true gd.2
   exact⟨i,j,rfl,⟨g1.1,g1.2,g2.1,g2.2⟩,q2.ok _ _ e2 (.G4 i j)⟩
  | _=>exact q2.no.elim
 | _=>cases y<;>exact q2.no.elim
theorem AH {a:Addr}{v:V}{d:D}{ds:List D}(m:Dg K S H v d)(h:jZ d=.ok ds):∃ k a xs,v=.ref a/\WS K S H k a xs/\De K S H xs ds:=by
 cases d with
 | lst o es=>
  cases h
  cases m with
  | lst h0 h1 h2=>exact⟨.l,_,_,rfl,.inl ⟨h0,h1⟩,h2⟩
  | lstK h1 h2=>exact⟨.l,_,_,rfl,.inr h1,h2⟩
 | tup es=>
  cases h
  obtain⟨a,xs,rfl,h1,h2⟩:=m.Ek
  exact⟨.t,a,xs,rfl,h1,h2⟩
 | _=>cases h
theorem AJ (g:DM Z CX cl xp X ex G){es:List Expr}{c:Nat}{tp:Pos}{e e':Expr}{p pos:Pos}{va vb:List Nat}{fa fb:Ev->Res D}(hg:G.gl.contains 17=true)(hn:notStar e=true)(Fb:notStar e'=true)(ha:PE X e (RD X.K ex va fa))(hb:PE X e' (RD X.K ex vb fb)) :
  PI X (.Tuple es c tp) (.Call (.Name "zip" p) [e,e'] [] pos) (RI X.K ex (va++vb) fun τ=>U (fa τ) fun x=>U (fb τ) fun y=>Ae x y):=by
 obtain⟨k1,k2,_,_⟩:=cU g (show a8[17]? = some ("zip" : Str) from rfl) hg
 refine e9 (xS k1 k2 (aN ha (aN hb bO (ai Fb _ _)) (ai hn _ _)) (by rw[ai hn,ai Fb];rfl) (ai Fb _ _)) fun σ H Q ⟨S,τ,hs,q⟩=>?_
 refine aM (.refl _) hs.left (Df.U q) fun x v H1 e1 _ m1 q1=>?_
 refine aM e1 hs.right (Df.U q1) fun y w H2 e2 Eg m2 q2=>?_
 have q3:=Df.U (show Df ex (U (jZ x) fun ds=>U (jZ y) fun es=>.ok (nq ds es)) _ from q2)
 have SY:=m1.mono (fun _ z=>z) Eg
 cases hx:jZ x with
 | error z=>
  rw[hx] at q3
  cases x<;>first|(cases hx;exact q3.no.elim)|cases hx
 | ok ds=>
  rw[hx] at q3
  have q4:=Df.U q3.ok
  cases hy:jZ y with
  | error z=>
   rw[hy] at q4
   cases y<;>first|(cases hy;exact q4.no.elim)|cases hy
  | ok E9=>
   rw[hy] at q4
   obtain⟨k1,a1,xs,rfl,w1,r1⟩:=AH (a:=0) SY hx
   obtain⟨k2,a2,ys,rfl,w2,r2⟩:=AH (a:=0) m2 hy
   exact⟨k1,k2,a1,a2,xs,ys,rfl,w1.sq,w2.sq,q4.ok.ok _ _ e2 (.zip w1 w2 r1 r2)⟩
theorem cv {env:Env}{x:Str}:∀ (names:List (Str×NameKind)),
  (names.map fun (n,k)=>if (k == NameKind.free&&env.scope.kind == .function&&env.kindOf n == some .cell) then (n,NameKind.cell) else (n,k)).lookup x =
   (names.lookup x).map fun k=>if (k == NameKind.free&&env.scope.kind == .function&&env.kindOf x == some .cell) then NameKind.cell else k
 | []=>rfl
 | (n,k)::r=>by
  have ih:=cv (env:=env) (x:=x) r
  rw[List.map_cons]
  show List.lookup x ((if (k == NameKind.free&&env.scope.kind == .function&&env.kindOf n == some .cell)=true then (n,NameKind.cell) else (n,k))::_)=_
  by_cases hc:(k == NameKind.free&&env.scope.kind == .function&&env.kindOf n == some .cell)=true
  ·rw[if_pos hc,List.lookup_cons,List.lookup_cons]
   cases hx:x == n with
   | true=>
    have e:x=n:=eq_of_beq hx
    subst e
    show some NameKind.cell=some (if _ then _ else _)
    rw[if_pos hc]
   | false=>exact ih
  ·rw[if_neg hc,List.lookup_cons,List.lookup_cons]
   cases hx:x == n with
   | true=>
    have e:x=n:=eq_of_beq hx
    subst e
    show some k=some (if _ then _ else _)
    rw[if_neg hc]
   | false=>exact ih
theorem kc {scope:Scope}{env:Env}(h:∀ y∈scope.names,y.2=.free->∃ c,env.cells.lookup y.1=some c) :
  ∃ Ez,closureFor scope env=pure Ez/\(∀ x c,Ez.lookup x=some c->env.cells.lookup x=some c)/\∀ y∈scope.names,y.2=.free->∃ c,Ez.lookup y.1=some c:=by
 have key:∀ (names:List (Str×NameKind)) (acc:List (Str×Addr)),(∀ y∈names,y.2=.free->∃ c,env.cells.lookup y.1=some c)->(∀ x c,acc.lookup x=some c->env.cells.lookup x=some c)->
   ∃ Ez,(forIn names acc fun (p:Str×NameKind) (r:List (Str×Addr))=>(if (p.2 == NameKind.free)=true then do let a <- cellOf env p.1;pure (ForInStep.yield ((p.1,a)::r)) else pure (ForInStep.yield r):Sem (ForInStep (List (Str×Addr)))))=pure Ez/\(∀ x c,Ez.lookup x=some c->env.cells.lookup x=some c)/\
    (∀ y∈names,y.2=.free->∃ c,Ez.lookup y.1=some c)/\∀ x c,acc.lookup x=some c->∃ c',Ez.lookup x=some c':=by
  intro names
  induction names with
  | nil=>intro acc _ h2;exact⟨acc,rfl,h2,fun y hy=>absurd hy (by simp),fun x c e=>⟨c,e⟩⟩
  | cons p names ih=>
   intro acc h1 h2
   rw[List.forIn_cons]
   by_cases hp:p.2=.free
   ·obtain⟨c,hc⟩:=h1 p (by simp) hp
    have hb:(p.2 == NameKind.free)=true:=by rw[hp];rfl
    have S1:∀ x c',((p.1,c)::acc).lookup x=some c'->env.cells.lookup x=some c':=by
     intro x c' e
     rw[List.lookup_cons] at e
     cases hx:x == p.1 with
     | true=>
      rw[hx] at e
      cases e
      rw[eq_of_beq hx]
      exact hc
     | false=>rw[hx] at e;exact h2 x c' e
    obtain⟨Ez,e1,e2,e3,e4⟩:=ih ((p.1,c)::acc) (fun y hy=>h1 y (List.mem_cons_of_mem _ hy)) S1
    refine⟨Ez,?_,e2,fun y hy hf=>?_,fun x c' e=>?_⟩
    ·rw[if_pos hb]
     have:cellOf env p.1=pure c:=by unfold cellOf;rw[hc]
     rw[this]
     exact e1
    ·rcases List.mem_cons.mp hy with rfl|hy
     ·exact e4 y.1 c (by rw[List.lookup_cons];simp)
     ·exact e3 y hy hf
    ·rcases hx:x == p.1 with _|_
     ·exact e4 x c' (by rw[List.lookup_cons,hx];exact e)
     ·exact e4 x c (by rw[List.lookup_cons,hx])
   ·have hb:¬ (p.2 == NameKind.free)=true:=fun z=>hp (eq_of_beq z)
    obtain⟨Ez,e1,e2,e3,e4⟩:=ih acc (fun y hy=>h1 y (List.mem_cons_of_mem _ hy)) h2
    refine⟨Ez,?_,e2,fun y hy hf=>?_,e4⟩
    ·rw[if_neg hb]
     exact e1
    ·rcases List.mem_cons.mp hy with rfl|hy
     ·exact absurd hf hp
     ·exact e3 y hy hf
 obtain⟨Ez,e1,e2,e3,_⟩:=key scope.names [] h (fun x c e=>by cases e)
 refine⟨Ez,?_,e2,e3⟩
 unfold closureFor
 exact congrArg (fun (m:Sem (List (Str×Addr)))=>m >>= fun r=>pure r) e1
structure Hf (Z:Sg)(G:Gm)(scope:Scope)(G':Gm)(fr:List Nat):Prop where
 cm:G.cm=true
 kind:scope.kind=.function
 tr:G'.tr=false
 df:G'.df=false
 Vg:G'.kd.length=G'.N.length
 FJ:∀ y∈scope.names,y.2≠.cell
 loc:∀ y∈scope.names,y.2=.local->scope.names.lookup y.1=some .local
 S2:∀ y∈scope.names,y.2=.free->∃ i:Nat,G.N[i]? = some y.1/\(G.kd[i]? = some .cell∨G.kd[i]? = some .free)
 Em:∀ (j:Nat) (i:Nat),fr[j]? = some i->∃ x,G.N[i]? = some x/\G'.N[j]? = some x/\scope.names.lookup x=some .free/\(G.kd[i]? = some .cell∨G.kd[i]? = some .free)/\G'.kd[j]? = some (if (G.kd[i]? == some .cell)=true then .cell else .free)
 Mj:fr.length<=G'.N.length
 Fg:∀ (j:Nat) (x:Str),fr.length<=j->G'.N[j]? = some x->scope.names.lookup x=some .local/\G'.kd[j]? = some .local
 Hd:∀ x∈G'.N,(x == ("__debug__" : Str))=false/\(x == ("__classdict__" : Str))=false
 DJ:G'.N.Nodup
 gl:∀ n∈G'.gl,∃ x,Z.name n=some x/\scope.names.lookup x=some .globalImplicit
theorem iB {Z:Sg}{G:Gm}{scope:Scope}{G':Gm}{fr:List Nat}(h:bF Z G scope G' fr=true):Hf Z G scope G' fr:=by
 unfold bF at h
 simp only[Bool.and_eq_true] at h
 obtain⟨⟨⟨⟨⟨⟨⟨⟨⟨⟨⟨⟨⟨h0,h1⟩,Oj⟩,h2⟩,h3⟩,h4⟩,h5⟩,h6⟩,h7⟩,h8⟩,h9⟩,Jt⟩,Ju⟩,IH⟩:=h
 rw[List.all_eq_true] at h4 h5 h6 h7 h9 Jt IH
 refine⟨h0,eq_of_beq h1,by simpa using Oj,by simpa using h2,eq_of_beq h3,fun y hy=>by simpa using h4 y hy,fun y hy e=>?_,fun y hy e=>?_,fun j i e=>?_,of_decide_eq_true h8,fun j x hj e=>?_,fun x hx=>by simpa using Jt x hx,of_decide_eq_true Ju,fun n hn=>?_⟩
 ·have:=h5 y hy
  rw[e] at this
  simpa using this
 ·have:=h6 y hy
  rw[e] at this
  simp only[bne_self_eq_false,Bool.false_or,List.any_eq_true,Bool.and_eq_true,Bool.or_eq_true] at this
  obtain⟨i,_,hi,hk⟩:=this
  exact⟨i,eq_of_beq hi,hk.elim (fun z=>.inl (eq_of_beq z)) fun z=>.inr (eq_of_beq z)⟩
 ·have hj:j < fr.length:=(List.getElem?_eq_some_iff.mp e).1
  have:=h7 j (List.mem_range.mpr hj)
  simp only[e,Option.bind_some,Bool.and_eq_true,Bool.or_eq_true] at this
  obtain⟨⟨⟨a1,a2⟩,a3⟩,a4⟩:=this
  have Qm:=eq_of_beq a1
  have Nc:=eq_of_beq a2
  cases q:G'.N[j]? with
  | none=>rw[q] at Nc;cases Nc
  | some x=>
   rw[q] at Nc Qm
   exact⟨x,Qm.symm,rfl,Nc,a3.elim (fun z=>.inl (eq_of_beq z)) fun z=>.inr (eq_of_beq z),eq_of_beq a4⟩
 ·have DV:j < G'.N.length:=(List.getElem?_eq_some_iff.mp e).1
  have hm:j∈(List.range G'.N.length).drop fr.length:=by
   rw[List.mem_drop_iff_getElem]
   exact⟨j - fr.length,by simp;omega,by simp;omega⟩
  have:=h9 j hm
  rw[e] at this
  simp only[Option.bind_some,Bool.and_eq_true] at this
  exact⟨eq_of_beq this.1,eq_of_beq this.2⟩
 ·have:=IH n hn
  cases q:Z.name n with
  | none=>rw[q] at this;cases this
  | some x=>
   rw[q] at this
   exact⟨x,rfl,eq_of_beq this⟩
noncomputable def Hg (G:Gm)(fr:List Nat):List (Str×Nat):=fr.map fun i=>(G.N.getD i "",i)
theorem AL {scope:Scope}{G':Gm}{fr:List Nat}(s:Hf Z G scope G' fr):(Hg G fr).map (·.1)++G'.N.drop fr.length=G'.N:=by
 have e:(Hg G fr).map (·.1)=G'.N.take fr.length:=by
  apply List.ext_getElem?
  intro j
  unfold Hg
  rw[List.map_map,List.getElem?_map,List.getElem?_take]
  cases q:fr[j]? with
  | none=>
   have:¬ j < fr.length:=by
    intro z
    rw[List.getElem?_eq_getElem z] at q
    cases q
   rw[if_neg this]
   rfl
  | some i=>
   have:j < fr.length:=(List.getElem?_eq_some_iff.mp q).1
   rw[if_pos this]
   obtain⟨x,h1,h2,_⟩:=s.Em j i q
   rw[h2]
   show some (G.N.getD i "")=some x
   rw[List.getD_eq_getElem?_getD,h1]
   rfl
 rw[e,List.take_append_drop]
theorem eB (g:DM Z CX cl xp X ex G)(ok:X.Ok){scope:Scope}{G':Gm}{fr:List Nat}(s:Hf Z G scope G' fr):∃ Ez,EX X scope Ez (Hg G fr) (G'.N.drop fr.length):=by
 have GL:∀ y∈scope.names,y.2=.free->∃ c,X.env.cells.lookup y.1=some c:=fun y hy hf=>by
  obtain⟨i,h1,h2⟩:=s.S2 y hy hf
  have hk:=g.kd i y.1 h1
  exact ok.has y.1 (h2.elim (fun z=>.inl (hk.trans z)) fun z=>.inr (hk.trans z))
 obtain⟨Ez,e1,e2,e3⟩:=kc GL
 refine⟨Ez,e1,s.kind,s.FJ,s.loc,e2,fun x hx=>?_,fun p hp=>?_⟩
 ·have hl:=cv (env:=X.env) (x:=x) scope.names
  have EZ:((scope.names.lookup x).map fun k=>if (k == NameKind.free&&X.env.scope.kind == .function&&X.env.kindOf x == some .cell)=true then NameKind.cell else k)=some .cell∨
    ((scope.names.lookup x).map fun k=>if (k == NameKind.free&&X.env.scope.kind == .function&&X.env.kindOf x == some .cell)=true then NameKind.cell else k)=some .free:=by
   rcases hx with hx|hx
   ·exact .inl (hl.symm.trans hx)
   ·exact .inr (hl.symm.trans hx)
  cases q:scope.names.lookup x with
  | none=>rw[q] at EZ;rcases EZ with z|z<;>cases z
  | some k=>
   have hm:(x,k)∈scope.names:=PySem.mem_of_lookup q
   have hk:k=.free:=by
    rw[q] at EZ
    rcases EZ with z|z
    ·have z':(if (k == NameKind.free&&X.env.scope.kind == .function&&X.env.kindOf x == some .cell)=true then NameKind.cell else k)=.cell:=Option.some.inj z
     split at z'
     ·rename_i hc
      simp only[Bool.and_eq_true] at hc
      exact eq_of_beq hc.1.1
     ·exact absurd z' (s.FJ _ hm)
    ·have z':(if (k == NameKind.free&&X.env.scope.kind == .function&&X.env.kindOf x == some .cell)=true then NameKind.cell else k)=.free:=Option.some.inj z
     split at z'
     ·cases z'
     ·exact z'
   exact e3 (x,k) hm hk
 ·unfold Hg at hp
  rw[List.mem_map] at hp
  obtain⟨i,hi,rfl⟩:=hp
  obtain⟨j,hj⟩:=List.getElem?_of_mem hi
  obtain⟨x,h1,h2,h3,h4,h5⟩:=s.Em j i hj
  have hn:G.N.getD i "" = x:=by rw[List.getD_eq_getElem?_getD,h1];rfl
  show X.N[i]? = some (G.N.getD i "")/\_
  rw[hn]
  have hk:=g.kd i x h1
  refine⟨by rw[g.N];exact h1,h4.elim (fun z=>.inl (hk.trans z)) fun z=>.inr (hk.trans z),?_⟩
  have hl:=cv (env:=X.env) (x:=x) scope.names
  rw[h3] at hl
  have S3:(relabel scope X.env).names.lookup x=some (if (NameKind.free == NameKind.free&&X.env.scope.kind == .function&&X.env.kindOf x == some .cell)=true then NameKind.cell else NameKind.free):=hl
  rw[S3]
  split
  ·exact .inl rfl
  ·exact .inr rfl
theorem bG (g:DM Z CX cl xp X ex G){scope:Scope}{G':Gm}{fr:List Nat}(s:Hf Z G scope G' fr)(Ez:List (Str×Addr))(C:Addr)(s3:Shared)(H3:Hp)(fp:List Addr) :
  DM Z CX cl xp (GP X scope Ez ((Hg G fr).map (·.1)++G'.N.drop fr.length) C s3 H3 fp) (fun _=>False) G' where
 N:=AL s
 DJ:=s.DJ
 calm:=fun _=>g.calm s.cm
 fk:=s.kind
 un:=g.un
 own:=fun _=>PassesOwn.never
 kd:=fun j x hx=>by
  show (relabel scope X.env).names.lookup x=_
  have hl:=cv (env:=X.env) (x:=x) scope.names
  by_cases hj:j < fr.length
  ·obtain⟨y,h1,h2,h3,h4,h5⟩:=s.Em j fr[j] (by simp[hj])
   rw[hx] at h2
   cases h2
   rw[h3] at hl
   rw[h5]
   refine hl.trans ?_
   have hk:=g.kd fr[j] x h1
   show some (if (NameKind.free == NameKind.free&&X.env.scope.kind == .function&&X.env.kindOf x == some .cell)=true then NameKind.cell else NameKind.free)=_
   rw[hk,g.fk]
   rfl
  ·obtain⟨h1,h2⟩:=s.Fg j x (by omega) hx
   rw[h1] at hl
   rw[h2]
   exact hl
 Hd:=fun j x hx=>s.Hd x (List.mem_of_getElem? hx)
 gl:=fun n hn x e=>by
  obtain⟨y,h1,h2⟩:=s.gl n hn
  rw[e] at h1
  cases h1
  show (relabel scope X.env).names.lookup x=_
  have hl:=cv (env:=X.env) (x:=x) scope.names
  rw[h2] at hl
  exact hl
 HU:=g.HU
 df:=fun z=>by rw[s.df] at z;cases z
 blt:=g.blt
 cst:=g.cst
 fns:=fun f hf _ x hx=>g.fns f hf (.inl s.cm) x hx
 Ft:=fun f hf _ x hx=>g.Ft f hf s.cm x hx
 I0:=g.I0
 Ja:=g.Ja
 Jb:=g.Jb
 HV:=g.HV
 Mc:=fun _ pins σ H s c C h' e vs _ z=>z.elim
 tr:=fun z=>by rw[s.tr] at z;cases z
 Ld:=⟨fun _ _ _=>False,fun pins σ H s e s' _ h=>(g.JC _ _ _ _ _ h).elim,fun c _ z=>z.elim⟩
 JB:=g.JB
 JC:=g.JC
end
abbrev Ej:Str->Prop:=fun _=>False
theorem Df.E3 {α:Type}{ex:Str->Prop}{x:Res α}{k:α->Prop}(h:Df ex (L2.E3 x) k):Df Ej x k:=by
 cases x with
 | ok a=>exact h
 | error e=>exact False.elim h
section
variable {K:PySem.W.Frag}{S:Addr->Prop}{H:Hp}{σ:St}{τ:Ev}{ex:Str->Prop}{cl:Nat->List D->Res D}{G G':Gm}{fr:List Nat}
noncomputable def GF (G':Gm)(fr:List Nat)(τ:Ev):Ev:=fr.map (aj τ)++List.replicate (G'.N.length - fr.length) none
theorem tH (hl:fr.length<=G'.N.length):(GF G' fr τ).length=G'.N.length:=by
 unfold GF
 rw[List.length_append,List.length_map,List.length_replicate]
 omega
theorem tI (Tg:List Str)(σ:St):(stC (Hg G fr) Tg σ).length=fr.length+Tg.length:=by
 unfold stC Hg
 rw[List.length_append,List.length_map,List.length_map,List.length_replicate]
theorem oV {j:Nat}{d:D}(h:aj (GF G' fr τ) j=some d):∃ i,fr[j]? = some i/\aj τ i=some d:=by
 unfold aj GF at h
 by_cases hj:j < fr.length
 ·rw[List.getElem?_append_left (by simpa using hj),List.getElem?_map,List.getElem?_eq_getElem hj] at h
  exact⟨fr[j],by simp[hj],h⟩
 ·rw[List.getElem?_append_right (by simpa using hj),List.getElem?_replicate] at h
  split at h<;>cases h
theorem tJ {vs:List Nat}{Dy:St}(hl:fr.length<=G'.N.length)(hs:Slots K S H σ τ (fr++vs))(hn:Dy.length=G'.N.length)(D5:∀ j,j < fr.length->Dy[j]? = (stC (Hg G fr) (G'.N.drop fr.length) σ)[j]?):Lf K S H Dy (GF G' fr τ):=by
 refine⟨by rw[tH hl,hn],fun j d h=>?_⟩
 obtain⟨i,hi,hd⟩:=oV h
 have hj:j < fr.length:=(List.getElem?_eq_some_iff.mp hi).1
 obtain⟨v,h1,h2⟩:=hs i (List.mem_append_left _ (List.mem_of_getElem? hi)) d hd
 refine⟨v,?_,h2⟩
 rw[D5 j hj]
 unfold stC Hg
 rw[List.getElem?_append_left (by simpa using hj),List.getElem?_map,List.getElem?_map,hi]
 show some ((σ[i]?).join)=some (some v)
 rw[h1]
 rfl
noncomputable def bu (cl:Nat->List D->Res D)(T:Tg)(I:List IR)(E:IR)(S4:Ev)(x:D):Res (Option D):=U (bq T x S4) fun IX=>U (dz cl I IX) fun r=>if r=true then U (Dj cl E IX) fun d=>.ok (some d) else .ok none
theorem cw {vs:List Nat}{fs:Ev->Res (List D)}{T:Tg}{I:List IR}{E:IR}{Kt:D->Prop}{Q:VK}(hl:fr.length<=G'.N.length)(ha:∀ i∈Fg T,fr.length<=i)(hs:Slots K S H σ τ (fr++vs))
  (q:Df ex (U (fs τ) fun its=>Dk (bW its.length) (U (E3 (ba (bu cl T I E (GF G' fr τ)) its)) fun ds=>.ok (.lst true ds))) Kt)
  (fin:∀ A ys ds H',ar H H'->H A=none->H' A=some (.lst ys)->De K (fun a=>nw S H a/\a≠A) H' ys ds->Kt (.lst true ds)->Q (.ref A) H') :
  n8 (RI K ex vs fs) (stC (Hg G fr) (G'.N.drop fr.length)) (gT K T) (RT K Ej (aq I) (dz cl I)) (RD K Ej (vars E) (Dj cl E)) σ H Q:=by
 refine AF (.refl _) hs.right (Df.U q) fun its J H1 e1 _ w1 q1 A hA=>?_
 obtain⟨gd,q1⟩:=Df.Dk q1
 have q2:=Df.E3 (Df.U q1)
 have hsz:=eQ gd
 have S5:H A=none:=e1.free hA
 -- NC is read Ol apart from JW new list
 have Ga:∀ a,nw S H a->H1 a≠none->nw S H a/\a≠A:=fun a h1 h2=>⟨h1,fun z=>h2 (by rw[z];exact hA)⟩
 have w2:Fh K (fun a=>nw S H a/\a≠A) H1 J its:=w1.step (fun a xs h r=>⟨Ga a h r.some,r⟩) fun a xs h=>h
 have GN:Slots K (fun a=>nw S H a/\a≠A) H1 σ τ (fr++vs):=fun i hi d z=>by
  obtain⟨v,h1,h2⟩:=(hs.go e1) i hi d z
  exact⟨v,h1,h2.step (fun a xs h r=>⟨Ga a h r.some,r⟩) fun a xs h=>h⟩
 refine⟨fun i m Dy H'=>m=its.length - i/\i<=its.length/\∃ ys acc,H' A=some (.lst ys)/\De K (fun a=>nw S H a/\a≠A) H' ys acc/\ys.length<=i/\ar H1 H'/\Dy.length=G'.N.length/\
   (∀ j,j < fr.length->Dy[j]? = (stC (Hg G fr) (G'.N.drop fr.length) σ)[j]?)/\Df Ej (ba (bu cl T I E (GF G' fr τ)) (its.drop i)) fun ds=>Kt (.lst true (acc++ds)),⟨its.length,by simp,Nat.zero_le _,[],[],ao,.nil,Nat.le_refl _,.upd hA,?_,fun _ _=>rfl,?_⟩,?_⟩
 ·rw[tI,List.length_drop];omega
 ·rw[List.drop_zero]
  exact q2.mono fun ds z=>z.ok
 ·rintro i m Dy H' ⟨rfl,hi,ys,acc,hy,my,ly,e2,hn,D5,q3⟩
  by_cases DV:i < its.length
  ·refine .inr ⟨(w2.mono (fun _ z=>z) e2).go DV,fun x H2 S6=>?_⟩
   obtain⟨eH,mx⟩:=(w2.mono (fun _ z=>z) e2).Ih S6 (d:=its[i]) (by simp[DV])
   have hy:=eH _ _ hy
   have my:=my.mono (fun _ z=>z) eH
   have e2:=e2.trans eH
   have hd:its.drop i=its[i]::its.drop (i+1):=List.drop_eq_getElem_cons DV
   rw[hd] at q3
   have q4:=Df.U q3
   have q5:Df Ej (bq T its[i] (GF G' fr τ)) _:=Df.U q4
   have sl:Lf K (fun a=>nw S H a/\a≠A) H2 Dy (GF G' fr τ):=tJ (G:=G) (vs:=vs) (σ:=σ) hl (fun i hi d z=>by
    obtain⟨v,h1,h2⟩:=GN i hi d z
    exact⟨v,h1,h2.mono (fun _ z=>z) e2⟩) hn D5
   refine kT T sl mx q5 fun Di FG S7 Fb hk q6=>?_
   have MT:FG.length=G'.N.length:=Fb.trans hn
   have Mk:∀ j,j < fr.length->FG[j]? = (stC (Hg G fr) (G'.N.drop fr.length) σ)[j]?:=fun j hj=>by
    rw[hk j (fun z=>by have:=ha j z;omega)]
    exact D5 j hj
   have Qn:∀ is,Slots K (fun a=>nw S H a/\a≠A) H2 FG Di is:=fun is i _ d z=>S7.2 i d z
   refine iA (.refl _) (Qn _) (Df.U q6) fun r H4 e4 _ q7=>?_
   cases r with
   | false=>
    rw[if_neg Bool.false_ne_true] at q7 ⊢
    have q8:Df Ej (ba (bu cl T I E (GF G' fr τ)) (its.drop (i+1))) fun ds=>Kt (.lst true (acc++ds)):=q7
    refine⟨its.length - (i+1),by omega,rfl,DV,ys,acc,e4 _ _ hy,my.mono (fun _ z=>z) e4,by omega,e2.trans e4,MT,Mk,q8⟩
   | true=>
    rw[if_pos rfl] at q7 ⊢
    refine aM e4 (Qn _) (Df.U q7) fun d v H5 e5 Vh m5 q8=>?_
    have q9:Df Ej (U (ba (bu cl T I E (GF G' fr τ)) (its.drop (i+1))) fun r=>.ok (d::r)) fun ds=>Kt (.lst true (acc++ds)):=q8
    have K3:=Df.U q9
    have Qo:H5 A=some (.lst ys):=e5 _ _ hy
    refine⟨ys,Qo,by omega,its.length - (i+1),by omega,rfl,DV,ys++[v],acc++[d],ao,?_,by rw[List.length_append,List.length_singleton];omega,?_,MT,Mk,?_⟩
    ·have Qp:∀ a (xs:LD),(nw S H a/\a≠A)->Rd H5 a xs.o->(nw S H a/\a≠A)/\Rd (upd H5 A (.lst (ys++[v]))) a xs.o:=fun a xs h r=>by
      refine⟨h,?_⟩
      unfold Rd
      rw[ah h.2]
      exact r
     have Qq:∀ a xs,DP K H5 a xs->DP K (upd H5 A (.lst (ys++[v]))) a xs:=fun a xs h=>h.upd Qo
     have m6:Dg K (fun a=>nw S H a/\a≠A) H5 v d:=m5.step (fun a xs h r=>⟨by
      rcases h with h|h
      ·exact h
      ·have:H a=none:=e1.free (e2.free h)
       exact⟨.inr this,fun z=>by rw[z,hy] at h;cases h⟩,r⟩) fun a xs h=>h
     exact(((my.mono (fun _ z=>z) e5).step Qp Qq)).append (.cons (m6.step Qp Qq) .nil)
    ·exact fun b o hb=>by
      have:b≠A:=by rintro rfl;rw[hA] at hb;cases hb
      rw[ah this]
      exact e5 _ _ (e2 _ _ hb)
    ·refine K3.mono fun ds z=>?_
     have z':=z.ok
     rw[List.append_assoc]
     exact z'
  ·have e:i=its.length:=by omega
   subst e
   refine .inl ⟨(w2.mono (fun _ z=>z) e2).stop (Nat.le_refl _),?_⟩
   rw[List.drop_length] at q3
   have q4:=q3.ok
   rw[List.append_nil] at q4
   exact fin A ys acc H' (e1.trans e2) S5 hy my q4
end
section
variable {Z:Sg}{CX:Er}{cl:Nat->List D->Res D}{xp:XK->Hp->Str->Prop}{X:Cx}{ex:Str->Prop}{G G':Gm}{fr:List Nat}
theorem fL {T:Tg}{s:Sr}{I:List IR}{E:IR}:Dj cl (.comp G' fr T s I E)=fun τ=>U (cQ cl s τ) fun its=>Dk (bW its.length) (U (E3 (ba (bu cl T I E (GF G' fr τ)) its)) fun ds=>.ok (.lst true ds)):=rfl
theorem yo (g:DM Z CX cl xp X ex G){scope:Scope}{tg iter elt:Expr}{ifs:List Expr}{pos:Pos}{T:Tg}{s:Sr}{I:List IR}{E:IR}(hs:Hf Z G scope G' fr)(hT:bC G' T tg=true)(ha:∀ i∈Fg T,fr.length<=i)
  (hi:PI X tg iter (RI X.K ex (dN s) (cQ cl s))) (ht:∀ X',DM Z CX cl xp X' Ej G'->IE X' ifs (RT X'.K Ej (aq I) (dz cl I))) (he:∀ X',DM Z CX cl xp X' Ej G'->PE X' elt (RD X'.K Ej (vars E) (Dj cl E)))
  (hf:∀ x,foldedSetIterable iter X.env x=pure x):PE X (.ListComp elt [⟨tg,iter,ifs,0⟩] scope pos) (RD X.K ex (fr++dN s) (Dj cl (.comp G' fr T s I E))):=by
 intro pins s' σ H Q Iv h
 obtain⟨Ez,S⟩:=eB g Iv.ok hs
 have p:=kI (pos:=pos) (elt:=elt) (ifs:=ifs) (tg:=tg) (g:=gT X.K T) (tt:=RT X.K Ej (aq I) (dz cl I)) (te:=RD X.K Ej (vars E) (Dj cl E)) (g.calm hs.cm) S hi (fun C s H fp=>JD (bG g hs Ez C s H fp) T tg hT) (fun C s H fp=>ht _ (bG g hs Ez C s H fp)) (fun C s H fp=>he _ (bG g hs Ez C s H fp)) hf
 refine p pins s' σ H Q Iv ?_
 obtain⟨S0,τ,Om,q⟩:=h
 rw[fL] at q
 exact cw hs.Mj ha Om q fun A ys ds H' e hA JE m k=>k _ _ e (.lst (.inr hA) (.inl JE) (m.mono (fun _ z=>z.1) (.refl _)))
end
section
variable {Z:Sg}{CX:Er}{cl:Nat->List D->Res D}{xp:XK->Hp->Str->Prop}
theorem nB {e:Expr}{a:IR}{G:Gm}(h:Du Z G a e=true)(env:Env)(x:Value):foldedSetIterable e env x=pure x:=by
 cases e<;>first|rfl|(cases a<;>cases h)
theorem bK {e:Expr}{a:Sr}{G:Gm}(h:bT Z G a e=true)(env:Env)(x:Value):foldedSetIterable e env x=pure x:=by
 cases a with
 | val a=>exact nB (show Du Z G a e=true from h) env x
 | _=>cases e<;>first|rfl|cases h
theorem both {X:Cx}{ex:Str->Prop}{e:Expr}{is:List Nat}{f:Ev->Res D}(h:PE X e (RD X.K ex is f))(he:∀ whole,isTrue e X.env whole=(do let v <- whole;standAt e.pos;holding [v] (truthy v)):=by intro _;rfl) :
  PE X e (RD X.K ex is f)/\PT X e (RT X.K ex is fun τ=>U (f τ) aU):=⟨h,An h he⟩
mutual
theorem snd:∀ (a:IR) (X:Cx) (ex:Str->Prop) (G:Gm) (e:Expr),DM Z CX cl xp X ex G->Du Z G a e=true->PE X e (RD X.K ex (vars a) (Dj cl a))/\PT X e (RT X.K ex (vars a) fun τ=>U (Dj cl a τ) aU)
 | .c d,X,ex,G,e,g,h=>by
  cases e with
  | Constant k j pos=>exact both (SW h)
  | _=>first|exact af h|cases h
 | .g n d,X,ex,G,e,g,h=>by
  cases e with
  | Name x pos=>
   have h':(bN Z G n x&&Z.Lb.any fun p=>p.1 == n&&nv p.2 d)=true:=h
   rw[Bool.and_eq_true] at h'
   exact both (SX g h'.1 h'.2)
  | _=>first|exact af h|cases h
 | .v i,X,ex,G,e,g,h=>by
  cases e with
  | Name x pos=>exact both (SV g h)
  | _=>first|exact af h|cases h
 | .bin op a b,X,ex,G,e,g,h=>by
  cases e with
  | BinOp l o r pos=>
   have h':(o == Kg op&&Du Z G a l&&Du Z G b r)=true:=h
   simp only[Bool.and_eq_true] at h'
   have e1:o=Kg op:=eq_of_beq h'.1.1
   subst e1
   exact both (Ao (snd a X ex G l g h'.1.2).1 (snd b X ex G r g h'.2).1)
  | _=>first|exact af h|cases h
 | .neg a,X,ex,G,e,g,h=>by
  cases e with
  | UnaryOp o l pos=>
   cases o with
   | USub=>exact both (Ap (snd a X ex G l g h).1)
   | _=>first|exact af h|cases h
  | _=>first|exact af h|cases h
 | .cmp op a b,X,ex,G,e,g,h=>by
  cases e with
  | Compare l os rs pos=>
   match os,rs,h with
   | [o],[r],h=>
    have h':(o == Kh op&&Du Z G a l&&Du Z G b r&&!behindInMarks o r)=true:=h
    simp only[Bool.and_eq_true] at h'
    have e1:o=Kh op:=eq_of_beq h'.1.1.1
    subst e1
    exact Aq g (snd a X ex G l g h'.1.1.2).1 (snd b X ex G r g h'.1.2).1 (by simpa using h'.2)
   | [],_,h=>first|exact af h|cases h
   | [_],[],h=>first|exact af h|cases h
   | [_],_::_::_,h=>first|exact af h|cases h
   | _::_::_,_,h=>first|exact af h|cases h
  | _=>first|exact af h|cases h
 | .chain op M1 a b c,X,ex,G,e,g,h=>by cases e<;>exact af h
 | .Fs a b,X,ex,G,e,g,h=>by
  cases e with
  | BoolOp o es pos=>
   match o,es,h with
   | .And,[l,r],h=>
    have h':(Du Z G a l&&Du Z G b r)=true:=h
    rw[Bool.and_eq_true] at h'
    obtain⟨pa,ta⟩:=snd a X ex G l g h'.1
    obtain⟨pb,tb⟩:=snd b X ex G r g h'.2
    exact⟨uX pa (nO pb),uY ta (sj tb)⟩
   | .And,l::r::r'::rest,h=>
    have h':(Du Z G a l&&Du Z G b (.BoolOp .And (r::r'::rest) pos))=true:=h
    rw[Bool.and_eq_true] at h'
    obtain⟨pa,ta⟩:=snd a X ex G l g h'.1
    obtain⟨pb,tb⟩:=snd b X ex G _ g h'.2
    exact⟨uX pa pb,uY ta (oT (e:=l) tb)⟩
   | .And,[],h=>first|exact af h|cases h
   | .And,[_],h=>first|exact af h|cases h
   | .Or,_,h=>first|exact af h|cases h
  | _=>first|exact af h|cases h
 | .HP a b,X,ex,G,e,g,h=>by
  cases e with
  | BoolOp o es pos=>
   match o,es,h with
   | .Or,[l,r],h=>
    have h':(Du Z G a l&&Du Z G b r)=true:=h
    rw[Bool.and_eq_true] at h'
    obtain⟨pa,ta⟩:=snd a X ex G l g h'.1
    obtain⟨pb,tb⟩:=snd b X ex G r g h'.2
    exact⟨Ar pa (nO pb),Au ta (xh tb)⟩
   | .Or,l::r::r'::rest,h=>
    have h':(Du Z G a l&&Du Z G b (.BoolOp .Or (r::r'::rest) pos))=true:=h
    rw[Bool.and_eq_true] at h'
    obtain⟨pa,ta⟩:=snd a X ex G l g h'.1
    obtain⟨pb,tb⟩:=snd b X ex G _ g h'.2
    exact⟨Ar pa pb,Au ta (oT (e:=l) tb)⟩
   | .Or,[],h=>first|exact af h|cases h
   | .Or,[_],h=>first|exact af h|cases h
   | .And,_,h=>first|exact af h|cases h
  | _=>first|exact af h|cases h
 | .HQ a,X,ex,G,e,g,h=>by
  cases e with
  | UnaryOp o l pos=>
   cases o with
   | Not=>
    obtain⟨pa,ta⟩:=snd a X ex G l g h
    exact As pa ta
   | _=>first|exact af h|cases h
  | _=>first|exact af h|cases h
 | .ite t a b,X,ex,G,e,g,h=>by cases e<;>exact af h
 | .tup es,X,ex,G,e,g,h=>by
  cases e with
  | Tuple l n pos=>exact both (Av (iC es X ex G l g h))
  | _=>first|exact af h|cases h
 | .lst es,X,ex,G,e,g,h=>by
  cases e with
  | List l pos=>exact both (Aw (iC es X ex G l g h))
  | _=>first|exact af h|cases h
 | .idx a i,X,ex,G,e,g,h=>by
  cases e with
  | Subscript o s pos=>
   have h':(aX s&&Du Z G a o&&Du Z G i s)=true:=by
    cases s<;>first|exact h|(rename_i l u st p;cases st<;>exact h)
   simp only[Bool.and_eq_true] at h'
   exact both (Ax (snd a X ex G o g h'.1.2).1 (snd i X ex G s g h'.2).1 h'.1.1)
  | _=>first|exact af h|cases h
 | .sl a lo hi,X,ex,G,e,g,h=>by
  cases e with
  | Subscript o s pos=>
   match s,h with
   | .Slice l u none p,h=>
    have h':(Du Z G a o&&ka Z G lo l&&ka Z G hi u)=true:=h
    simp only[Bool.and_eq_true] at h'
    exact both (CY (snd a X ex G o g h'.1.1).1 (tK lo X ex G l g h'.1.2) (tK hi X ex G u g h'.2))
   | .Slice _ _ (some _) _,h=>first|exact af h|cases h
   | .BoolOp ..,h=>first|exact af h|cases h
   | .NamedExpr ..,h=>first|exact af h|cases h
   | .BinOp ..,h=>first|exact af h|cases h
   | .UnaryOp ..,h=>first|exact af h|cases h
   | .Lambda ..,h=>first|exact af h|cases h
   | .IfExp ..,h=>first|exact af h|cases h
   | .Dict ..,h=>first|exact af h|cases h
   | .Set ..,h=>first|exact af h|cases h
   | .ListComp ..,h=>first|exact af h|cases h
   | .SetComp ..,h=>first|exact af h|cases h
   | .DictComp ..,h=>first|exact af h|cases h
   | .GeneratorExp ..,h=>first|exact af h|cases h
   | .Await ..,h=>first|exact af h|cases h
   | .Yield ..,h=>first|exact af h|cases h
   | .YieldFrom ..,h=>first|exact af h|cases h
   | .Compare ..,h=>first|exact af h|cases h
   | .Call ..,h=>first|exact af h|cases h
   | .FormattedValue ..,h=>first|exact af h|cases h
   | .JoinedStr ..,h=>first|exact af h|cases h
   | .Constant ..,h=>first|exact af h|cases h
   | .Attribute ..,h=>first|exact af h|cases h
   | .Subscript ..,h=>first|exact af h|cases h
   | .Starred ..,h=>first|exact af h|cases h
   | .Name ..,h=>first|exact af h|cases h
   | .List ..,h=>first|exact af h|cases h
   | .Tuple ..,h=>first|exact af h|cases h
  | _=>first|exact af h|cases h
 | .call f es,X,ex,G,e,g,h=>by
  cases e with
  | Call fn args Fi pos=>
   cases fn with
   | Name x p=>
    cases Fi with
    | nil=>
     have h':(bN Z G f x&&Z.Hx G f&&aD Z G es args)=true:=h
     simp only[Bool.and_eq_true] at h'
     exact both (s_call g h'.1.1 h'.1.2 h'.2 (iC es X ex G args g h'.2))
    | cons _ _=>first|exact af h|cases h
   | _=>first|exact af h|cases h
  | _=>first|exact af h|cases h
 | .bi f es,X,ex,G,e,g,h=>by
  cases e with
  | Call fn args Fi pos=>
   cases fn with
   | Name x p=>
    cases Fi with
    | nil=>
     cases args with
     | nil=>first|exact af h|cases h
     | cons a args=>
      have h':(x == cG f&&G.Gq (gC f)&&aD Z G es (a::args))=true:=h
      simp only[Bool.and_eq_true] at h'
      have e1:x=cG f:=eq_of_beq h'.1.1
      subst e1
      exact both (CZ g h'.1.2 h'.2 (iC es X ex G _ g h'.2))
    | cons _ _=>cases args<;>first|exact af h|cases h
   | _=>first|exact af h|cases h
  | _=>first|exact af h|cases h
 | .IV a,X,ex,G,e,g,h=>by cases e<;>exact af h
 | .EF,X,ex,G,e,g,h=>by
  have h:M7 e=true:=by cases e<;>exact h
  obtain⟨pos,rfl⟩:=oR h
  exact both yh
 | .DG a k,X,ex,G,e,g,h=>by
  have h:M8 e (fun o s=>aX s&&Du Z G a o&&Du Z G k s)=true:=by cases e<;>exact h
  obtain⟨o,s,pos,rfl,q1⟩:=yb h
  simp only[Bool.and_eq_true] at q1
  exact both (yi g (snd a X ex G o g q1.1.2).1 (snd k X ex G s g q1.2).1 q1.1.1)
 | .Hv n k a,X,ex,G,e,g,h=>by
  have h:M9 e (fun l o r=>o == nA n&&Du Z G k l&&Du Z G a r&&!behindInMarks o r)=true:=by cases e<;>exact h
  obtain⟨l,o,r,pos,rfl,q3⟩:=yd h
  simp only[Bool.and_eq_true] at q3
  have e1:o=nA n:=eq_of_beq q3.1.1.1
  subst e1
  exact AB g (snd k X ex G l g q3.1.1.2).1 (snd a X ex G r g q3.1.2).1 (by simpa using q3.2)
 | .sset a,X,ex,G,e,g,h=>by cases e<;>exact af h
 | .FI a,X,ex,G,e,g,h=>by
  have h:M' e (fun x y e=>x == "len"&&G.gl.contains 0&&y == "set"&&G.gl.contains 12&&(notStar e&&G.cm)&&Du Z G a e)=true:=by cases e<;>exact h
  obtain⟨x,p,y,p',e',q',q,rfl,h⟩:=yf h
  have h:(x == "len"&&G.gl.contains 0&&y == "set"&&G.gl.contains 12&&(notStar e'&&G.cm)&&Du Z G a e')=true:=h
  simp only[Bool.and_eq_true] at h
  have e1:x = "len":=eq_of_beq h.1.1.1.1.1
  have e2:y = "set":=eq_of_beq h.1.1.1.2
  subst e1 e2
  exact both (yj g h.1.1.1.1.2 h.1.1.2 h.1.2.1 h.1.2.2 (snd a X ex G e' g h.2).1)
 | .Gb a,X,ex,G,e,g,h=>by
  have h:Na e (fun x o n l=>x == "sum"&&G.Gq 1&&isNm o&&n == "values"&&l&&Du Z G a o)=true:=by cases e<;>exact h
  obtain⟨x,p,o,n,apos,Dt,q,rfl,h⟩:=yg h
  have h:(x == "sum"&&G.Gq 1&&isNm o&&n == "values"&&(apos.endLine == Dt.line)&&Du Z G a o)=true:=h
  simp only[Bool.and_eq_true] at h
  have e1:x = "sum":=eq_of_beq h.1.1.1.1.1
  have e2:n = "values":=eq_of_beq h.1.1.2
  subst e1 e2
  exact both (yk g h.1.1.1.1.2 h.1.1.1.2 h.1.2 (snd a X ex G o g h.2).1)
 | .GU a k d,X,ex,G,e,g,h=>by cases e<;>exact af h
 | .Hw x a y,X,ex,G,e,g,h=>by
  have h:M6 e (fun x' e' y'=>x == x'&&y == y'&&decide (x.length<=1000)&&Du Z G a e')=true:=by cases e<;>exact h
  obtain⟨x',e',y',h,he⟩:=ya h
  simp only[Bool.and_eq_true] at h
  have e1:=eq_of_beq h.1.1.1
  have e2:=eq_of_beq h.1.1.2
  subst e1 e2
  have pe:=Ay (of_decide_eq_true h.1.2) he (snd a X ex G e' g h.2).1
  rcases he with ⟨j,p,q,pos,_,rfl⟩|⟨w,j,p,q,j',r,pos,_,rfl⟩
  ·exact both pe
  ·exact both pe
 | .M4 a ns tb,X,ex,G,e,g,h=>by cases e<;>exact af h
 | .M3 a k,X,ex,G,e,g,h=>by cases e<;>exact af h
 | .Ik m o es,X,ex,G,e,g,h=>by
  cases e with
  | Call fn args Fi pos=>
   cases fn with
   | Attribute oe name apos=>
    match args,Fi,h with
    | a::args,[],h=>
     have h':(name == fB m&&fE oe&&apos.endLine == pos.line&&(decide ((a::args).length < 29)&&(G.cm||j9 m))&&Du Z G o oe&&aD Z G es (a::args))=true:=h
     simp only[Bool.and_eq_true] at h'
     have e1:name=fB m:=eq_of_beq h'.1.1.1.1.1
     subst e1
     exact both (Az g h'.1.1.1.1.2 h'.1.1.1.2 (of_decide_eq_true h'.1.1.2.1) h'.1.1.2.2 h'.2 (snd o X ex G oe g h'.1.2).1 (iC es X ex G _ g h'.2))
    | [],_,h=>first|exact af h|cases h
    | _::_,_::_,h=>first|exact af h|cases h
   | _=>first|exact af h|cases h
  | _=>first|exact af h|cases h
 | .comp G' fr tg src ifs elt,X,ex,G,e,g,h=>by
  cases e with
  | ListComp el gens scope pos=>
   have h:ny gens (fun t it fs=>bF Z G scope G' fr&&bC G' tg t&&(Fg tg).all (fun i=>decide (fr.length<=i))&&(bT Z G src it&&eP src t)&&aD Z G' ifs fs&&Du Z G' elt el)=true:=h
   obtain⟨t,it,fs,rfl,h⟩:=iu h
   have h':(bF Z G scope G' fr&&bC G' tg t&&(Fg tg).all (fun i=>decide (fr.length<=i))&&(bT Z G src it&&eP src t)&&aD Z G' ifs fs&&Du Z G' elt el)=true:=h
   simp only[Bool.and_eq_true] at h'
   exact both (yo g (iB h'.1.1.1.1.1) h'.1.1.1.1.2 (fun i hi=>of_decide_eq_true (List.all_eq_true.mp h'.1.1.1.2 i hi)) (tM src X ex G it t g h'.1.1.2.1 h'.1.1.2.2)
    (fun X' g'=>tL ifs X' Ej G' fs g' h'.1.2) (fun X' g'=>(snd elt X' Ej G' el g' h'.2).1) (fun x=>bK h'.1.1.2.1 X.env x))
  | _=>first|exact af h|cases h
theorem iC:∀ (as:List IR) (X:Cx) (ex:Str->Prop) (G:Gm) (l:List Expr),DM Z CX cl xp X ex G->aD Z G as l=true->PA X l (RA X.K ex (aq as) (aH cl as))
 | [],X,ex,G,l,g,h=>by
  cases l with
  | nil=>exact gY bO fun σ H Q ⟨S,τ,hs,q⟩=>q.ok _ _ (.refl _) .nil
  | cons _ _=>first|exact af h|cases h
 | a::as,X,ex,G,l,g,h=>by
  cases l with
  | nil=>first|exact af h|cases h
  | cons e l=>
   have h':(notStar e&&Du Z G a e&&aD Z G as l)=true:=h
   simp only[Bool.and_eq_true] at h'
   refine gY (aN (snd a X ex G e g h'.1.2).1 (iC as X ex G l g h'.2) (ai h'.1.1 _ _)) fun σ H Q ⟨S,τ,hs,q⟩=>?_
   refine aM (.refl _) hs.left (Df.U q) fun x v H1 e1 _ m1 q1=>?_
   refine jw e1 hs.right (Df.U q1) fun ds vs H2 e2 Eg m2 q2=>?_
   exact q2.ok _ _ e2 (.cons (m1.later Eg) m2)
theorem tK:∀ (o:Option IR) (X:Cx) (ex:Str->Prop) (G:Gm) (e:Option Expr),DM Z CX cl xp X ex G->ka Z G o e=true->PO X e (Le X.K ex (oH o) (ic cl o))
 | none,X,ex,G,e,g,h=>by
  cases e with
  | none=>
   intro pins s σ H Q I ⟨S,τ,hs,q⟩
   exact sH pins s σ H Q I (q.ok H (.refl _))
  | some _=>first|exact af h|cases h
 | some a,X,ex,G,e,g,h=>by
  cases e with
  | none=>first|exact af h|cases h
  | some e=>
   intro pins s σ H Q I ⟨S,τ,hs,q⟩
   refine sI (snd a X ex G e g h).1 pins s σ H Q I ?_
   refine aM (.refl _) hs (Df.U q) fun x v H1 e1 _ m1 q1=>?_
   cases x with
   | int i=>cases m1.DD;exact⟨i,rfl,q1.ok _ e1⟩
   | _=>exact q1.no.elim
theorem tL:∀ (as:List IR) (X:Cx) (ex:Str->Prop) (G:Gm) (l:List Expr),DM Z CX cl xp X ex G->aD Z G as l=true->IE X l (RT X.K ex (aq as) (dz cl as))
 | [],X,ex,G,l,g,h=>by
  cases l with
  | nil=>intro pins s σ H Q I ⟨S,τ,hs,q⟩;exact sP pins s σ H Q I (q.ok H (.refl _))
  | cons _ _=>first|exact af h|cases h
 | a::as,X,ex,G,l,g,h=>by
  cases l with
  | nil=>first|exact af h|cases h
  | cons e l=>
   have h':(notStar e&&Du Z G a e&&aD Z G as l)=true:=h
   simp only[Bool.and_eq_true] at h'
   intro pins s σ H Q I ⟨S,τ,hs,q⟩
   refine n6 (snd a X ex G e g h'.1.2).2 (tL as X ex G l g h'.2) pins s σ H Q I ?_
   refine iA (.refl _) hs.left (Df.U q) fun r H2 e2 _ k=>?_
   cases r with
   | true=>rw[if_pos rfl] at k ⊢;exact iA e2 hs.right k fun b H3 e3 _ z=>z H3 e3
   | false=>rw[if_neg Bool.false_ne_true] at k ⊢;exact k.ok H2 e2
theorem tM:∀ (s:Sr) (X:Cx) (ex:Str->Prop) (G:Gm) (e tg:Expr),DM Z CX cl xp X ex G->bT Z G s e=true->eP s tg=true->PI X tg e (RI X.K ex (dN s) (cQ cl s))
 | .Eb n,X,ex,G,e,tg,g,h,ht=>by
  cases e with
  | Call fn args Fi pos=>
   cases fn with
   | Name x p=>
    match args,Fi,h with
    | [a],[],h=>
     have h':(x == "range"&&G.gl.contains 15&&notStar a&&Du Z G n a)=true:=h
     simp only[Bool.and_eq_true] at h'
     have e1:x = "range":=eq_of_beq h'.1.1.1
     subst e1
     exact ym g h'.1.1.2 h'.1.2 (snd n X ex G a g h'.2).1
    | [],_,h=>first|exact af h|cases h
    | [_],_::_,h=>first|exact af h|cases h
    | _::_::_,_,h=>first|exact af h|cases h
   | _=>first|exact af h|cases h
  | _=>first|exact af h|cases h
 | .Ey a b,X,ex,G,e,tg,g,h,ht=>by
  cases e with
  | Call fn args Fi pos=>
   cases fn with
   | Name x p=>
    match args,Fi,h with
    | [l,r],[],h=>
     have h':(x == "range"&&G.gl.contains 15&&notStar l&&notStar r&&Du Z G a l&&Du Z G b r)=true:=h
     simp only[Bool.and_eq_true] at h'
     have e1:x = "range":=eq_of_beq h'.1.1.1.1.1
     subst e1
     exact yn g h'.1.1.1.1.2 h'.1.1.1.2 h'.1.1.2 (snd a X ex G l g h'.1.2).1 (snd b X ex G r g h'.2).1
    | [],_,h=>first|exact af h|cases h
    | [_],_,h=>first|exact af h|cases h
    | [_,_],_::_,h=>first|exact af h|cases h
    | _::_::_::_,_,h=>first|exact af h|cases h
   | _=>first|exact af h|cases h
  | _=>first|exact af h|cases h
 | .val a,X,ex,G,e,tg,g,h,ht=>AG (snd a X ex G e g h).1
 | .zip a b,X,ex,G,e,tg,g,h,ht=>by
  cases tg with
  | Tuple Vi tc tp=>
   cases e with
   | Call fn args Fi pos=>
    cases fn with
    | Name x p=>
     match args,Fi,h with
     | [l,r],[],h=>
      have h':(x == "zip"&&G.gl.contains 17&&notStar l&&notStar r&&Du Z G a l&&Du Z G b r)=true:=h
      simp only[Bool.and_eq_true] at h'
      have e1:x = "zip":=eq_of_beq h'.1.1.1.1.1
      subst e1
      exact AJ g h'.1.1.1.1.2 h'.1.1.1.2 h'.1.1.2 (snd a X ex G l g h'.1.2).1 (snd b X ex G r g h'.2).1
     | [],_,h=>first|exact af h|cases h
     | [_],_,h=>first|exact af h|cases h
     | [_,_],_::_,h=>first|exact af h|cases h
     | _::_::_::_,_,h=>first|exact af h|cases h
    | _=>first|exact af h|cases h
   | _=>first|exact af h|cases h
  | _=>exact af ht
end
end
inductive DI (K:PySem.W.Frag)(F:Addr->Prop)(H:Hp):St->Ev->List Addr->Prop where
 | nil:DI K F H [] [] []
 | none {o:Option V}{σ:St}{τ:Ev}{f:List Addr}:DI K F H σ τ f->DI K F H (o::σ) (.none::τ) f
 | some {v:V}{d:D}{f:List Addr}{σ:St}{τ:Ev}{g:List Addr}:Dv K F H v d f->DI K F H σ τ g->DI K F H (.some v::σ) (.some d::τ) (f++g)
section
variable {K:PySem.W.Frag}{F F':Addr->Prop}{H H':Hp}{σ:St}{τ:Ev}{f:List Addr}
theorem DI.step (hl:∀ a (u:LD),F a->Rd H a u.o->F' a/\Rd H' a u.o)(ht:∀ a xs,DP K H a xs->DP K H' a xs):∀ {σ:St}{τ:Ev}{f:List Addr},(∀ a∈f,¬ F a->H a≠Option.none->¬ F' a/\H' a=H a)->DI K F H σ τ f->DI K F' H' σ τ f
 | _,_,_,_,.nil=>.nil
 | _,_,_,k,.none h=>.none (DI.step hl ht k h)
 | _,_,_,k,.some m h=>.some (m.step hl ht fun a ha=>k a (List.mem_append_left _ ha)) (DI.step hl ht (fun a ha=>k a (List.mem_append_right _ ha)) h)
theorem DI.own:∀ {σ:St}{τ:Ev}{f:List Addr},DI K F H σ τ f->∀ a∈f,¬ F a/\∃ u,H a=.some u
 | _,_,_,.nil=>fun _ h=>absurd h (by simp)
 | _,_,_,.none h=>DI.own h
 | _,_,_,.some m h=>fun a ha=>by
  rcases List.mem_append.mp ha with ha|ha
  ·exact m.own a ha
  ·exact DI.own h a ha
theorem bh {o:Option D}{τ:Ev}{i:Nat}:aj (o::τ) (i+1)=aj τ i:=by unfold aj;simp
theorem bL {o:Option D}{τ:Ev}:aj (o::τ) 0=o:=by unfold aj;simp
theorem DI.at:∀ {σ:St}{τ:Ev}{f:List Addr}{i:Nat}{d:D},DI K F H σ τ f->aj τ i=.some d->∃ v fv g,σ[i]? = .some (.some v)/\Dv K F H v d fv/\DI K F H σ (τ.set i .none) g/\f.Perm (fv++g)
 | _,_,_,i,d,.nil,h=>by simp[aj] at h
 | _,_,_,0,d,.none _,h=>by rw[bL] at h;cases h
 | _,_,_,0,d,.some m h',h=>by
  rw[bL] at h
  cases h
  exact⟨_,_,_,rfl,m,.none h',.refl _⟩
 | _,_,_,i+1,d,.none h',h=>by
  rw[bh] at h
  obtain⟨v,fv,g,h1,h2,h3,h4⟩:=DI.at h' h
  exact⟨v,fv,g,by simpa using h1,h2,.none h3,h4⟩
 | _,_,_,i+1,d,.some (f:=f0) m h',h=>by
  rw[bh] at h
  obtain⟨v,fv,g,h1,h2,h3,h4⟩:=DI.at h' h
  refine⟨v,fv,f0++g,by simpa using h1,h2,.some m h3,?_⟩
  refine(List.Perm.append_left f0 h4).trans ?_
  rw[<- List.append_assoc,<- List.append_assoc]
  exact List.Perm.append_right g List.perm_append_comm
theorem DI.put:∀ {σ:St}{τ:Ev}{f:List Addr} (i:Nat) {v:V}{d:D}{fv:List Addr},DI K F H σ τ f->Dv K F H v d fv->∃ g h,DI K F H (σ.set i (.some v)) (τ.set i (.some d)) g/\(g++h).Perm (fv++f)
 | _,_,_,i,v,d,fv,.nil,m=>⟨[],_,.nil,.refl _⟩
 | _,_,_,0,v,d,fv,.none h,m=>⟨_,[],.some m h,by rw[List.append_nil]⟩
 | _,_,_,0,v,d,fv,.some (f:=f0) (g:=g0) m' h,m=>⟨_,f0,.some m h,by rw[List.append_assoc];exact List.Perm.append_left _ List.perm_append_comm⟩
 | _,_,_,i+1,v,d,fv,.none h,m=>by
  obtain⟨g,h',h1,h2⟩:=DI.put i h m
  exact⟨g,h',.none h1,h2⟩
 | _,_,_,i+1,v,d,fv,.some (f:=f0) (g:=g0) m' h,m=>by
  obtain⟨g,h',h1,h2⟩:=DI.put i h m
  refine⟨f0++g,h',.some m' h1,?_⟩
  rw[List.append_assoc]
  refine(List.Perm.append_left f0 h2).trans ?_
  rw[<- List.append_assoc,<- List.append_assoc]
  exact List.Perm.append_right g0 List.perm_append_comm
theorem DI.slots {S:Addr->Prop}{is:List Nat}(h:DI K F H σ τ f)(hF:∀ a,F a->S a)(hf:∀ a∈f,S a):Slots K S H σ τ is:=fun i hi d z=>by
 obtain⟨v,fv,g,h1,h2,h3,h4⟩:=h.at z
 exact⟨v,h1,h2.read hF fun a ha=>hf a (h4.mem_iff.mpr (List.mem_append_left _ ha))⟩
theorem DI.freeze (is:List Nat):∀ {σ:St}{τ:Ev}{f:List Addr} (k:Nat),DI K F H σ τ f->∃ fi g,f.Perm (fi++g)/\(∀ F':Addr->Prop,(∀ a,F a->F' a)->(∀ a∈fi,F' a)->(∀ a∈g,¬ F a->¬ F' a)->DI K F' H σ (ej is k τ) g)/\
  ∀ F':Addr->Prop,(∀ a,F a->F' a)->(∀ a∈fi,F' a)->∀ i,is.contains (k+i)=true->∀ d,aj τ i=.some d->∃ v,σ[i]? = .some (.some v)/\Dg K F' H v d
 | _,_,_,k,.nil=>⟨[],[],.refl _,fun _ _ _ _=>.nil,fun _ _ _ i _ d z=>by simp[aj] at z⟩
 | _,_,_,k,.none h=>by
  obtain⟨fi,g,h1,h2,h3⟩:=DI.freeze is (k+1) h
  refine⟨fi,g,h1,fun F' a b c=>?_,fun F' a b i hi d z=>?_⟩
  ·unfold ej
   have e:(if is.contains k=true then Option.map er (Option.none:Option D) else Option.none)=Option.none:=by split<;>rfl
   rw[e]
   exact .none (h2 F' a b c)
  ·cases i with
   | zero=>rw[bL] at z;cases z
   | succ i=>
    rw[bh] at z
    obtain⟨v,q1,q2⟩:=h3 F' a b i (by rw[show k+1+i=k+(i+1) by omega];exact hi) d z
    exact⟨v,by simpa using q1,q2⟩
 | _,_,_,k,.some (v:=v) (d:=d0) (f:=f0) (g:=g0) m h=>by
  obtain⟨fi,g,h1,h2,h3⟩:=DI.freeze is (k+1) h
  by_cases hc:is.contains k=true
  ·refine⟨f0++fi,g,by rw[List.append_assoc];exact List.Perm.append_left _ h1,fun F' a b c=>?_,fun F' a b i hi d z=>?_⟩
   ·unfold ej
    rw[if_pos hc]
    exact .some (f:=[]) ((m.read a fun x hx=>b x (List.mem_append_left _ hx)).frozen) (h2 F' a (fun x hx=>b x (List.mem_append_right _ hx)) c)
   ·cases i with
    | zero=>
     rw[bL] at z
     cases z
     exact⟨v,rfl,m.read a fun x hx=>b x (List.mem_append_left _ hx)⟩
    | succ i=>
     rw[bh] at z
     obtain⟨v,q1,q2⟩:=h3 F' a (fun x hx=>b x (List.mem_append_right _ hx)) i (by rw[show k+1+i=k+(i+1) by omega];exact hi) d z
     exact⟨v,by simpa using q1,q2⟩
  ·refine⟨fi,f0++g,?_,fun F' a b c=>?_,fun F' a b i hi d z=>?_⟩
   ·refine(List.Perm.append_left f0 h1).trans ?_
    rw[<- List.append_assoc,<- List.append_assoc]
    exact List.Perm.append_right g List.perm_append_comm
   ·unfold ej
    rw[if_neg hc]
    exact .some (m.step (fun x xs q r=>⟨a x q,r⟩) (fun x xs q=>q) fun x hx n _=>⟨c x (List.mem_append_left _ hx) n,rfl⟩) (h2 F' a b fun x hx=>c x (List.mem_append_right _ hx))
   ·cases i with
    | zero=>exact absurd hi hc
    | succ i=>
     rw[bh] at z
     obtain⟨v,q1,q2⟩:=h3 F' a b i (by rw[show k+1+i=k+(i+1) by omega];exact hi) d z
     exact⟨v,by simpa using q1,q2⟩
end
structure GG (F:Addr->Prop)(H:Hp)(f:List Addr)(F':Addr->Prop)(H':Hp):Prop where
 same:ar H H'
 Ec:∀ a,F a->F' a
 out:∀ a,F' a->F a∨a∈f∨H a=none
structure Ow (K:PySem.W.Frag)(F:Addr->Prop)(H:Hp)(f:List Addr)(F':Addr->Prop)(H':Hp)(σ:St)(v:V)(d:D)(fv:List Addr)(Di:Ev)(f':List Addr):Prop where
 Fz:GG F H f F' H'
 DC:Fy F' H'
 rep:Dv K F' H' v d fv
 D8:DI K F' H' σ Di f'
 DJ:(fv++f').Nodup
 mem:∀ a∈fv++f',a∈f∨H a=none
structure S8 (K:PySem.W.Frag)(F:Addr->Prop)(H:Hp)(f:List Addr)(F':Addr->Prop)(H':Hp)(σ:St)(v:List V)(d:List D)(fv:List Addr)(Di:Ev)(f':List Addr):Prop where
 Fz:GG F H f F' H'
 DC:Fy F' H'
 rep:Dh K F' H' v d fv
 D8:DI K F' H' σ Di f'
 DJ:(fv++f').Nodup
 mem:∀ a∈fv++f',a∈f∨H a=none
section
variable {K:PySem.W.Frag}{F F' Li:Addr->Prop}{H H' Ks:Hp}{f f':List Addr}
theorem GG.refl:GG F H f F H:=⟨.refl _,fun _ h=>h,fun _ h=>.inl h⟩
theorem GG.trans (a:GG F H f F' H')(b:GG F' H' f' Li Ks)(hf:∀ x∈f',x∈f∨H x=none):GG F H f Li Ks:=⟨a.same.trans b.same,fun x h=>b.Ec x (a.Ec x h),fun x h=>by
 rcases b.out x h with h|h|h
 ·exact a.out x h
 ·rcases hf x h with h|h
  ·exact .inr (.inl h)
  ·exact .inr (.inr h)
 ·exact .inr (.inr (a.same.free h))⟩
theorem Dv.Fz {v:V}{d:D}{fv:List Addr}(m:Dv K F H v d fv)(s:GG F H f F' H')(h:∀ a∈fv,a∉f):Dv K F' H' v d fv:=
 m.step (fun a xs q r=>⟨s.Ec a q,s.same.rd r⟩) (fun a xs q=>s.same.EE q) fun a ha n hn=>by
  obtain⟨_,xs,e⟩:=m.own a ha
  refine⟨fun z=>?_,(s.same _ _ e).trans e.symm⟩
  rcases s.out a z with z|z|z
  ·exact n z
  ·exact h a ha z
  ·exact hn z
theorem Dh.Fz {v:List V}{d:List D}{fv:List Addr}(m:Dh K F H v d fv)(s:GG F H f F' H')(h:∀ a∈fv,a∉f):Dh K F' H' v d fv:=
 m.step (fun a xs q r=>⟨s.Ec a q,s.same.rd r⟩) (fun a xs q=>s.same.EE q) fun a ha n hn=>by
  obtain⟨_,xs,e⟩:=m.own a ha
  refine⟨fun z=>?_,(s.same _ _ e).trans e.symm⟩
  rcases s.out a z with z|z|z
  ·exact n z
  ·exact h a ha z
  ·exact hn z
end
def RO (K:PySem.W.Frag)(ex:Str->Prop)(g:Ev->Res (D×Ev)):TE:=fun σ H Q=>∃ F τ f,Fy F H/\DI K F H σ τ f/\f.Nodup/\Df ex (g τ) fun p=>∀ v H' F' fv f',Ow K F H f F' H' σ v p.1 fv p.2 f'->Q v H'
def Lj (K:PySem.W.Frag)(ex:Str->Prop)(g:Ev->Res (List D×Ev)):TA:=fun σ H Q=>∃ F τ f,Fy F H/\DI K F H σ τ f/\f.Nodup/\Df ex (g τ) fun p=>∀ v H' F' fv f',S8 K F H f F' H' σ v p.1 fv p.2 f'->Q v H'
abbrev Kn (K:PySem.W.Frag)(S:Addr->Prop)(H:Hp)(Q:VK):List D->Prop:=fun ds=>∀ p ys H',ar H H'->H p=none->H' p=some (.lst ys)->De K (fun a=>nw S H a/\a≠p) H' ys ds->Q (.ref p) H'
def RN (K:PySem.W.Frag)(ex:Str->Prop)(is:List Nat)(f:Ev->Res (List D)):TE:=fun σ H Q=>∃ S τ,Slots K S H σ τ is/\Df ex (f τ) (Kn K S H Q)
noncomputable def dW:D->Res (List D)
 | .lst _ ds=>.ok ds
 | _=>Dq
section
variable {K:PySem.W.Frag}{F F':Addr->Prop}{H H':Hp}{σ:St}{τ:Ev}{f:List Addr}{ex:Str->Prop}{S:Addr->Prop}
theorem oW {vs ws:List V}{ds:List D}{p:Addr}{H2:Hp}(m:De K (nw S H) H2 vs ds)(hp:H2 p=none):De K (fun a=>nw S H a/\a≠p) (upd H2 p (.lst ws)) vs ds:=
 m.step (fun a xs h r=>by
  have Fq:a≠p:=fun z=>r.some (by rw[z];exact hp)
  refine⟨⟨h,Fq⟩,?_⟩
  unfold Rd
  rw[ah Fq]
  exact r) fun a xs h=>(ar.upd hp).EE h
theorem grow (P:Addr->Prop)(DC:Fy F H)(r:DI K F H σ τ f)(e:ar H H') :
  Fy (fun a=>F a∨(P a/\H a=none/\H' a≠none)) H'/\DI K (fun a=>F a∨(P a/\H a=none/\H' a≠none)) H' σ τ f/\GG F H f (fun a=>F a∨(P a/\H a=none/\H' a≠none)) H':=by
 refine⟨fun a h=>?_,r.step (fun a xs q rd=>⟨.inl q,e.rd rd⟩) (fun a xs q=>e.EE q) fun a ha n hn=>⟨fun z=>?_,?_⟩,⟨e,fun a h=>.inl h,fun a h=>?_⟩⟩
 ·rcases h with h|h
  ·intro z
   exact DC a h (e.free z)
  ·exact h.2.2
 ·rcases z with z|z
  ·exact n z
  ·exact hn z.2.1
 ·obtain⟨_,xs,q⟩:=r.own a ha
  exact(e _ _ q).trans q.symm
 ·rcases h with h|h
  ·exact .inl h
  ·exact .inr (.inr h.2.1)
theorem eM (DC:Fy F H)(r:DI K F H σ τ f)(e:ar H H'):Fy F H'/\DI K F H' σ τ f/\GG F H f F H':=by
 refine⟨fun a h z=>DC a h (e.free z),r.step (fun a xs q rd=>⟨q,e.rd rd⟩) (fun a xs q=>e.EE q) fun a ha n hn=>⟨n,?_⟩,⟨e,fun a h=>h,fun a h=>.inl h⟩⟩
 obtain⟨_,xs,q⟩:=r.own a ha
 exact(e _ _ q).trans q.symm
theorem cH (is:List Nat)(DC:Fy F H)(r:DI K F H σ τ f)(nd:f.Nodup):∃ F1 g,Fy F1 H/\DI K F1 H σ (Dw is τ) g/\g.Nodup/\GG F H f F1 H/\(∀ a∈g,a∈f)/\Slots K F1 H σ τ is:=by
 obtain⟨fi,g,h1,h2,h3⟩:=r.freeze is 0
 have Im:(fi++g).Nodup:=h1.nodup_iff.mp nd
 have JF:∀ a∈g,a∉fi:=fun a ha hb=>(List.nodup_append.mp Im).2.2 a hb a ha rfl
 have Qr:∀ a∈fi,a∈f:=fun a ha=>h1.mem_iff.mpr (List.mem_append_left _ ha)
 have S9:∀ a∈g,a∈f:=fun a ha=>h1.mem_iff.mpr (List.mem_append_right _ ha)
 refine⟨fun a=>F a∨a∈fi,g,fun a h=>?_,h2 _ (fun a h=>.inl h) (fun a h=>.inr h) (fun a ha n z=>?_),(List.nodup_append.mp Im).2.1,⟨.refl _,fun a h=>.inl h,fun a h=>?_⟩,S9,fun i hi d z=>?_⟩
 ·rcases h with h|h
  ·exact DC a h
  ·obtain⟨_,xs,q⟩:=r.own a (Qr a h)
   rw[q];simp
 ·rcases z with z|z
  ·exact n z
  ·exact JF a ha z
 ·rcases h with h|h
  ·exact .inl h
  ·exact .inr (.inl (Qr a h))
 ·exact h3 _ (fun a h=>.inl h) (fun a h=>.inr h) i (by simpa using hi) d z
theorem aY {is:List Nat}(r:DI K F H σ τ f):Slots K (fun _=>True) H σ τ is:=r.slots (fun _ _=>trivial) fun _ _=>trivial
theorem Dg.fix {v:V}{d:D}(m:Dg K (L2.nw F H) H' v d):Dg K (fun a=>F a∨(True/\H a=none/\H' a≠none)) H' v d:=m.step (fun a xs h r=>⟨h.elim (fun z=>.inl z) fun z=>.inr ⟨trivial,z,r.some⟩,r⟩) fun a xs h=>h
end
section
variable {X:Cx}{ex:Str->Prop}{cl:Nat->List D->Res D}
theorem Nd {i:Nat}{e:Expr}(he:PE X e (mQ i))(mv:Bool):PE X e (RO X.K ex (Ei cl mv (.v i))):=by
 refine az he fun σ H Q ⟨F,τ,f,DC,r,nd,q⟩=>?_
 rw[Ai] at q
 cases z:aj τ i with
 | none=>rw[z] at q;exact q.no.elim
 | some d=>
  rw[z] at q
  obtain⟨v,fv,g,h1,h2,h3,h4⟩:=r.at z
  have Im:(fv++g).Nodup:=h4.nodup_iff.mp nd
  cases mv with
  | true=>
   have q':=(show Df ex (.ok (d,τ.set i none):Res (D×Ev)) _ from q).ok
   exact⟨v,h1,q' v H F fv g ⟨.refl,DC,h2,h3,Im,fun a ha=>.inl (h4.mem_iff.mpr ha)⟩⟩
  | false=>
   have q':=(show Df ex (.ok (er d,τ.set i (some (er d))):Res (D×Ev)) _ from q).ok
   have JF:∀ a∈g,a∉fv:=fun a ha hb=>(List.nodup_append.mp Im).2.2 a hb a ha rfl
   have m1:Dv X.K (fun a=>F a∨a∈fv) H v (er d) []:=(h2.read (fun a h=>.inl h) (fun a h=>.inr h)).frozen
   have r1:DI X.K (fun a=>F a∨a∈fv) H σ (τ.set i none) g:=h3.step (fun a xs h r=>⟨.inl h,r⟩) (fun a xs h=>h) fun a ha n _=>⟨fun z=>z.elim n (JF a ha),rfl⟩
   obtain⟨g',h',r2,p2⟩:=r1.put i m1
   have D5:σ.set i (some v)=σ:=by
    apply List.ext_getElem?
    intro j
    rw[List.getElem?_set]
    by_cases hj:i=j
    ·subst hj
     have DV:i < σ.length:=(List.getElem?_eq_some_iff.mp h1).1
     rw[if_pos rfl,if_pos DV,h1]
    ·rw[if_neg hj]
   rw[D5,List.set_set] at r2
   rw[List.nil_append] at p2
   have Jc:(g'++h').Nodup:=p2.nodup_iff.mpr (List.nodup_append.mp Im).2.1
   refine⟨v,h1,q' v H _ [] g' ⟨⟨.refl _,fun a h=>.inl h,fun a h=>?_⟩,fun a h=>?_,m1,r2,(List.nodup_append.mp Jc).1,fun a ha=>?_⟩⟩
   ·exact h.elim (fun z=>.inl z) fun z=>.inr (.inl (h4.mem_iff.mpr (List.mem_append_left _ z)))
   ·rcases h with h|h
    ·exact DC a h
    ·obtain⟨_,xs,e⟩:=h2.own a h
     rw[e];simp
   ·have:a∈g:=p2.mem_iff.mp (List.mem_append_left _ (by simpa using ha))
    exact .inl (h4.mem_iff.mpr (List.mem_append_right _ this))
theorem G0 {l:List Expr}{n:Nat}{pos:Pos}{g:Ev->Res (List D×Ev)}(h:PA X l (Lj X.K ex g)):PE X (.Tuple l n pos) (RO X.K ex fun τ=>U (g τ) fun p=>Dk (aZ p.1.length) (.ok (.tup p.1,p.2))):=by
 refine az (nW h) fun σ H Q ⟨F,τ,f,DC,r,nd,q⟩=>⟨F,τ,f,DC,r,nd,(Df.U q).mono fun p hp vs H1 F1 fv f1 o=>?_⟩
 obtain⟨gd,hp⟩:=Df.Dk hp
 refine⟨by rw[o.rep.length];exact aQ gd,fun p' Jd=>hp.ok _ _ F1 fv f1 ?_⟩
 have e:ar H1 (upd H1 p' (.tup vs)):=.upd Jd
 obtain⟨k1,k2,k3⟩:=eM o.DC o.D8 e
 refine⟨o.Fz.trans k3 (fun x hx=>o.mem x (List.mem_append_right _ hx)),k1,.tup (.inl (.inl ao)) (o.rep.Fz k3 fun a ha hb=>(List.nodup_append.mp o.DJ).2.2 a ha a hb rfl),k2,o.DJ,o.mem⟩
theorem G1 {l:List Expr}{pos:Pos}{g:Ev->Res (List D×Ev)}(h:PA X l (Lj X.K ex g)):PE X (.List l pos) (RO X.K ex fun τ=>U (g τ) fun p=>Dk (aZ p.1.length) (.ok (.lst true p.1,p.2))):=by
 refine az (nX h) fun σ H Q ⟨F,τ,f,DC,r,nd,q⟩=>⟨F,τ,f,DC,r,nd,(Df.U q).mono fun p hp vs H1 F1 fv f1 o=>?_⟩
 obtain⟨gd,hp⟩:=Df.Dk hp
 refine⟨by rw[o.rep.length];exact aQ gd,fun p' Jd=>hp.ok _ _ F1 (p'::fv) f1 ?_⟩
 have e:ar H1 (upd H1 p' (.lst vs)):=.upd Jd
 obtain⟨k1,k2,k3⟩:=eM o.DC o.D8 e
 refine⟨o.Fz.trans k3 (fun x hx=>o.mem x (List.mem_append_right _ hx)),k1,.EN (fun z=>o.DC _ z Jd) ao (o.rep.Fz k3 fun a ha hb=>(List.nodup_append.mp o.DJ).2.2 a ha a hb rfl),k2,?_,fun a ha=>?_⟩
 ·rw[List.cons_append,List.nodup_cons]
  refine⟨fun z=>?_,o.DJ⟩
  rcases List.mem_append.mp z with z|z
  ·obtain⟨_,xs,e⟩:=o.rep.own _ z
   rw[Jd] at e;cases e
  ·obtain⟨_,xs,e⟩:=o.D8.own _ z
   rw[Jd] at e;cases e
 ·rw[List.cons_append] at ha
  rcases List.mem_cons.mp ha with rfl|ha
  ·exact .inr (o.Fz.same.free Jd)
  ·exact o.mem a ha
theorem yp:PA X [] (Lj X.K ex fun τ=>.ok ([],τ)):=gY bO fun σ H Q ⟨F,τ,f,DC,r,nd,q⟩=>q.ok [] H F [] f ⟨.refl,DC,.nil,r,nd,fun a ha=>.inl ha⟩
theorem tN {e:Expr}{l:List Expr}{ga:Ev->Res (D×Ev)}{gs:Ev->Res (List D×Ev)}(hn:notStar e=true)(ha:PE X e (RO X.K ex ga))(hr:PA X l (Lj X.K ex gs)) :
  PA X (e::l) (Lj X.K ex fun τ=>U (ga τ) fun p=>U (gs p.2) fun q=>.ok (p.1::q.1,q.2)):=by
 refine gY (aN ha hr (ai hn _ _)) fun σ H Q ⟨F,τ,f,DC,r,nd,q⟩=>⟨F,τ,f,DC,r,nd,(Df.U q).mono fun p hp v H1 F1 fv f1 o=>?_⟩
 refine⟨F1,p.2,f1,o.DC,o.D8,(List.nodup_append.mp o.DJ).2.1,(Df.U hp).mono fun p' Jd vs H2 F2 Ta f2 o2=>?_⟩
 have JF:∀ a∈fv,a∉f1:=fun a h1 h2=>(List.nodup_append.mp o.DJ).2.2 a h1 a h2 rfl
 have m2:=o.rep.Fz o2.Fz JF
 refine Jd.ok (v::vs) H2 F2 (fv++Ta) f2 ⟨o.Fz.trans o2.Fz (fun x hx=>o.mem x (List.mem_append_right _ hx)),o2.DC,.cons m2 o2.rep,o2.D8,?_,fun a ha=>?_⟩
 ·rw[List.append_assoc]
  refine List.nodup_append.mpr ⟨(List.nodup_append.mp o.DJ).1,o2.DJ,fun a h1 b h2 e=>?_⟩
  subst e
  rcases o2.mem a h2 with z|z
  ·exact JF a h1 z
  ·obtain⟨_,xs,e⟩:=o.rep.own a h1
   rw[z] at e;cases e
 ·rw[List.append_assoc] at ha
  rcases List.mem_append.mp ha with ha|ha
  ·exact o.mem a (List.mem_append_left _ ha)
  ·rcases o2.mem a ha with z|z
   ·exact o.mem a (List.mem_append_right _ z)
   ·exact .inr (o.Fz.same.free z)
end
section
variable {Z:Sg}{CX:Er}{cl:Nat->List D->Res D}{xp:XK->Hp->Str->Prop}{X:Cx}{ex:Str->Prop}{G:Gm}
def Nf (K:PySem.W.Frag)(ex:Str->Prop)(cl:Nat->List D->Res D)(f:Nat)(vs:List V)(H:Hp)(Q:VK):Prop:=∃ F ds,Fy F H/\De K F H vs ds/\Df ex (cl f (Dx ds)) fun d=>∀ v H' F' fv,Out K F H F' H' v d fv->Q v H'
theorem oX (g:DM Z CX cl xp X ex G){f:Nat}{x:Str}{p pos:Pos}{es:List IR}{args:List Expr}{t:TA}(h1:bN Z G f x=true)(h2:Z.Hx G f=true)(DN:aD Z G es args=true)(h:PA X args t)
  (h0:args=[]->∀ σ H (Q:List V->Hp->Prop),t σ H Q->Q [] H):PE X (.Call (.Name x p) args [] pos) (fun σ H Q=>t σ H fun vs H1=>Nf X.K ex cl f vs H1 Q):=by
 obtain⟨k1,k2,k3,k4⟩:=fF g h1
 obtain⟨k,Me,fd,ps,hm,F8,hb,F,hr,hlen⟩:=(g.fns f (ez h2).1 (ez h2).2 x k2).ex
 obtain⟨E,hP,hE⟩:=g.Ld
 intro pins s σ H Q I q
 have fin:∀ (us:List Value) (s1:Shared) (vs:List V) (H1:Hp),Inv X pins σ H1 s1->Vals vs us->Nf X.K ex cl f vs H1 Q->wpAny (model X.prog X.w) X.A (call (.ref Me) us) (EP X pins σ Q) X.xe s1:=by
  intro us s1 vs H1 I1 r ⟨Fc,ds,DC,m,q1⟩
  have hl:=hlen ex _ _ q1
  rw[bz] at hl
  refine iz F hr hb hP g.JB I1 r (by rw[m.length];exact hl) DC m ?_
  cases z:cl f (Dx ds) with
  | error er=>
   rw[z] at q1
   cases er with
   | stuck=>exact q1.no.elim
   | exc c=>exact hE c _ q1
  | ok d=>
   rw[z] at q1
   exact q1.ok
 refine wpAny_Call_Name_kw (cA I k1 hm ?_ k4)
 cases args with
 | nil=>
  cases es with
  | cons _ _=>cases DN
  | nil=>exact PySem.W.callWith_K0 I.G7 F8 (fin [] s [] H I .nil (h0 rfl σ H _ q))
 | cons e l=>
  cases es with
  | nil=>cases DN
  | cons a es=>
   have DF:(notStar e&&Du Z G a e&&aD Z G es l)=true:=DN
   simp only[Bool.and_eq_true] at DF
   refine PySem.W.callWith_K (h₀:=X.base) I.ok.mod.Ig F8 (DB (h pos pins s σ H _ I q) fun us s1 ⟨vs,H1,I1,r,q1⟩=>⟨I1.G7,?_⟩) (ai DF.1.1 l X.env) (bj Z G (es:=es) pos X.env DF.2)
   exact fin us s1 vs H1 I1 r q1
theorem Dv.Hh {K:PySem.W.Frag}{F F':Addr->Prop}{H:Hp}{v:V}{d:D}{fv:List Addr}(m:Dv K F H v d fv)(n:ay d=true):Dv K F' H v d []:=(m.read (S:=fun _=>True) (fun _ _=>trivial) fun _ _=>trivial).free n
theorem FN (g:DM Z CX cl xp X ex G){f:Nat}{x:Str}{p pos:Pos}{es:List IR}{args:List Expr}(h1:bN Z G f x=true)(h2:Z.Hx G f=true)(DN:aD Z G es args=true)(mv:Bool) :
  PE X (.Call (.Name x p) args [] pos) (RO X.K ex (Ei cl mv (.call f es))):=by
 have pa:=iC es X ex G args g DN
 have pe:=oX (p:=p) (pos:=pos) g h1 h2 DN pa (fun e σ H Q ⟨S,τ,hs,q⟩=>by
  subst e
  cases es with
  | nil=>exact q.ok [] H (.refl _) .nil
  | cons _ _=>cases DN)
 refine az pe fun σ H Q ⟨F,τ,fo,DC,r,nd,q⟩=>?_
 have q':Df ex (U (aH cl es τ) fun ds=>U (cl f (Dx ds)) fun d=>if ay d=true then .ok (d,τ) else .ok (d,Dw (aq es) τ)) (fun p=>∀ v H' F' fv f',Ow X.K F H fo F' H' σ v p.1 fv p.2 f'->Q v H'):=q
 -- read without Oo up
 have borrow:(∀ ds,aH cl es τ=.ok ds->Df ex (cl f (Dx ds)) fun d=>ay d=true/\∀ v H' F' fv f',Ow X.K F H fo F' H' σ v d fv τ f'->Q v H')->Df ex (aH cl es τ) (fun _=>True)->RA X.K ex (aq es) (aH cl es) σ H (fun vs H1=>Nf X.K ex cl f vs H1 Q):=by
  intro hk Dz
  refine jw (.refl _) (aY r) Dz.eq fun ds vs H1 e1 _ m1 q1=>?_
  refine⟨fun a=>H1 a≠none,ds,fun a h=>h,m1.step (fun a xs h rd=>⟨rd.some,rd⟩) fun a xs h=>h,(hk ds q1.1).mono fun d hd v H' F' fv o=>?_⟩
  obtain⟨k1,k2,k3⟩:=eM DC r (e1.trans o.same)
  exact hd.2 v H' F [] fo ⟨k3,k1,o.rep.Hh hd.1,k2,by simpa using nd,fun a ha=>.inl (by simpa using ha)⟩
 cases z:aH cl es τ with
 | error er=>
  rw[z] at q'
  cases er with
  | stuck=>exact q'.no.elim
  | exc c=>exact borrow (fun ds h=>by rw[z] at h;cases h) (by rw[z];exact q')
 | ok ds=>
  rw[z] at q'
  have q1:Df ex (U (cl f (Dx ds)) fun d=>if ay d=true then .ok (d,τ) else .ok (d,Dw (aq es) τ)) (fun p=>∀ v H' F' fv f',Ow X.K F H fo F' H' σ v p.1 fv p.2 f'->Q v H'):=q'
  cases zc:cl f (Dx ds) with
  | error er=>
   rw[zc] at q1
   cases er with
   | stuck=>exact q1.no.elim
   | exc c=>exact borrow (fun ds' h=>by rw[z] at h;cases h;rw[zc];exact q1) (by rw[z];trivial)
  | ok d=>
   rw[zc] at q1
   have q2:Df ex (if ay d=true then .ok (d,τ) else .ok (d,Dw (aq es) τ)) (fun p=>∀ v H' F' fv f',Ow X.K F H fo F' H' σ v p.1 fv p.2 f'->Q v H'):=q1
   by_cases hl:ay d=true
   ·rw[if_pos hl] at q2
    exact borrow (fun ds' h=>by rw[z] at h;cases h;rw[zc];exact⟨hl,q2.ok⟩) (by rw[z];trivial)
   ·rw[if_neg hl] at q2
    obtain⟨F1,gg,b1,b2,b3,b4,b5,b6⟩:=cH (aq es) DC r nd
    refine jw (Kt:=fun ds'=>ds'=ds) (.refl _) b6 (by rw[z];rfl) fun ds' vs H1 e1 _ m1 e=>?_
    subst e
    have hm:De X.K (fun a=>F1 a∨(True/\H a=none/\H1 a≠none)) H1 vs ds':=m1.step (fun a xs h r=>⟨h.elim (fun z=>.inl z) fun z=>.inr ⟨trivial,z,r.some⟩,r⟩) fun a xs h=>h
    obtain⟨c1,c2,c3⟩:=grow (fun _=>True) b1 b2 e1
    refine⟨_,ds',c1,hm,?_⟩
    rw[zc]
    intro v H' F' fv o
    have s1:GG (fun a=>F1 a∨(True/\H a=none/\H1 a≠none)) H1 gg F' H':=⟨o.same,o.Ec,fun a h=>(o.out a h).elim (fun z=>.inl z) fun z=>.inr (.inr z)⟩
    have r2:DI X.K F' H' σ (Dw (aq es) τ) gg:=c2.step (fun a xs q rd=>⟨o.Ec a q,o.same.rd rd⟩) (fun a xs q=>o.same.EE q) fun a ha n hn=>by
     obtain⟨_,xs,e⟩:=c2.own a ha
     refine⟨fun z=>?_,(o.same _ _ e).trans e.symm⟩
     rcases o.out a z with z|z
     ·exact n z
     ·exact hn z
    refine q2.ok v H' F' fv gg ⟨(b4.trans c3 (fun x hx=>.inl (b5 x hx))).trans s1 (fun x hx=>.inl (b5 x hx)),o.DC,o.rep,r2,?_,fun a ha=>?_⟩
    ·refine List.nodup_append.mpr ⟨o.DJ,b3,fun a h1 b h2 e=>?_⟩
     subst e
     obtain⟨_,xs,e⟩:=c2.own a h2
     rw[o.new a h1] at e
     cases e
    ·rcases List.mem_append.mp ha with ha|ha
     ·exact .inr (e1.free (o.new a ha))
     ·exact .inl (b5 a ha)
theorem aI {a:IR}{e:Expr}(he:PE X e (RD X.K ex (vars a) (Dj cl a)))(hN:br a=true->PE X e (RN X.K ex (vars a) fun τ=>U (Dj cl a τ) dW)):PE X e (RO X.K ex fun τ=>U (Dj cl a τ) fun d=>.ok (aP a d τ)):=by
 intro pins s σ H Q I h
 obtain⟨F,τ,fo,DC,r,nd,q⟩:=h
 replace q:Df ex (U (Dj cl a τ) fun d=>.ok (aP a d τ)) (fun p=>∀ v H' F' fv f',Ow X.K F H fo F' H' σ v p.1 fv p.2 f'->Q v H'):=q
 have rd:RD X.K ex (vars a) (Dj cl a) σ H Q->wpAny (model X.prog X.w) X.A (eval e X.env) (EP X pins σ Q) X.xe s:=fun h=>he pins s σ H Q I h
 cases z:Dj cl a τ with
 | error er=>
  rw[z] at q
  cases er with
  | stuck=>exact q.no.elim
  | exc c=>exact rd ⟨fun _=>True,τ,aY r,by rw[z];exact q⟩
 | ok d=>
  rw[z] at q
  have q1:∀ v H' F' fv f',Ow X.K F H fo F' H' σ v (aP a d τ).1 fv (aP a d τ).2 f'->Q v H':=q
  by_cases hl:ay d=true
  ·unfold aP at q1
   rw[if_pos hl] at q1
   refine rd ⟨fun _=>True,τ,aY r,?_⟩
   rw[z]
   intro v H' e m
   obtain⟨k1,k2,k3⟩:=eM DC r e
   exact q1 v H' F [] fo ⟨k3,k1,m.free hl,k2,by simpa using nd,fun a ha=>.inl (by simpa using ha)⟩
  ·have other:aP a d τ=(er d,Dw (vars a) τ)->wpAny (model X.prog X.w) X.A (eval e X.env) (EP X pins σ Q) X.xe s:=fun hk=>by
    rw[hk] at q1
    obtain⟨F1,gg,b1,b2,b3,b4,b5,b6⟩:=cH (vars a) DC r nd
    refine rd ⟨F1,τ,b6,?_⟩
    rw[z]
    intro v H' e m
    obtain⟨c1,c2,c3⟩:=grow (fun _=>True) b1 b2 e
    exact q1 v H' _ [] gg ⟨b4.trans c3 (fun x hx=>.inl (b5 x hx)),c1,m.fix.frozen,c2,by simpa using b3,fun a ha=>.inl (b5 a (by simpa using ha))⟩
   by_cases hn:br a=true
   ·cases d with
    | lst o ds=>
     by_cases hi:ak ds=true
     ·have hk:aP a (.lst o ds) τ=(.lst true ds,τ):=by
       unfold aP
       rw[if_neg hl,hn]
       show (if ak ds=true then _ else _)=_
       rw[if_pos hi]
      rw[hk] at q1
      refine hN hn pins s σ H Q I ⟨fun _=>True,τ,aY r,?_⟩
      show Df ex (U (Dj cl a τ) dW) _
      rw[z]
      intro p ys H' e hp hy m
      obtain⟨k1,k2,k3⟩:=eM DC r e
      refine q1 (.ref p) H' F [p] fo ⟨k3,k1,.EN (fun zz=>DC p zz hp) hy (m.free hi),k2,?_,fun a ha=>?_⟩
      ·rw[List.singleton_append,List.nodup_cons]
       refine⟨fun zz=>?_,nd⟩
       obtain⟨_,xs,e⟩:=r.own p zz
       rw[hp] at e;cases e
      ·rw[List.singleton_append] at ha
       rcases List.mem_cons.mp ha with rfl|ha
       ·exact .inr hp
       ·exact .inl ha
     ·have hk:aP a (.lst o ds) τ=(.lst true (Dx ds),Dw (vars a) τ):=by
       unfold aP
       rw[if_neg hl,hn]
       show (if ak ds=true then _ else _)=_
       rw[if_neg hi]
      rw[hk] at q1
      obtain⟨F1,gg,b1,b2,b3,b4,b5,b6⟩:=cH (vars a) DC r nd
      refine hN hn pins s σ H Q I ⟨F1,τ,b6,?_⟩
      show Df ex (U (Dj cl a τ) dW) _
      rw[z]
      intro p ys H' e hp hy m
      obtain⟨c1,c2,c3⟩:=grow (fun a=>a≠p) b1 b2 e
      have m2:De X.K (fun a=>F1 a∨(a≠p/\H a=none/\H' a≠none)) H' ys ds:=m.step (fun a xs h r=>⟨h.1.elim (fun z=>.inl z) fun z=>.inr ⟨h.2,z,r.some⟩,r⟩) fun a xs h=>h
      refine q1 (.ref p) H' _ [p] gg ⟨b4.trans c3 (fun x hx=>.inl (b5 x hx)),c1,.EN (fun zz=>?_) hy m2.frozen,c2,?_,fun a ha=>?_⟩
      ·rcases zz with zz|zz
       ·exact b1 p zz hp
       ·exact zz.1 rfl
      ·rw[List.singleton_append,List.nodup_cons]
       refine⟨fun zz=>?_,b3⟩
       obtain⟨_,xs,e⟩:=b2.own p zz
       rw[hp] at e;cases e
      ·rw[List.singleton_append] at ha
       rcases List.mem_cons.mp ha with rfl|ha
       ·exact .inr hp
       ·exact .inl (b5 a ha)
    | _=>
     refine other ?_
     unfold aP
     rw[if_neg hl,hn]
   ·have Fb:br a=false:=by simpa using hn
    refine other ?_
    unfold aP
    rw[if_neg hl,Fb]
theorem AM {a b:Expr}{pos:Pos}{va vb:List Nat}{fa fb:Ev->Res D}(ha:PE X a (RD X.K ex va fa))(hb:PE X b (RD X.K ex vb fb)) :
  PE X (.BinOp a .Add b pos) (RN X.K ex (va++vb) fun τ=>U (U (fa τ) fun x=>U (fb τ) fun y=>Fm .add x y) dW):=by
 refine az (uP kO ha hb) fun σ H Q ⟨S,τ,hs,q⟩=>?_
 refine aM (.refl _) hs.left (Df.U (Df.U q)) fun x v H1 e1 _ m1 q1=>?_
 refine aM e1 hs.right (Df.U q1) fun y w H2 e2 Eg m2 q2=>?_
 have stuck:∀ {P:Prop},Fm .add x y=Dq->P:=fun z=>by rw[z] at q2;exact q2.no.elim
 cases x with
 | int a=>cases y with
  | int b=>exact q2.ok.no.elim
  | _=>exact stuck rfl
 | str a=>cases y with
  | str b=>exact(Df.Dk q2).2.ok.no.elim
  | _=>exact stuck rfl
 | lst o a=>cases y with
  | lst o' b=>
   obtain⟨p,xs,rfl,h1,n1⟩:=m1.IT
   obtain⟨p',ys,rfl,h2,n2⟩:=m2.IT
   obtain⟨gd,q3⟩:=Df.Dk q2
   have g':=aQ gd
   have l1:=n1.length
   have l2:=n2.length
   have Oj:Ls X.K H2 p xs:=h1.elim (fun z=>.inl (Eg.rd z)) .inr
   exact⟨p,p',xs,ys,rfl,rfl,Oj,h2,by omega,fun z hz=>q3.ok.ok z _ _ (e2.trans (.upd hz)) (e2.free hz) ao (oW ((n1.later Eg).append n2) hz)⟩
  | _=>exact stuck rfl
 | _=>exact stuck rfl
theorem C0 {a:Expr}{lo hi:Option Expr}{pos p2:Pos}{va vl vh:List Nat}{fa:Ev->Res D}{fl fh:Ev->Res (Option Int)}(ha:PE X a (RD X.K ex va fa))(hl:PO X lo (Le X.K ex vl fl))(hh:PO X hi (Le X.K ex vh fh)) :
  PE X (.Subscript a (.Slice lo hi none p2) pos) (RN X.K ex (va++vl++vh) fun τ=>U (U (fa τ) fun x=>U (fl τ) fun l=>U (fh τ) fun h=>ia x l h) dW):=by
 refine az (jc kG ha hl hh) fun σ H Q ⟨S,τ,hs,q⟩=>?_
 refine aM (.refl _) hs.left.left (Df.U (Df.U q)) fun x v H1 e1 _ m1 q1=>?_
 refine tE e1 hs.left.right (Df.U q1) fun l H2 e2 Eg q2=>?_
 refine tE e2 hs.right (Df.U q2) fun h H3 e3 Ko q3=>?_
 cases x with
 | lst o ds=>
  obtain⟨p,xs,rfl,h1,n1⟩:=m1.D7
  exact⟨p,xs,rfl,(Eg.trans Ko).seq h1,fun z hz=>q3.ok.ok z _ _ (e3.trans (.upd hz)) (e3.free hz) ao (oW (kQ l h (n1.later (Eg.trans Ko))) hz)⟩
 | str _=>exact(Df.Dk q3).2.ok.no.elim
 | _=>exact q3.no.elim
theorem fZ (hc:X.calm=true):cg X (.type "list") (fun xs H Q=>(∃ p ys,xs=[.ref p]/\(EB X.K H p ys∨EJ X.K H p ys)/\∀ l,H l=none->Q (.ref l) (upd H l (.lst ys)))∨∃ z:Str,xs=[.str z]/\z.length<=sizeLine/\∀ l,H l=none->Q (.ref l) (upd H l (.lst (dw z)))):=by
 intro pins s σ H xs us Q I r h
 rcases h with h|h
 ·exact cD pins s σ H xs us Q I r h
 ·exact dt hc pins s σ H xs us Q I r h
theorem yq (g:DM Z CX cl xp X ex G){p pos:Pos}{es:List IR}{a:Expr}{args:List Expr}(hg:G.Gq (gC .list)=true)(DN:aD Z G es (a::args)=true)(h:PA X (a::args) (RA X.K ex (aq es) (aH cl es))) :
  PE X (.Call (.Name (cG .list) p) (a::args) [] pos) (RN X.K ex (aq es) fun τ=>U (U (aH cl es τ) fun ds=>bX .list ds) dW):=by
 obtain⟨k1,k2,k3,k4⟩:=cU g (oQ .list) (iq hg)
 cases es with
 | nil=>cases DN
 | cons b es=>
  have DF:(notStar a&&Du Z G b a&&aD Z G es args)=true:=DN
  simp only[Bool.and_eq_true] at DF
  refine az (ee (fZ (g.calm (ir hg))) k1 k2 (kR .list) h k3 k4 (ai DF.1.1 args X.env) (bj Z G (es:=es) pos X.env DF.2)) fun σ H Q ⟨S,τ,hs,q⟩=>?_
  refine jw (.refl _) hs (Df.U (Df.U q)) fun ds vs H1 e1 _ m1 q1=>?_
  have stuck:∀ {P:Prop},bX .list ds=Dq->P:=fun z=>by rw[z] at q1;exact q1.no.elim
  match ds,m1 with
  | [],_=>exact stuck rfl
  | d::_::_,_=>exact stuck (by cases d<;>rfl)
  | [d],m1=>
   obtain⟨x,rfl,hd⟩:=m1.Ki
   cases d with
   | tup ds=>
    obtain⟨a,ys,rfl,q',m⟩:=hd.Ek
    exact .inl ⟨a,ys,rfl,.inr q',fun z hz=>q1.ok.ok z _ _ (e1.trans (.upd hz)) (e1.free hz) ao (oW m hz)⟩
   | lst o ds=>
    obtain⟨a,ys,rfl,q',m⟩:=hd.D7
    exact .inl ⟨a,ys,rfl,.inl q',fun z hz=>q1.ok.ok z _ _ (e1.trans (.upd hz)) (e1.free hz) ao (oW m hz)⟩
   | str z=>
    cases hd.DY
    obtain⟨gz,q1⟩:=Df.Dk q1
    exact .inr ⟨z,rfl,aQ gz,fun l hl=>q1.ok.ok l _ _ (e1.trans (.upd hl)) (e1.free hl) ao (oW (gy z) hl)⟩
   | _=>exact stuck rfl
end
section
variable {Z:Sg}{CX:Er}{cl:Nat->List D->Res D}{xp:XK->Hp->Str->Prop}
theorem eN {X:Cx}{ex:Str->Prop}{G:Gm}(g:DM Z CX cl xp X ex G){i:Nat}{x:Str}{pos:Pos}(h:cq G i x=true):PE X (.Name x pos) (mQ i):=by
 unfold cq at h
 rw[Bool.and_eq_true] at h
 have hx:G.N[i]? = some x:=eq_of_beq h.1
 have hk:=g.kd i x hx
 have hv:Lx X.env.scope x:=by
  have h2:=h.2
  rw[Bool.or_eq_true,Bool.or_eq_true] at h2
  rcases h2 with (h2|h2)|h2
  ·exact .inl (hk.trans (eq_of_beq h2))
  ·exact .inr (.inl (hk.trans (eq_of_beq h2)))
  ·exact .inr (.inr (hk.trans (eq_of_beq h2)))
 exact nL (i:=i) (by rw[g.N];exact hx) hv (g.Hd i x hx).1 (g.Hd i x hx).2
theorem yr {X:Cx}{ex:Str->Prop}{G G':Gm}{fr:List Nat}(g:DM Z CX cl xp X ex G){scope:Scope}{tg iter elt:Expr}{ifs:List Expr}{pos:Pos}{T:Tg}{s:Sr}{I:List IR}{E:IR}(hs:Hf Z G scope G' fr)(hT:bC G' T tg=true)(ha:∀ i∈Fg T,fr.length<=i)
  (hi:bT Z G s iter=true/\eP s tg=true) (ht:aD Z G' I ifs=true) (he:Du Z G' E elt=true) :
  PE X (.ListComp elt [⟨tg,iter,ifs,0⟩] scope pos) (RN X.K ex (vars (.comp G' fr T s I E)) fun τ=>U (Dj cl (.comp G' fr T s I E) τ) dW):=by
 intro pins s' σ H Q Iv h
 obtain⟨Ez,S⟩:=eB g Iv.ok hs
 have p:=kI (pos:=pos) (elt:=elt) (ifs:=ifs) (tg:=tg) (g:=gT X.K T) (tt:=RT X.K Ej (aq I) (dz cl I)) (te:=RD X.K Ej (vars E) (Dj cl E)) (g.calm hs.cm) S (tM s X ex G iter tg g hi.1 hi.2) (fun C s H fp=>JD (bG g hs Ez C s H fp) T tg hT)
  (fun C s H fp=>tL I _ Ej G' ifs (bG g hs Ez C s H fp) ht) (fun C s H fp=>(snd E _ Ej G' elt (bG g hs Ez C s H fp) he).1) (fun x=>bK hi.1 X.env x)
 refine p pins s' σ H Q Iv ?_
 obtain⟨S0,τ,Om,q⟩:=h
 have q':=Df.U (show Df ex (U (Dj cl (.comp G' fr T s I E) τ) dW) _ from q)
 rw[fL] at q'
 exact cw hs.Mj ha Om q' fun A ys ds H' e hA JE m k=>k.ok A ys H' e hA JE m
theorem E6:∀ (a:IR) (X:Cx) (ex:Str->Prop) (G:Gm) (e:Expr),DM Z CX cl xp X ex G->Du Z G a e=true->br a=true->PE X e (RN X.K ex (vars a) fun τ=>U (Dj cl a τ) dW):=by
 intro a X ex G e g h n
 cases a with
 | bin op a b=>
  cases op with
  | add=>
   cases e with
   | BinOp l o r pos=>
    have h':(o == Kg .add&&Du Z G a l&&Du Z G b r)=true:=h
    simp only[Bool.and_eq_true] at h'
    have e1:o=Kg .add:=eq_of_beq h'.1.1
    subst e1
    exact AM (snd a X ex G l g h'.1.2).1 (snd b X ex G r g h'.2).1
   | _=>first|exact af h|cases h
  | _=>cases n
 | sl a lo hi=>
  cases e with
  | Subscript o s pos=>
   cases s with
   | Slice l u st p=>
    cases st with
    | none=>
     have h':(Du Z G a o&&ka Z G lo l&&ka Z G hi u)=true:=h
     simp only[Bool.and_eq_true] at h'
     exact C0 (snd a X ex G o g h'.1.1).1 (tK lo X ex G l g h'.1.2) (tK hi X ex G u g h'.2)
    | some _=>first|exact af h|cases h
   | _=>first|exact af h|cases h
  | _=>first|exact af h|cases h
 | bi f es=>
  cases f with
  | list=>
   cases e with
   | Call fn args Fi pos=>
    cases fn with
    | Name x p=>
     cases Fi with
     | nil=>
      cases args with
      | nil=>first|exact af h|cases h
      | cons a args=>
       have h':(x == cG .list&&G.Gq (gC .list)&&aD Z G es (a::args))=true:=h
       simp only[Bool.and_eq_true] at h'
       have e1:x=cG .list:=eq_of_beq h'.1.1
       subst e1
       exact yq g h'.1.2 h'.2 (iC es X ex G _ g h'.2)
     | cons _ _=>cases args<;>first|exact af h|cases h
    | _=>first|exact af h|cases h
   | _=>first|exact af h|cases h
  | _=>cases n
 | comp G' fr tg src ifs elt=>
  cases e with
  | ListComp el gens scope pos=>
   have h:ny gens (fun t it fs=>bF Z G scope G' fr&&bC G' tg t&&(Fg tg).all (fun i=>decide (fr.length<=i))&&(bT Z G src it&&eP src t)&&aD Z G' ifs fs&&Du Z G' elt el)=true:=h
   obtain⟨t,it,fs,rfl,h⟩:=iu h
   have h':(bF Z G scope G' fr&&bC G' tg t&&(Fg tg).all (fun i=>decide (fr.length<=i))&&(bT Z G src it&&eP src t)&&aD Z G' ifs fs&&Du Z G' elt el)=true:=h
   simp only[Bool.and_eq_true] at h'
   exact yr g (iB h'.1.1.1.1.1) h'.1.1.1.1.2 (fun i hi=>of_decide_eq_true (List.all_eq_true.mp h'.1.1.1.2 i hi)) h'.1.1.2 h'.1.2 h'.2
  | _=>first|exact af h|cases h
 | _=>cases n
theorem FO {X:Cx}{ex:Str->Prop}{pos:Pos}(mv:Bool):PE X (.Dict [] [] pos) (RO X.K ex (Ei cl mv .EF)):=by
 refine az ji fun σ H Q ⟨F,τ,fo,DC,r,nd,q⟩=>fun p hp=>?_
 have q':∀ v H' F' fv f',Ow X.K F H fo F' H' σ v (.Dl true [] []) fv τ f'->Q v H':=q
 have e:ar H (upd H p (.dK [])):=.upd hp
 obtain⟨k1,k2,k3⟩:=eM DC r e
 have nF:¬ F p:=fun z=>DC p z hp
 have Tc:p∉fo:=fun z=>by
  obtain⟨_,u,eu⟩:=r.own p z
  rw[hp] at eu;cases eu
 exact q' _ _ F [p] fo ⟨k3,k1,.E0 (kvs:=[]) nF ao rfl .nil,k2,by rw[List.singleton_append,List.nodup_cons];exact⟨Tc,nd⟩,fun a ha=>by
  rcases List.mem_append.mp ha with ha|ha
  ·rw[List.mem_singleton.mp ha];exact .inr hp
  ·exact .inl ha⟩
mutual
theorem Ml:∀ (a:IR) (mv:Bool) (X:Cx) (ex:Str->Prop) (G:Gm) (e:Expr),DM Z CX cl xp X ex G->Du Z G a e=true->PE X e (RO X.K ex (Ei cl mv a))
 | .v i,mv,X,ex,G,e,g,h=>by
  cases e with
  | Name x pos=>exact Nd (eN g h) mv
  | _=>first|exact af h|cases h
 | .tup es,mv,X,ex,G,e,g,h=>by
  cases e with
  | Tuple l n pos=>exact G0 (yt es mv X ex G l g h)
  | _=>first|exact af h|cases h
 | .lst es,mv,X,ex,G,e,g,h=>by
  cases e with
  | List l pos=>exact G1 (yt es mv X ex G l g h)
  | _=>first|exact af h|cases h
 | .ite t a b,mv,X,ex,G,e,g,h=>by cases e<;>exact af h
 | .call f es,mv,X,ex,G,e,g,h=>by
  cases e with
  | Call fn args Fi pos=>
   cases fn with
   | Name x p=>
    cases Fi with
    | nil=>
     have h':(bN Z G f x&&Z.Hx G f&&aD Z G es args)=true:=h
     simp only[Bool.and_eq_true] at h'
     exact FN g h'.1.1 h'.1.2 h'.2 mv
    | cons _ _=>first|exact af h|cases h
   | _=>first|exact af h|cases h
  | _=>first|exact af h|cases h
 | .c d,mv,X,ex,G,e,g,h=>aI (snd _ X ex G e g h).1 (E6 _ X ex G e g h)
 | .g n d,mv,X,ex,G,e,g,h=>aI (snd _ X ex G e g h).1 (E6 _ X ex G e g h)
 | .bin op a b,mv,X,ex,G,e,g,h=>aI (snd _ X ex G e g h).1 (E6 _ X ex G e g h)
 | .neg a,mv,X,ex,G,e,g,h=>aI (snd _ X ex G e g h).1 (E6 _ X ex G e g h)
 | .cmp op a b,mv,X,ex,G,e,g,h=>aI (snd _ X ex G e g h).1 (E6 _ X ex G e g h)
 | .chain op M1 a b c,mv,X,ex,G,e,g,h=>aI (snd _ X ex G e g h).1 (E6 _ X ex G e g h)
 | .Fs a b,mv,X,ex,G,e,g,h=>aI (snd _ X ex G e g h).1 (E6 _ X ex G e g h)
 | .HP a b,mv,X,ex,G,e,g,h=>aI (snd _ X ex G e g h).1 (E6 _ X ex G e g h)
 | .HQ a,mv,X,ex,G,e,g,h=>aI (snd _ X ex G e g h).1 (E6 _ X ex G e g h)
 | .idx a i,mv,X,ex,G,e,g,h=>aI (snd _ X ex G e g h).1 (E6 _ X ex G e g h)
 | .sl a lo hi,mv,X,ex,G,e,g,h=>aI (snd _ X ex G e g h).1 (E6 _ X ex G e g h)
 | .bi f es,mv,X,ex,G,e,g,h=>aI (snd _ X ex G e g h).1 (E6 _ X ex G e g h)
 | .M4 a ns tb,mv,X,ex,G,e,g,h=>aI (snd _ X ex G e g h).1 (E6 _ X ex G e g h)
 | .M3 a k,mv,X,ex,G,e,g,h=>aI (snd _ X ex G e g h).1 (E6 _ X ex G e g h)
 | .Hw x a y,mv,X,ex,G,e,g,h=>aI (snd _ X ex G e g h).1 (E6 _ X ex G e g h)
 | .DG a k,mv,X,ex,G,e,g,h=>aI (snd _ X ex G e g h).1 (E6 _ X ex G e g h)
 | .Hv n k a,mv,X,ex,G,e,g,h=>aI (snd _ X ex G e g h).1 (E6 _ X ex G e g h)
 | .sset a,mv,X,ex,G,e,g,h=>aI (snd _ X ex G e g h).1 (E6 _ X ex G e g h)
 | .FI a,mv,X,ex,G,e,g,h=>aI (snd _ X ex G e g h).1 (E6 _ X ex G e g h)
 | .Gb a,mv,X,ex,G,e,g,h=>aI (snd _ X ex G e g h).1 (E6 _ X ex G e g h)
 | .GU a k d,mv,X,ex,G,e,g,h=>aI (snd _ X ex G e g h).1 (E6 _ X ex G e g h)
 | .EF,mv,X,ex,G,e,g,h=>by
  have h:M7 e=true:=by cases e<;>exact h
  obtain⟨pos,rfl⟩:=oR h
  exact FO mv
 | .IV a,mv,X,ex,G,e,g,h=>aI (snd _ X ex G e g h).1 (E6 _ X ex G e g h)
 | .Ik m o es,mv,X,ex,G,e,g,h=>aI (snd _ X ex G e g h).1 (E6 _ X ex G e g h)
 | .comp G' fr tg src ifs elt,mv,X,ex,G,e,g,h=>aI (snd _ X ex G e g h).1 (E6 _ X ex G e g h)
theorem yt:∀ (as:List IR) (mv:Bool) (X:Cx) (ex:Str->Prop) (G:Gm) (l:List Expr),DM Z CX cl xp X ex G->aD Z G as l=true->PA X l (Lj X.K ex (fA cl mv as))
 | [],mv,X,ex,G,l,g,h=>by
  cases l with
  | nil=>exact yp
  | cons _ _=>first|exact af h|cases h
 | a::as,mv,X,ex,G,l,g,h=>by
  cases l with
  | nil=>first|exact af h|cases h
  | cons e l=>
   have h':(notStar e&&Du Z G a e&&aD Z G as l)=true:=h
   simp only[Bool.and_eq_true] at h'
   exact tN h'.1.1 (Ml a mv X ex G e g h'.1.2) (yt as mv X ex G l g h'.2)
end
end
structure Bs (io:Option Nat) where
 F:Addr->Prop
 H:Hp
 L:Addr->LD->Prop
 T:Addr->List V ⊕ Str->Prop
 N:Option Addr:=none
structure DO (K:PySem.W.Frag){io:Option Nat}(B:Bs io)(F:Addr->Prop)(H:Hp)(σ:St)(τ:Ev)(f:List Addr):Prop where
 DC:Fy F H
 D8:DI K F H σ τ f
 DJ:f.Nodup
 same:ar B.H H
 own:∀ a∈f,B.H a=none
 Ec:∀ a,B.F a->F a
 out:∀ a,F a->B.F a∨B.H a=none
 pin:∀ a xs,B.L a xs->F a/\Rd H a xs.o
 Hk:∀ a xs,B.T a xs->DP K H a xs
 nm:∀ j a,io=some j->B.N=some a->σ[j]? = some (some (.ref a))
noncomputable def Fk (K:PySem.W.Frag){io:Option Nat}(B:Bs io)(Dn:Ends):Fl->Prop
 | .nx τ=>∀ σ H F f,DO K B F H σ τ f->Dn.nx σ H
 | .bk τ=>∀ σ H F f,DO K B F H σ τ f->Dn.bk σ H
 | .ct τ=>∀ σ H F f,DO K B F H σ τ f->Dn.ct σ H
 | .rt d=>∀ v H F fv,Out K B.F B.H F H v d fv->Dn.rt v H
def RS (K:PySem.W.Frag)(io:Option Nat)(ex:Str->Prop)(g:Ev->Res Fl):TS:=fun Dn σ H=>∃ (B:Bs io),∃ F τ f,DO K B F H σ τ f/\Df ex (g τ) (Fk K B Dn)
section
variable {K:PySem.W.Frag}{io:Option Nat}{B:Bs io}{F F':Addr->Prop}{H H':Hp}{σ:St}{τ Di:Ev}{f f':List Addr}{ex:Str->Prop}
theorem DO.Fz (m:DO K B F H σ τ f)(s:GG F H f F' H')(DC:Fy F' H')(r:DI K F' H' σ Di f')(nd:f'.Nodup)(hm:∀ a∈f',a∈f∨H a=none):DO K B F' H' σ Di f' where
 DC:=DC
 D8:=r
 DJ:=nd
 same:=m.same.trans s.same
 own:=fun a ha=>(hm a ha).elim (m.own a) fun z=>m.same.free z
 Ec:=fun a h=>s.Ec a (m.Ec a h)
 out:=fun a h=>by
  rcases s.out a h with h|h|h
  ·exact m.out a h
  ·exact .inr (m.own a h)
  ·exact .inr (m.same.free h)
 pin:=fun a xs h=>⟨s.Ec a (m.pin a xs h).1,s.same.rd (m.pin a xs h).2⟩
 Hk:=fun a xs h=>s.same.EE (m.Hk a xs h)
 nm:=m.nm
theorem DO.ow {v:V}{d:D}{fv:List Addr}(m:DO K B F H σ τ f)(o:Ow K F H f F' H' σ v d fv Di f'):DO K B F' H' σ Di f'/\∀ a∈fv,B.H a=none:=
 ⟨m.Fz o.Fz o.DC o.D8 (List.nodup_append.mp o.DJ).2.1 fun a ha=>o.mem a (List.mem_append_right _ ha),fun a ha=>(o.mem a (List.mem_append_left _ ha)).elim (m.own a) fun z=>m.same.free z⟩
theorem DO.grow (m:DO K B F H σ τ f)(e:ar H H'):DO K B F H' σ τ f:=by
 obtain⟨k1,k2,k3⟩:=eM m.DC m.D8 e
 exact m.Fz k3 k1 k2 m.DJ fun a ha=>.inl ha
theorem DO.ro {g:Ev->Res (D×Ev)}{Kt:D×Ev->Prop}{Q:VK}(m:DO K B F H σ τ f)(h:Df ex (g τ) Kt)(k:∀ p v H' F' fv f',Ow K F H f F' H' σ v p.1 fv p.2 f'->Kt p->Q v H'):RO K ex g σ H Q:=
 ⟨F,τ,f,m.DC,m.D8,m.DJ,h.mono fun p hp v H' F' fv f' o=>k p v H' F' fv f' o hp⟩
theorem DO.rt {is:List Nat}{g:Ev->Res Bool}{Kt:Bool->Prop}{Q:Bool->Hp->Prop}(m:DO K B F H σ τ f)(h:Df ex (g τ) Kt)(k:∀ b H',DO K B F H' σ τ f->ar H H'->Kt b->Q b H'):RT K ex is g σ H Q:=
 iA (.refl _) (aY m.D8) h fun b H2 e2 _ hb=>k b H2 (m.grow e2) e2 hb
theorem DO.rd {is:List Nat}{g:Ev->Res D}{Kt:D->Prop}{Q:VK}(m:DO K B F H σ τ f)(h:Df ex (g τ) Kt)(k:∀ d v H',DO K B F H' σ τ f->ar H H'->Dg K (nw (fun _=>True) H) H' v d->Kt d->Q v H'):RD K ex is g σ H Q:=
 aM (.refl _) (aY m.D8) h fun b v H2 e2 _ mv hb=>k b v H2 (m.grow e2) e2 mv hb
mutual
theorem oY:∀ (t:Tg) {σ:St}{τ:Ev}{f:List Addr}{v:V}{d:D}{fv:List Addr}{Kt:Ev->Prop}{Q:St->Hp->Prop},DI K F H σ τ f->Dv K F H v d fv->(fv++f).Nodup->Df ex (bq t d τ) Kt->
  (∀ Di Dy f',DI K F H Dy Di f'->f'.Nodup->(∀ a∈f',a∈fv++f)->(∀ j,j∉Fg t->Dy[j]? = σ[j]?)->Kt Di->Q Dy H)->gT K t v σ H Q
 | .nm i,σ,τ,f,v,d,fv,Kt,Q,r,m,nd,h,k=>by
  obtain⟨g,h',r2,p2⟩:=r.put i m
  have Jc:(g++h').Nodup:=p2.nodup_iff.mpr nd
  exact k (τ.set i (some d)) (σ.set i (some v)) g r2 (List.nodup_append.mp Jc).1 (fun a ha=>p2.mem_iff.mp (List.mem_append_left _ ha)) (fun j hj=>List.getElem?_set_ne (fun z=>hj (by rw[<- z];exact List.mem_singleton.mpr rfl))) h.ok
 | .tp ts,σ,τ,f,v,d,fv,Kt,Q,r,m,nd,h,k=>by
  cases m with
  | tup h1 h2=>
   obtain⟨gd,h⟩:=Df.Dk h
   have g':=of_decide_eq_true gd
   exact⟨_,_,rfl,.inl h1,by rw[h2.length];exact g',dY ts r h2 nd h k⟩
  | F9 h0 h1 h2=>
   obtain⟨gd,h⟩:=Df.Dk h
   have g':=of_decide_eq_true gd
   exact⟨_,_,rfl,.inr (.inl h1),by rw[h2.length];exact g',dY ts r h2 nd h k⟩
  | lstK h1 h2=>
   obtain⟨gd,h⟩:=Df.Dk h
   have g':=of_decide_eq_true gd
   exact⟨_,_,rfl,.inr h1.sq,by rw[h2.length];exact g',dY ts r h2 nd h k⟩
  | EN h0 h1 h2=>
   obtain⟨gd,h⟩:=Df.Dk h
   have g':=of_decide_eq_true gd
   rw[List.cons_append,List.nodup_cons] at nd
   exact⟨_,_,rfl,.inr (.inl (.inl h1)),by rw[h2.length];exact g',dY ts r h2 nd.2 h fun Di Dy f' a1 a2 a3 a5 a4=>k Di Dy f' a1 a2 (fun x hx=>by rw[List.cons_append];exact List.mem_cons_of_mem _ (a3 x hx)) a5 a4⟩
  | _=>exact h.no.elim
theorem dY:∀ (ts:List Tg) {σ:St}{τ:Ev}{f:List Addr}{vs:List V}{ds:List D}{fv:List Addr}{Kt:Ev->Prop}{Q:St->Hp->Prop},DI K F H σ τ f->Dh K F H vs ds fv->(fv++f).Nodup->Df ex (dM ts ds τ) Kt->
  (∀ Di Dy f',DI K F H Dy Di f'->f'.Nodup->(∀ a∈f',a∈fv++f)->(∀ j,j∉ju ts->Dy[j]? = σ[j]?)->Kt Di->Q Dy H)->Mi K ts vs σ H Q
 | [],σ,τ,f,vs,ds,fv,Kt,Q,r,m,nd,h,k=>by
  cases m with
  | nil=>exact⟨rfl,k τ σ f r (by simpa using nd) (fun a ha=>by simpa using ha) (fun _ _=>rfl) h.ok⟩
  | cons _ _=>exact h.no.elim
 | t::ts,σ,τ,f,vs,ds,fv,Kt,Q,r,m,nd,h,k=>by
  cases m with
  | nil=>exact h.no.elim
  | cons m1 m2=>
   rename_i v d f1 vs ds f2
   have Im:(f2++(f1++f)).Nodup:=by
    refine(List.Perm.nodup_iff ?_).mp nd
    rw[<- List.append_assoc]
    exact List.Perm.append_right f List.perm_append_comm
   refine⟨_,_,rfl,oY t r m1 (List.nodup_append.mp Im).2.1 (Df.U h) fun Di Dy f' r' Oq Hs Lh h'=>?_⟩
   refine dY ts r' m2 (List.nodup_append.mpr ⟨(List.nodup_append.mp Im).1,Oq,fun a h1 b h2 e=>(List.nodup_append.mp Im).2.2 a h1 b (Hs b h2) e⟩) h' fun He Kr JG Td Ot HK Ou Oi=>k He Kr JG Td Ot (fun a ha=>?_) (fun j hj=>(Ou j fun z=>hj (List.mem_append_right _ z)).trans (Lh j fun z=>hj (List.mem_append_left _ z))) Oi
   rcases List.mem_append.mp (HK a ha) with z|z
   ·exact List.mem_append_left _ (List.mem_append_right _ z)
   ·rcases List.mem_append.mp (Hs a z) with z|z
    ·exact List.mem_append_left _ (List.mem_append_left _ z)
    ·exact List.mem_append_right _ z
end
theorem DO.gT {t:Tg}{v:V}{d:D}{fv:List Addr}{Kt:Ev->Prop}{Q:St->Hp->Prop}(m:DO K B F H σ τ f)(mv:Dv K F H v d fv)(nd:(fv++f).Nodup)(hb:∀ a∈fv,B.H a=none)(Hy:∀ j∈Fg t,io≠some j)(h:Df ex (bq t d τ) Kt)
  (k:∀ Di Dy f',DO K B F H Dy Di f'->Kt Di->Q Dy H):L2.gT K t v σ H Q:=
 oY t m.D8 mv nd h fun Di Dy f' r' Oq hm hj h'=>k Di Dy f' ⟨m.DC,r',Oq,m.same,fun a ha=>(List.mem_append.mp (hm a ha)).elim (hb a) (m.own a),m.Ec,m.out,m.pin,m.Hk,fun j a e1 e2=>(hj j fun z=>Hy j z e1).trans (m.nm j a e1 e2)⟩ h'
theorem DO.write {i:Nat}{ds ds':List D}{w:V}{d:D}{fv:List Addr}{l:Addr}{xs ys:List V}(m:DO K B F H σ τ f)(hs:aj τ i=some (.lst true ds))(D5:σ[i]? = some (some (.ref l)))(hl:H l=some (.lst xs))(mw:Dv K F H w d fv)(nd:(fv++f).Nodup)(hb:∀ a∈fv,B.H a=none)
  (hy:∀ fi,Dh K F H xs ds fi->∃ fl h,Dh K F H ys ds' fl/\(fl++h).Perm (fv++fi)):∃ f',DO K B F (upd H l (.lst ys)) σ (τ.set i (some (.lst true ds'))) f':=by
 obtain⟨v,fs,g,h1,h2,h3,h4⟩:=m.D8.at hs
 rw[D5] at h1
 cases h1
 cases h2 with
 | @EN a Sz Te fi hF hH hm=>
  rw[hl] at hH
  cases hH
  obtain⟨fl,h,Hs,hp⟩:=hy fi hm
  have Ku:((l::fi)++g).Nodup:=h4.nodup_iff.mp m.DJ
  have Ng:(fv++((l::fi)++g)).Nodup:=(List.Perm.append_left fv h4).nodup_iff.mp nd
  have lg:l∉g:=by
   rw[List.cons_append,List.nodup_cons] at Ku
   exact fun z=>Ku.1 (List.mem_append_right _ z)
  have Ov:l∉fi:=by
   rw[List.cons_append,List.nodup_cons] at Ku
   exact fun z=>Ku.1 (List.mem_append_left _ z)
  have Tf:l∉fv:=fun z=>(List.nodup_append.mp Ng).2.2 l z l (by simp) rfl
  have Kv:∀ a∈fl,a∈fv++fi:=fun a ha=>hp.mem_iff.mp (List.mem_append_left _ ha)
  have Qs:l∉fl:=fun z=>(List.mem_append.mp (Kv l z)).elim Tf Ov
  have sl:∀ a (u:LD),F a->Rd H a u.o->F a/\Rd (upd H l (.lst ys)) a u.o:=fun a xs h r=>by
   refine⟨h,?_⟩
   have:a≠l:=fun z=>hF (by rw[<- z];exact h)
   unfold Rd
   rw[ah this]
   exact r
  have st:∀ a xs,DP K H a xs->DP K (upd H l (.lst ys)) a xs:=fun a xs h=>h.upd hl
  have r1:DI K F (upd H l (.lst ys)) σ (τ.set i none) g:=h3.step sl st fun a ha n _=>⟨n,ah fun z=>lg (by rw[<- z];exact ha)⟩
  have m1:Dv K F (upd H l (.lst ys)) (.ref l) (.lst true ds') (l::fl):=.EN hF ao (Hs.step sl st fun a ha n _=>⟨n,ah fun z=>Qs (by rw[<- z];exact ha)⟩)
  obtain⟨g',h',r2,p2⟩:=r1.put i m1
  have Hl:σ.set i (some (.ref l))=σ:=by
   apply List.ext_getElem?
   intro j
   rw[List.getElem?_set]
   by_cases hj:i=j
   ·subst hj
    have DV:i < σ.length:=(List.getElem?_eq_some_iff.mp D5).1
    rw[if_pos rfl,if_pos DV,D5]
   ·rw[if_neg hj]
  rw[Hl,List.set_set] at r2
  have Th:((l::fl)++g).Nodup:=by
   rw[List.cons_append,List.nodup_cons]
   refine⟨fun z=>(List.mem_append.mp z).elim Qs lg,List.nodup_append.mpr ⟨?_,(List.nodup_append.mp Ku).2.1,fun a h1 b h2 e=>?_⟩⟩
   ·have:(fl++h).Nodup:=hp.nodup_iff.mpr (List.nodup_append.mpr ⟨(List.nodup_append.mp Ng).1,(List.nodup_cons.mp (List.nodup_append.mp Ku).1).2,fun a h1 b h2 e=>(List.nodup_append.mp Ng).2.2 a h1 b (List.mem_append_left _ (List.mem_cons_of_mem _ h2)) e⟩)
    exact(List.nodup_append.mp this).1
   ·subst e
    rcases List.mem_append.mp (Kv a h1) with z|z
    ·exact(List.nodup_append.mp Ng).2.2 a z a (List.mem_append_right _ h2) rfl
    ·exact(List.nodup_append.mp Ku).2.2 a (List.mem_cons_of_mem _ z) a h2 rfl
  have Jc:(g'++h').Nodup:=p2.nodup_iff.mpr Th
  have lB:B.H l=none:=m.own l (h4.mem_iff.mpr (by simp))
  refine⟨g',fun a h=>?_,r2,(List.nodup_append.mp Jc).1,fun b o Kw=>?_,fun a ha=>?_,m.Ec,m.out,fun a xs h=>⟨(m.pin a xs h).1,(sl a xs (m.pin a xs h).1 (m.pin a xs h).2).2⟩,fun a xs h=>st a xs (m.Hk a xs h),m.nm⟩
  ·have:a≠l:=fun z=>hF (by rw[<- z];exact h)
   rw[ah this]
   exact m.DC a h
  ·have:b≠l:=fun z=>by rw[z,lB] at Kw;cases Kw
   rw[ah this]
   exact m.same _ _ Kw
  ·have:a∈(l::fl)++g:=p2.mem_iff.mp (List.mem_append_left _ ha)
   rcases List.mem_append.mp this with z|z
   ·rcases List.mem_cons.mp z with rfl|z
    ·exact lB
    ·rcases List.mem_append.mp (Kv a z) with z|z
     ·exact hb a z
     ·exact m.own a (h4.mem_iff.mpr (List.mem_append_left _ (List.mem_cons_of_mem _ z)))
   ·exact m.own a (h4.mem_iff.mpr (List.mem_append_right _ z))
theorem Dh.snoc {w:V}{d:D}{fv:List Addr}(mw:Dv K F H w d fv){xs:List V}{ds:List D}{fi:List Addr}(m:Dh K F H xs ds fi):∃ fl h,Dh K F H (xs++[w]) (ds++[d]) fl/\(fl++h).Perm (fv++fi):=
 ⟨fi++(fv++[]),[],m.append (.cons mw .nil),by rw[List.append_nil,List.append_nil];exact List.perm_append_comm⟩
end
noncomputable def notTuple:Expr->Bool
 | .Tuple ..=>false
 | _=>true
noncomputable def iD:Expr->Bool
 | .ListComp ..=>false
 | .SetComp ..=>false
 | .DictComp ..=>false
 | _=>true
noncomputable def isName:Expr->Bool
 | .Name ..=>true
 | _=>false
noncomputable def isTup:Expr->Bool
 | .Tuple ..=>true
 | _=>false
noncomputable def Nh:Option Expr->(Str->Bool)->Bool
 | some (.Call (.Name x _) [.Constant (.str _) _ _] [] _),k=>k x
 | _,_=>false
theorem yu {e:Option Expr}{k:Str->Bool}(h:Nh e k=true):∃ x np w j p Dt,e=some (.Call (.Name x np) [.Constant (.str w) j p] [] Dt)/\k x=true:=by
 unfold Nh at h
 split at h
 ·exact⟨_,_,_,_,_,_,rfl,h⟩
 ·cases h
noncomputable def rev:Stmt->(Option Expr->Bool)->Bool
 | .Raise e none _,k=>k e
 | _,_=>false
theorem yv {s:Stmt}{k:Option Expr->Bool}(h:rev s k=true):∃ e pos,s=.Raise e none pos/\k e=true:=by
 unfold rev at h
 split at h
 ·exact⟨_,_,rfl,h⟩
 ·cases h
noncomputable def Ni:Option Expr->(Str->Expr->Bool)->Bool
 | some (.Call (.Name x _) [a] [] _),k=>k x a
 | _,_=>false
theorem yy {e:Option Expr}{k:Str->Expr->Bool}(h:Ni e k=true):∃ x np a Dt,e=some (.Call (.Name x np) [a] [] Dt)/\k x a=true:=by
 unfold Ni at h
 split at h
 ·exact⟨_,_,_,_,rfl,h⟩
 ·cases h
noncomputable def Mm:Stmt->(Expr->Str->List Expr->Bool)->Bool
 | .Assign [t] (.Call (.Name xf _) args [] _) _,k=>k t xf args
 | _,_=>false
theorem yz {s:Stmt}{k:Expr->Str->List Expr->Bool}(h:Mm s k=true):∃ t xf p args q pos,s=.Assign [t] (.Call (.Name xf p) args [] q) pos/\k t xf args=true:=by
 unfold Mm at h
 split at h
 ·exact⟨_,_,_,_,_,_,rfl,h⟩
 ·cases h
noncomputable def Mn:Stmt->(Expr->Str->Expr->Str->List Expr->Bool)->Bool
 | .Assign [t] (.Call (.Name xg _) [e,.Call (.Name xf _) args [] _] [] _) _,k=>k t xg e xf args
 | _,_=>false
theorem yB {s:Stmt}{k:Expr->Str->Expr->Str->List Expr->Bool}(h:Mn s k=true):∃ t xg p e xf p' args q' q pos,s=.Assign [t] (.Call (.Name xg p) [e,.Call (.Name xf p') args [] q'] [] q) pos/\k t xg e xf args=true:=by
 unfold Mn at h
 split at h
 ·exact⟨_,_,_,_,_,_,_,_,_,_,rfl,h⟩
 ·cases h
noncomputable def Mo:Stmt->(Str->Str->Bool->Str->Bool)->Bool
 | .Expr (.Call (.Attribute (.Name x _) name apos) [.Name y _] [] Dt) _,k=>k x name (apos.endLine == Dt.line) y
 | _,_=>false
theorem yC {s:Stmt}{k:Str->Str->Bool->Str->Bool}(h:Mo s k=true):∃ x px name apos y py Dt pos,s=.Expr (.Call (.Attribute (.Name x px) name apos) [.Name y py] [] Dt) pos/\k x name (apos.endLine == Dt.line) y=true:=by
 unfold Mo at h
 split at h
 ·exact⟨_,_,_,_,_,_,_,_,rfl,h⟩
 ·cases h
mutual
noncomputable def ke (Z:Sg)(G:Gm):IS->Stmt->Bool
 | .asg tg e,.Assign [t] v _=>bC G tg t&&Du Z G e v&&(isName t||(isTup t&&notTuple v))
 | .EG i k e,.Assign [.Subscript (.Name x _) s _] v _=>cq G i x&&aX s&&Du Z G k s&&Du Z G e v
 | .Et i k e,.Assign [.Subscript (.Name x _) s _] v _=>cq G i x&&aX s&&Du Z G k s&&Du Z G e v&&!(vars e).contains i
 | .Gd j i body,.For t it b [] _=>((G.cm&&G.rs)&&bC G (.nm j) t)&&Du Z G (.v i) it&&G.io == none&&decide (i≠j)&&cV Z {G with io:=some i} body b
 | .app i e,.Expr (.Call (.Attribute (.Name x _) name apos) [v] [] Dt) _=>cq G i x&&name == "append"&&apos.endLine == Dt.line&&notStar v&&Du Z G e v
 | .Ke j e,s=>Mm s fun t xf args=>isName t&&bC G (.nm j) t&&xf == "dict"&&G.Gq 19&&aD Z G [e] args
 | .GB i j,s=>Mo s fun x n l y=>cq G i x&&n == "update"&&l&&cq G j y&&decide (i≠j)
 | .FL j g a f es i,s=>Mn s fun t xg e xf args=>isName t&&bC G (.nm j) t&&G.cm&&(bN Z G f xf&&Z.Ft.contains f)&&aD Z G (es++[.v i]) args&&!(vars a++aq es).contains i&&G.io != some i&&decide (i≠j)&&(bN Z G g xg&&Z.Hx G g)&&(notStar e&&Du Z G a e)
 | .pass,.Expr (.Constant (.str _) _ _) _=>true
 | .exp e,.Expr v _=>iD v&&Du Z G e v
 | .ret e,.Return (some v) _=>Du Z G e v
 | .IW,.Return none _=>true
 | .Eh t a b,.If c x y _=>Du Z G t c&&cV Z G a x&&cV Z G b y
 | .DZ tg s body,.For t it b [] _=>((G.cm&&G.rs)&&bC G tg t)&&(bT Z G s it&&eP s t)&&cV Z G body b
 | .brk,.Break _=>true
 | .cnt,.Continue _=>true
 | .pass,.Pass _=>true
 | .never,_=>true
 | .D4 n c e,s=>rev s fun o=>Ni o fun x a=>G.rs&&G.cm&&bN Z G n x&&x == c&&Z.rc.contains (n,c)&&aD Z {G with rs:=false,tr:=false} [e] [a]
 | .Eu n c _,.Raise e none _=>Nh e fun x=>G.rs&&G.cm&&bN Z G n x&&x == c&&Z.rc.contains (n,c)
 | _,_=>false
noncomputable def cV (Z:Sg)(G:Gm):List IS->List Stmt->Bool
 | [],[]=>true
 | a::as,s::ss=>ke Z G a s&&cV Z G as ss
 | _,_=>false
end
section
variable {Z:Sg}{CX:Er}{cl:Nat->List D->Res D}{xp:XK->Hp->Str->Prop}{X:Cx}{ex:Str->Prop}{G:Gm}
theorem uZ {tg:Tg}{t:Expr}(ht:bC G tg t=true){ga:Ev->Res (D×Ev)}{Dn:Ends}{σ:St}{H:Hp}(h:RS X.K G.io ex (fun τ=>U (ga τ) fun p=>U (bq tg p.1 p.2) fun Di=>.ok (.nx Di)) Dn σ H):xq (RO X.K ex ga) (gT X.K tg) Dn σ H:=by
 obtain⟨B,F,τ,f,m,q⟩:=h
 refine m.ro (Df.U q) fun p v H' F' fv f' o hp=>?_
 obtain⟨m',hb⟩:=m.ow o
 exact m'.gT o.rep o.DJ hb (dU tg t ht) (Df.U hp) fun Di Dy JG Gg h'=>h'.ok _ _ _ _ Gg
theorem FP (g:DM Z CX cl xp X ex G){tg:Tg}{e:IR}{t v:Expr}{pos:Pos}(ht:bC G tg t=true)(hv:Du Z G e v=true)(hc:(isName t||(isTup t&&notTuple v))=true):PS X (.Assign [t] v pos) (RS X.K G.io ex (D6 cl (.asg tg e))):=by
 have pe:=Ml e false X ex G v g hv
 have pg:=JD g tg t ht
 cases t with
 | Name x px=>
  cases tg with
  | tp _=>cases ht
  | nm i=>
   have FX:(G.N[i]? == some x&&(G.kd[i]? == some .local||(G.df&&G.kd[i]? == some .cell)))=true:=(Bool.and_eq_true_iff.mp ht).1
   rw[Bool.and_eq_true,Bool.or_eq_true,Bool.and_eq_true] at FX
   have hx:G.N[i]? = some x:=eq_of_beq FX.1
   have hk:=g.kd i x hx
   have HX:Loc X.env.scope x:=FX.2.elim (fun z=>.inl (hk.trans (eq_of_beq z))) fun z=>.inr (hk.trans (eq_of_beq z.2))
   have Iw:X.fn x=true∨X.env.scope.names.lookup x=some .local:=FX.2.elim (fun z=>.inr (hk.trans (eq_of_beq z))) fun z=>.inl (g.df z.1 x)
   have plain:swapsWith v (some (.Name x px)) pos.line X.env=pure false->PS X (.Assign [.Name x px] v pos) (RS X.K G.io ex (D6 cl (.asg (.nm i) e))):=fun hs=>
    aL (jP (i:=i) (by rw[g.N];exact g.DJ) (by rw[g.N];exact hx) HX pe hs Iw) fun Dn σ H h=>uZ ht h
   cases v with
   | ListComp el gens scope Je=>
    have LW:swapsWith (.ListComp el gens scope Je) (some (.Name x px)) pos.line X.env=pure (X.env.blockKind == .function&&X.env.kindOf x == some .local&&px.line == Je.line&&!(scope.names.any fun (n,k)=>n == x&&(k == .local||k == .cell))):=rfl
    cases hb:(X.env.blockKind == .function&&X.env.kindOf x == some .local&&px.line == Je.line&&!(scope.names.any fun (n,k)=>n == x&&(k == .local||k == .cell))) with
    | false=>exact plain (by rw[LW,hb])
    | true=>
     rw[hb] at LW
     have Ti:X.env.kindOf x=some .local:=by
      simp only[Bool.and_eq_true] at hb
      exact eq_of_beq hb.1.1.2
     cases e with
     | comp G' fr T src ifs elt=>
      have hv:ny gens (fun t it fs=>bF Z G scope G' fr&&bC G' T t&&(Fg T).all (fun i=>decide (fr.length<=i))&&(bT Z G src it&&eP src t)&&aD Z G' ifs fs&&Du Z G' elt el)=true:=hv
      obtain⟨t,it,fs,rfl,hv⟩:=iu hv
      have h':(bF Z G scope G' fr&&bC G' T t&&(Fg T).all (fun i=>decide (fr.length<=i))&&(bT Z G src it&&eP src t)&&aD Z G' ifs fs&&Du Z G' elt el)=true:=hv
      simp only[Bool.and_eq_true] at h'
      have hs:=iB h'.1.1.1.1.1
      have hT:=h'.1.1.1.1.2
      have ha:∀ i∈Fg T,fr.length<=i:=fun i hi=>of_decide_eq_true (List.all_eq_true.mp h'.1.1.1.2 i hi)
      intro pins s' σ H Dn Iv h
      obtain⟨Ez,S⟩:=eB g Iv.ok hs
      have p:=sQ (py:=px) (spos:=pos) (i:=i) (pos:=Je) (elt:=el) (ifs:=fs) (tg:=t) (g:=gT X.K T) (tt:=RT X.K Ej (aq ifs) (dz cl ifs)) (te:=RD X.K Ej (vars elt) (Dj cl elt)) (g.calm hs.cm) (by rw[g.N];exact g.DJ) (by rw[g.N];exact hx) Ti S (tM src X ex G it t g h'.1.1.2.1 h'.1.1.2.2) (fun C s H fp=>JD (bG g hs Ez C s H fp) T t hT)
       (fun C s H fp=>tL ifs _ Ej G' fs (bG g hs Ez C s H fp) h'.1.2) (fun C s H fp=>(snd elt _ Ej G' el (bG g hs Ez C s H fp) h'.2).1) LW (fun x=>bK h'.1.1.2.1 X.env x)
      refine p pins s' σ H Dn Iv ?_
      obtain⟨B,F,τ,f,m,q⟩:=h
      -- as one Tj is kept
      have q0:Df ex (U (U (Dj cl (.comp G' fr T src ifs elt) τ) fun d=>.ok (aP (.comp G' fr T src ifs elt) d τ)) fun p=>U (bq (.nm i) p.1 p.2) fun Di=>.ok (.nx Di)) (Fk X.K B Dn):=q
      have q1:=Df.U (Df.U q0)
      have fin:∀ (d:D) (v:V) (H':Hp) (F':Addr->Prop) (fv f':List Addr),Ow X.K F H f F' H' σ v (aP (.comp G' fr T src ifs elt) d τ).1 fv (aP (.comp G' fr T src ifs elt) d τ).2 f'->(∀ (p:D×Ev),p=aP (.comp G' fr T src ifs elt) d τ->Df ex (U (bq (.nm i) p.1 p.2) fun Di=>.ok (.nx Di)) (Fk X.K B Dn))->Dn.nx (σ.set i (some v)) H':=by
       intro d v H' F' fv f' o hp
       obtain⟨m',GR⟩:=m.ow o
       have:=m'.gT (t:=.nm i) (Q:=Dn.nx) o.rep o.DJ GR (dU _ _ ht) (Df.U (hp _ rfl)) fun Di Dy JG Gg h'=>h'.ok _ _ _ _ Gg
       exact this
      cases z:Dj cl (.comp G' fr T src ifs elt) τ with
      | error er=>
       rw[z] at q1
       cases er with
       | stuck=>exact q1.no.elim
       | exc c=>
        refine cw (S:=fun _=>True) (τ:=τ) (ex:=ex) (Kt:=fun _=>False) hs.Mj ha (aY m.D8) ?_ fun A ys ds H' e hA JE mm k=>k.elim
        show Df ex (Dj cl (.comp G' fr T src ifs elt) τ) _
        rw[z]
        exact q1
      | ok d=>
       rw[z] at q1
       have q2:=q1.ok.ok
       obtain⟨o',ds,rfl⟩:∃ o ds,d=.lst o ds:=by
        have zz:=z
        rw[fL] at zz
        obtain⟨its,_,zz⟩:=bP zz
        obtain⟨_,zz⟩:=ig zz
        obtain⟨ds,_,zz⟩:=bP zz
        cases zz
        exact⟨true,ds,rfl⟩
       by_cases hi:ak ds=true
       ·have F8:aP (.comp G' fr T src ifs elt) (.lst o' ds) τ=(.lst true ds,τ):=by
         unfold aP
         rw[if_neg (show ¬ ay (.lst o' ds)=true by intro z;cases z)]
         show (if ak ds=true then _ else _)=_
         rw[if_pos hi]
        refine cw (S:=fun _=>True) (τ:=τ) (ex:=ex) (Kt:=fun d'=>∃ Jf,d'=.lst Jf ds) hs.Mj ha (aY m.D8) ?_ fun A ys ds' H' e hA JE mm k=>?_
        ·show Df ex (Dj cl (.comp G' fr T src ifs elt) τ) _
         rw[z]
         exact⟨o',rfl⟩
        ·obtain⟨Jf,k⟩:=k
         cases k
         obtain⟨k1,k2,k3⟩:=eM m.DC m.D8 e
         refine fin (.lst o' ds) (.ref A) H' F [A] f ?_ (fun p hp=>by subst hp;exact q2)
         rw[F8]
         refine⟨k3,k1,.EN (fun zz=>m.DC A zz hA) JE (mm.free hi),k2,?_,fun a ha=>?_⟩
         ·rw[List.singleton_append,List.nodup_cons]
          refine⟨fun zz=>?_,m.DJ⟩
          obtain⟨_,xs,e⟩:=m.D8.own A zz
          rw[hA] at e;cases e
         ·rw[List.singleton_append] at ha
          rcases List.mem_cons.mp ha with rfl|ha
          ·exact .inr hA
          ·exact .inl ha
       ·have F8:aP (.comp G' fr T src ifs elt) (.lst o' ds) τ=(.lst true (Dx ds),Dw (vars (.comp G' fr T src ifs elt)) τ):=by
         unfold aP
         rw[if_neg (show ¬ ay (.lst o' ds)=true by intro z;cases z)]
         show (if ak ds=true then _ else _)=_
         rw[if_neg hi]
        obtain⟨F1,gg,b1,b2,b3,b4,b5,b6⟩:=cH (vars (.comp G' fr T src ifs elt)) m.DC m.D8 m.DJ
        refine cw (S:=F1) (τ:=τ) (ex:=ex) (Kt:=fun d'=>∃ Jf,d'=.lst Jf ds) hs.Mj ha b6 ?_ fun A ys ds' H' e hA JE mm k=>?_
        ·show Df ex (Dj cl (.comp G' fr T src ifs elt) τ) _
         rw[z]
         exact⟨o',rfl⟩
        ·obtain⟨Jf,k⟩:=k
         cases k
         obtain⟨c1,c2,c3⟩:=grow (fun a=>a≠A) b1 b2 e
         have m2:De X.K (fun a=>F1 a∨(a≠A/\H a=none/\H' a≠none)) H' ys ds:=mm.step (fun a xs h r=>⟨h.1.elim (fun z=>.inl z) fun z=>.inr ⟨h.2,z,r.some⟩,r⟩) fun a xs h=>h
         refine fin (.lst o' ds) (.ref A) H' (fun a=>F1 a∨(a≠A/\H a=none/\H' a≠none)) [A] gg ?_ (fun p hp=>by subst hp;exact q2)
         rw[F8]
         refine⟨b4.trans c3 (fun x hx=>.inl (b5 x hx)),c1,.EN (fun zz=>?_) JE m2.frozen,c2,?_,fun a ha=>?_⟩
         ·rcases zz with zz|zz
          ·exact b1 A zz hA
          ·exact zz.1 rfl
         ·rw[List.singleton_append,List.nodup_cons]
          refine⟨fun zz=>?_,b3⟩
          obtain⟨_,xs,e⟩:=b2.own A zz
          rw[hA] at e;cases e
         ·rw[List.singleton_append] at ha
          rcases List.mem_cons.mp ha with rfl|ha
          ·exact .inr hA
          ·exact .inl (b5 a ha)
     | _=>first|exact af hv|cases hv
   | SetComp _ _ _ _=>cases e<;>first|exact af hv|cases hv
   | DictComp _ _ _ _ _=>cases e<;>first|exact af hv|cases hv
   | _=>exact plain rfl
 | Tuple ts k px=>
  have KZ:notTuple v=true:=hc
  refine aL (xr pe pg ?_ ?_ rfl) fun Dn σ H h=>uZ ht h
  ·cases v<;>rfl
  ·cases v<;>first|rfl|cases KZ
 | _=>cases hc
end
theorem DP.Ox {K:PySem.W.Frag}{H:Hp}{a l:Addr}{xs:List V ⊕ Str}{ys zs:List (Key×V)}(hl:H l=some (.dK ys))(h:DP K H a xs):DP K (L2.upd H l (.dK zs)) a xs:=by
 cases xs with
 | inl xs=>
  rcases h with h|h
  ·have:a≠l:=by
    rintro rfl
    rcases h with h|⟨o,h⟩<;>(rw[hl] at h;cases h)
   refine .inl ?_
   unfold Rd
   rw[ah this]
   exact h
  ·exact .inr h
 | inr c=>
  obtain⟨C,o,vs,h0,h1,h2,h3⟩:=h
  have:a≠l:=by
   rintro rfl
   rw[hl] at h2;cases h2
  exact⟨C,o,vs,h0,h1,by rw[ah this];exact h2,h3⟩
theorem Dh.Tn {K:PySem.W.Frag}{F:Addr->Prop}{H:Hp}{vs:List V}{ds:List D}{f:List Addr}(h:Dh K F H vs ds f)(n:ak ds=true):f=[]:=by
 refine Dh.rec (motive_1:=fun _ d f _=>ay d=true->f=[]) (motive_2:=fun _ d f _=>ak d=true->f=[]) (fun _=>rfl) (fun _ _=>rfl) (fun _ _=>rfl) (fun _ _=>rfl) (fun _ _=>rfl) (fun _ _ i z=>i z) (fun _ _ _ _ _=>rfl) (fun _ _ _ _=>rfl) (fun _ _ _ _ z=>af z) (fun _ _ _ _ _ _=>rfl) (fun _ _ _ _ _ z=>af z) (fun _=>rfl) (fun {v d f vs ds g} _ _ i j z=>?_) h n
 have z':=Bool.and_eq_true_iff.mp (show (ay d&&ak ds)=true from z)
 rw[i z'.1,j z'.2]
 rfl
theorem Dh.To {K:PySem.W.Frag}{F:Addr->Prop}{H:Hp}{vs:List V}{ds:List D}{f:List Addr}(h:Dh K F H vs ds f)(n:aV ds=true):f=[]:=by
 refine Dh.rec (motive_1:=fun _ d f _=>dO d=true->f=[]) (motive_2:=fun _ d f _=>aV d=true->f=[]) (fun _=>rfl) (fun _ _=>rfl) (fun _ _=>rfl) (fun _ _=>rfl) (fun _ _=>rfl) (fun _ _ i z=>i z) (fun _ _ _ _ _=>rfl) (fun _ _ _ _=>rfl) (fun _ _ _ _ z=>af z) (fun _ _ _ _ _ _=>rfl) (fun _ _ _ _ _ z=>af z) (fun _=>rfl) (fun {v d f vs ds g} _ _ i j z=>?_) h n
 have z':=Bool.and_eq_true_iff.mp (show (dO d&&aV ds)=true from z)
 rw[i z'.1,j z'.2]
 rfl
theorem jA {K:PySem.W.Frag}{F:Addr->Prop}{H:Hp}{σ:St}{τ:Ev}{f:List Addr}{i:Nat}{ks:List Key}{ds:List D}(r:DI K F H σ τ f)(hs:aj τ i=some (.Dl true ks ds))(n:aV ds=true) :
  ∃ l kvs g,σ[i]? = some (some (.ref l))/\¬ F l/\H l=some (.dK kvs)/\kvs.map (·.1)=ks/\Dh K F H (kvs.map (·.2)) ds []/\DI K F H σ (τ.set i none) g/\f.Perm (l::g):=by
 obtain⟨v,fs,g,h1,h2,h3,h4⟩:=r.at hs
 cases h2 with
 | @E0 a kvs _ _ fi hF hH hk hm=>
  have e:=hm.To n
  subst e
  exact⟨a,kvs,g,h1,hF,hH,hk,hm,h3,h4⟩
theorem dZ {K:PySem.W.Frag}{F:Addr->Prop}{H:Hp}{σ:St}{τ:Ev}{f:List Addr}{i:Nat}{ks:List Key}{ds:List D}(r:DI K F H σ τ f)(hs:aj τ i=some (.Dl true ks ds))(n:ak ds=true) :
  ∃ l kvs g,σ[i]? = some (some (.ref l))/\¬ F l/\H l=some (.dK kvs)/\kvs.map (·.1)=ks/\Dh K F H (kvs.map (·.2)) ds []/\DI K F H σ (τ.set i none) g/\f.Perm (l::g):=by
 obtain⟨v,fs,g,h1,h2,h3,h4⟩:=r.at hs
 cases h2 with
 | @E0 a kvs _ _ fi hF hH hk hm=>
  have e:=hm.Tn n
  subst e
  exact⟨a,kvs,g,h1,hF,hH,hk,hm,h3,h4⟩
theorem DO.GH {K:PySem.W.Frag}{io:Option Nat}{B:Bs io}{F:Addr->Prop}{H:Hp}{σ:St}{τ:Ev}{f g:List Addr}{i:Nat}{l:Addr}{kvs kvs':List (Key×V)}{Gr:List Key}{ds':List D}(m:DO K B F H σ τ f)(D5:σ[i]? = some (some (.ref l)))(hF:¬ F l)(hl:H l=some (.dK kvs))(hr:DI K F H σ (τ.set i none) g)(h4:f.Perm (l::g))
  (hk:kvs'.map (·.1)=Gr) (hm:Dh K F H (kvs'.map (·.2)) ds' []):∃ f',DO K B F (upd H l (.dK kvs')) σ (τ.set i (some (.Dl true Gr ds'))) f':=by
 have Hz:(l::g).Nodup:=h4.nodup_iff.mp m.DJ
 have lg:l∉g:=(List.nodup_cons.mp Hz).1
 have sl:∀ a (u:LD),F a->Rd H a u.o->F a/\Rd (upd H l (.dK kvs')) a u.o:=fun a xs h r=>by
  refine⟨h,?_⟩
  have:a≠l:=fun z=>hF (by rw[<- z];exact h)
  unfold Rd
  rw[ah this]
  exact r
 have st:∀ a xs,DP K H a xs->DP K (upd H l (.dK kvs')) a xs:=fun a xs h=>h.Ox hl
 have r1:DI K F (upd H l (.dK kvs')) σ (τ.set i none) g:=hr.step sl st fun a ha n _=>⟨n,ah fun z=>lg (by rw[<- z];exact ha)⟩
 have m1:Dv K F (upd H l (.dK kvs')) (.ref l) (.Dl true Gr ds') [l]:=.E0 hF ao hk (hm.step sl st bp)
 obtain⟨g',h',r2,p2⟩:=r1.put i m1
 have Hl:σ.set i (some (.ref l))=σ:=by
  apply List.ext_getElem?
  intro j
  rw[List.getElem?_set]
  by_cases hj:i=j
  ·subst hj
   rw[if_pos rfl,if_pos (List.getElem?_eq_some_iff.mp D5).1,D5]
  ·rw[if_neg hj]
 rw[Hl,List.set_set] at r2
 have Jc:(g'++h').Nodup:=p2.nodup_iff.mpr Hz
 have lB:B.H l=none:=m.own l (h4.mem_iff.mpr (by simp))
 refine⟨g',fun a h=>?_,r2,(List.nodup_append.mp Jc).1,fun b o Kw=>?_,fun a ha=>m.own a (h4.mem_iff.mpr (p2.mem_iff.mp (List.mem_append_left _ ha))),m.Ec,m.out,fun a xs h=>⟨(m.pin a xs h).1,(sl a xs (m.pin a xs h).1 (m.pin a xs h).2).2⟩,fun a xs h=>st a xs (m.Hk a xs h),m.nm⟩
 ·have:a≠l:=fun z=>hF (by rw[<- z];exact h)
  rw[ah this]
  exact m.DC a h
 ·have:b≠l:=fun z=>by rw[z,lB] at Kw;cases Kw
  rw[ah this]
  exact m.same _ _ Kw
section
variable {K:PySem.W.Frag}{S:Addr->Prop}{H:Hp}
theorem has_any (kvs:List (Key×V))(q:Key):(kvs.any fun kv=>decide (kv.1=q))=fY (kvs.map (·.1)) q:=by
 unfold fY
 rw[List.any_map]
 rfl
theorem oZ (kvs:List (Key×V))(q:Key)(v:V):(putK kvs q v).map (·.1)=bg (kvs.map (·.1)) q:=by
 unfold putK bg
 rw[has_any]
 by_cases h:fY (kvs.map (·.1)) q=true
 ·rw[if_pos h,if_pos h,List.map_map]
  refine List.map_congr_left fun kv _=>?_
  show (if kv.1=q then (kv.1,v) else kv).1=kv.1
  split<;>rfl
 ·rw[if_neg h,if_neg h,List.map_append]
  rfl
theorem o4 (q:Key){v:V}{d:D}(mv:Dg K S H v d){kvs:List (Key×V)}{ds:List D}(m:De K S H (kvs.map (·.2)) ds):De K S H ((putK kvs q v).map (·.2)) (aR (kvs.map (·.1)) ds q d):=by
 unfold putK aR
 rw[has_any]
 by_cases h:fY (kvs.map (·.1)) q=true
 ·rw[if_pos h,if_pos h,List.map_map]
  clear h
  induction kvs generalizing ds with
  | nil=>
   cases m
   exact .nil
  | cons p kvs ih=>
   rw[List.map_cons] at m
   cases ds with
   | nil=>exact absurd m.length (by simp)
   | cons e ds=>
    cases m with
    | cons m1 m2=>
     rw[List.map_cons,List.map_cons,List.zipWith_cons_cons]
     refine .cons ?_ (ih m2)
     show Dg K S H (if p.1=q then (p.1,v) else p).2 (if p.1=q then d else e)
     split
     ·exact mv
     ·exact m1
 ·rw[if_neg h,if_neg h,List.map_append]
  exact m.append (.cons mv .nil)
theorem o5 {ks:List Key}{ds:List D}{q:Key}{d:D}(h1:ak ds=true)(h2:ay d=true):ak (aR ks ds q d)=true:=by
 unfold aR
 rw[bc] at h1
 rw[bc,List.all_eq_true]
 rw[List.all_eq_true] at h1
 intro x hx
 split at hx
 ·rw[List.mem_iff_getElem?] at hx
  obtain⟨i,hi⟩:=hx
  rw[List.getElem?_zipWith] at hi
  split at hi
  ·rename_i a b e1 e2
   cases hi
   split
   ·exact h2
   ·exact h1 _ (List.mem_of_getElem? e2)
  ·cases hi
 ·rcases List.mem_append.mp hx with hx|hx
  ·exact h1 x hx
  ·rw[List.mem_singleton.mp hx];exact h2
end
section
variable {Z:Sg}{CX:Er}{cl:Nat->List D->Res D}{xp:XK->Hp->Str->Prop}{X:Cx}{ex:Str->Prop}{G:Gm}
theorem E7 (g:DM Z CX cl xp X ex G){i:Nat}{k e:IR}{x:Str}{p sp pos:Pos}{s v:Expr}(h1:cq G i x=true)(h2:aX s=true)(h3:Du Z G k s=true)(h4:Du Z G e v=true) :
  PS X (.Assign [.Subscript (.Name x p) s sp] v pos) (RS X.K G.io ex (D6 cl (.EG i k e))):=by
 have hu:=g.un
 refine aL (kJ (by omega) (eN g h1) (snd k X ex G s g h3).1 (snd e X ex G v g h4).1 (by cases v<;>rfl)) fun Dn σ H h=>?_
 obtain⟨B,F,τ,f,m,q⟩:=h
 have q0:Df ex (U (Dj cl e τ) fun d=>match aj τ i with|some (.Dl true ks ds)=>U (Dj cl k τ) fun y=>(match bQ y with|some q=>Dk (ay d&&ak ds&&bW ks.length) (.ok (.nx (τ.set i (some (.Dl true (bg ks q) (aR ks ds q d))))))|none=>Dq)|_=>Dq) (Fk X.K B Dn):=q
 refine m.rd (Df.U q0) fun d w H1 m1 e1 mw q1=>?_
 cases z0:aj τ i with
 | none=>rw[z0] at q1;exact q1.no.elim
 | some d0=>
  rw[z0] at q1
  cases d0 with
  | Dl ow ks ds=>
   cases ow with
   | false=>exact q1.no.elim
   | true=>
    obtain⟨v0,Kx,_⟩:∃ v0,σ[i]? = some (some v0)/\True:=by
     obtain⟨v0,_,_,h,_⟩:=m1.D8.at z0
     exact⟨v0,h,trivial⟩
    refine⟨v0,Kx,m1.rd (Df.U q1) fun y w2 H2 m2 e2 Oy q2=>?_⟩
    cases hk:bQ y with
    | none=>simp only[hk] at q2;exact q2.no.elim
    | some qk=>
     simp only[hk] at q2
     obtain⟨gd,q2⟩:=Df.Dk q2
     rw[Bool.and_eq_true,Bool.and_eq_true] at gd
     obtain⟨l,kvs,g0,D5,hF,hl,Jg,hm,hr,hp⟩:=dZ m2.D8 z0 gd.1.2
     rw[Kx] at D5
     cases D5
     subst Jg
     have Tp:De X.K (fun _=>True) H2 (kvs.map (·.2)) ds:=hm.read (fun _ _=>trivial) fun _ _=>trivial
     have Tq:Dg X.K (fun _=>True) H2 w d:=mw.mono (fun _ _=>trivial) e2
     have Oz:Dh X.K F H2 ((putK kvs qk w).map (·.2)) (aR (kvs.map (·.1)) ds qk d) []:=(o4 qk Tq Tp).free (o5 gd.1.2 gd.1.1)
     obtain⟨f',m3⟩:=m2.GH Kx hF hl hr hp (oZ kvs qk w) Oz
     have hlen:kvs.length < sizeLine:=by
      have:=eQ gd.2
      rwa [List.length_map] at this
     exact⟨l,_,rfl,.inl ⟨kvs,qk,hl,c8 Oy hk,hlen,rfl⟩,q2.ok _ _ _ _ m3⟩
  | _=>exact q1.no.elim
theorem dC (is:List Nat):∀ (τ:Ev) (k i:Nat),is.contains (k+i)=false->aj (ej is k τ) i=aj τ i
 | [],k,i,h=>rfl
 | o::τ,k,0,h=>by
  unfold ej
  rw[bL,bL,if_neg (by rw[show k=k+0 from rfl,h];simp)]
 | o::τ,k,i+1,h=>by
  unfold ej
  rw[bh,bh]
  exact dC is τ (k+1) i (by rw[<- h];congr 1;omega)
theorem Ew (g:DM Z CX cl xp X ex G){i:Nat}{k e:IR}{x:Str}{p sp pos:Pos}{s v:Expr}(h1:cq G i x=true)(h2:aX s=true)(h3:Du Z G k s=true)(h4:Du Z G e v=true)(h5:(vars e).contains i=false) :
  PS X (.Assign [.Subscript (.Name x p) s sp] v pos) (RS X.K G.io ex (D6 cl (.Et i k e))):=by
 have hu:=g.un
 refine aL (kJ (by omega) (eN g h1) (snd k X ex G s g h3).1 (snd e X ex G v g h4).1 (by cases v<;>rfl)) fun Dn σ H h=>?_
 obtain⟨B,F,τ,f,m,q⟩:=h
 have q0:Df ex (U (Dj cl e τ) fun d=>match aj τ i with|some (.Dl true ks ds)=>U (Dj cl k (Dw (vars e) τ)) fun y=>(match bQ y with|some q=>Dk (aV ds&&bW ks.length) (.ok (.nx ((Dw (vars e) τ).set i (some (.Dl true (bg ks q) (Dx (aR ks ds q d)))))))|none=>Dq)|_=>Dq) (Fk X.K B Dn):=q
 obtain⟨F1,gg,b1,b2,b3,b4,b5,b6⟩:=cH (vars e) m.DC m.D8 m.DJ
 refine aM (.refl _) b6 (Df.U q0) fun d w H1 e1 _ mw q1=>?_
 obtain⟨c1,c2,c3⟩:=grow (fun _=>True) b1 b2 e1
 have m1:DO X.K B (fun b=>F1 b∨(True/\H b=none/\H1 b≠none)) H1 σ (Dw (vars e) τ) gg:=m.Fz (b4.trans c3 (fun x hx=>.inl (b5 x hx))) c1 c2 b3 fun b hb=>.inl (b5 b hb)
 have mw:=mw.fix
 cases z0:aj τ i with
 | none=>rw[z0] at q1;exact q1.no.elim
 | some d0=>
  rw[z0] at q1
  cases d0 with
  | Dl ow ks ds=>
   cases ow with
   | false=>exact q1.no.elim
   | true=>
    have zf:aj (Dw (vars e) τ) i=some (.Dl true ks ds):=(dC (vars e) τ 0 i (by rw[Nat.zero_add];exact h5)).trans z0
    obtain⟨v0,Kx,_⟩:∃ v0,σ[i]? = some (some v0)/\True:=by
     obtain⟨v0,_,_,h,_⟩:=m1.D8.at zf
     exact⟨v0,h,trivial⟩
    refine⟨v0,Kx,m1.rd (Df.U q1) fun y w2 H2 m2 e2 Oy q2=>?_⟩
    cases hk:bQ y with
    | none=>simp only[hk] at q2;exact q2.no.elim
    | some qk=>
     simp only[hk] at q2
     obtain⟨gd,q2⟩:=Df.Dk q2
     rw[Bool.and_eq_true] at gd
     obtain⟨l,kvs,g0,D5,hF,hl,Jg,hm,hr,hp⟩:=jA m2.D8 zf gd.1
     rw[Kx] at D5
     cases D5
     subst Jg
     have Oz:=(o4 qk (mw.mono (fun _ h=>h) e2) (hm.read (fun _ h=>h) fun _ h=>absurd h (by simp))).frozen
     obtain⟨f',m3⟩:=m2.GH Kx hF hl hr hp (oZ kvs qk w) Oz
     have hlen:kvs.length < sizeLine:=by
      have:=eQ gd.2
      rwa [List.length_map] at this
     exact⟨l,_,rfl,.inl ⟨kvs,qk,hl,c8 Oy hk,hlen,rfl⟩,q2.ok _ _ _ _ m3⟩
  | _=>exact q1.no.elim
end
section
variable {Z:Sg}{CX:Er}{cl:Nat->List D->Res D}{xp:XK->Hp->Str->Prop}{X:Cx}{ex:Str->Prop}{G:Gm}
theorem yD {K:PySem.W.Frag}{F:Addr->Prop}{H:Hp}{σ:St}{τ:Ev}{f:List Addr}{i:Nat}{ds:List D}(r:DI K F H σ τ f)(hs:aj τ i=some (.lst true ds)):∃ l xs,σ[i]? = some (some (.ref l))/\H l=some (.lst xs)/\xs.length=ds.length:=by
 obtain⟨v,fs,g,h1,h2,h3,h4⟩:=r.at hs
 cases h2 with
 | EN hF hH hm=>exact⟨_,_,h1,hH,hm.length⟩
end
theorem kW {K:PySem.W.Frag}{h:Heap}{C:Addr}{Qt:List Value}{newId:String}(X:K.In h)(q:PySem.W.excIn K C Qt newId=true):∃ bm N nm qn bs hdct sn sub ab col dd k0 k1 k2 k3 k5 mN,
  h.get? C=some (excClassObj nm qn C N bs bm hdct sn sub ab col dd k0 k1 k2 k3 k5 newId)/\h.Ns N mN/\mN "__init__" = none/\OwnTail h Qt bm:=by
 unfold PySem.W.excIn at q;split at q
 ·rename_i dd cd sl ho;split at q
  ·rename_i C' bm k0 k1 k2 k3 n k5 hm hs;simp only[Bool.and_eq_true,beq_iff_eq,Bool.not_eq_true'] at q
   obtain⟨⟨⟨⟨⟨rfl,rfl⟩,Mp⟩,ht⟩,Dz⟩,Lk⟩:=q;obtain⟨nm,bs,mro,ns,qn,hd,sn,sub,ab,col,del⟩:=cd
   dsimp only at hm Mp Dz Lk;subst hm Mp
   obtain⟨l⟩:=sl
   have hs:l=[k0,k1,k2,k3,some (.builtin n),k5]:=hs
   subst hs
   exact⟨bm,ns,nm,qn,bs,hd,sn,sub,ab,col,dd,k0,k1,k2,k3,k5,_,X _ _ ho,.of_isNs (PySem.W.isNs_of_in X Dz),PySem.W.nsMap_none_of_in X Dz Lk,PySem.W.tail_of_in X ht⟩
  ·cases q
 ·cases q
section
variable {Z:Sg}{CX:Er}{cl:Nat->List D->Res D}{xp:XK->Hp->Str->Prop}{X:Cx}{ex:Str->Prop}{G:Gm}
theorem o6 (g:DM Z CX cl xp X ex G){n:Nat}{c w w':Str}{np Dt pos p1:Pos}{j:Nat}(Mq:G.rs=true)(Fo:G.cm=true)(hx:bN Z G n c=true)(hc:(n,c)∈Z.rc) :
  PS X (.Raise (some (.Call (.Name c np) [.Constant (.str w) j p1] [] Dt)) none pos) (RS X.K G.io ex (D6 cl (.Eu n c w'))):=by
 obtain⟨k1,k2,k3,k4⟩:=fF g hx
 obtain⟨_,C,hm,hn,hq⟩:=g.HV n c hc
 intro pins s σ H Dn I ⟨B,F,τ,f,m,q⟩
 have q:ex c:=q
 obtain⟨bm,N,nm,qn,bs,hdct,sn,sub,ab,col,dd,k0,OA,OB,OC,k5,mN,e1,e2,e3,e4⟩:=kW I.ok.mod.Ig hq
 refine wpAny_Raise_call_subT (C:=C) (nm:=nm) (q:=qn) (N:=N) (bs:=bs) (bm:=bm) (hdct:=hdct) (sn:=sn) (sub:=sub) (ab:=ab) (col:=col) (dd:=dd) (k0:=k0) (k1:=OA) (k2:=OB) (k3:=OC) (k5:=k5)
  PySem.F.excBase_ValueError (mN:=mN) (e4.hasType PySem.F.excBase_ValueError.hasBase) (I.ok.hd (g.calm Fo)) rfl e3 (cA I k1 hm ⟨rfl,?_⟩ k4)
 have pa:PA X [.Constant (.str w) j p1] (ja (tC (.str w)) sF):=aN eX bO rfl
 refine Calls.evalArgs_plain (wpAny_mono (pa Dt pins s σ H (fun vs H'=>vs=[.str w]) I rfl) (fun us s2 ⟨vs,H1,I1,r,hv⟩=>⟨rfl,?_,I1.bk _ _ e1,e2.keeps I1.bk,e4.keeps I1.bk,fun h' e hx=>g.Mc Mq pins σ H1 s2 c C h' e us I1 q hn hx⟩) fun _ _ y=>y)
 subst hv
 rw[<- r.length]
 exact(by decide:1<=sizeLine)
end
theorem jB {K:PySem.W.Frag}{F:Addr->Prop}{H:Hp}:∀ {σ:St}{n:Nat},σ.length=n->DI K F H σ (List.replicate n none) []
 | [],0,_=>.nil
 | _::σ,n+1,h=>.none (jB (by simpa using h))
section
variable {Z:Sg}{CX:Er}{cl:Nat->List D->Res D}{xp:XK->Hp->Str->Prop}{X:Cx}{ex:Str->Prop}{G:Gm}{pins:List (Addr×Obj)}{a:Addr}
theorem tO (g:DM Z CX cl xp X ex G):DM Z CX cl xp X.Ej Ej {G with rs:=false,tr:=false} where
 N:=g.N
 DJ:=g.DJ
 calm:=g.calm
 fk:=g.fk
 un:=g.un
 own:=fun z=>by cases z
 kd:=g.kd
 Hd:=g.Hd
 gl:=g.gl
 HU:=g.HU
 df:=g.df
 blt:=g.blt
 cst:=g.cst
 fns:=g.fns
 Ft:=g.Ft
 I0:=g.I0
 Ja:=g.Ja
 Jb:=g.Jb
 HV:=g.HV
 Mc:=fun z=>by cases z
 tr:=fun z=>by cases z
 Ld:=⟨fun _ _ _=>False,fun pins σ H s e s' _ h=>(g.JC _ _ _ _ _ h).elim,fun c _ z=>z.elim⟩
 JB:=g.JB
 JC:=g.JC
theorem nC (g:DM Z CX cl xp X ex G){n:Nat}{c:Str}{e:IR}{a:Expr}{np Dt pos:Pos}(Mq:G.rs=true)(Fo:G.cm=true)(hx:bN Z G n c=true)(hc:(n,c)∈Z.rc)(DN:aD Z {G with rs:=false,tr:=false} [e] [a]=true) :
  PS X (.Raise (some (.Call (.Name c np) [a] [] Dt)) none pos) (RS X.K G.io ex (D6 cl (.D4 n c e))):=by
 obtain⟨k1,k2,k3,k4⟩:=fF g hx
 obtain⟨_,C,hm,hn,hq⟩:=g.HV n c hc
 intro pins s σ H Dn I ⟨B,F,τ,f,m,q⟩
 have q:Df ex (U (E3 (Dj cl e τ)) fun _=>.error (.exc c)) (Fk X.K B Dn):=q
 have pa:=iC [e] X.Ej Ej _ [a] (tO g) DN
 cases z:Dj cl e τ with
 | error er=>rw[z] at q;exact q.no.elim
 | ok d=>
  rw[z] at q
  have q:ex c:=q
  obtain⟨bm,N,nm,qn,bs,hdct,sn,sub,ab,col,dd,k0,OA,OB,OC,k5,mN,e1,e2,e3,e4⟩:=kW I.ok.mod.Ig hq
  refine wpAny_Raise_call_subT (C:=C) (nm:=nm) (q:=qn) (N:=N) (bs:=bs) (bm:=bm) (hdct:=hdct) (sn:=sn) (sub:=sub) (ab:=ab) (col:=col) (dd:=dd) (k0:=k0) (k1:=OA) (k2:=OB) (k3:=OC) (k5:=k5)
   PySem.F.excBase_ValueError (mN:=mN) (e4.hasType PySem.F.excBase_ValueError.hasBase) (I.ok.hd (g.calm Fo)) (bj Z _ Dt X.env DN) e3 (cA I k1 hm ⟨rfl,?_⟩ k4)
  have Tr:RA X.K Ej (aq [e]) (aH cl [e]) σ H (fun vs _=>vs.length=1):=by
   refine⟨fun _=>True,τ,aY m.D8,?_⟩
   show Df Ej (U (Dj cl e τ) fun d=>U (aH cl [] τ) fun ds=>.ok (d::ds)) _
   rw[z]
   intro vs H' _ r
   exact r.length
  have DF:(notStar a&&Du Z {G with rs:=false,tr:=false} e a&&aD Z {G with rs:=false,tr:=false} [] [])=true:=DN
  simp only[Bool.and_eq_true] at DF
  have e0:=ai DF.1.1 [] X.env
  have Qu:=pa Dt pins s σ H _ (I.FE _) Tr
  rw[show starEach [a] X.Ej.env=(false,eval a X.env)::starEach [] X.env from e0] at Qu
  rw[e0]
  refine Calls.evalArgs_plain (wpAny_mono Qu (fun us s2 ⟨vs,H1,I1,r,hv⟩=>⟨rfl,?_,I1.EV.bk _ _ e1,e2.keeps I1.EV.bk,e4.keeps I1.EV.bk,fun h' e hx=>g.Mc Mq pins σ H1 s2 c C h' e us I1.EV q hn hx⟩) fun _ _ y=>y.elim)
  rw[<- r.length,hv]
  exact(by decide:1<=sizeLine)
end
section
variable {Z:Sg}{CX:Er}{cl:Nat->List D->Res D}{xp:XK->Hp->Str->Prop}{X:Cx}{ex:Str->Prop}{G:Gm}{pins:List (Addr×Obj)}
theorem DO.put {io:Option Nat}{B:Bs io}{F:Addr->Prop}{H:Hp}{σ:St}{τ:Ev}{f fv:List Addr}{v:V}{d:D}(i:Nat)(m:DO X.K B F H σ τ f)(mv:Dv X.K F H v d fv)(nd:(fv++f).Nodup)(hb:∀ a∈fv,B.H a=none)(Hy:io≠some i):∃ f',DO X.K B F H (σ.set i (some v)) (τ.set i (some d)) f':=by
 obtain⟨g',h',r0,p0⟩:=m.D8.put i mv
 have Hz:(g'++h').Nodup:=p0.nodup_iff.mpr nd
 exact⟨g',m.DC,r0,(List.nodup_append.mp Hz).1,m.same,fun b GR=>(List.mem_append.mp (p0.subset (List.mem_append_left _ GR))).elim (hb b) (m.own b),m.Ec,m.out,m.pin,m.Hk,fun j a e1 e2=>(List.getElem?_set_ne (fun z=>Hy (by rw[z];exact e1))).trans (m.nm j a e1 e2)⟩
end
theorem bb {a b:Addr}{H:Hp}(h:b≠a):rm a H b=H b:=if_neg h
theorem b8 {a:Addr}{H:Hp}:rm a H a=none:=if_pos rfl
theorem kX {a b:Addr}{H:Hp}{u:HO}(h:rm a H b=some u):H b=some u/\b≠a:=by
 by_cases e:b=a
 ·rw[e,b8] at h;cases h
 ·rw[bb e] at h;exact⟨h,e⟩
theorem AN {a:Addr}{H:Hp}:ar (rm a H) H:=fun b u h=>(kX h).1
section
variable {P:Program}{w:World}{H H':Hp}{h g:Heap}{a:Addr}{kvs:List (Key×V)}
theorem u3 (x:DU P w H h)(e:H a=some (.dK kvs)):DU P w (rm a H) h:=fun b o q=>by
 obtain⟨q1,q2⟩:=kX q
 refine(x b o q1).EI (fun _ _ _ z=>z) (fun c z=>?_) fun c xs z=>?_
 ·rw[bb (by rintro rfl;rw[e] at z;cases z)];exact z
 ·rw[bb (by rintro rfl;rw[e] at z;cases z)];exact z
theorem u4 (x:DU P w H h)(n:H a=none)(y:aK P w H' h a (.dK kvs)):DU P w (upd H a (.dK kvs)) h:=fun b o q=>by
 by_cases hb:b=a
 ·subst hb
  rw[ao] at q
  cases q
  exact dQ rfl y
 ·rw[ah hb] at q
  exact(x b o q).EI (fun _ _ _ z=>z) (fun c z=>by rw[ah (aB z n)];exact z) fun c xs z=>by rw[ah (aB z n)];exact z
theorem AO (n:H a=none):rm a (upd H a (.dK kvs))=H:=by
 funext b
 by_cases hb:b=a
 ·rw[hb,b8,n]
 ·rw[bb hb,ah hb]
end
section
variable {K:PySem.W.Frag}{F F':Addr->Prop}{H H':Hp}{a:Addr}{kvs:List (Key×V)}
theorem iE (e:H a=some (.dK kvs)){b:Addr}{xs:List V ⊕ Str}(h:DP K H b xs):DP K (rm a H) b xs:=by
 cases xs with
 | inl xs=>
  rcases h with h|h
  ·have:b≠a:=by
    rintro rfl
    rcases h with h|⟨o,h⟩<;>(rw[e] at h;cases h)
   refine .inl ?_
   unfold Rd
   rw[bb this]
   exact h
  ·exact .inr h
 | inr c=>
  obtain⟨C,o,vs,h0,h1,h2,h3⟩:=h
  have:b≠a:=by
   rintro rfl
   rw[e] at h2;cases h2
  exact⟨C,o,vs,h0,h1,by rw[bb this];exact h2,h3⟩
theorem kY {b:Addr}{u:HO}(n:b≠a)(h:Rd H b u):Rd (rm a H) b u:=by
 unfold Rd
 rw[bb n]
 exact h
theorem yE {v:V}{d:D}{fv:List Addr}(o:Out K F H F' H' v d fv)(hs:ar H (rm a H'))(nF:¬ F' a)(nf:a∉fv)(e:H' a=some (.dK kvs)):Out K F H F' (rm a H') v d fv:=by
 have ne:∀ b,F' b->b≠a:=fun b hb z=>nF (z ▸ hb)
 refine⟨fun b hb=>by rw[bb (ne b hb)];exact o.DC b hb,hs,o.rep.step (fun b u hb r=>⟨hb,kY (ne b hb) r⟩) (fun b xs r=>iE e r) fun b hb n1 n2=>⟨n1,bb fun z=>nf (z ▸ hb)⟩,o.DJ,o.new,o.Ec,o.out⟩
theorem yF {v:V}{d:D}{fv:List Addr}(o:Out K F H F' H' v d fv)(n:H' a=none):Out K F H F' (upd H' a (.dK kvs)) v d fv:=by
 have e:ar H' (upd H' a (.dK kvs)):=.upd n
 refine⟨fun b hb z=>o.DC b hb (e.free z),o.same.trans e,o.rep.step (fun b u hb r=>⟨hb,e.rd r⟩) (fun b xs r=>e.EE r) fun b hb n1 n2=>⟨n1,ah fun z=>n2 (z ▸ n)⟩,o.DJ,o.new,o.Ec,o.out⟩
end
theorem tP {d:D}(h:oE d=true):ay d=true:=by cases d<;>first|rfl|cases h
theorem bw:∀ {ds:List D},aF ds=true->ak ds=true
 | [],_=>rfl
 | d::ds,h=>by
  have h':(oE d&&aF ds)=true:=h
  rw[Bool.and_eq_true] at h'
  show (ay d&&ak ds)=true
  rw[tP h'.1,bw h'.2]
  rfl
theorem Dg.sc {K:PySem.W.Frag}{S S':Addr->Prop}{H H':Hp}{v:V}{d:D}(h:Dg K S H v d)(s:oE d=true):Dg K S' H' v d:=by
 cases h with
 | DE=>exact .DE
 | bl b=>exact .bl b
 | int i=>exact .int i
 | str x=>exact .str x
 | _=>cases s
theorem De.sc {K:PySem.W.Frag}{S S':Addr->Prop}{H H':Hp}{vs:List V}{ds:List D}(h:De K S H vs ds)(s:aF ds=true):De K S' H' vs ds:=by
 revert s
 refine De.ind (P:=fun vs ds=>aF ds=true->De K S' H' vs ds) (fun _=>.nil) (fun v d vs ds a b j s=>?_) h
 have h':(oE d&&aF ds)=true:=s
 rw[Bool.and_eq_true] at h'
 exact .cons (a.sc h'.1) (j h'.2)
noncomputable def Nj (K:PySem.W.Frag)(ex:Str->Prop)(cl:Nat->List D->Res D)(i:Nat):List IR->TA
 | []=>ja (mQ i) sF
 | e::es=>ja (RD K ex (vars e) (Dj cl e)) (Nj K ex cl i es)
theorem o7 {K:PySem.W.Frag}{ex:Str->Prop}{cl:Nat->List D->Res D}{i:Nat}{v0:V}{S:Addr->Prop}{σ:St}{τ:Ev}{H:Hp}(hv:σ[i]? = some (some v0)):∀ (es:List IR) {H1:Hp}{Kt:List D->Prop}{Q:List V->Hp->Prop},ar H H1->Slots K S H σ τ (aq es)->Df ex (aH cl es τ) Kt->
  (∀ ds vs H2,ar H H2->ar H1 H2->De K (nw S H) H2 vs ds->Kt ds->Q (vs++[v0]) H2)->Nj K ex cl i es σ H1 Q
 | [],H1,Kt,Q,e,hs,h,k=>⟨v0,hv,k [] [] H1 e (.refl _) .nil h.ok⟩
 | a::es,H1,Kt,Q,e,hs,h,k=>by
  refine aM e hs.left (Df.U (show Df ex (U (Dj cl a τ) fun d=>U (aH cl es τ) fun ds=>.ok (d::ds)) Kt from h)) fun x v H2 e2 Eg m q=>?_
  exact o7 hv es e2 hs.right (Df.U q) fun ds vs H3 e3 Ko ms kt=>k (x::ds) (v::vs) H3 e3 (Eg.trans Ko) (.cons (m.mono (fun _ z=>z) Ko) ms) kt.ok
section
variable {Z:Sg}{CX:Er}{cl:Nat->List D->Res D}{xp:XK->Hp->Str->Prop}{X:Cx}{ex:Str->Prop}{G:Gm}
theorem u5 (g:DM Z CX cl xp X ex G){i:Nat}:∀ (es:List IR) (args:List Expr),aD Z G (es++[.v i]) args=true->PA X args (Nj X.K ex cl i es)
 | [],args,h=>by
  match args,h with
  | [e],h=>
   have h':(notStar e&&Du Z G (.v i) e&&aD Z G [] [])=true:=h
   simp only[Bool.and_eq_true] at h'
   cases e with
   | Name x p=>exact aN (eN g h'.1.2) bO (ai h'.1.1 _ _)
   | _=>exact af h'.1.2
  | [],h=>cases h
  | _::_::_,h=>
   have h':=(Bool.and_eq_true_iff.mp h).2
   cases h'
 | a::es,args,h=>by
  match args,h with
  | e::l,h=>
   have h':(notStar e&&Du Z G a e&&aD Z G (es++[.v i]) l)=true:=h
   simp only[Bool.and_eq_true] at h'
   exact aN (snd a X ex G e g h'.1.2).1 (u5 g es l h'.2) (ai h'.1.1 _ _)
  | [],h=>cases h
def Qv (K:PySem.W.Frag)(cl:Nat->List D->Res D)(f:Nat)(vs:List V)(H:Hp)(Q:VK):Prop:=∃ a F ws ds kvs es,vs=ws++[.ref a]/\Ma K a F H ws ds kvs es/\
 ∃ d Gr E9,cl f (Dx ds++[.Dl false (kvs.map (·.1)) es])=.ok (.tup [d,.Dl false Gr E9])/\aF E9=true/\∀ v H' F' fv kvs',IZ K a F H F' H' v d fv kvs' Gr E9->Q v H'
theorem o8 (g:DM Z CX cl xp X ex G){k:Nat}{f:Nat}{fa:Addr}{fd:FuncData}{ps:List Str}{pins:List (Addr×Obj)}{σ:St}{H:Hp}{s:Shared}{Q:VK}{us:List Value}{vs:List V}
  (F:EL X.prog X.w X.K X.mg X.base CX k fa fd ps (Mb X.K cl f ps)) (hr:Ep k X.A) (hb:Binds X.K fd ps []) (hlen:∀ ds r,cl f ds=.ok r->ds.length=ps.length)
  (I:Inv X pins σ H s) (r:Vals vs us) (q:Qv X.K cl f vs H Q):wpAny (model X.prog X.w) X.A (call (.ref fa) us) (EP X pins σ Q) X.xe s:=by
 obtain⟨a,Fc,ws,ds,kvs,es,rfl,A,d,Gr,E9,hc,OD,q⟩:=q
 have hl:(ws++[V.ref a]).length=ps.length:=by
  have:=hlen _ _ hc
  rw[List.length_append,bz] at this
  rw[List.length_append,A.ws.length]
  exact this
 have x1:DU X.prog X.w (rm a H) s.heap:=u3 I.Dz A.at_
 have na:aA s.heap (rm a H) a=none:=bt b8
 have x2:DU X.prog X.w (upd (aA s.heap (rm a H)) a (.dK kvs)) s.heap:=u4 (j7 x1) na (I.Dz a _ A.at_)
 have nb:∀ b,H b=none->upd (aA s.heap (rm a H)) a (.dK kvs) b=none:=fun b e=>by
  have hb:b≠a:=by rintro rfl;rw[A.at_] at e;cases e
  rw[ah hb]
  exact bt (by rw[bb hb];exact e)
 have e0:=I.Fd
 have env:Gy X.prog X.w X.K X.mg X.base X.A X.stack s (upd (aA s.heap (rm a H)) a (.dK kvs)):=⟨e0.frames,e0.mod,fun b o e=>⟨(e0.bs b o e).1,nb b (e0.bs b o e).2⟩,e0.Hq,e0.En,fun b hb=>nb b (e0.Gi b hb),x2,e0.bare⟩
 have Ll:∀ b,Fc b->b≠a:=fun b hb z=>A.nF (z ▸ hb)
 have Mr:∀ {vs:List V}{ds:List D},De X.K Fc H vs ds->De X.K (fun b=>Fc b/\aA s.heap (rm a H) b≠none) (upd (aA s.heap (rm a H)) a (.dK kvs)) vs ds:=fun m=>
  (iw x1 (m.step (S':=Fc) (H':=rm a H) (fun b u hb rd=>⟨hb,kY (Ll b hb) rd⟩) fun b xs h=>iE A.at_ h)).mono (fun _ h=>h) (.upd na)
 have Kb:(us++([]:List Value)).length=ps.length:=by rw[List.append_nil,<- r.length];exact hl
 have bd:=hb s us I.G7 Kb
 rw[List.append_nil] at bd
 have Gn:Mb X.K cl f ps (ws++[.ref a]) (upd (aA s.heap (rm a H)) a (.dK kvs)) (fun v H'=>∃ F' fv kvs',IZ X.K a (fun b=>Fc b/\aA s.heap (rm a H) b≠none) (upd (aA s.heap (rm a H)) a (.dK kvs)) F' H' v d fv kvs' Gr E9) (fun _ _ _=>False):=
  ⟨hl,a,_,ws,ds,kvs,es,rfl,⟨fun b hb=>by rw[ah (Ll b hb.1)];exact hb.2,fun z=>A.nF z.1,ao,Mr A.ws,Mr A.vs,A.lf⟩,d,Gr,E9,hc,OD,fun v H' F' fv kvs' o=>⟨F',fv,kvs',o⟩⟩
 refine wpAny_call (codeAny_mono (F.run X.A X.stack s _ ⟨us,[]⟩ us _ _ _ hr env bd r Gn) fun r' s' hq=>?_)
 cases r' with
 | error e=>exact(g.JC _ _ _ _ _ hq).elim
 | ok fl=>
  cases fl with
  | ret u=>
   obtain⟨v,H',a1,a2,a3,a4,a5,F',fv,kvs',o⟩:=hq
   have oo:=o.out
   rw[AO na] at oo
   have OE:ar (aA s.heap (rm a H)) (rm a H'):=fun b u e=>by
    have hb:b≠a:=by rintro rfl;rw[na] at e;cases e
    rw[bb hb]
    exact oo.same b u e
   have p:Ge s.heap (aA s.heap (rm a H)) (rm a H'):=⟨fun b o u e=>OE _ _ e,fun b xs e=>OE _ _ e,fun b o e n=>by
    by_cases hb:b=a
    ·rw[hb];exact b8
    ·rw[bb hb]
     exact a3.free b o e (by rw[ah hb];exact n) (by simp)⟩
   have o2:=iy x1 (fun b hb=>by rw[bb (Ll b hb)];exact A.DC b hb) p (yE oo OE o.nF o.nf o.at_)
   have nr:cM (rm a H) (rm a H') a=none:=by rw[res_none b8];exact b8
   have o3:=yF (kvs:=kvs') o2 nr
   have hE:∀ b,b≠a->H b=none->H' b=upd (cM (rm a H) (rm a H')) a (.dK kvs') b:=fun b hb e=>by
    rw[ah hb,res_none (by rw[bb hb];exact e),bb hb]
   have Ms:∀ b,H b=none->b≠a:=fun b e z=>by rw[z,A.at_] at e;cases e
   have un:Un (Em X.stack) [] H (upd (cM (rm a H) (rm a H')) a (.dK kvs')) s.heap s'.heap:=⟨fun b o e n=>a3.keep b o e (nb b n),fun b o e n=>a3.slot b o e (nb b n),fun b o e n hx=>by
    rw[<- hE b (Ms b n) n]
    exact a3.free b o e (nb b n) hx,a3.there,fun b xs e=>?_,fun b o u e=>?_,fun b ps e=>⟨#[],?_⟩⟩
   ·have Dz:DU X.prog X.w (upd (cM (rm a H) (rm a H')) a (.dK kvs')) s'.heap:=
     u4 (ip x1 (u3 a4 o.at_) p (fs:=Em X.stack) (fun b o hH e n f=>a3.keep b o e (by
      have hb:b≠a:=by rintro rfl;exact hH b8
      rw[ah hb];exact n) f (by simp)) fun b hb=>by rw[bb (Ms b (e0.Gi b hb))];exact e0.Gi b hb) nr (a4 a _ o.at_)
    refine I.after (Q:=Q) ⟨v,_,a1,a2,un,Dz,a5,q v _ _ fv kvs' ⟨o3,fun z=>z.elim A.nF o.nF,o.nf,ao,o.ks,?_⟩⟩
    exact o.vs.sc OD
   ·rw[ah (by rintro rfl;rw[A.at_] at e;cases e),res_some (by rw[bb (by rintro rfl;rw[A.at_] at e;cases e)];exact e)]
   ·rw[ah (by rintro rfl;rw[A.at_] at e;cases e),res_some (by rw[bb (by rintro rfl;rw[A.at_] at e;cases e)];exact e)]
   ·rw[ah (by rintro rfl;rw[A.at_] at e;cases e),res_some (by rw[bb (by rintro rfl;rw[A.at_] at e;cases e)];exact e)]
    simp
  | next=>exact False.elim hq
  | brk=>exact False.elim hq
  | cont=>exact False.elim hq
theorem o9 (g:DM Z CX cl xp X ex G){f i:Nat}{x:Str}{p pos:Pos}{es:List IR}{args:List Expr}(h1:bN Z G f x=true)(hf:f∈Z.Ft)(Fo:G.cm=true)(DN:aD Z G (es++[.v i]) args=true) :
  PE X (.Call (.Name x p) args [] pos) (fun σ H Q=>Nj X.K ex cl i es σ H fun vs H1=>Qv X.K cl f vs H1 Q):=by
 obtain⟨k1,k2,k3,k4⟩:=fF g h1
 obtain⟨k,Me,fd,ps,hm,F8,hb,F,hr,hlen⟩:=(g.Ft f hf Fo x k2).ex
 intro pins s σ H Q I q
 have pa:=u5 g es args DN
 refine wpAny_Call_Name_kw (cA I k1 hm ?_ k4)
 obtain⟨a,r,he⟩:∃ a r,es++[.v i]=a::r:=by cases es<;>exact⟨_,_,rfl⟩
 rw[he] at DN
 cases args with
 | nil=>cases DN
 | cons e l=>
  have DF:(notStar e&&Du Z G a e&&aD Z G r l)=true:=DN
  simp only[Bool.and_eq_true] at DF
  refine PySem.W.callWith_K (h₀:=X.base) I.ok.mod.Ig F8 (DB (pa pos pins s σ H _ I q) fun us s1 ⟨vs,H1,I1,r,q1⟩=>⟨I1.G7,?_⟩) (ai DF.1.1 l X.env) (bj Z G (es:=r) pos X.env DF.2)
  exact o8 g F hr hb hlen I1 r q1
theorem tQ {io:Option Nat}{B:Bs io}{F2 F':Addr->Prop}{H2 H':Hp}{σ:St}{Ky:Ev}{gg g0 fv:List Addr}{a:Addr}{i:Nat}{kvs Jh:List (Key×V)}{Hm:List Key}{Gs:List D}{v:V}{d:D}(m2:DO X.K B F2 H2 σ Ky gg)(D5:σ[i]? = some (some (.ref a)))(Ji:¬ F2 a)
  (JH:H2 a=some (.dK kvs)) (r0:DI X.K F2 H2 σ (Ky.set i none) g0) (p0:gg.Perm (a::g0)) (o:IZ X.K a F2 H2 F' H' v d fv Jh Hm Gs) (Nk:aF Gs=true) :
  ∃ g',DO X.K B F' H' σ (Ky.set i (some (.Dl true Hm Gs))) g'/\(fv++g').Nodup/\∀ b∈fv,B.H b=none:=by
 have Hz:(a::g0).Nodup:=p0.nodup_iff.mp m2.DJ
 have ag:a∉g0:=(List.nodup_cons.mp Hz).1
 have hl:∀ b (u:LD),(F2 b)->Rd H2 b u.o->F' b/\Rd H' b u.o:=fun b u hb r=>⟨o.out.Ec b hb,o.out.same.rd (kY (fun z=>Ji (z ▸ hb)) r)⟩
 have ht:∀ b xs,DP X.K H2 b xs->DP X.K H' b xs:=fun b xs h=>o.out.same.EE (iE JH h)
 have r3:DI X.K F' H' σ (Ky.set i none) g0:=r0.step hl ht fun b hb n1 n2=>by
  have Lm:b≠a:=fun z=>ag (z ▸ hb)
  refine⟨fun z=>?_,?_⟩
  ·rcases o.out.out b z with z|z
   ·exact n1 z
   ·rw[bb Lm] at z;exact n2 z
  ·obtain⟨_,u,hu⟩:=r0.own b hb
   rw[hu]
   exact o.out.same b u (by rw[bb Lm];exact hu)
 have m1:Dv X.K F' H' (.ref a) (.Dl true Hm Gs) [a]:=.E0 o.nF o.at_ o.ks (De.free (bw Nk) o.vs)
 obtain⟨g',h',r4,p4⟩:=r3.put i m1
 have OF:σ.set i (some (.ref a))=σ:=by
  apply List.ext_getElem?
  intro j
  rw[List.getElem?_set]
  by_cases hj:i=j
  ·subst hj
   rw[if_pos rfl,if_pos (List.getElem?_eq_some_iff.mp D5).1,D5]
  ·rw[if_neg hj]
 rw[OF,List.set_set] at r4
 have Nl:(g'++h').Nodup:=p4.nodup_iff.mpr Hz
 have in4:∀ b∈g',b=a∨b∈g0:=fun b hb=>List.mem_cons.mp (p4.mem_iff.mp (List.mem_append_left _ hb))
 have Kz:∀ b,b=a∨b∈g0->B.H b=none/\∃ u,H2 b=some u:=fun b hb=>by
  have Qw:b∈gg:=p0.mem_iff.mpr (List.mem_cons.mpr hb)
  exact⟨m2.own b Qw,(m2.D8.own b Qw).2⟩
 have mF:DO X.K B F' H' σ (Ky.set i (some (.Dl true Hm Gs))) g':=⟨o.out.DC,r4,(List.nodup_append.mp Nl).1,fun b u e=>o.out.same b u (by
   rw[bb (fun z=>by rw[z,(Kz a (.inl rfl)).1] at e;cases e)]
   exact m2.same b u e),fun b hb=>(Kz b (in4 b hb)).1,fun b hb=>o.out.Ec b (m2.Ec b hb),fun b hb=>by
   rcases o.out.out b hb with z|z
   ·exact m2.out b z
   ·have Lm:b≠a:=fun y=>o.nF (by rw[<- y];exact hb)
    rw[bb Lm] at z
    exact .inr (m2.same.free z),fun b xs hb=>hl b xs (m2.pin b xs hb).1 (m2.pin b xs hb).2,fun b xs hb=>ht b xs (m2.Hk b xs hb),m2.nm⟩
 have Mu:∀ b∈fv,H2 b=none:=fun b hb=>by
  have:=o.out.new b hb
  have Lm:b≠a:=fun z=>o.nf (by rw[<- z];exact hb)
  rwa [bb Lm] at this
 refine⟨g',mF,List.nodup_append.mpr ⟨o.out.DJ,(List.nodup_append.mp Nl).1,fun b h1 c h2 e=>?_⟩,fun b hb=>m2.same.free (Mu b hb)⟩
 subst e
 obtain⟨u,hu⟩:=(Kz b (in4 b h2)).2
 rw[Mu b h1] at hu
 cases hu
end
section
variable {K:PySem.W.Frag}{S:Addr->Prop}{H:Hp}
theorem tR:∀ {ds:List D}{ps:List (Key×D)}{xs:List V},De K S H xs ds->dJ ds=some ps->∃ as kvs,xs=as.map V.ref/\Fx K H as kvs/\kvs.map (·.1)=ps.map (·.1)/\De K S H (kvs.map (·.2)) (ps.map (·.2)):=by
 intro ds
 induction ds with
 | nil=>
  intro ps xs m h
  cases h
  cases m
  exact⟨[],[],rfl,.nil,rfl,.nil⟩
 | cons d r ih=>
  intro ps xs m h
  cases m with
  | cons m1 m2=>
   unfold dJ at h
   split at h
   ·rename_i _ e;cases e
   ·rename_i _ k v r' e
    cases e
    split at h
    ·rename_i q Qf hq Ht
     cases h
     obtain⟨as,kvs,rfl,h1,h2,h3⟩:=ih m2 Ht
     obtain⟨a,ys,rfl,ht,mt⟩:=m1.Ek
     cases mt with
     | cons n1 mt=>
      cases mt with
      | cons n2 mt=>
       cases mt
       have ek:=c8 n1 hq
       subst ek
       exact⟨a::as,(q,_)::kvs,rfl,.cons ht h1,by rw[List.map_cons,List.map_cons,h2],.cons n2 h3⟩
    ·cases h
   ·cases h
theorem iF:∀ (more:List (Key×V)) (ps:List (Key×D)) (kvs:List (Key×V)) (ds:List D),more.map (·.1)=ps.map (·.1)->De K S H (more.map (·.2)) (ps.map (·.2))->De K S H (kvs.map (·.2)) ds->
  (bR kvs more).map (·.1)=(E2 ps (kvs.map (·.1)) ds).1/\De K S H ((bR kvs more).map (·.2)) (E2 ps (kvs.map (·.1)) ds).2
 | [],[],kvs,ds,_,_,m=>⟨rfl,m⟩
 | p::more,[],_,_,h,_,_=>by cases h
 | [],q::ps,_,_,h,_,_=>by cases h
 | (k,v)::more,(q,d)::ps,kvs,ds,h,m1,m=>by
  rw[List.map_cons,List.map_cons,List.cons.injEq] at h
  have e:k=q:=h.1
  subst e
  cases m1 with
  | cons n1 n2=>
   have:=iF more ps (putK kvs k v) (aR (kvs.map (·.1)) ds k d) h.2 n2 (o4 k n1 m)
   rw[oZ] at this
   exact this
end
theorem kg:∀ (ps:List (Key×D)) (ks:List Key) (ds:List D),ak (ps.map (·.2))=true->ak ds=true->ak (E2 ps ks ds).2=true
 | [],ks,ds,_,h=>h
 | (q,d)::ps,ks,ds,h1,h2=>by
  have h':(ay d&&ak (ps.map (·.2)))=true:=h1
  rw[Bool.and_eq_true] at h'
  exact kg ps _ _ h'.2 (o5 h2 h'.1)
theorem kZ:∀ {ks:List Key}{ds:List D},ks.length=ds.length->(ks.zip ds).map (·.1)=ks/\(ks.zip ds).map (·.2)=ds
 | [],[],_=>⟨rfl,rfl⟩
 | k::ks,d::ds,h=>by
  obtain⟨h1,h2⟩:=kZ (ks:=ks) (ds:=ds) (by simpa using h)
  rw[List.zip_cons_cons,List.map_cons,List.map_cons,h1,h2]
  exact⟨rfl,rfl⟩
 | [],_::_,h=>by cases h
 | _::_,[],h=>by cases h
section
variable {Z:Sg}{CX:Er}{cl:Nat->List D->Res D}{xp:XK->Hp->Str->Prop}{X:Cx}{ex:Str->Prop}{G:Gm}
theorem FQ (g:DM Z CX cl xp X ex G){j:Nat}{e:IR}{st:Stmt}(h:Mm st (fun t xf args=>isName t&&bC G (.nm j) t&&xf == "dict"&&G.Gq 19&&aD Z G [e] args)=true):PS X st (RS X.K G.io ex (D6 cl (.Ke j e))):=by
 obtain⟨t,xf,p,args,qp,pos,rfl,h0⟩:=yz h
 simp only[Bool.and_eq_true] at h0
 obtain⟨⟨⟨⟨hn,hT⟩,Ts⟩,Qx⟩,DN⟩:=h0
 have e1:xf = "dict":=eq_of_beq Ts
 subst e1
 obtain⟨k1,k2,k3,k4⟩:=cU g (show a8[19]? = some ("dict" : Str) from rfl) (iq Qx)
 match args,DN with
 | [],DN=>cases DN
 | _::_::_,DN=>exact af (Bool.and_eq_true_iff.mp DN).2
 | [a],DN=>
  have DF:(notStar a&&Du Z G e a&&aD Z G [] [])=true:=DN
  simp only[Bool.and_eq_true] at DF
  cases t with
  | Name y py=>
   have FX:(G.N[j]? == some y&&(G.kd[j]? == some .local||(G.df&&G.kd[j]? == some .cell)))=true:=(Bool.and_eq_true_iff.mp hT).1
   have OG:G.io≠some j:=by simpa using(Bool.and_eq_true_iff.mp hT).2
   rw[Bool.and_eq_true,Bool.or_eq_true,Bool.and_eq_true] at FX
   have hx:G.N[j]? = some y:=eq_of_beq FX.1
   have hk:=g.kd j y hx
   have HX:Loc X.env.scope y:=FX.2.elim (fun z=>.inl (hk.trans (eq_of_beq z))) fun z=>.inr (hk.trans (eq_of_beq z.2))
   have Iw:X.fn y=true∨X.env.scope.names.lookup y=some .local:=FX.2.elim (fun z=>.inr (hk.trans (eq_of_beq z))) fun z=>.inl (g.df z.1 y)
   refine aL (jP (i:=j) (by rw[g.N];exact g.DJ) (by rw[g.N];exact hx) HX (ee (T:="dict") (jY (g.calm (ir Qx))) k1 k2 (by decide +kernel) (aN (snd e X ex G a g DF.1.2).1 bO (ai DF.1.1 _ _)) k3 k4 (ai DF.1.1 _ _) rfl) rfl Iw) fun Dn σ H hh=>?_
   obtain⟨B,F,τ,f,m,q⟩:=hh
   have q0:Df ex (U (Dj cl e τ) fun d=>U (nk j τ d) fun Di=>.ok (.nx Di)) (Fk X.K B Dn):=q
   refine m.rd (Df.U q0) fun d v H1 m1 e1 mv q1=>?_
   cases d with
   | lst o ds=>
    obtain⟨p,xs,rfl,hq,mm⟩:=mv.D7
    have q2:Df ex (U (match dJ ds with|some ps=>Dk (aF (ps.map (·.2))) (.ok (τ.set j (some (.Dl true (E2 ps [] []).1 (E2 ps [] []).2))))|none=>Dq) fun Di=>.ok (.nx Di)) (Fk X.K B Dn):=q1
    cases z:dJ ds with
    | none=>rw[z] at q2;exact q2.no.elim
    | some ps=>
     rw[z] at q2
     obtain⟨gd,q3⟩:=Df.Dk (Df.U q2)
     obtain⟨as,kvs,rfl,hp,hk,hv⟩:=tR mm z
     refine⟨p,as,kvs,rfl,hq,hp,fun a ha=>?_⟩
     obtain⟨r1,r2⟩:=iF kvs ps [] [] hk hv .nil
     have lf:ak (E2 ps [] []).2=true:=kg ps [] [] (bw gd) rfl
     have sm:ar H1 (upd H1 a (.dK (bR [] kvs))):=.upd ha
     have m2:=m1.grow sm
     have mr:Dv X.K F (upd H1 a (.dK (bR [] kvs))) (.ref a) (.Dl true (E2 ps [] []).1 (E2 ps [] []).2) [a]:=.E0 (fun z=>m1.DC a z ha) ao r1 (De.free lf (r2.mono (S':=fun _=>True) (fun _ _=>trivial) sm))
     have na:a∉f:=fun z=>by
      obtain⟨_,u,hu⟩:=m1.D8.own a z
      rw[ha] at hu;cases hu
     obtain⟨f',m3⟩:=m2.put j mr (by rw[List.singleton_append,List.nodup_cons];exact⟨na,m1.DJ⟩) (fun b hb=>by rw[List.mem_singleton.mp hb];exact m1.same.free ha) OG
     exact q3.ok.ok _ _ _ _ m3
   | _=>exact q1.no.elim
  | _=>cases hn
theorem E8 (g:DM Z CX cl xp X ex G){i j:Nat}{st:Stmt}(h:Mo st (fun x n l y=>cq G i x&&n == "update"&&l&&cq G j y&&decide (i≠j))=true):PS X st (RS X.K G.io ex (D6 cl (.GB i j))):=by
 obtain⟨x,px,n,apos,y,py,Dt,pos,rfl,h0⟩:=yC h
 simp only[Bool.and_eq_true] at h0
 obtain⟨⟨⟨⟨h1,h2⟩,h3⟩,h4⟩,h5⟩:=h0
 have e1:n = "update":=eq_of_beq h2
 subst e1
 have Ln:i≠j:=of_decide_eq_true h5
 refine aL (gV (ti (eN g h1) (eN g h4) rfl h3 rfl)) fun Dn σ H hh=>?_
 obtain⟨B,F,τ,f,m,q⟩:=hh
 have q0:Df ex (U (oF i τ (aj τ i) (aj τ j)) fun Di=>.ok (.nx Di)) (Fk X.K B Dn):=q
 cases zi:aj τ i with
 | none=>rw[zi] at q0;exact q0.no.elim
 | some di=>
  cases zj:aj τ j with
  | none=>
   rw[zi,zj] at q0
   cases di with
   | Dl ow ks ds=>cases ow<;>exact q0.no.elim
   | _=>exact q0.no.elim
  | some dj=>
   rw[zi,zj] at q0
   cases di with
   | Dl ow ks ds=>
    cases ow with
    | false=>exact q0.no.elim
    | true=>
     cases dj with
     | Dl oj Ha GW=>
      obtain⟨gd,q1⟩:=Df.Dk (Df.U (show Df ex (U (Dk (aF ds&&aF GW&&aZ (ks.length+Ha.length)) (.ok (τ.set i (some (.Dl true (E2 (Ha.zip GW) ks ds).1 (E2 (Ha.zip GW) ks ds).2))))) fun Di=>.ok (.nx Di)) (Fk X.K B Dn) from q0))
      rw[Bool.and_eq_true,Bool.and_eq_true] at gd
      obtain⟨l,kvs,g0,D5,hF,hl,Jg,hm,hr,hp⟩:=dZ m.D8 zi (bw gd.1.1)
      have Hz:(l::g0).Nodup:=hp.nodup_iff.mp m.DJ
      have Tt:aj (τ.set i none) j=some (.Dl oj Ha GW):=by
       rw[gG,if_neg fun z=>Ln z.1]
       exact zj
      obtain⟨vj,fj,gj,OH,mj,_,pj⟩:=hr.at Tt
      obtain⟨b,more,rfl,rd,OI,Qy⟩:=(mj.read (S:=fun _=>True) (fun _ _=>trivial) fun _ _=>trivial).HW
      have Tu:l≠b:=by
       rintro rfl
       cases mj with
       | GA h0 _ _ _=>exact hF h0
       | E0 h0 _ _ _=>exact(List.nodup_cons.mp Hz).1 (pj.mem_iff.mpr (by simp))
      subst Jg
      have Mv:Ha.length=GW.length:=by rw[<- OI,List.length_map,<- Qy.length,List.length_map]
      obtain⟨z1,z2⟩:=kZ Mv
      obtain⟨r1,r2⟩:=iF more (Ha.zip GW) kvs ds (by rw[z1,OI]) (by rw[z2];exact Qy) (hm.read (S:=fun _=>True) (fun _ _=>trivial) fun _ _=>trivial)
      have lf:ak (E2 (Ha.zip GW) (kvs.map (·.1)) ds).2=true:=kg _ _ _ (by rw[z2];exact bw gd.1.2) (bw gd.1.1)
      obtain⟨f',m3⟩:=m.GH (kvs':=bR kvs more) D5 hF hl hr hp r1 (De.free lf r2)
      refine⟨.ref l,D5,l,rfl,.inl ⟨kvs,.inl hl⟩,.ref b,OH,l,b,kvs,more,rfl,rfl,Tu,hl,rd,?_,q1.ok.ok _ _ _ _ m3⟩
      have:=aQ gd.2
      rw[List.length_map,<- OI,List.length_map] at this
      exact this
     | _=>exact q0.no.elim
   | _=>exact q0.no.elim
end
section
variable {Z:Sg}{CX:Er}{cl:Nat->List D->Res D}{xp:XK->Hp->Str->Prop}{X:Cx}{ex:Str->Prop}{G:Gm}
theorem pd (g:DM Z CX cl xp X ex G){f:Nat}{x:Str}{p pos:Pos}{e e':Expr}{t:TA}(h1:bN Z G f x=true)(h2:Z.Hx G f=true)(hs:notStar e=true)(Lg:notStar e'=true)(h:PA X [e,e'] t) :
  PE X (.Call (.Name x p) [e,e'] [] pos) (fun σ H Q=>t σ H fun vs H1=>Nf X.K ex cl f vs H1 Q):=by
 obtain⟨k1,k2,k3,k4⟩:=fF g h1
 obtain⟨k,Me,fd,ps,hm,F8,hb,F,hr,hlen⟩:=(g.fns f (ez h2).1 (ez h2).2 x k2).ex
 obtain⟨E,hP,hE⟩:=g.Ld
 intro pins s σ H Q I q
 refine wpAny_Call_Name_kw (cA I k1 hm ?_ k4)
 refine PySem.W.callWith_K (h₀:=X.base) I.ok.mod.Ig F8 (DB (h pos pins s σ H _ I q) fun us s1 ⟨vs,H1,I1,r,q1⟩=>⟨I1.G7,?_⟩) (ai hs [e'] X.env) (by rw[ai Lg [] X.env];rfl)
 obtain⟨Fc,ds,DC,m,q1⟩:=q1
 have hl:=hlen ex _ _ q1
 rw[bz] at hl
 refine iz F hr hb hP g.JB I1 r (by rw[m.length];exact hl) DC m ?_
 cases z:cl f (Dx ds) with
 | error er=>
  rw[z] at q1
  cases er with
  | stuck=>exact q1.no.elim
  | exc c=>exact hE c _ q1
 | ok d=>
  rw[z] at q1
  exact q1.ok
theorem ER (g:DM Z CX cl xp X ex G){j g0 f i:Nat}{a0:IR}{es:List IR}{st:Stmt}(h:Mn st (fun t xg e xf args=>isName t&&bC G (.nm j) t&&G.cm&&(bN Z G f xf&&Z.Ft.contains f)&&aD Z G (es++[.v i]) args&&!(vars a0++aq es).contains i&&G.io != some i&&decide (i≠j)&&(bN Z G g0 xg&&Z.Hx G g0)&&(notStar e&&Du Z G a0 e))=true) :
  PS X st (RS X.K G.io ex (D6 cl (.FL j g0 a0 f es i))):=by
 obtain⟨t,xg,pg,e0,xf,p,args,q',qp,pos,rfl,h0⟩:=yB h
 simp only[Bool.and_eq_true] at h0
 obtain⟨⟨⟨⟨⟨⟨⟨⟨⟨hn,hT⟩,Fo⟩,hf,OJ⟩,DN⟩,Lk⟩,Hy⟩,Ln⟩,Tv,Tw⟩,Qz,Tx⟩:=h0
 cases t with
 | Name y py=>
  have FX:(G.N[j]? == some y&&(G.kd[j]? == some .local||(G.df&&G.kd[j]? == some .cell)))=true:=(Bool.and_eq_true_iff.mp hT).1
  have OG:G.io≠some j:=by simpa using(Bool.and_eq_true_iff.mp hT).2
  rw[Bool.and_eq_true,Bool.or_eq_true,Bool.and_eq_true] at FX
  have hx:G.N[j]? = some y:=eq_of_beq FX.1
  have hk:=g.kd j y hx
  have HX:Loc X.env.scope y:=FX.2.elim (fun z=>.inl (hk.trans (eq_of_beq z))) fun z=>.inr (hk.trans (eq_of_beq z.2))
  have Iw:X.fn y=true∨X.env.scope.names.lookup y=some .local:=FX.2.elim (fun z=>.inr (hk.trans (eq_of_beq z))) fun z=>.inl (g.df z.1 y)
  have Lk:(vars a0++aq es).contains i=false:=by simpa using Lk
  have pi:=o9 (p:=p) (pos:=q') g hf (by simpa using OJ) Fo DN
  have pa:=aN (snd a0 X ex G e0 g Tx).1 (aN pi bO (ai (e:=.Call (.Name xf p) args [] q') rfl _ _)) (ai Qz _ _)
  refine aL (jP (i:=j) (by rw[g.N];exact g.DJ) (by rw[g.N];exact hx) HX (pd (p:=pg) (pos:=qp) g Tv Tw Qz rfl pa) rfl Iw) fun Dn σ H hh=>?_
  obtain⟨B,F,τ,fo,m,q⟩:=hh
  have q0:Df ex (match aj τ i with|some (.Dl true ks vs)=>Dk (aF vs) (U (Dj cl a0 τ) fun x=>U (aH cl es τ) fun ds=>U (E3 (cl f (Dx ds++[.Dl false ks vs]))) (gw cl j g0 i x (Dw (vars a0++aq es) τ)))|_=>Dq) (Fk X.K B Dn):=q
  cases zs:aj τ i with
  | none=>rw[zs] at q0;exact q0.no.elim
  | some dd=>
   rw[zs] at q0
   cases dd with
   | Dl ow ks OK=>
    cases ow with
    | false=>exact q0.no.elim
    | true=>
     obtain⟨gd,q1⟩:=Df.Dk q0
     obtain⟨F1,gg,b1,b2,b3,b4,b5,b6⟩:=cH (vars a0++aq es) m.DC m.D8 m.DJ
     have zf:aj (Dw (vars a0++aq es) τ) i=some (.Dl true ks OK):=(dC (vars a0++aq es) τ 0 i (by rw[Nat.zero_add];exact Lk)).trans zs
     obtain⟨a,kvs,g1,D5,Vj,Tz,Jg,QA,_,_⟩:=dZ b2 zf (bw gd)
     refine aM (.refl _) b6.left (Df.U q1) fun x0 v0 H1 e1 _ mx q1=>?_
     refine o7 D5 es e1 b6.right (Df.U q1) fun ds ws H2 e2 PR ms q2=>?_
     obtain⟨c1,c2,c3⟩:=grow (fun _=>True) b1 b2 e2
     obtain⟨a',kvs',gz,Hl,Ji,JH,TB,OL,r0,p0⟩:=dZ c2 zf (bw gd)
     rw[D5] at Hl
     cases Hl
     have QB:=e2 _ _ Tz
     rw[JH] at QB
     cases QB
     have m2:DO X.K B (fun b=>F1 b∨(True/\H b=none/\H2 b≠none)) H2 σ (Dw (vars a0++aq es) τ) gg:=m.Fz (b4.trans c3 (fun x hx=>.inl (b5 x hx))) c1 c2 b3 fun b hb=>.inl (b5 b hb)
     cases zc:cl f (Dx ds++[.Dl false ks OK]) with
     | error er=>rw[zc] at q2;exact q2.no.elim
     | ok rr=>
      rw[zc] at q2
      have q3:Df ex (gw cl j g0 i x0 (Dw (vars a0++aq es) τ) rr) (Fk X.K B Dn):=q2
      obtain⟨d,Hm,Gs,rfl⟩:∃ d Hm Gs,rr=.tup [d,.Dl false Hm Gs]:=by
       unfold gw at q3
       split at q3
       ·exact⟨_,_,_,rfl⟩
       ·exact q3.no.elim
      obtain⟨Nk,q4⟩:=Df.Dk (show Df ex (Dk (aF Gs) (U (E3 (cl g0 [er x0,er d])) fun r=>.ok (.nx (((Dw (vars a0++aq es) τ).set i (some (.Dl true Hm Gs))).set j (some r))))) (Fk X.K B Dn) from q3)
      refine⟨a,_,ws,ds,kvs,OK,rfl,⟨c1,Ji,JH,ms.step (fun b xs h r=>⟨h.elim (fun z=>.inl z) fun z=>.inr ⟨trivial,z,r.some⟩,r⟩) fun b xs h=>h,(OL.read (S:=fun _=>True) (fun _ _=>trivial) fun _ _=>trivial).sc gd,gd⟩,d,Hm,Gs,by rw[Jg];exact zc,Nk,fun v H' F' fv Jh o=>?_⟩
      obtain⟨g',mF,TC,TF⟩:=tQ m2 D5 Ji JH r0 p0 o Nk
      have TH:Dg X.K F' H' v0 x0:=((mx.later PR).step (S':=fun b=>F1 b∨(True/\H b=none/\H2 b≠none)) (H':=H2) (fun b xs h r=>⟨h.elim (fun z=>.inl z) fun z=>.inr ⟨trivial,z,r.some⟩,r⟩) fun b xs h=>h).step (fun b u hb r=>⟨o.out.Ec b hb,o.out.same.rd (kY (fun z=>Ji (z ▸ hb)) r)⟩) fun b xs h=>o.out.same.EE (iE JH h)
      refine⟨fun b=>F' b∨b∈fv,[x0,d],fun b hb=>hb.elim (o.out.DC b) fun z=>by obtain⟨_,u,hu⟩:=o.out.rep.own b z;rw[hu];simp,.cons (TH.step (fun b u hb r=>⟨.inl hb,r⟩) fun b xs h=>h) (.cons (o.out.rep.read (fun b hb=>.inl hb) fun b hb=>.inr hb) .nil),?_⟩
      show Df ex (cl g0 [er x0,er d]) _
      cases zg:cl g0 [er x0,er d] with
      | error er=>rw[zg] at q4;exact q4.no.elim
      | ok r=>
       rw[zg] at q4
       have q5:Fk X.K B Dn (.nx (((Dw (vars a0++aq es) τ).set i (some (.Dl true Hm Gs))).set j (some r))):=q4
       intro v3 H3 F3 Vk o3
       have JF:∀ b∈g',b∉fv:=fun b hb hc=>(List.nodup_append.mp TC).2.2 b hc b hb rfl
       have r3:DI X.K F3 H3 σ ((Dw (vars a0++aq es) τ).set i (some (.Dl true Hm Gs))) g':=mF.D8.step (fun b u hb rd=>⟨o3.Ec b (.inl hb),o3.same.rd rd⟩) (fun b xs h=>o3.same.EE h) fun b hb n1 n2=>by
        obtain⟨_,u,hu⟩:=mF.D8.own b hb
        refine⟨fun z=>?_,(o3.same _ _ hu).trans hu.symm⟩
        rcases o3.out b z with (z|z)|z
        ·exact n1 z
        ·exact JF b hb z
        ·exact n2 z
       have m3:DO X.K B F3 H3 σ ((Dw (vars a0++aq es) τ).set i (some (.Dl true Hm Gs))) g':=⟨o3.DC,r3,mF.DJ,mF.same.trans o3.same,mF.own,fun b hb=>o3.Ec b (.inl (mF.Ec b hb)),fun b hb=>by
        rcases o3.out b hb with (z|z)|z
        ·exact mF.out b z
        ·exact .inr (TF b z)
        ·exact .inr (mF.same.free z),fun b xs hb=>⟨o3.Ec b (.inl (mF.pin b xs hb).1),o3.same.rd (mF.pin b xs hb).2⟩,fun b xs hb=>o3.same.EE (mF.Hk b xs hb),mF.nm⟩
       obtain⟨f5,m5⟩:=m3.put j o3.rep (List.nodup_append.mpr ⟨o3.DJ,mF.DJ,fun b h1 c h2 e=>by
        subst e
        obtain⟨_,u,hu⟩:=mF.D8.own b h2
        rw[o3.new b h1] at hu
        cases hu⟩) (fun b hb=>mF.same.free (o3.new b hb)) OG
       exact q5 _ _ _ _ m5
   | _=>exact q0.no.elim
 | _=>cases hn
end
section
variable {Z:Sg}{CX:Er}{cl:Nat->List D->Res D}{xp:XK->Hp->Str->Prop}{X:Cx}{ex:Str->Prop}{G:Gm}
theorem FR (g:DM Z CX cl xp X ex G){i:Nat}{e:IR}{x:Str}{p apos Dt pos:Pos}{v:Expr}(h1:cq G i x=true)(h2:(apos.endLine == Dt.line)=true)(h3:notStar v=true)(h4:Du Z G e v=true) :
  PS X (.Expr (.Call (.Attribute (.Name x p) "append" apos) [v] [] Dt) pos) (RS X.K G.io ex (D6 cl (.app i e))):=by
 have pa:PA X [v] (ja (RO X.K ex (Ei cl false e)) sF):=aN (Ml e false X ex G v g h4) bO (ai h3 _ _)
 have F4:((backTo Dt (starEach [v] X.env)).all (fun x=>!x.1)&&(backToKw Dt (keywordEach [] X.env)).all (fun x=>x.1.isSome)&&decide ([v].length+([]:List Keyword).length+(if ([]:List Keyword).isEmpty then 0 else 1) < 30))=true:=by
  rw[ai h3]
  rfl
 refine aL (gV (kH PySem.F.plainAttrs_list PySem.F.slot_list_append PySem.F.type_list_append gk (eN g h1) pa rfl F4 h2 (ai h3 _ _) rfl)) fun Dn σ H h=>?_
 obtain⟨B,F,τ,f,m,q⟩:=h
 have q0:Df ex (match aj τ i with|some (.lst _ _)=>(U (Ei cl false e τ) fun p=>(match aj p.2 i with|some (.lst true ds)=>Dk (bW ds.length) (.ok (.nx (p.2.set i (some (.lst true (ds++[p.1]))))))|_=>Dq))|_=>Dq) (Fk X.K B Dn):=q
 cases z0:aj τ i with
 | none=>rw[z0] at q0;exact q0.no.elim
 | some d0=>
  rw[z0] at q0
  cases d0 with
  | lst o0 Te=>
   obtain⟨v0,Vl,g0,a1,a2,a3,a4⟩:=m.D8.at z0
   have hq:∃ l xs,v0=.ref l/\EB X.K H l xs:=by
    cases a2 with
    | F9 _ b1 _=>exact⟨_,_,rfl,.inl b1⟩
    | lstK b1 _=>exact⟨_,_,rfl,b1.sq⟩
    | EN _ b1 _=>exact⟨_,_,rfl,.inl (.inl b1)⟩
   obtain⟨l,TJ,rfl,hq⟩:=hq
   refine⟨.ref l,a1,.inl ⟨rfl,TJ,hq⟩,m.ro (Df.U q0) fun p v H' F' fv f' o hp=>?_⟩
   obtain⟨m',hb⟩:=m.ow o
   cases zs:aj p.2 i with
   | none=>rw[zs] at hp;exact hp.no.elim
   | some d=>
    rw[zs] at hp
    cases d with
    | lst ow ds=>
     cases ow with
     | false=>exact hp.no.elim
     | true=>
      obtain⟨gd,hp⟩:=Df.Dk hp
      obtain⟨l',xs,D5,hl,hlen⟩:=yD m'.D8 zs
      rw[a1] at D5
      cases D5
      obtain⟨JG,m3⟩:=m'.write (ys:=xs++[v]) (ds':=ds++[p.1]) zs a1 hl o.rep o.DJ hb fun fi hm=>hm.snoc o.rep
      exact⟨l,xs,v,rfl,rfl,hl,by rw[hlen];exact eQ gd,hp.ok _ _ _ _ m3⟩
    | _=>exact hp.no.elim
  | _=>exact q0.no.elim
theorem Fk.JI {K:PySem.W.Frag}{io:Option Nat}{B:Bs io}{F F':Addr->Prop}{H H':Hp}{σ:St}{τ Di:Ev}{f f':List Addr}{v:V}{d:D}{fv:List Addr}(m:DO K B F H σ τ f)(o:Ow K F H f F' H' σ v d fv Di f'):Out K B.F B.H F' H' v d fv:=by
 obtain⟨m',hb⟩:=m.ow o
 exact⟨m'.DC,m'.same,o.rep,(List.nodup_append.mp o.DJ).1,hb,m'.Ec,m'.out⟩
theorem FT (g:DM Z CX cl xp X ex G){e:IR}{v:Expr}{pos:Pos}(h:Du Z G e v=true):PS X (.Return (some v) pos) (RS X.K G.io ex (D6 cl (.ret e))):=by
 refine aL (nR (Ml e true X ex G v g h)) fun Dn σ H ⟨B,F,τ,f,m,q⟩=>?_
 exact m.ro (Df.U q) fun p v H' F' fv f' o hp=>hp.ok _ _ _ _ (Fk.JI m o)
theorem tU {pos:Pos}:PS X (.Return none pos) (RS X.K G.io ex (D6 cl .IW)):=
 aL so fun Dn σ H ⟨B,F,τ,f,m,q⟩=>q.ok .DE H F [] ⟨m.DC,m.same,.DE,List.nodup_nil,fun a ha=>absurd ha (by simp),m.Ec,m.out⟩
theorem yG (g:DM Z CX cl xp X ex G){e:IR}{v:Expr}{pos:Pos}(hc:iD v=true)(h:Du Z G e v=true):PS X (.Expr v pos) (RS X.K G.io ex (D6 cl (.exp e))):=by
 refine aL (gV (snd e X ex G v g h).1 (by cases v<;>first|rfl|cases hc)) fun Dn σ H ⟨B,F,τ,f,m,q⟩=>?_
 exact m.rd (Df.U q) fun d v H' m' _ _ hd=>hd.ok _ _ _ _ m'
theorem G2 {c:Expr}{x y:List Stmt}{pos:Pos}{t:IR}{a b:List IS}(hc:PT X c (RT X.K ex (vars t) fun τ=>U (Dj cl t τ) aU))(ha:Gj X x (RS X.K G.io ex (ax cl a)))(hb:Gj X y (RS X.K G.io ex (ax cl b))):PS X (.If c x y pos) (RS X.K G.io ex (D6 cl (.Eh t a b))):=by
 refine aL (zJ hc ha hb) fun Dn σ H ⟨B,F,τ,f,m,q⟩=>?_
 refine m.rt (Df.U q) fun r H' m' _ hr=>?_
 cases r with
 | true=>rw[if_pos rfl] at hr ⊢;exact⟨B,F,τ,f,m',hr⟩
 | false=>rw[if_neg Bool.false_ne_true] at hr ⊢;exact⟨B,F,τ,f,m',hr⟩
theorem DO.less {K:PySem.W.Frag}{io:Option Nat}{B:Bs io}{L:Addr->LD->Prop}{T:Addr->List V ⊕ Str->Prop}{F:Addr->Prop}{H:Hp}{σ:St}{τ:Ev}{f:List Addr}(m:DO K (⟨B.F,B.H,fun a xs=>B.L a xs∨L a xs,fun a xs=>B.T a xs∨T a xs,B.N⟩:Bs io) F H σ τ f):DO K B F H σ τ f:=
 ⟨m.DC,m.D8,m.DJ,m.same,m.own,m.Ec,m.out,fun a xs h=>m.pin a xs (.inl h),fun a xs h=>m.Hk a xs (.inl h),m.nm⟩
theorem jC:∀ (ds:List D) (i:Nat),(Dx ds).drop i=Dx (ds.drop i):=by
 intro ds i
 rw[bE,bE,List.map_drop]
theorem jD {J:It}{K:PySem.W.Frag}{io:Option Nat}{B:Bs io}{F:Addr->Prop}{H:Hp}{σ:St}{τ:Ev}{f:List Addr}{T:Tg}{body:List IS}{its:List D}{Dn:Ends}(Hy:∀ j∈Fg T,io≠some j)(m:DO K B F H σ τ f)(w:Fh K F H J its)
  (q:Df ex (forM (fun x τ=>U (bq T x τ) fun Di=>ax cl body Di) (Dx its) τ) (Fk K B Dn)) :
  ∃ W:Nat->Nat->St->Hp->Prop,(∃ m,W 0 m σ H)/\∀ i m σ H,W i m σ H->(J.stop i H/\Dn.nx σ H)∨(J.go i H/\∃ N:St->Hp->Prop,(∀ Dy H',N Dy H'->∃ m',m' < m/\W (i+1) m' Dy H')/\
   ∀ x H',J.Ih i H x H'->gT K T x σ H' fun FG H2=>RS K io ex (ax cl body) {Dn with nx:=N,ct:=N,bk:=Dn.nx} FG H2):=by
 let B':Bs io:=⟨B.F,B.H,fun a xs=>B.L a xs∨(F a/\Rd H a xs.o),fun a xs=>B.T a xs∨DP K H a xs,B.N⟩
 have m0:DO K B' F H σ τ f:=⟨m.DC,m.D8,m.DJ,m.same,m.own,m.Ec,m.out,fun a xs h=>h.elim (m.pin a xs) id,fun a xs h=>h.elim (m.Hk a xs) id,m.nm⟩
 let bd:D->Ev->Res Fl:=fun x τ=>U (bq T x τ) fun Di=>ax cl body Di
 refine⟨fun i n σ H=>n=its.length - i/\i<=its.length/\∃ F τ f,DO K B' F H σ τ f/\Df ex (forM bd ((Dx its).drop i) τ) (Fk K B Dn),⟨its.length,by simp,Nat.zero_le _,F,τ,f,m0,by rw[List.drop_zero];exact q⟩,?_⟩
 rintro i n LG H1 ⟨rfl,hi,F1,IX,f1,m1,q1⟩
 have w1:Fh K F1 H1 J its:=w.step (fun a xs h r=>m1.pin a xs (.inr ⟨h,r⟩)) fun a xs h=>m1.Hk a xs (.inr h)
 by_cases DV:i < its.length
 ·refine .inr ⟨w1.go DV,fun σ H=>∃ F τ f,DO K B' F H σ τ f/\Df ex (forM bd ((Dx its).drop (i+1)) τ) (Fk K B Dn),fun Dy H' h=>⟨its.length - (i+1),by omega,rfl,DV,h⟩,fun x H' y=>?_⟩
  obtain⟨eH,mx⟩:=w1.Ih y (d:=its[i]) (by simp[DV])
  have m1:=m1.grow eH
  have hd:(Dx its).drop i=er its[i]::(Dx its).drop (i+1):=by
   rw[jC,List.drop_eq_getElem_cons DV,Dx,jC]
  rw[hd] at q1
  have q2:=Df.U q1
  refine m1.gT mx.frozen (by simpa using m1.DJ) (fun a ha=>absurd ha (by simp)) Hy (Df.U q2) fun Di Dy f' m' h'=>?_
  refine⟨B',F1,Di,f',m',h'.mono fun r hr=>?_⟩
  cases r with
  | nx Di=>exact fun Dy H' F' f' Gg=>⟨F',Di,f',Gg,hr⟩
  | ct Di=>exact fun Dy H' F' f' Gg=>⟨F',Di,f',Gg,hr⟩
  | bk Di=>exact fun Dy H' F' f' Gg=>hr.ok _ _ _ _ Gg.less
  | rt d=>exact fun v H' F' fv o=>hr.ok _ _ _ _ o
 ·have e:i=its.length:=by omega
  subst e
  refine .inl ⟨w1.stop (Nat.le_refl _),?_⟩
  have:(Dx its).drop its.length=[]:=by rw[<- bz its,List.drop_length]
  rw[this] at q1
  exact q1.ok _ _ _ _ m1.less
theorem tV (a b:Int):Dx (bI a b)=bI a b:=by
 unfold bI
 rw[bE,List.map_map]
 rfl
noncomputable def u6 (cl:Nat->List D->Res D):Sr->Ev->Res (Int×Int)
 | .Eb n,τ=>U (Dj cl n τ) fun|.int i=>Dk (bo i) (.ok (0,i))|_=>Dq
 | .Ey a b,τ=>U (Dj cl a τ) fun x=>U (Dj cl b τ) fun y=>match x,y with|.int i,.int j=>Dk (bo i&&bo j) (.ok (i,j))|_,_=>Dq
 | _,_=>Dq
def TM (K:PySem.W.Frag)(ex:Str->Prop)(is:List Nat)(f:Ev->Res (Int×Int)):TI:=fun σ H R=>∃ S τ,Slots K S H σ τ is/\Df ex (f τ) fun p=>∀ H',ar H H'->R (K1 p.1 (p.2 - p.1).toNat) H'
noncomputable def pk:Sr->Bool
 | .Eb _=>true
 | .Ey _ _=>true
 | _=>false
theorem pq {s:Sr}(h:pk s=true){τ:Ev}{k:List D->Prop}(q:Df ex (cQ cl s τ) k):Df ex (u6 cl s τ) fun p=>k (bI p.1 p.2):=by
 cases s with
 | Eb n=>
  refine Df.mk ((Df.U (show Df ex (U (Dj cl n τ) fun|.int i=>Dk (bo i) (.ok (bI 0 i))|_=>Dq) k from q)).mono fun d hd=>?_)
  cases d with
  | int i=>
   obtain⟨gd,hd⟩:=Df.Dk hd
   show Df ex (Dk (bo i) (.ok (0,i))) _
   unfold Dk
   rw[if_pos gd]
   exact hd.ok
  | _=>exact hd.no.elim
 | Ey a b=>
  refine Df.mk ((Df.U (show Df ex (U (Dj cl a τ) fun x=>U (Dj cl b τ) fun y=>match x,y with|.int i,.int j=>Dk (bo i&&bo j) (.ok (bI i j))|_,_=>Dq) k from q)).mono fun d hd=>Df.mk ((Df.U hd).mono fun e he=>?_))
  cases d with
  | int i=>
   cases e with
   | int j=>
    obtain⟨gd,he⟩:=Df.Dk he
    show Df ex (Dk (bo i&&bo j) (.ok (i,j))) _
    unfold Dk
    rw[if_pos gd]
    exact he.ok
   | _=>exact he.no.elim
  | _=>cases e<;>exact he.no.elim
 | _=>first|exact af h|cases h
theorem C1:∀ (s:Sr) (X:Cx) (ex:Str->Prop) (G:Gm) (e tg:Expr),DM Z CX cl xp X ex G->bT Z G s e=true->pk s=true->PI X tg e (TM X.K ex (dN s) (u6 cl s)):=by
 intro s X ex G e tg g h hr
 cases s with
 | Eb n=>
  cases e with
  | Call fn args Fi pos=>
   cases fn with
   | Name x p=>
    match args,Fi,h with
    | [a],[],h=>
     have h':(x == "range"&&G.gl.contains 15&&notStar a&&Du Z G n a)=true:=h
     simp only[Bool.and_eq_true] at h'
     have e1:x = "range":=eq_of_beq h'.1.1.1
     subst e1
     obtain⟨k1,k2,_,_⟩:=cU g (show a8[15]? = some ("range" : Str) from rfl) h'.1.1.2
     refine e9 (f7 k1 k2 (aN (snd n X ex G a g h'.2).1 bO (ai h'.1.2 _ _)) (ai h'.1.2 _ _)) fun σ H Q ⟨S,τ,hs,q⟩=>?_
     refine aM (.refl _) hs (Df.U q) fun x v H1 e1 _ m1 q1=>?_
     cases x with
     | int i=>
      cases m1.DD
      obtain⟨gd,q1⟩:=Df.Dk q1
      have Il : -(2 ^ 62)<=i/\i < 2 ^ 62:=of_decide_eq_true gd
      refine⟨i,rfl,Il.1,Il.2,?_⟩
      have:=q1.ok _ e1
      rw[show (0,i).2 - (0,i).1=i from Int.sub_zero i] at this
      exact this
     | _=>exact q1.no.elim
    | [],_,h=>first|exact af h|cases h
    | [_],_::_,h=>first|exact af h|cases h
    | _::_::_,_,h=>first|exact af h|cases h
   | _=>first|exact af h|cases h
  | _=>first|exact af h|cases h
 | Ey a b=>
  cases e with
  | Call fn args Fi pos=>
   cases fn with
   | Name x p=>
    match args,Fi,h with
    | [l,r],[],h=>
     have h':(x == "range"&&G.gl.contains 15&&notStar l&&notStar r&&Du Z G a l&&Du Z G b r)=true:=h
     simp only[Bool.and_eq_true] at h'
     have e1:x = "range":=eq_of_beq h'.1.1.1.1.1
     subst e1
     obtain⟨k1,k2,_,_⟩:=cU g (show a8[15]? = some ("range" : Str) from rfl) h'.1.1.1.1.2
     have hn:=h'.1.1.1.2
     have Fb:=h'.1.1.2
     refine e9 (f9 k1 k2 (aN (snd a X ex G l g h'.1.2).1 (aN (snd b X ex G r g h'.2).1 bO (ai Fb _ _)) (ai hn _ _)) (by rw[ai hn,ai Fb];rfl) (ai Fb _ _)) fun σ H Q ⟨S,τ,hs,q⟩=>?_
     refine aM (.refl _) hs.left (Df.U q) fun x v H1 e1 _ m1 q1=>?_
     refine aM e1 hs.right (Df.U q1) fun y w H2 e2 Eg m2 q2=>?_
     cases x with
     | int i=>
      cases y with
      | int j=>
       cases m1.DD;cases m2.DD
       obtain⟨gd,q2⟩:=Df.Dk q2
       rw[Bool.and_eq_true] at gd
       have g1 : -(2 ^ 62)<=i/\i < 2 ^ 62:=of_decide_eq_true gd.1
       have g2 : -(2 ^ 62)<=j/\j < 2 ^ 62:=of_decide_eq_true gd.2
       exact⟨i,j,rfl,⟨g1.1,g1.2,g2.1,g2.2⟩,q2.ok _ e2⟩
      | _=>exact q2.no.elim
     | _=>cases y<;>exact q2.no.elim
    | [],_,h=>first|exact af h|cases h
    | [_],_,h=>first|exact af h|cases h
    | [_,_],_::_,h=>first|exact af h|cases h
    | _::_::_::_,_,h=>first|exact af h|cases h
   | _=>first|exact af h|cases h
  | _=>first|exact af h|cases h
 | _=>cases hr
theorem FU (g:DM Z CX cl xp X ex G){t it:Expr}{x:List Stmt}{pos:Pos}{T:Tg}{s:Sr}{a:List IS}(Jv:(G.cm=true/\G.rs=true)/\bC G T t=true)(Lg:bT Z G s it=true/\eP s t=true)(ha:Gj X x (RS X.K G.io ex (ax cl a))):PS X (.For t it x [] pos) (RS X.K G.io ex (D6 cl (.DZ T s a))):=by
 have hT:=Jv.2
 have hs:=Lg.1
 by_cases hr:pk s=true
 ·refine aL (jS (g.own Jv.1.2) (g.calm Jv.1.1) (C1 s X ex G it t g hs hr) (JD g T t hT) ha (fun x=>bK hs X.env x)) fun Dn σ H ⟨B,F,τ,f,m,q⟩=>?_
  have q0:Df ex (U (jm cl s τ) fun p=>forM (fun x τ=>U (bq T x τ) fun Di=>ax cl a Di) p.1 p.2) (Fk X.K B Dn):=q
  have base:Df ex (cQ cl s τ) fun its=>Df ex (forM (fun x τ=>U (bq T x τ) fun Di=>ax cl a Di) its τ) (Fk X.K B Dn):=by
   cases s with
   | Eb u=>exact(Df.U (show Df ex (U (cQ cl (.Eb u) τ) fun its=>.ok (its,τ)) _ from Df.U q0)).mono fun its h=>h.ok
   | Ey u v=>exact(Df.U (show Df ex (U (cQ cl (.Ey u v) τ) fun its=>.ok (its,τ)) _ from Df.U q0)).mono fun its h=>h.ok
   | _=>cases hr
  exact⟨fun _=>True,τ,aY m.D8,(pq hr base).mono fun p hp H1 e1=>jD (dU T t hT) (m.grow e1) (.G4 p.1 p.2) (by rw[tV];exact hp)⟩
 ·refine aL (jS (g.own Jv.1.2) (g.calm Jv.1.1) (tM s X ex G it t g hs Lg.2) (JD g T t hT) ha (fun x=>bK hs X.env x)) fun Dn σ H ⟨B,F,τ,f,m,q⟩=>?_
  have q0:Df ex (U (jm cl s τ) fun p=>forM (fun x τ=>U (bq T x τ) fun Di=>ax cl a Di) p.1 p.2) (Fk X.K B Dn):=q
  have q1:=Df.U q0
  have OM:jm cl s τ=(U (cQ cl s τ) fun its=>.ok (Dx its,Dw (dN s) τ)):=by
   cases s with
   | val u=>rfl
   | zip u v=>rfl
   | _=>exact absurd rfl hr
  rw[OM] at q1
  obtain⟨F1,gg,b1,b2,b3,b4,b5,b6⟩:=cH (dN s) m.DC m.D8 m.DJ
  refine AF (.refl _) b6 (Df.U q1) fun its J H1 e1 _ w1 hk=>?_
  obtain⟨c1,c2,c3⟩:=grow (fun _=>True) b1 b2 e1
  have m2:DO X.K B (fun a=>F1 a∨(True/\H a=none/\H1 a≠none)) H1 σ (Dw (dN s) τ) gg:=m.Fz (b4.trans c3 (fun x hx=>.inl (b5 x hx))) c1 c2 b3 fun a ha=>.inl (b5 a ha)
  exact jD (dU T t hT) m2 (w1.step (fun a xs h r=>⟨h.elim (fun z=>.inl z) fun z=>.inr ⟨trivial,z,r.some⟩,r⟩) fun a xs h=>h) hk.ok
theorem DM.io (g:DM Z CX cl xp X ex G)(i:Option Nat):DM Z CX cl xp X ex {G with io:=i}:=
 ⟨g.N,g.DJ,g.calm,g.fk,g.un,g.own,g.kd,g.Hd,g.gl,g.HU,g.df,g.blt,g.cst,g.fns,g.Ft,g.I0,g.Ja,g.Jb,g.HV,g.Mc,g.tr,g.Ld,g.JB,g.JC⟩
theorem tX {K:PySem.W.Frag}{F:Addr->Prop}{H:Hp}(k:Key):Dv K F H (kV k) (cJ k) []:=by
 cases k with
 | inl i=>exact .int i
 | inr x=>exact .str x
theorem nE {K:PySem.W.Frag}{i:Nat}{B:Bs (some i)}{d0:Addr}{o:Obj}{kvs:List (Key×V)}(hB:B.H d0=some (.Dw o (.dK kvs))){F:Addr->Prop}{H:Hp}{σ:St}{τ:Ev}{f:List Addr}{j:Nat}{body:List IS}{Dn:Ends}(Ln:i≠j)(m:DO K B F H σ τ f)
  (q:Df ex (forM (fun x τ=>U (bq (.nm j) x τ) fun Di=>ax cl body Di) ((kvs.map (·.1)).map cJ) τ) (Fk K B Dn)) :
  ∃ W:Nat->Nat->St->Hp->Prop,(∃ m,W 0 m σ H)/\∀ i' m σ H,W i' m σ H->((L1 d0 o kvs).stop i' H/\Dn.nx σ H)∨((L1 d0 o kvs).go i' H/\∃ N:St->Hp->Prop,(∀ Dy H',N Dy H'->∃ m',m' < m/\W (i' + 1) m' Dy H')/\
   ∀ x H',(L1 d0 o kvs).Ih i' H x H'->gT K (.nm j) x σ H' fun FG H2=>RS K (some i) ex (ax cl body) {Dn with nx:=N,ct:=N,bk:=Dn.nx} FG H2):=by
 let bd:D->Ev->Res Fl:=fun x τ=>U (bq (.nm j) x τ) fun Di=>ax cl body Di
 refine⟨fun n' n σ H=>n=kvs.length - n'/\n'<=kvs.length/\∃ F τ f,DO K B F H σ τ f/\Df ex (forM bd (((kvs.map (·.1)).map cJ).drop n') τ) (Fk K B Dn),⟨kvs.length,by simp,Nat.zero_le _,F,τ,f,m,by rw[List.drop_zero];exact q⟩,?_⟩
 rintro n' n LG H1 ⟨rfl,hi,F1,IX,f1,m1,q1⟩
 have hl:((kvs.map (·.1)).map cJ).length=kvs.length:=by rw[List.length_map,List.length_map]
 have hH:H1 d0=some (.Dw o (.dK kvs)):=m1.same _ _ hB
 by_cases DV:n' < kvs.length
 ·refine .inr ⟨⟨hH,DV⟩,fun σ H=>∃ F τ f,DO K B F H σ τ f/\Df ex (forM bd (((kvs.map (·.1)).map cJ).drop (n' + 1)) τ) (Fk K B Dn),fun Dy H' h=>⟨kvs.length - (n' + 1),by omega,rfl,DV,h⟩,fun x H' y=>?_⟩
  obtain⟨rfl,k,v,hk,rfl⟩:=y
  have hd:((kvs.map (·.1)).map cJ).drop n'=cJ k::((kvs.map (·.1)).map cJ).drop (n' + 1):=by
   rw[List.drop_eq_getElem_cons (by rw[hl];exact DV)]
   congr 1
   have:((kvs.map (·.1)).map cJ)[n']? = some (cJ k):=by rw[List.getElem?_map,List.getElem?_map,hk];rfl
   exact(List.getElem?_eq_some_iff.mp this).2
  rw[hd] at q1
  have q2:=Df.U q1
  refine m1.gT (tX k) (by simpa using m1.DJ) (fun a ha=>absurd ha (by simp)) (fun j' Lh z=>Ln (by rw[List.mem_singleton.mp (show j'∈[j] from Lh)] at z;exact Option.some.inj z)) (Df.U q2) fun Di Dy f' m' h'=>?_
  refine⟨B,F1,Di,f',m',h'.mono fun r hr=>?_⟩
  cases r with
  | nx Di=>exact fun Dy H' F' f' Gg=>⟨F',Di,f',Gg,hr⟩
  | ct Di=>exact fun Dy H' F' f' Gg=>⟨F',Di,f',Gg,hr⟩
  | bk Di=>exact fun Dy H' F' f' Gg=>hr.ok _ _ _ _ Gg
  | rt d=>exact fun v H' F' fv o=>hr.ok _ _ _ _ o
 ·have e:n'=kvs.length:=by omega
  subst e
  refine .inl ⟨⟨hH,Nat.le_refl _⟩,?_⟩
  have:((kvs.map (·.1)).map cJ).drop kvs.length=[]:=by rw[<- hl,List.drop_length]
  rw[this] at q1
  exact q1.ok _ _ _ _ m1
section
variable {K:PySem.W.Frag}{F:Addr->Prop}{H:Hp}{d0:Addr}{o:Obj}{kvs:List (Key×V)}
theorem DP.ED (hl:H d0=some (.Dw o (.dK kvs))){a:Addr}{xs:List V ⊕ Str}(h:DP K H a xs):DP K (L2.upd H d0 (.dK kvs)) a xs:=by
 cases xs with
 | inl xs=>
  rcases h with h|h
  ·have:a≠d0:=by
    rintro rfl
    rcases h with h|⟨o,h⟩<;>(rw[hl] at h;cases h)
   refine .inl ?_
   unfold Rd
   rw[ah this]
   exact h
  ·exact .inr h
 | inr c=>
  obtain⟨C,o',vs,h0,h1,h2,h3⟩:=h
  have:a≠d0:=by
   rintro rfl
   rw[hl] at h2;cases h2
  exact⟨C,o',vs,h0,h1,by rw[ah this];exact h2,h3⟩
theorem DP.ON (hl:H d0=some (.dK kvs)){a:Addr}{xs:List V ⊕ Str}(h:DP K H a xs):DP K (L2.upd H d0 (.Dw o (.dK kvs))) a xs:=by
 cases xs with
 | inl xs=>
  rcases h with h|h
  ·have:a≠d0:=by
    rintro rfl
    rcases h with h|⟨o,h⟩<;>(rw[hl] at h;cases h)
   refine .inl ?_
   unfold Rd
   rw[ah this]
   exact h
  ·exact .inr h
 | inr c=>
  obtain⟨C,o',vs,h0,h1,h2,h3⟩:=h
  have:a≠d0:=by
   rintro rfl
   rw[hl] at h2;cases h2
  exact⟨C,o',vs,h0,h1,by rw[ah this];exact h2,h3⟩
theorem d4 {a:Addr}{u:HO}(n:a≠d0)(h:Rd H a u){w:HO}:Rd (L2.upd H d0 w) a u:=by
 unfold Rd
 rw[ah n]
 exact h
theorem fM (hl:H d0=some (.Dw o (.dK kvs))){a:Addr}{xs:List V}(h:Rd H a (.lst xs)):a≠d0:=by
 rintro rfl
 rcases h with h|⟨o,h⟩<;>(rw[hl] at h;cases h)
theorem k6 (hl:H d0=some (.Dw o (.dK kvs))){a:Addr}{xs:List V}(h:H a=some (.lst xs)):a≠d0:=fM hl (.inl h)
theorem Dv.ED (hl:H d0=some (.Dw o (.dK kvs)))(hF:F d0){v:V}{d:D}{f:List Addr}(h:Dv K F H v d f)(n:bS d=true):Dv K (fun a=>F a/\a≠d0) (L2.upd H d0 (.dK kvs)) v d f:=
 Dv.rec (motive_1:=fun v d f _=>bS d=true->Dv K (fun a=>F a/\a≠d0) (L2.upd H d0 (.dK kvs)) v d f) (motive_2:=fun v d f _=>aT d=true->Dh K (fun a=>F a/\a≠d0) (L2.upd H d0 (.dK kvs)) v d f) (fun _=>.DE) (fun b _=>.bl b) (fun b _=>.int b) (fun b _=>.str b)
  (fun h _=>.exc (DP.ED hl (xs:=.inr _) h)) (fun h1 _ i z=>.tup (DP.ED hl (xs:=.inl _) h1) (i z)) (fun h0 h1 _ i z=>.F9 ⟨h0,fM hl h1⟩ (d4 (fM hl h1) h1) (i z)) (fun h1 _ i z=>.lstK h1 (i z))
  (fun h0 h1 _ i z=>.EN (fun y=>h0 y.1) ((ah (k6 hl h1)).trans h1) (i z)) (fun _ _ _ _ _ z=>af z) (fun h0 h1 h2 _ i z=>.E0 (fun y=>h0 y.1) ((ah (b:=_) (a:=d0) fun y=>h0 (by rw[y];exact hF)).trans h1) h2 (i z)) (fun _=>.nil)
  (fun {v d f vs ds g} _ _ i j z=>.cons (i (Bool.and_eq_true_iff.mp (show (bS d&&aT ds)=true from z)).1) (j (Bool.and_eq_true_iff.mp (show (bS d&&aT ds)=true from z)).2)) h n
theorem Dh.ED (hl:H d0=some (.Dw o (.dK kvs)))(hF:F d0){v:List V}{d:List D}{f:List Addr}(h:Dh K F H v d f)(n:aT d=true):Dh K (fun a=>F a/\a≠d0) (L2.upd H d0 (.dK kvs)) v d f:=
 Dh.rec (motive_1:=fun v d f _=>bS d=true->Dv K (fun a=>F a/\a≠d0) (L2.upd H d0 (.dK kvs)) v d f) (motive_2:=fun v d f _=>aT d=true->Dh K (fun a=>F a/\a≠d0) (L2.upd H d0 (.dK kvs)) v d f) (fun _=>.DE) (fun b _=>.bl b) (fun b _=>.int b) (fun b _=>.str b)
  (fun h _=>.exc (DP.ED hl (xs:=.inr _) h)) (fun h1 _ i z=>.tup (DP.ED hl (xs:=.inl _) h1) (i z)) (fun h0 h1 _ i z=>.F9 ⟨h0,fM hl h1⟩ (d4 (fM hl h1) h1) (i z)) (fun h1 _ i z=>.lstK h1 (i z))
  (fun h0 h1 _ i z=>.EN (fun y=>h0 y.1) ((ah (k6 hl h1)).trans h1) (i z)) (fun _ _ _ _ _ z=>af z) (fun h0 h1 h2 _ i z=>.E0 (fun y=>h0 y.1) ((ah (b:=_) (a:=d0) fun y=>h0 (by rw[y];exact hF)).trans h1) h2 (i z)) (fun _=>.nil)
  (fun {v d f vs ds g} _ _ i j z=>.cons (i (Bool.and_eq_true_iff.mp (show (bS d&&aT ds)=true from z)).1) (j (Bool.and_eq_true_iff.mp (show (bS d&&aT ds)=true from z)).2)) h n
theorem DI.ED (hl:H d0=Option.some (.Dw o (.dK kvs)))(hF:F d0):∀ {σ:St}{τ:Ev}{f:List Addr},DI K F H σ τ f->Hb τ=true->DI K (fun a=>F a/\a≠d0) (L2.upd H d0 (.dK kvs)) σ τ f
 | _,_,_,.nil,_=>.nil
 | _,_,_,.none h,n=>.none (DI.ED hl hF h n)
 | _,_,_,.some (d:=d) (τ:=τ) m h,n=>.some (m.ED hl hF (Bool.and_eq_true_iff.mp (show (bS d&&Hb τ)=true from n)).1) (DI.ED hl hF h (Bool.and_eq_true_iff.mp (show (bS d&&Hb τ)=true from n)).2)
end
noncomputable def Bd {io:Option Nat}(B:Bs io)(i:Nat)(d0:Addr)(o:Obj)(kvs:List (Key×V)):Bs (some i):=⟨fun a=>B.F a∨a=d0,upd B.H d0 (.Dw o (.dK kvs)),B.L,B.T,some d0⟩
theorem pv {σ:St}{i:Nat}{v:V}(D5:σ[i]? = some (some v)):σ.set i (some v)=σ:=by
 apply List.ext_getElem?
 intro j
 rw[List.getElem?_set]
 by_cases hj:i=j
 ·subst hj
  rw[if_pos rfl,if_pos (List.getElem?_eq_some_iff.mp D5).1,D5]
 ·rw[if_neg hj]
theorem pC {K:PySem.W.Frag}{B:Bs none}{i:Nat}{d0:Addr}{o:Obj}{kvs:List (Key×V)}{F:Addr->Prop}{H:Hp}{σ:St}{τ:Ev}{f:List Addr}{ks:List Key}{ds:List D}(hB:B.H d0=none)(hF:¬ B.F d0)(hL:∀ a xs,B.L a xs->a≠d0)(m:DO K (Bd B i d0 o kvs) F H σ τ f)(zs:aj τ i=some (.Dl false ks ds))
  (n1:Hb (τ.set i none)=true) (n2:aT ds=true):H d0=some (.Dw o (.dK kvs))/\∃ f',DO K B (fun a=>F a/\a≠d0) (upd H d0 (.dK kvs)) σ (τ.set i (some (.Dl true ks ds))) f':=by
 have hH:H d0=some (.Dw o (.dK kvs)):=m.same _ _ ao
 refine⟨hH,?_⟩
 have D5:σ[i]? = some (some (.ref d0)):=m.nm i d0 rfl rfl
 obtain⟨v,fs,g,h1,h2,h3,h4⟩:=m.D8.at zs
 rw[D5] at h1
 cases h1
 cases h2 with
 | @GA a Mw _ _ Ji JH hk hm=>
  have ek:Mw=kvs:=by
   rcases JH with z|⟨o',z⟩
   ·rw[hH] at z;cases z
   ·rw[hH] at z;cases z;rfl
  subst ek
  have r3:=h3.ED hH Ji n1
  have m1:Dv K (fun a=>F a/\a≠d0) (upd H d0 (.dK Mw)) (.ref d0) (.Dl true ks ds) [d0]:=.E0 (fun z=>z.2 rfl) ao hk (hm.ED hH Ji n2)
  obtain⟨g',h',r4,p4⟩:=r3.put i m1
  rw[pv D5,List.set_set] at r4
  have dg:d0∉g:=fun z=>(h3.own d0 z).1 Ji
  have gn:g.Nodup:=by
   have:=h4.nodup_iff.mp m.DJ
   exact(List.nodup_append.mp this).2.1
  have Nl:(g'++h').Nodup:=p4.nodup_iff.mpr (List.nodup_cons.mpr ⟨dg,gn⟩)
  have QC:∀ {b:Addr}{u:HO},B.H b=some u->b≠d0:=fun e z=>by rw[z,hB] at e;cases e
  refine⟨g',fun a h=>by rw[ah h.2];exact m.DC a h.1,r4,(List.nodup_append.mp Nl).1,fun b u e=>?_,fun a ha=>?_,fun a ha=>⟨m.Ec a (.inl ha),fun z=>hF (z ▸ ha)⟩,fun a ha=>?_,fun a xs h=>⟨⟨(m.pin a xs h).1,hL a xs h⟩,d4 (hL a xs h) (m.pin a xs h).2⟩,fun a xs h=>DP.ED hH (m.Hk a xs h),fun j a e=>by cases e⟩
  ·rw[ah (QC e)]
   exact m.same b u (by show upd B.H d0 _ b=_;rw[ah (QC e)];exact e)
  ·rcases List.mem_cons.mp (p4.mem_iff.mp (List.mem_append_left _ ha)) with rfl|ha
   ·exact hB
   ·have:=m.own a (h4.mem_iff.mpr (List.mem_append_right _ ha))
    have this:upd B.H d0 _ a=none:=this
    rw[ah (fun z=>by rw[z] at ha;exact dg ha)] at this
    exact this
  ·rcases m.out a ha.1 with (z|z)|z
   ·exact .inl z
   ·exact absurd z ha.2
   ·have z:upd B.H d0 _ a=none:=z
    rw[ah ha.2] at z
    exact .inr z
theorem ES (g:DM Z CX cl xp X ex G){t it:Expr}{x:List Stmt}{pos:Pos}{i j:Nat}{a:List IS}(QD:G.cm=true/\G.rs=true)(hT:bC G (.nm j) t=true)(hs:Du Z G (.v i) it=true)(Hy:G.io=none)(Ln:i≠j)(ha:Gj X x (RS X.K (some i) ex (ax cl a))) :
  PS X (.For t it x [] pos) (RS X.K G.io ex (D6 cl (.Gd j i a))):=by
 have hp:PE X it (mQ i):=by
  cases it with
  | Name y p=>exact eN g hs
  | _=>exact af hs
 rw[Hy]
 refine aL (tm (jS (g.own QD.2) (g.calm QD.1) (tj hp) (JD g (.nm j) t hT) ha (fun x=>bK (a:=.val (.v i)) (show bT Z G (.val (.v i)) it=true by cases it<;>exact hs) X.env x))) fun Dn σ H ⟨B,F,τ,f,m,q⟩=>?_
 have q0:Df ex (match aj τ i with|some (.Dl true ks ds)=>Dk (aV ds) (U (forM (fun x τ=>U (bq (.nm j) x τ) fun Di=>ax cl a Di) (ks.map cJ) (τ.set i (some (.Dl false ks ds)))) (gx i))|_=>Dq) (Fk X.K B Dn):=q
 cases zs:aj τ i with
 | none=>rw[zs] at q0;exact q0.no.elim
 | some dd=>
  rw[zs] at q0
  cases dd with
  | Dl ow ks ds=>
   cases ow with
   | false=>exact q0.no.elim
   | true=>
    obtain⟨gd,q1⟩:=Df.Dk q0
    obtain⟨d0,kvs,g0,D5,hF,hH,hk,hm,hr,Mx⟩:=jA m.D8 zs gd
    subst hk
    refine⟨d0,kvs,D5,hH,fun o h0=>?_⟩
    have Hz:(d0::g0).Nodup:=Mx.nodup_iff.mp m.DJ
    have dg:d0∉g0:=(List.nodup_cons.mp Hz).1
    have hB:B.H d0=none:=m.own d0 (Mx.mem_iff.mpr (by simp))
    have OP:¬ B.F d0:=fun z=>hF (m.Ec d0 z)
    have Nm:∀ a xs,B.L a xs->a≠d0:=fun a xs h z=>hF (z ▸ (m.pin a xs h).1)
    have Ll:∀ {a:Addr},F a->a≠d0:=fun h z=>hF (z ▸ h)
    have hl:∀ a (u:LD),F a->Rd H a u.o->(F a∨a=d0)/\Rd (upd H d0 (.Dw o (.dK kvs))) a u.o:=fun a u h r=>⟨.inl h,d4 (Ll h) r⟩
    have ht:∀ a xs,DP X.K H a xs->DP X.K (upd H d0 (.Dw o (.dK kvs))) a xs:=fun a xs h=>DP.ON hH h
    have r1:DI X.K (fun a=>F a∨a=d0) (upd H d0 (.Dw o (.dK kvs))) σ (τ.set i none) g0:=hr.step hl ht fun a ha n _=>⟨fun z=>z.elim n fun z=>dg (z ▸ ha),ah fun z=>dg (z ▸ ha)⟩
    have m1:Dv X.K (fun a=>F a∨a=d0) (upd H d0 (.Dw o (.dK kvs))) (.ref d0) (.Dl false (kvs.map (·.1)) ds) []:=.GA (.inr rfl) (.inr ⟨o,ao⟩) rfl (hm.step hl ht bp)
    obtain⟨g',h',r2,p2⟩:=r1.put i m1
    rw[pv D5,List.set_set] at r2
    have Jc:(g'++h').Nodup:=p2.nodup_iff.mpr (List.nodup_cons.mp Hz).2
    have QE:∀ b∈g',b∈g0:=fun b hb=>p2.mem_iff.mp (List.mem_append_left _ hb)
    have mF:DO X.K (Bd B i d0 o kvs) (fun a=>F a∨a=d0) (upd H d0 (.Dw o (.dK kvs))) σ (τ.set i (some (.Dl false (kvs.map (·.1)) ds))) g':=by
     refine⟨fun a h=>?_,r2,(List.nodup_append.mp Jc).1,fun b u e=>?_,fun a ha=>?_,fun a h=>h.elim (fun z=>.inl (m.Ec a z)) .inr,fun a h=>?_,fun a xs h=>⟨.inl (m.pin a xs h).1,d4 (Nm a xs h) (m.pin a xs h).2⟩,fun a xs h=>ht a xs (m.Hk a xs h),fun j' a' e1 e2=>?_⟩
     ·by_cases z:a=d0
      ·rw[z,ao];simp
      ·rw[ah z];exact m.DC a (h.elim id fun y=>absurd y z)
     ·by_cases z:b=d0
      ·subst z
       have e:upd B.H b (.Dw o (.dK kvs)) b=some u:=e
       rw[ao] at e ⊢
       exact e
      ·have e:upd B.H d0 (.Dw o (.dK kvs)) b=some u:=e
       rw[ah z] at e ⊢
       exact m.same b u e
     ·have z:a≠d0:=fun z=>dg (z ▸ QE a ha)
      show upd B.H d0 _ a=none
      rw[ah z]
      exact m.own a (Mx.mem_iff.mpr (List.mem_cons_of_mem _ (QE a ha)))
     ·rcases h with h|h
      ·rcases m.out a h with z|z
       ·exact .inl (.inl z)
       ·exact .inr (by show upd B.H d0 _ a=none;rw[ah (Ll h)];exact z)
      ·exact .inl (.inr h)
     ·cases e1
      cases e2
      exact D5
    refine nE (B:=Bd B i d0 o kvs) ao Ln mF ?_
    cases zf:forM (fun x τ=>U (bq (.nm j) x τ) fun Di=>ax cl a Di) ((kvs.map (·.1)).map cJ) (τ.set i (some (.Dl false (kvs.map (·.1)) ds))) with
    | error er=>
     rw[zf] at q1
     cases er with
     | stuck=>exact q1.no.elim
     | exc c=>exact q1
    | ok fl=>
     rw[zf] at q1
     cases fl with
     | nx Di=>
      have q2:Df ex (uV i Di (aj Di i)) (Fk X.K B Dn):=q1
      cases z2:aj Di i with
      | none=>rw[z2] at q2;exact q2.no.elim
      | some d2=>
       rw[z2] at q2
       cases d2 with
       | Dl TN Ha GW=>
        cases TN with
        | true=>exact q2.no.elim
        | false=>
         obtain⟨OQ,q3⟩:=Df.Dk (show Df ex (Dk (Hb (Di.set i none)&&aT GW) (.ok (.nx (Di.set i (some (.Dl true Ha GW)))))) (Fk X.K B Dn) from q2)
         rw[Bool.and_eq_true] at OQ
         intro Dy H' F' f' m'
         obtain⟨e',JG,Gg⟩:=pC hB OP Nm m' z2 OQ.1 OQ.2
         exact⟨d0,o,kvs,e',h0,q3.ok _ _ _ _ Gg⟩
       | _=>exact q2.no.elim
     | rt d=>
      have q2:Fk X.K B Dn (.rt d):=q1
      intro v H' F' fv ot
      refine q2 v H' F' fv ⟨ot.DC,fun b u e=>ot.same b u ?_,ot.rep,ot.DJ,fun b hb=>?_,fun b hb=>ot.Ec b (.inl hb),fun b hb=>?_⟩
      ·show upd B.H d0 _ b=some u
       rw[ah (fun z=>by rw[z,hB] at e;cases e)]
       exact e
      ·have z:upd B.H d0 _ b=none:=ot.new b hb
       by_cases y:b=d0
       ·rw[y];exact hB
       ·rwa [ah y] at z
      ·rcases ot.out b hb with (z|z)|z
       ·exact .inl z
       ·exact .inr (z ▸ hB)
       ·have z:upd B.H d0 _ b=none:=z
        by_cases y:b=d0
        ·rw[y];exact .inr hB
        ·rw[ah y] at z;exact .inr z
     | bk Di=>exact(show Df ex Dq (Fk X.K B Dn) from q1).no.elim
     | ct Di=>exact(show Df ex Dq (Fk X.K B Dn) from q1).no.elim
  | _=>exact q0.no.elim
mutual
theorem OR:∀ (a:IS) (X:Cx) (ex:Str->Prop) (G:Gm) (s:Stmt),DM Z CX cl xp X ex G->ke Z G a s=true->PS X s (RS X.K G.io ex (D6 cl a))
 | .asg tg e,X,ex,G,s,g,h=>by
  cases s with
  | Assign ts v pos=>
   match ts,h with
   | [t],h=>
    have h':(bC G tg t&&Du Z G e v&&(isName t||(isTup t&&notTuple v)))=true:=h
    simp only[Bool.and_eq_true] at h'
    exact FP g h'.1.1 h'.1.2 h'.2
   | [],h=>first|exact af h|cases h
   | _::_::_,h=>first|exact af h|cases h
  | _=>first|exact af h|cases h
 | .par i j a b,X,ex,G,s,g,h=>by cases s<;>first|exact af h|cases h
 | .Jy i k e,X,ex,G,s,g,h=>by cases s<;>first|exact af h|cases h
 | .EG i k e,X,ex,G,s,g,h=>by
  cases s with
  | Assign ts v pos=>
   cases ts with
   | nil=>first|exact af h|cases h
   | cons t ts=>
    cases ts with
    | cons _ _=>cases t<;>first|exact af h|cases h|(rename_i o _ _;cases o<;>cases h)
    | nil=>
     cases t with
     | Subscript o s sp=>
      cases o with
      | Name x p=>
       have h':(cq G i x&&aX s&&Du Z G k s&&Du Z G e v)=true:=h
       simp only[Bool.and_eq_true] at h'
       exact E7 g h'.1.1.1 h'.1.1.2 h'.1.2 h'.2
      | _=>first|exact af h|cases h
     | _=>first|exact af h|cases h
  | _=>first|exact af h|cases h
 | .Et i k e,X,ex,G,s,g,h=>by
  cases s with
  | Assign ts v pos=>
   cases ts with
   | nil=>first|exact af h|cases h
   | cons t ts=>
    cases ts with
    | cons _ _=>cases t<;>first|exact af h|cases h|(rename_i o _ _;cases o<;>cases h)
    | nil=>
     cases t with
     | Subscript o s sp=>
      cases o with
      | Name x p=>
       have h':(cq G i x&&aX s&&Du Z G k s&&Du Z G e v&&!(vars e).contains i)=true:=h
       simp only[Bool.and_eq_true] at h'
       exact Ew g h'.1.1.1.1 h'.1.1.1.2 h'.1.1.2 h'.1.2 (by simpa using h'.2)
      | _=>first|exact af h|cases h
     | _=>first|exact af h|cases h
  | _=>first|exact af h|cases h
 | .Gd j i body,X,ex,G,s,g,h=>by
  cases s with
  | For t it b OS pos=>
   cases OS with
   | cons _ _=>first|exact af h|cases h
   | nil=>
    have h':(((G.cm&&G.rs)&&bC G (.nm j) t)&&Du Z G (.v i) it&&G.io == none&&decide (i≠j)&&cV Z {G with io:=some i} body b)=true:=h
    simp only[Bool.and_eq_true] at h'
    exact ES g h'.1.1.1.1.1 h'.1.1.1.1.2 h'.1.1.1.2 (by simpa using h'.1.1.2) (of_decide_eq_true h'.1.2) (pD body X ex {G with io:=some i} b (g.io _) h'.2)
  | _=>first|exact af h|cases h
 | .ext i e,X,ex,G,s,g,h=>by cases s<;>first|exact af h|cases h
 | .ins i k e,X,ex,G,s,g,h=>by cases s<;>first|exact af h|cases h
 | .app i e,X,ex,G,s,g,h=>by
  cases s with
  | Expr v pos=>
   cases v with
   | Call fn args Fi Dt=>
    cases fn with
    | Attribute o name apos=>
     cases o with
     | Name x p=>
      match args,Fi,h with
      | [v],[],h=>
       have h':(cq G i x&&name == "append"&&apos.endLine == Dt.line&&notStar v&&Du Z G e v)=true:=h
       simp only[Bool.and_eq_true] at h'
       have e1:name = "append":=eq_of_beq h'.1.1.1.2
       subst e1
       exact FR g h'.1.1.1.1 h'.1.1.2 h'.1.2 h'.2
      | [],_,h=>first|exact af h|cases h
      | [_],_::_,h=>first|exact af h|cases h
      | _::_::_,_,h=>first|exact af h|cases h
     | _=>first|exact af h|cases h
    | _=>first|exact af h|cases h
   | _=>first|exact af h|cases h
  | _=>first|exact af h|cases h
 | .Qh i,X,ex,G,s,g,h=>by cases s<;>first|exact af h|cases h
 | .pop j i,X,ex,G,s,g,h=>by cases s<;>first|exact af h|cases h
 | .Ke j e,X,ex,G,s,g,h=>by
  have h1:Mm s (fun t xf args=>isName t&&bC G (.nm j) t&&xf == "dict"&&G.Gq 19&&aD Z G [e] args)=true:=by cases s<;>exact h
  exact FQ g h1
 | .GB i j,X,ex,G,s,g,h=>by
  have h1:Mo s (fun x n l y=>cq G i x&&n == "update"&&l&&cq G j y&&decide (i≠j))=true:=by cases s<;>exact h
  exact E8 g h1
 | .Qi j f es i,X,ex,G,s,g,h=>by cases s<;>first|exact af h|cases h
 | .FL j g0 a f es i,X,ex,G,s,g,h=>by
  have h1:Mn s (fun t xg e xf args=>isName t&&bC G (.nm j) t&&G.cm&&(bN Z G f xf&&Z.Ft.contains f)&&aD Z G (es++[.v i]) args&&!(vars a++aq es).contains i&&G.io != some i&&decide (i≠j)&&(bN Z G g0 xg&&Z.Hx G g0)&&(notStar e&&Du Z G a e))=true:=by cases s<;>exact h
  exact ER g h1
 | .Qj i,X,ex,G,s,g,h=>by cases s<;>first|exact af h|cases h
 | .L4 _ _ _,X,ex,G,s,g,h=>by cases s<;>first|exact af h|cases h
 | .exp e,X,ex,G,s,g,h=>by
  cases s with
  | Expr v pos=>
   have h':(iD v&&Du Z G e v)=true:=by cases v<;>first|exact h|(rename_i c _ _;cases c<;>exact h)
   simp only[Bool.and_eq_true] at h'
   exact yG g h'.1 h'.2
  | _=>first|exact af h|cases h
 | .ret e,X,ex,G,s,g,h=>by
  cases s with
  | Return v pos=>
   cases v with
   | none=>first|exact af h|cases h
   | some v=>exact FT g h
  | _=>first|exact af h|cases h
 | .IW,X,ex,G,s,g,h=>by
  cases s with
  | Return v pos=>
   cases v with
   | none=>exact tU
   | some v=>first|exact af h|cases h
  | _=>first|exact af h|cases h
 | .Eh t a b,X,ex,G,s,g,h=>by
  cases s with
  | If c x y pos=>
   have h':(Du Z G t c&&cV Z G a x&&cV Z G b y)=true:=h
   simp only[Bool.and_eq_true] at h'
   exact G2 (snd t X ex G c g h'.1.1).2 (pD a X ex G x g h'.1.2) (pD b X ex G y g h'.2)
  | _=>first|exact af h|cases h
 | .DZ tg s body,X,ex,G,st,g,h=>by
  cases st with
  | For t it b OS pos=>
   cases OS with
   | cons _ _=>first|exact af h|cases h
   | nil=>
    have h':(((G.cm&&G.rs)&&bC G tg t)&&(bT Z G s it&&eP s t)&&cV Z G body b)=true:=h
    simp only[Bool.and_eq_true] at h'
    exact FU g h'.1.1 h'.1.2 (pD body X ex G b g h'.2)
  | _=>first|exact af h|cases h
 | .HR t body,X,ex,G,s,g,h=>by cases s<;>first|exact af h|cases h
 | .brk,X,ex,G,s,g,h=>by
  cases s with
  | Break pos=>exact aL nQ fun Dn σ H ⟨B,F,τ,f,m,q⟩=>q.ok _ _ _ _ m
  | _=>first|exact af h|cases h
 | .cnt,X,ex,G,s,g,h=>by
  cases s with
  | Continue pos=>exact aL iX fun Dn σ H ⟨B,F,τ,f,m,q⟩=>q.ok _ _ _ _ m
  | _=>first|exact af h|cases h
 | .pass,X,ex,G,s,g,h=>by
  cases s with
  | Pass pos=>exact aL sk fun Dn σ H ⟨B,F,τ,f,m,q⟩=>q.ok _ _ _ _ m
  | Expr v pos=>
   cases v with
   | Constant c j p=>
    cases c with
    | str z=>exact aL xn fun Dn σ H ⟨B,F,τ,f,m,q⟩=>q.ok _ _ _ _ m
    | _=>first|exact af h|cases h
   | _=>first|exact af h|cases h
  | _=>first|exact af h|cases h
 | .Eu n c w,X,ex,G,s,g,h=>by
  cases s with
  | Raise e cause pos=>
   cases cause with
   | some _=>exact af h
   | none=>
    have h:Nh e (fun x=>G.rs&&G.cm&&bN Z G n x&&x == c&&Z.rc.contains (n,c))=true:=h
    obtain⟨x,np,w',j,p,Dt,rfl,h⟩:=yu h
    have h':(G.rs&&G.cm&&bN Z G n x&&x == c&&Z.rc.contains (n,c))=true:=h
    simp only[Bool.and_eq_true] at h'
    have e:=eq_of_beq h'.1.2
    subst e
    exact o6 g h'.1.1.1.1 h'.1.1.1.2 h'.1.1.2 (by simpa using h'.2)
  | _=>exact af h
 | .L6 body n cs i hd,X,ex,G,s,g,h=>by cases s<;>exact af h
 | .D4 n c e,X,ex,G,s,g,h=>by
  have h1:rev s (fun o=>Ni o fun x a=>G.rs&&G.cm&&bN Z G n x&&x == c&&Z.rc.contains (n,c)&&aD Z {G with rs:=false,tr:=false} [e] [a])=true:=by cases s<;>exact h
  obtain⟨o,pos,rfl,h2⟩:=yv h1
  obtain⟨x,np,a,Dt,rfl,h3⟩:=yy h2
  simp only[Bool.and_eq_true] at h3
  obtain⟨⟨⟨⟨⟨Mq,Fo⟩,hx⟩,TQ⟩,TR⟩,DN⟩:=h3
  have e:=eq_of_beq TQ
  subst e
  exact nC g Mq Fo hx (by simpa using TR) DN
 | .L5 i f es n cs k hd,X,ex,G,s,g,h=>by cases s<;>first|exact af h|cases h
 | .never,X,ex,G,s,g,h=>aL nT fun Dn σ H ⟨B,F,τ,f,m,q⟩=>q.no.elim
theorem pD:∀ (as:List IS) (X:Cx) (ex:Str->Prop) (G:Gm) (ss:List Stmt),DM Z CX cl xp X ex G->cV Z G as ss=true->Gj X ss (RS X.K G.io ex (ax cl as))
 | [],X,ex,G,ss,g,h=>by
  cases ss with
  | nil=>exact c6 gU fun Dn σ H ⟨B,F,τ,f,m,q⟩=>q.ok _ _ _ _ m
  | cons _ _=>first|exact af h|cases h
 | a::as,X,ex,G,ss,g,h=>by
  cases ss with
  | nil=>first|exact af h|cases h
  | cons s ss=>
   have h':(ke Z G a s&&cV Z G as ss)=true:=h
   simp only[Bool.and_eq_true] at h'
   refine c6 (dH (OR a X ex G s g h'.1) (pD as X ex G ss g h'.2)) fun Dn σ H ⟨B,F,τ,f,m,q⟩=>?_
   refine⟨B,F,τ,f,m,(Df.U q).mono fun r hr=>?_⟩
   cases r with
   | nx Di=>exact fun Dy H' F' f' m'=>⟨B,F',Di,f',m',hr⟩
   | ct Di=>exact hr.ok
   | bk Di=>exact hr.ok
   | rt d=>exact hr.ok
end
end
section
variable {P:Program}{w:World}
theorem iG {outer:List Env}{H:Hp}{s:Shared}{E:XK}{e:Value}{s':Shared}(x:DU P w H s.heap)(fr:∀ b∈Em outer,H b=none)(h:EH P w outer (aA s.heap H) s E e s'):EH P w outer H s E e s':=by
 obtain⟨a,cls,a0,H',B,h1,h2,h3,h4,h5,_,h6,h7,h8⟩:=h
 exact⟨a,cls,a0,cM H H',B,h1,h2,h3,j8 x h4,ip x h5 (dR h4) (fun b o _=>h6 b o) fr,jt,fun b o e n f=>h6 b o e (bt n) f,h7,h8⟩
theorem iH {outer:List Env}{H:Hp}{s:Shared}{e:Value}{s':Shared}:¬ EH P w outer H s (fun _ _ _=>False) e s':=fun ⟨_,_,_,_,_,_,_,_,_,_,_,_,_,z⟩=>z
variable {K:PySem.W.Frag}{mg:Str->Option Value}{base:Heap}{N:List Str}{qual:Str}{scope:Scope}{f:Addr}{cd:Value}{A:Around}{outer:List Env}{s:Shared}{H:Hp}{E:XK}
theorem u7 {H':Hp}{B:Heap}{s2:Shared}{a:Addr}{cls a0:Value}(lt:Kj H)(os:s2.os=s.os)(bare:AllBare s2.gens)(fl:Heap.FlyingW B outer a cls a0 s2.heap)(hB:DU P w H' B)
  (kB:∀ b o,s.heap.get? b=some o->H b=none->b∉Em outer->B.get? b=some o) (hs:∀ b o,s.heap.get? b=some o->H b=none->b∈Em outer->∃ sl,s2.heap.get? b=some {o with slots:=sl})
  (fr:∀ b o,s.heap.get? b=some o->H b=none->H' b=none) (pz:∀ b o u,H b=some (.Dw o u)->H' b=some (.Dw o u)) (pt:∀ b xs,H b=some (.tup xs)->H' b=some (.tup xs)) (hE:E cls none H0):EH P w outer H s E (.ref a) s2:=by
 refine⟨a,cls,a0,H',B,rfl,os,bare,⟨fun b o e n nf _=>fl.1 _ _ (kB b o e n nf),fun b o e n hf _=>hs b o e n hf,fun b o e n _=>fr b o e n,fun b o e _=>?_,pt,pz,fun b ps e=>?_⟩,hB,fun b o e=>(lt b o e).elim (fun ⟨ob,u,z⟩=>by subst z;exact pz _ _ _ e) fun ⟨xs,z⟩=>by subst z;exact pt _ _ e,kB,fl,hE⟩
 ·cases q:H b with
  | none=>
   by_cases hf:b∈Em outer
   ·obtain⟨sl,h⟩:=hs b o e q hf
    exact⟨_,h⟩
   ·exact⟨_,fl.1 _ _ (kB b o e q hf)⟩
  | some u=>
   have:∃ u',H' b=some u':=by
    rcases lt b u q with ⟨ob,v,rfl⟩|⟨xs,rfl⟩
    ·exact⟨_,pz _ _ _ q⟩
    ·exact⟨_,pt _ _ q⟩
   obtain⟨u',hu⟩:=this
   obtain⟨ob,ho⟩:=(hB b u' hu).at
   exact⟨_,fl.1 _ _ ho⟩
 ·rcases lt b _ e with ⟨ob,v,z⟩|⟨xs,z⟩<;>cases z
theorem u9 {b:Addr}{o:Obj}(e:s.heap.get? b=some o)(n:b∉Em outer):b∉Em (envOfC qual scope s.heap.objs.size f cd::outer):=fun z=>by
 unfold Em at z n
 rcases List.mem_filterMap.mp z with ⟨env,hm,hf⟩
 rcases List.mem_cons.mp hm with rfl|hm
 ·have h1:s.heap.objs.size=b:=Option.some.inj hf
  have h2:=Heap.lt_size e
  rw[h1] at h2
  exact Nat.lt_irrefl _ h2
 ·exact n (List.mem_filterMap.mpr ⟨env,hm,hf⟩)
theorem tY (lt:Kj H){ex:Str->Prop}(hE:∀ c C,ex c->PySem.W.nsIn K mainGlobals c=some (some (.ref C))->E (.ref C) none H0) :
  Passes (EH P w) (cC (EH P w) P w K mg base N qual scope f cd A outer s H E) (fun cls _ _=>∃ c C,ex c/\PySem.W.nsIn K mainGlobals c=some (some (.ref C))/\cls=.ref C):=by
 intro pins σ H1 s1 e s' I ⟨a,cls,a0,H',B,he,os,bare,un,hB,_,kB,fl,c,C,hc,hn,JV⟩
 subst he JV
 have I':=I.Jn os un (hB.kept fl.1) bare (fun b z=>absurd z (by simp))
 show wpAny _ _ (leaving _ (.ref a)) _ _ s'
 refine wpAny_leaves_onW (show (A.deeper (envOfC qual scope s.heap.objs.size f cd)).frames=some (envOfC qual scope s.heap.objs.size f cd::outer) from I.ok.frames) rfl fl fun h' TU up=>?_
 refine u7 lt I'.os I'.bare TU hB (fun b o e n nf=>?_) (fun b o e n hf=>?_) (fun b o e n=>I'.base.free b o e n (by simp[cC])) I'.base.Ee I'.base.EA (hE c C hc hn)
 ·exact kB b o (I.base.keep b o e n nf (by simp[cC])) (I.base.free b o e n (by simp[cC])) (u9 e nf)
 ·obtain⟨sl,h1⟩:=I'.base.slot b o e n hf (by simp[cC])
  obtain⟨_,o',FZ,nf⟩:=I.ok.En.mem hf
  have FZ:s.heap.get? b=some o':=FZ
  rw[e] at FZ
  cases FZ
  obtain⟨LA,h2⟩:=up b _ h1 nf
  exact⟨LA,h2⟩
theorem pE (lt:Kj H){pins:List (Addr×Obj)}{σ:St}{H1:Hp}{s1:Shared}{C e:Addr}{h':Heap}{vs:List Value}(hE:E (.ref C) none H0)
  (I:Inv (cC (EH P w) P w K mg base N qual scope f cd A outer s H E) pins σ H1 s1) (hx:Heap.MadeExcOf s1.heap h' e (.ref C) vs) :
  (cC (EH P w) P w K mg base N qual scope f cd A outer s H E).xe (.ref e) {s1 with heap:=h'}:=by
 have FV:∀ env∈(cC (EH P w) P w K mg base N qual scope f cd A outer s H E).stack,∀ b,env.frame=some b->b∈Em (cC (EH P w) P w K mg base N qual scope f cd A outer s H E).stack:=fun env he b hb=>List.mem_filterMap.mpr ⟨env,he,hb⟩
 show wpAny _ _ (leaving _ (.ref e)) _ _ _
 refine wpAny_leaves_madeW (base:=PySem.W.hideAll s1.heap (Em (cC (EH P w) P w K mg base N qual scope f cd A outer s H E).stack)) (h:=s1.heap) (show (A.deeper (envOfC qual scope s.heap.objs.size f cd)).frames=some (envOfC qual scope s.heap.objs.size f cd::outer) from I.ok.frames) rfl (fun b o q=>PySem.W.of_hideAll _ q) (PySem.W.funFrames_hide I.stack FV) hx fun h2 t fl _ _ up=>?_
 have JS:∀ b u o,H1 b=some u->s1.heap.get? b=some o->(PySem.W.hideAll s1.heap (Em (cC (EH P w) P w K mg base N qual scope f cd A outer s H E).stack)).get? b=some o:=fun b u o hu ho=>PySem.W.hideAll_get _ ho fun z=>by
  rw[I.FD b z] at hu;cases hu
 refine u7 (H':=H1) lt I.os I.bare fl (fun b o hb=>?_) (fun b o he n nf=>?_) (fun b o he n hf=>?_) (fun b o e n=>I.base.free b o e n (by simp[cC])) I.base.Ee I.base.EA hE
 ·refine(I.Dz b o hb).EI (fun c u hc hu=>?_) (fun _ z=>z) fun _ _ z=>z
  rcases hc with rfl|hc
  ·exact JS _ _ _ hb hu
  ·exact JS _ _ _ hc hu
 ·exact PySem.W.hideAll_get _ (I.base.keep b o he n nf (by simp[cC])) (u9 he nf)
 ·obtain⟨sl,h1⟩:=I.base.slot b o he n hf (by simp[cC])
  obtain⟨_,o',FZ,nf⟩:=I.ok.En.mem hf
  have FZ:s.heap.get? b=some o':=FZ
  rw[he] at FZ
  cases FZ
  obtain⟨LA,h3⟩:=up b _ (hx.keeps b _ h1) nf
  exact⟨LA,h3⟩
end
def QF (K:PySem.W.Frag){io:Option Nat}(B:Bs io)(ex:Str->Prop)(g:Ev->Res Fl):TS:=fun Dn σ H=>∃ F τ f,DO K B F H σ τ f/\Df ex (g τ) (Fk K B Dn)
noncomputable def pF (Z:Sg)(G:Gm):List IS->List Stmt->Bool
 | [],[]=>true
 | a::as,s::ss=>ke Z G a s&&pF Z G as ss
 | _,_=>false
section
variable {Z:Sg}{cl:Nat->List D->Res D}{X:Cx}{ex:Str->Prop}{G:Gm}
theorem QG (g:DM Z (EH X.prog X.w) cl (Gp X.K) X ex G)(DN:X.stack=X.env::X.outer)(OT:X.env.frame=some X.env.locals)(lt:Kj X.ET)(Iy:∀ a:Addr,∀ f∈Z.fns,f∈Z.pl->∀ x,Z.name f=some x->Km X.prog X.w X.K X.mg X.base (EH X.prog X.w) (X.A.mark (some (.ref a))) cl (Gp X.K) f x)
  {B0:Bs G.io} (TV:B0.N=none) (TX:B0.H=X.ET) (OP:Fy B0.F B0.H) (Nm:∀ a xs,¬ B0.L a xs) (TY:∀ a xs,¬ B0.T a xs):∀ (as:List IS) (ss:List Stmt),pF Z G as ss=true->Gj X ss (QF X.K B0 ex (ax cl as))
 | [],ss,h=>by
  cases ss with
  | nil=>exact c6 gU fun Dn σ H ⟨F,τ,f,m,q⟩=>q.ok _ _ _ _ m
  | cons _ _=>cases h
 | a::as,ss,h=>by
  cases ss with
  | nil=>cases h
  | cons s ss=>
   have h':(ke Z G a s&&pF Z G as ss)=true:=h
   rw[Bool.and_eq_true] at h'
   have p1:PS X s (QF X.K B0 ex (D6 cl a)):=by
    exact aL (OR a X ex G s g h'.1) fun Dn σ H ⟨F,τ,f,m,q⟩=>⟨B0,F,τ,f,m,q⟩
   refine c6 (dH p1 (QG g DN OT lt Iy TV TX OP Nm TY as ss h'.2)) fun Dn σ H ⟨F,τ,f,m,q⟩=>?_
   refine⟨F,τ,f,m,(Df.U q).mono fun r hr=>?_⟩
   cases r with
   | nx Di=>exact fun Dy H' F' f' m'=>⟨F',Di,f',m',hr⟩
   | ct Di=>exact hr.ok
   | bk Di=>exact hr.ok
   | rt d=>exact hr.ok
end
noncomputable def k7 (Z:Sg)(fn:Fn)(ps:List Str)(st:Stmt):Bool:=
 (av st).kind == .function&&!(av st).isCoroutine&&!(av st).isGenerator&&decide (fn.G.N.Nodup)&&fn.G.N.take ps.length == ps
&&ps.all (fun x=>(av st).names.lookup x == some .local||(av st).names.lookup x == some .cell)&&(av st).names.all (fun y=>y.2 != .free)
&&(List.range fn.G.N.length).all (fun i=>(fn.G.N[i]?).bind ((av st).names.lookup ·) == fn.G.kd[i]?)
&&fn.G.N.all (fun x=>!(x == "__debug__")&&!(x == "__classdict__"))
&&fn.G.gl.all (fun n=>match Z.name n with|some x=>(av st).names.lookup x == some .globalImplicit|none=>false)
&&decide (ps.length=fn.np)
noncomputable def a9 (Z:Sg)(fn:Fn)(ps:List Str)(st:Stmt):Bool:=k7 Z fn ps st&&(fn.io.isNone&&pF Z fn.G fn.body (aO st))
noncomputable def Nn:List Stmt->(Expr->Bool)->Bool
 | [.Return (some v) _],k=>k v
 | _,_=>false
theorem yI {ss:List Stmt}{k:Expr->Bool}(h:Nn ss k=true):∃ v pos,ss=[.Return (some v) pos]/\k v=true:=by
 unfold Nn at h
 split at h
 ·exact⟨_,_,rfl,h⟩
 ·cases h
noncomputable def gH (Z:Sg)(G:Gm)(e:IR):List IS->List Stmt->Bool
 | [],ss=>Nn ss fun v=>Du Z G e v
 | a::as,s::ss=>ke Z G a s&&gH Z G e as ss
 | _,_=>false
noncomputable def eS (Z:Sg)(fn:Fn)(ps:List Str)(st:Stmt):Bool:=k7 Z fn ps st&&(match fn.io with
 | some e=>gH Z fn.G e fn.body (aO st)&&fn.G.io == some (fn.np - 1)&&decide (0 < fn.np)&&!fn.G.tr
 | none=>false)
structure HY (Z:Sg)(fn:Fn)(ps:List Str)(st:Stmt):Prop where
 sc:FH fn.G.N ps (av st)
 kd:∀ (i:Nat) (x:Str),fn.G.N[i]? = some x->(av st).names.lookup x=fn.G.kd[i]?
 Hd:∀ x∈fn.G.N,(x == ("__debug__" : Str))=false/\(x == ("__classdict__" : Str))=false
 gl:∀ n∈fn.G.gl,∀ x,Z.name n=some x->(av st).names.lookup x=some .globalImplicit
 np:ps.length=fn.np
structure G3 (Z:Sg)(fn:Fn)(ps:List Str)(st:Stmt):Prop extends HY Z fn ps st where
 pl:fn.io=none
 body:pF Z fn.G fn.body (aO st)=true
structure Ia (Z:Sg)(fn:Fn)(ps:List Str)(st:Stmt):Prop extends HY Z fn ps st where
 ex:∃ e,fn.io=some e/\gH Z fn.G e fn.body (aO st)=true/\fn.G.io=some (fn.np - 1)/\0 < fn.np/\fn.G.tr=false
theorem jE {Z:Sg}{fn:Fn}{ps:List Str}{st:Stmt}(h:k7 Z fn ps st=true):HY Z fn ps st:=by
 unfold k7 at h
 simp only[Bool.and_eq_true] at h
 obtain⟨⟨⟨⟨⟨⟨⟨⟨⟨⟨h1,h2⟩,h3⟩,h4⟩,h5⟩,h6⟩,h7⟩,h8⟩,h9⟩,Jt⟩,Ju⟩:=h
 rw[List.all_eq_true] at h6 h7 h8 h9 Jt
 refine⟨⟨eq_of_beq h1,by simpa using h2,by simpa using h3,of_decide_eq_true h4,eq_of_beq h5,fun x hx=>?_,fun y hy=>by simpa using h7 y hy⟩,fun i x hx=>?_,fun x hx=>by simpa using h9 x hx,fun n hn x hx=>?_,of_decide_eq_true Ju⟩
 ·have:=h6 x hx
  rw[Bool.or_eq_true] at this
  exact this.elim (fun z=>.inl (eq_of_beq z)) fun z=>.inr (eq_of_beq z)
 ·have DV:i < fn.G.N.length:=(List.getElem?_eq_some_iff.mp hx).1
  have:=eq_of_beq (h8 i (List.mem_range.mpr DV))
  rw[hx] at this
  exact this
 ·have:=Jt n hn
  rw[hx] at this
  exact eq_of_beq this
theorem jF {Z:Sg}{fn:Fn}{ps:List Str}{st:Stmt}(h:a9 Z fn ps st=true):G3 Z fn ps st:=by
 unfold a9 at h
 rw[Bool.and_eq_true,Bool.and_eq_true] at h
 exact⟨jE h.1,Option.isNone_iff_eq_none.mp h.2.1,h.2.2⟩
theorem pG {Z:Sg}{fn:Fn}{ps:List Str}{st:Stmt}(h:eS Z fn ps st=true):Ia Z fn ps st:=by
 unfold eS at h
 rw[Bool.and_eq_true] at h
 obtain⟨h1,h2⟩:=h
 refine⟨jE h1,?_⟩
 cases z:fn.io with
 | none=>rw[z] at h2;cases h2
 | some e=>
  rw[z] at h2
  have h2:(gH Z fn.G e fn.body (aO st)&&fn.G.io == some (fn.np - 1)&&decide (0 < fn.np)&&!fn.G.tr)=true:=h2
  simp only[Bool.and_eq_true] at h2
  exact⟨e,rfl,h2.1.1.1,eq_of_beq h2.1.1.2,of_decide_eq_true h2.1.2,by simpa using h2.2⟩
structure Ib (K:PySem.W.Frag)(mg:Str->Option Value)(Z:Sg)(T:Tb)(f:Nat)(x:Str):Prop where
 ex:∃ (fn:Fn) (st:Stmt) (fa:Addr) (fd:FuncData) (ps:List Str),T f=some fn/\Jq K x x st fa fd/\mg x=some (.ref fa)/\Binds K fd ps []/\Ia Z fn ps st
structure D0 (K:PySem.W.Frag)(mg:Str->Option Value)(Z:Sg)(T:Tb)(f:Nat)(x:Str):Prop where
 ex:∃ (fn:Fn) (st:Stmt) (fa:Addr) (fd:FuncData) (ps:List Str),T f=some fn/\Jq K x x st fa fd/\mg x=some (.ref fa)/\Binds K fd ps []/\G3 Z fn ps st
section
variable {P:Program}{w:World}{K:PySem.W.Frag}{mg:Str->Option Value}{base:Heap}{Z:Sg}{T:Tb}
def QH (mg:Str->Option Value)(x:Str)(v:V):Prop:=(∃ C,v=.ref C/\mg x=some (.ref C))∨(∃ T,v=.ty T/\mg x=none/\bootBuiltins x=some (.type T))
structure FA (K:PySem.W.Frag)(mg:Str->Option Value)(Z:Sg)(T:Tb):Prop where
 HU:∀ n x,Z.name n=some x->x≠"__name__"/\(x == ("__debug__" : Str))=false
 blt:∀ (n:Nat) (x:Str),a8[n]? = some x->mg x=none
 cst:∀ n d x,(n,d)∈Z.Lb->Z.name n=some x->∃ u v,mg x=some u/\RelV v u/\∀ S H,Dg K S H v d
 fns:∀ f∈Z.fns,∀ x,Z.name f=some x->D0 K mg Z T f x
 Ft:∀ f∈Z.Ft,∀ x,Z.name f=some x->Ib K mg Z T f x
 QI:∀ f∈Z.pl,∀ fn,T f=some fn->fn.G.cm=false
 I0:∀ n∈Z.cls,∀ x,Z.name n=some x->∃ v,QH mg x v
 Ja:∀ c n b x,(c,n,b)∈Z.xt->Z.name n=some x->∃ C,PySem.W.nsIn K mainGlobals c=some (some (.ref C))/\ExcAt K C/\∀ v,QH mg x v->PySem.W.kitOne K (.ref C) (vv v)=some b
 Jb:∀ c n x,(c,n)∈Z.xm->Z.name n=some x->∃ C C',PySem.W.nsIn K mainGlobals c=some (some (.ref C))/\PySem.W.nsIn K mainGlobals x=some (some (.ref C'))/\nameIn K C=some c/\mg x=some (.ref C')/\PySem.W.exmOne K (.ref C) (.ref C')=some true
 HV:∀ n c,(n,c)∈Z.rc->Z.name n=some c/\∃ C,mg c=some (.ref C)/\PySem.W.nsIn K mainGlobals c=some (some (.ref C))/\PySem.W.excIn K C Lc "ValueError.__new__" = true
theorem gI {F:Addr->Prop}{H:Hp}:∀ {vs:List V}{ds:List D} (n:Nat),De K F H vs ds->DI K F H (vs.map some++List.replicate n none) ((Dx ds).map some++List.replicate n none) []
 | [],[],n,.nil=>by
  induction n with
  | zero=>exact .nil
  | succ n ih=>exact .none ih
 | v::vs,d::ds,n,.cons h1 h2=>.some (f:=[]) h1.frozen (gI n h2)
structure Rm (n:Nat)(A:Around):Prop where
 dp:A.depth+3*n+5 < recursionLimit
 un:A.units+16*n+200 < cLine
theorem Rm.room {n:Nat}{A:Around}(r:Rm n A)(hn:n < 900)(h:A.handled=none):Ep n A:=⟨fun _=>h,by have:=r.dp;rw[Nat.mod_eq_of_lt (by omega)];exact this,by have:=r.un;rw[Nat.mod_eq_of_lt (by omega)];exact this⟩
theorem Rm.JK {n:Nat}{A:Around}(r:Rm n A)(hn:n < 900):Ep (1000+n) A:=⟨fun z=>by omega,by have:=r.dp;rw[show (1000+n) % 1000=n by omega];exact this,by have:=r.un;rw[show (1000+n) % 1000=n by omega];exact this⟩
theorem Rm.of {n k:Nat}{A:Around}(r:Ep k A)(h:k % 1000=n):Rm n A:=⟨by have:=r.dp;rw[h] at this;exact this,by have:=r.un;rw[h] at this;exact this⟩
theorem iI (t:FA K mg Z T){n k:Nat}{f:Nat}{fn:Fn}{x:Str}{st:Stmt}{fa:Addr}{fd:FuncData}{ps:List Str}(hk:k % 1000=n)(hn:n < 900)(h1:T f=some fn)(h2:Jq K x x st fa fd)(h5:G3 Z fn ps st)(hp:k < 1000∨fn.G.cm=false)
  (ih:∀ (A:Around),Rm n A->∀ f∈Z.fns,(A.handled=none∨f∈Z.pl)->∀ x,Z.name f=some x->Km P w K mg base (EH P w) A (aa T n) (Gp K) f x)
  (KA:∀ (A:Around),Rm n A->∀ f∈Z.Ft,A.handled=none->∀ x,Z.name f=some x->Nb P w K mg base (EH P w) A (aa T n) f x) :
  EL P w K mg base (EH P w) (k+1) fa fd ps (Kl K (aa T (n+1)) (Gp K) f ps):=by
 have Fj:∀ ds,aa T (n+1) f ds=cK (aa T n) fn ds:=fun ds=>by
  show (match T f with|some fn=>(match fn.io with|none=>cK (aa T n) fn ds|some e=>cL (aa T n) fn e ds)|none=>Dq)=_
  rw[h1]
  show (match fn.io with|none=>cK (aa T n) fn ds|some e=>cL (aa T n) fn e ds)=_
  rw[h5.pl]
 obtain⟨oc,od,kV,doc,pm,an,Fe,ct,Iz,rfl,lk,HC⟩:=h2.ex
 refine uQ lk HC h5.sc (by omega) (fun vs H Q E h=>h.1) fun A outer s H vs Q E hr Gn=>?_
 obtain⟨hl,lt,F,ds,DC,m,q⟩:=Gn
 have Fo:fn.G.cm=true->A.handled=none:=fun z=>hp.elim (fun h=>hr.hd h) fun h=>by rw[h] at z;cases z
 refine⟨_,QG (Z:=Z) (cl:=aa T n) (ex:=Gp K E H) (G:=fn.G) (B0:=⟨F,H,fun _ _=>False,fun _ _=>False,none⟩) ?_ rfl rfl lt (fun a f' Gh KC x' EZ=>ih ((A.deeper (envOfC x (av st) s.heap.objs.size fa Fe)).mark (some (.ref a))) ⟨(Rm.of hr hk).dp,(Rm.of hr hk).un⟩ f' Gh (.inr KC) x' EZ) rfl rfl DC (fun _ _ z=>z) (fun _ _ z=>z) fn.body (aO st) h5.body,?_⟩
 ·refine⟨rfl,h5.sc.nd,fun z=>by show A.handled.isNone=true;rw[Fo z];rfl,h5.sc.kind,?_,fun _=>PassesOwn.leaving,fun i y hy=>h5.kd i y hy,fun i y hy=>h5.Hd y (List.mem_of_getElem? hy),fun m hm y hy=>h5.gl m hm y hy,t.HU,fun _ _=>rfl,t.blt,t.cst,?_,fun f' Gh z x' EZ=>KA _ (Rm.of hr hk) f' Gh (Fo z) x' EZ,t.I0,t.Ja,t.Jb,t.HV,?_,?_,?_,?_,?_⟩
  ·have:=hr.un
   show (A.deeper _).units+42 < cLine
   omega
  ·exact fun f' Gh hc x' EZ=>ih _ (Rm.of hr hk) f' Gh (hc.elim (fun z=>.inl (Fo z)) .inr) x' EZ
  ·exact fun _ pins σ H1 s1 c C h' e vs I hex hn hx=>pE lt (hex C hn) I hx
  ·exact fun _=>⟨rfl,rfl,lt,fun a f' Gh KC x' EZ=>ih ((A.deeper (envOfC x (av st) s.heap.objs.size fa Fe)).mark (some (.ref a))) ⟨(Rm.of hr hk).dp,(Rm.of hr hk).un⟩ f' Gh (.inr KC) x' EZ,fun _ _ _ _ _ _ z=>z,fun c C H' hC Vm QJ=>by rw[hC] at QJ;cases QJ;rfl⟩
  ·exact⟨_,tY (ex:=Gp K E H) lt fun c C hc hn=>hc C hn,fun c H' hc C hn=>⟨c,C,hc,hn,rfl⟩⟩
  ·exact fun outer H s E e s' x fr h=>iG x fr h
  ·exact fun H outer s e s'=>iH
 ·rw[Fj] at q
  obtain⟨gd,q⟩:=Df.Dk q
  have Il:(Dx ds).length=fn.np:=of_decide_eq_true gd
  have Fb:fn.G.N.length - vs.length=fn.G.N.length - fn.np:=by rw[m.length,<- bz ds,Il]
  refine⟨F,(Dx ds).map some++List.replicate (fn.G.N.length - fn.np) none,[],⟨DC,?_,List.nodup_nil,.refl _,fun a ha=>absurd ha (by simp),fun a h=>h,fun a h=>.inl h,fun a xs h=>h.elim,fun a xs h=>h.elim,fun _ _ _ z=>by cases z⟩,(Df.U q).mono fun r hr=>?_⟩
  ·show DI K F H (start fn.G.N vs) _ []
   unfold start
   rw[Fb]
   exact gI _ m
  ·cases r with
   | nx Di=>exact fun Dy H' F' f' m'=>hr.ok .DE H' F' [] ⟨m'.DC,m'.same,.DE,List.nodup_nil,fun a ha=>absurd ha (by simp),m'.Ec,m'.out⟩
   | rt d=>exact fun v H' F' fv o=>hr.ok v H' F' fv o
   | bk Di=>exact hr.no.elim
   | ct Di=>exact hr.no.elim
theorem jG {F:Addr->Prop}{H:Hp}{a:Addr}{d:D}(hd:Dv K F H (.ref a) d [a]):∀ {vs:List V}{ds:List D} (n:Nat),De K F H vs ds->DI K F H ((vs++[V.ref a]).map some++List.replicate n none) ((Dx ds++[d]).map some++List.replicate n none) [a]
 | [],[],n,.nil=>by
  have h0:DI K F H (List.replicate n none) (List.replicate n none) []:=jB (by simp)
  exact .some (f:=[a]) (g:=[]) hd h0
 | v::vs,d::ds,n,.cons h1 h2=>.some (f:=[]) h1.frozen (jG hd n h2)
theorem gJ (o:Bool)(ks:List Key)(es:List D):∀ ds:List D,nt (ds++[.Dl o ks es])=ds++[.Dl true ks es]
 | []=>rfl
 | [d]=>rfl
 | d::d'::ds=>by
  show d::nt (d'::ds++[.Dl o ks es])=_
  rw[gJ o ks es (d'::ds)]
  rfl
def QL (K:PySem.W.Frag){io:Option Nat}(B:Bs io)(cl:Nat->List D->Res D)(e:IR)(as:List IS):TS:=fun Dn σ H=>∃ F τ f,DO K B F H σ τ f/\Df Ej (ax cl as τ) fun r=>∃ Di,r=.nx Di/\Df Ej (Ei cl true e Di) fun p=>
 ∀ Dy F' H' Li Ks v fv f' JG,DO K B F' H' Dy Di f'->Ow K F' H' f' Li Ks Dy v p.1 fv p.2 JG->Dn.rt v Ks
theorem QM {CX:Er}{cl:Nat->List D->Res D}{xp:XK->Hp->Str->Prop}{X:Cx}{G:Gm}(g:DM Z CX cl xp X Ej G)(B:Bs G.io){e:IR}:∀ (as:List IS) (ss:List Stmt),gH Z G e as ss=true->Gj X ss (QL X.K B cl e as)
 | [],ss,h=>by
  obtain⟨v,pos,rfl,hv⟩:=yI (show Nn ss (fun v=>Du Z G e v)=true by cases ss<;>exact h)
  have p1:PS X (.Return (some v) pos) (QL X.K B cl e []):=aL (nR (Ml e true X Ej G v g hv)) fun Dn σ H ⟨F,τ,f,m,q⟩=>by
   obtain⟨Di,e',q'⟩:=q.ok
   cases e'
   exact m.ro q' fun p v H' F' fv f' o hp=>hp σ F H F' H' v fv f f' m o
  exact c6 (dH p1 gU) fun Dn σ H ⟨F,τ,f,m,q⟩=>⟨F,τ,f,m,q⟩
 | a::as,ss,h=>by
  cases ss with
  | nil=>cases h
  | cons s ss=>
   have h':(ke Z G a s&&gH Z G e as ss)=true:=h
   rw[Bool.and_eq_true] at h'
   refine c6 (dH (OR a X Ej G s g h'.1) (QM g B as ss h'.2)) fun Dn σ H ⟨F,τ,f,m,q⟩=>?_
   refine⟨B,F,τ,f,m,(Df.U q).mono fun r hr=>?_⟩
   cases r with
   | nx Di=>exact fun Dy H' F' f' m'=>⟨F',Di,f',m',hr⟩
   | ct Di=>obtain⟨_,z,_⟩:=hr.ok;cases z
   | bk Di=>obtain⟨_,z,_⟩:=hr.ok;cases z
   | rt d=>obtain⟨_,z,_⟩:=hr.ok;cases z
theorem pH (t:FA K mg Z T){n k:Nat}{f:Nat}{fn:Fn}{x:Str}{st:Stmt}{fa:Addr}{fd:FuncData}{ps:List Str}(hk:k % 1000=n)(hn:n < 900)(h1:T f=some fn)(h2:Jq K x x st fa fd)(h5:Ia Z fn ps st)(hp:k < 1000)
  (ih:∀ (A:Around),Rm n A->∀ f∈Z.fns,(A.handled=none∨f∈Z.pl)->∀ x,Z.name f=some x->Km P w K mg base (EH P w) A (aa T n) (Gp K) f x)
  (KA:∀ (A:Around),Rm n A->∀ f∈Z.Ft,A.handled=none->∀ x,Z.name f=some x->Nb P w K mg base (EH P w) A (aa T n) f x) :
  EL P w K mg base (EH P w) (k+1) fa fd ps (Mb K (aa T (n+1)) f ps):=by
 obtain⟨e,Hy,HF,QN,OU,N8⟩:=h5.ex
 have Fj:∀ ds,aa T (n+1) f ds=cL (aa T n) fn e ds:=fun ds=>by
  show (match T f with|some fn=>(match fn.io with|none=>cK (aa T n) fn ds|some e=>cL (aa T n) fn e ds)|none=>Dq)=_
  rw[h1]
  show (match fn.io with|none=>cK (aa T n) fn ds|some e=>cL (aa T n) fn e ds)=_
  rw[Hy]
 obtain⟨oc,od,kV,doc,pm,an,Fe,ct,Iz,rfl,lk,HC⟩:=h2.ex
 refine uQ lk HC h5.sc (by omega) (fun vs H Q E h=>h.1) fun A outer s H vs Q E hr Gn=>?_
 obtain⟨hl,a,F,ws,ds,kvs,es,rfl,AI,d,Gr,E9,hc,OD,q⟩:=Gn
 have Fo:A.handled=none:=hr.hd hp
 refine⟨_,QM (Z:=Z) (CX:=EH P w) (cl:=aa T n) (xp:=Gp K) (G:=fn.G) ?_ ⟨F,rm a H,fun _ _=>False,fun _ _=>False,some a⟩ fn.body (aO st) HF,?_⟩
 ·refine⟨rfl,h5.sc.nd,fun z=>by show A.handled.isNone=true;rw[Fo];rfl,h5.sc.kind,?_,fun _=>PassesOwn.leaving,fun i y hy=>h5.kd i y hy,fun i y hy=>h5.Hd y (List.mem_of_getElem? hy),fun m hm y hy=>h5.gl m hm y hy,t.HU,fun _ _=>rfl,t.blt,t.cst,fun f' Gh hc x' EZ=>ih _ (Rm.of hr hk) f' Gh (.inl Fo) x' EZ,fun f' Gh z x' EZ=>KA _ (Rm.of hr hk) f' Gh Fo x' EZ,t.I0,t.Ja,t.Jb,t.HV,fun _ pins σ H1 s1 c C h' e vs I hex hn hx=>hex.elim,(fun z=>by rw[N8] at z;cases z),⟨fun _ _ _=>False,fun pins σ H s e s' _ h=>(iH h).elim,fun c H z=>z.elim⟩,fun outer H s E e s' x fr h=>iG x fr h,fun H outer s e s'=>iH⟩
  have:=hr.un
  show (A.deeper _).units+42 < cLine
  omega
 ·rw[Fj] at hc
  unfold cL at hc
  obtain⟨gd,hc⟩:=ig hc
  have Il:(Dx ds++[D.Dl false (kvs.map (·.1)) es]).length=fn.np:=of_decide_eq_true gd
  rw[gJ] at hc
  obtain⟨r,TZ,hc⟩:=bP hc
  have QO:ws.length=fn.np - 1:=by
   rw[List.length_append,bz] at Il
   rw[AI.ws.length,<- Il]
   simp
  have Fb:fn.G.N.length - (ws++[V.ref a]).length=fn.G.N.length - fn.np:=by
   rw[List.length_append,QO]
   show fn.G.N.length - (fn.np - 1+1)=_
   rw[Nat.sub_add_cancel OU]
  have m0:Dv K F H (.ref a) (.Dl true (kvs.map (·.1)) es) [a]:=.E0 AI.nF AI.at_ rfl (De.free (bw AI.lf) AI.vs)
  refine⟨F,(Dx ds++[D.Dl true (kvs.map (·.1)) es]).map some++List.replicate (fn.G.N.length - fn.np) none,[a],⟨AI.DC,?_,by simp,AN,fun b hb=>by rw[List.mem_singleton.mp hb];exact b8,fun b h=>h,fun b h=>.inl h,fun b xs h=>h.elim,fun b xs h=>h.elim,fun j b e1 e2=>?_⟩,?_⟩
  ·show DI K F H (start fn.G.N (ws++[.ref a])) _ [a]
   unfold start
   rw[Fb]
   exact jG m0 _ AI.ws
  ·rw[QN] at e1
   cases e1
   cases e2
   show (start fn.G.N (ws++[.ref a]))[fn.np - 1]? = _
   unfold start
   rw[<- QO,List.map_append,List.append_assoc,List.getElem?_append_right (by simp)]
   simp
  ·rw[TZ]
   cases r with
   | nx Di=>
    obtain⟨p,T1,hc⟩:=bP (show U (Ei (aa T n) true e Di) (L8 (fn.np - 1))=.ok _ from hc)
    refine⟨Di,rfl,?_⟩
    rw[T1]
    intro Dy F' H' Li Ks v fv f' JG m o
    unfold L8 at hc
    split at hc
    ·rename_i Hm Vn zs
     obtain⟨gs,hc⟩:=ig hc
     cases hc
     obtain⟨mo,hb⟩:=m.ow o
     obtain⟨l,Jh,g1,D5,hF,hH,Jg,QA,JA,Mx⟩:=dZ mo.D8 zs (bw gs)
     have QQ:=mo.nm _ _ QN rfl
     rw[D5] at QQ
     cases QQ
     refine q v Ks Li fv Jh ⟨Fk.JI m o,hF,fun z=>?_,hH,Jg,(QA.read (S:=fun _=>True) (fun _ _=>trivial) fun _ _=>trivial).sc gs⟩
     exact(List.nodup_append.mp o.DJ).2.2 _ z _ (Mx.mem_iff.mpr (List.mem_cons.mpr (.inl rfl))) rfl
    ·cases hc
   | bk _=>cases hc
   | ct _=>cases hc
   | rt _=>cases hc
theorem fN (t:FA K mg Z T):∀ (n:Nat),n < 900->(∀ (A:Around),Rm n A->∀ f∈Z.fns,(A.handled=none∨f∈Z.pl)->∀ x,Z.name f=some x->Km P w K mg base (EH P w) A (aa T n) (Gp K) f x)/\
  ∀ (A:Around),Rm n A->∀ f∈Z.Ft,A.handled=none->∀ x,Z.name f=some x->Nb P w K mg base (EH P w) A (aa T n) f x
 | 0,h9=>by
  refine⟨fun A hr f hf hc x hx=>?_,fun A hr f hf hc x hx=>?_⟩
  ·obtain⟨fn,st,fa,fd,ps,h1,h2,h3,h4,h5⟩:=(t.fns f hf x hx).ex
   have no:∀ vs H Q E,¬ Kl K (aa T 0) (Gp K) f ps vs H Q E:=fun vs H Q E ⟨_,_,F,ds,_,_,h⟩=>h
   exact⟨1000+0,fa,fd,ps,h3,h2.kp,h4,⟨fun vs H Q E h=>h.1,fun A outer s H args us vs Q E _ _ _ _ h=>(no _ _ _ _ h).elim⟩,hr.JK h9,fun ex ds k h=>h.elim⟩
  ·obtain⟨fn,st,fa,fd,ps,h1,h2,h3,h4,h5⟩:=(t.Ft f hf x hx).ex
   have no:∀ vs H Q E,¬ Mb K (aa T 0) f ps vs H Q E:=fun vs H Q E ⟨_,a,F,ws,ds,kvs,es,_,_,d,Gr,E9,h,_⟩=>by cases h
   exact⟨0,fa,fd,ps,h3,h2.kp,h4,⟨fun vs H Q E h=>h.1,fun A outer s H args us vs Q E _ _ _ _ h=>(no _ _ _ _ h).elim⟩,hr.room h9 hc,fun ds r h=>by cases h⟩
 | n+1,h9=>by
  obtain⟨ih,KA⟩:=fN t n (by omega)
  refine⟨fun A hr f hf hc x hx=>?_,fun A hr f hf hc x hx=>?_⟩
  ·obtain⟨fn,st,fa,fd,ps,h1,h2,h3,h4,h5⟩:=(t.fns f hf x hx).ex
   have hlen:∀ (ex:Str->Prop) ds (k:D->Prop),Df ex (aa T (n+1) f ds) k->ds.length=ps.length:=fun ex ds k h=>by
    have Fj:aa T (n+1) f ds=cK (aa T n) fn ds:=by
     show (match T f with|some fn=>(match fn.io with|none=>cK (aa T n) fn ds|some e=>cL (aa T n) fn e ds)|none=>Dq)=_
     rw[h1]
     show (match fn.io with|none=>cK (aa T n) fn ds|some e=>cL (aa T n) fn e ds)=_
     rw[h5.pl]
    rw[Fj] at h
    obtain⟨gd,_⟩:=Df.Dk h
    rw[of_decide_eq_true gd,h5.np]
   by_cases Iy:f∈Z.pl
   ·exact⟨1000+n+1,fa,fd,ps,h3,h2.kp,h4,iI t (k:=1000+n) (n:=n) (by omega) (by omega) h1 h2 h5 (.inr (t.QI f Iy fn h1)) ih KA,hr.JK h9,hlen⟩
   ·exact⟨n+1,fa,fd,ps,h3,h2.kp,h4,iI t (k:=n) (n:=n) (by omega) (by omega) h1 h2 h5 (.inl (by omega)) ih KA,hr.room h9 (hc.elim id fun z=>absurd z Iy),hlen⟩
  ·obtain⟨fn,st,fa,fd,ps,h1,h2,h3,h4,h5⟩:=(t.Ft f hf x hx).ex
   obtain⟨e,Hy,_⟩:=h5.ex
   refine⟨n+1,fa,fd,ps,h3,h2.kp,h4,pH t (k:=n) (n:=n) (by omega) (by omega) h1 h2 h5 (by omega) ih KA,hr.room h9 hc,fun ds r h=>?_⟩
   have Fj:aa T (n+1) f ds=cL (aa T n) fn e ds:=by
    show (match T f with|some fn=>(match fn.io with|none=>cK (aa T n) fn ds|some e=>cL (aa T n) fn e ds)|none=>Dq)=_
    rw[h1]
    show (match fn.io with|none=>cK (aa T n) fn ds|some e=>cL (aa T n) fn e ds)=_
    rw[Hy]
   rw[Fj] at h
   obtain⟨gd,_⟩:=ig h
   rw[of_decide_eq_true gd,h5.np]
theorem tZ (t:FA K mg Z T)(n:Nat)(hn:n < 900):∀ (A:Around),Rm n A->∀ f∈Z.fns,(A.handled=none∨f∈Z.pl)->∀ x,Z.name f=some x->Km P w K mg base (EH P w) A (aa T n) (Gp K) f x:=(fN t n hn).1
end
section
variable {P:Program}{w:World}{K:PySem.W.Frag}{mg:Str->Option Value}{base:Heap}{Z:Sg}{T:Tb}
noncomputable def Lo (K:PySem.W.Frag)(cl:Nat->List D->Res D)(f:Nat)(ps:List Str):Sp:=fun vs H Q E=>vs.length=ps.length/\∃ F ds,Fy F H/\De K F H vs ds/\
 Df Ej (cl f (Dx ds)) fun d=>∀ v H' F' fv,Out K F H F' H' v d fv->Q v H'
theorem pI {cl:Nat->List D->Res D}{k f:Nat}{fa:Addr}{fd:FuncData}{ps:List Str}(F:EL P w K mg base (EH P w) k fa fd ps (Kl K cl (Gp K) f ps)):EL P w K mg base (EH P w) k fa fd ps (Lo K cl f ps):=by
 refine⟨fun vs H Q E h=>h.1,fun A outer s H args us vs Q E hr e0 bd r Gn=>?_⟩
 obtain⟨hl,Fc,ds,DC,m,q⟩:=Gn
 have e1:Gy P w K mg base A outer s (aA s.heap H):=⟨e0.frames,e0.mod,fun b o e=>⟨(e0.bs b o e).1,bt (e0.bs b o e).2⟩,e0.Hq,e0.En,fun b hb=>bt (e0.Gi b hb),j7 e0.Dz,e0.bare⟩
 have hq:Df (Gp K E (aA s.heap H)) (cl f (Dx ds)) fun d=>∀ v H' F' fv,Out K Fc H F' H' v d fv->Q v H':=by
  cases z:cl f (Dx ds) with
  | ok d=>rw[z] at q;exact q
  | error er=>
   rw[z] at q
   cases er with
   | stuck=>exact q.no.elim
   | exc c=>exact False.elim q
 have hs:Kl K cl (Gp K) f ps vs (aA s.heap H) (fun v H'=>Ge s.heap (aA s.heap H) H'->Q v (cM H H')) E:=
  ⟨hl,oP _ _,_,ds,fun a h=>h.2,iw e0.Dz m,hq.mono fun d hd v H' F' fv o p=>hd v _ _ fv (iy e0.Dz DC p o)⟩
 refine codeAny_mono (F.run A outer s (aA s.heap H) args us vs _ E hr e1 bd r hs) fun r' s' hq=>?_
 cases r' with
 | error e=>exact iG e0.Dz e0.Gi hq
 | ok fl=>
  cases fl with
  | ret u=>
   obtain⟨v,H',a1,a2,a3,a4,a5,a6⟩:=hq
   exact⟨v,cM H H',a1,a2,j8 e0.Dz a3,ip e0.Dz a4 (dR a3) (fs:=Em outer) (fun b o _ e n f=>a3.keep b o e n f (by simp)) e0.Gi,a5,a6 (dR a3)⟩
  | next=>exact hq
  | brk=>exact hq
  | cont=>exact hq
theorem yJ (t:FA K mg Z T)(n:Nat)(hn:n < 900){f:Nat}{fn:Fn}{x:Str}{st:Stmt}{fa:Addr}{fd:FuncData}{ps:List Str}(h1:T f=some fn)(h2:Jq K x x st fa fd)(h5:G3 Z fn ps st):EL P w K mg base (EH P w) (n+1) fa fd ps (Lo K (aa T (n+1)) f ps):=
 pI (iI t (k:=n) (n:=n) (by omega) hn h1 h2 h5 (.inl (by omega)) (tZ t n hn) (fN t n hn).2)
theorem yL {f n:Nat}{x:Str}{a:Addr}{H:Hp}{ns:List Int}(hS:Ls K H a (ns.map V.int))(hl:aa T n f [.lst false (ns.map .int)]=.ok (.bl true)) :
  Lo K (aa T n) f [x] [.ref a] H (fun v _=>v=.bl true) fun _ _ _=>False:=by
 have m:De K (fun a=>H a≠none) H [.ref a] [.lst false (ns.map .int)]:=by
  refine .cons ?_ .nil
  rcases hS with hS|hS
  ·exact .lst hS.some hS (De.ofInts ns)
  ·exact .lstK hS (De.ofInts ns)
 refine⟨rfl,fun a=>H a≠none,[.lst false (ns.map .int)],fun a h=>h,m,?_⟩
 have he:Dx [.lst false (ns.map .int)]=[D.lst false (ns.map .int)]:=by
  rw[Dx,Dx,er,bE,List.map_map]
  rfl
 rw[he,hl]
 intro v H' F' fv o
 cases o.rep
 rfl
theorem pJ {l:PySem.W.OpenLaw}{q:Program}{loose:List Str}{XP:(Str->Option Value)->Heap->Prop}{YP:World->Heap->Prop}{d:DefRec}{K:Params->PySem.W.Frag}{T:Tb}{n f:Nat}{x:Str}(hn:l.most=some 63)(LN:d.params.defaults=[])(hr:Ep (n+1) callerA)
  (hY:∀ (w:World) (h:Heap),YP w h->(K w.params).In h)
  (F:∀ (w:World) (mg:Str->Option Value) (fa:Addr) (h:Heap),(K w.params).In h->h.Ns mainGlobals mg->mg d.name=some (.ref fa)->
   ∃ fd:FuncData,(∀ (s:Shared) (u:Value),BindsTo s fd ⟨[u],[]⟩ [(x,u)])/\∀ base:Heap,(K w.params).In base->base.Ns mainGlobals mg->EL l.prog w (K w.params) mg base (EH l.prog w) (n+1) fa fd [x] (Lo (K w.params) (aa T (n+1)) f [x]))
  (hl:∀ ns:List Int,ns.length<=63->aa T (n+1) f [.lst false (ns.map .int)]=.ok (.bl true)) :
  PySem.W.WalkO q loose XP YP l.row.toRowW d [] (fun f vs=>PySem.call f vs):=
 L2.sO (n:=63) (k:=n+1) (x:=x) (CX:=fun w=>EH l.prog w) (sp:=fun w=>Lo (K w.params) (aa T (n+1)) f [x]) hn (by decide) LN hr hY F (fun w H a ns h1 _ hS=>yL hS (hl ns h1)) fun _ _ _ _ _ z=>iH z
end
namespace Ev
section
variable {α β:Type}{cl:Nat->List D->Res D}{τ:Ev}{mv:Bool}
theorem pK {a:α}{f:α->Res β}:U (.ok a) f=f a:=rfl
theorem vc {x:Res α}:Dk true x=x:=rfl
theorem QR {d:D}:Dj cl (.c d) τ=.ok d:=rfl
theorem QS {n:Nat}{d:D}:Dj cl (.g n d) τ=.ok d:=rfl
theorem QT {i:Nat}:Dj cl (.v i) τ=(match aj τ i with|some d=>.ok d|none=>Dq):=rfl
noncomputable def AQ (cl:Nat->List D->Res D)(op:HN)(b:IR)(τ:Ev)(x:D):Res D:=U (Dj cl b τ) (Fm op x)
theorem pL {op:HN}{b:IR}{x:D}:AQ cl op b τ x=U (Dj cl b τ) (Fm op x):=rfl
theorem ve {op:HN}{a b:IR}:Dj cl (.bin op a b) τ=U (Dj cl a τ) (AQ cl op b τ):=rfl
noncomputable def AR:D->Res D
 | .int i=>.ok (.int (-i))
 | _=>Dq
theorem vf {a:IR}:Dj cl (.neg a) τ=U (Dj cl a τ) AR:=rfl
theorem pM {i:Int}:AR (.int i)=.ok (.int (-i)):=rfl
noncomputable def OV (r:Bool):Res D:=.ok (.bl r)
theorem vg {r:Bool}:OV r=.ok (.bl r):=rfl
noncomputable def pN (op:Hu)(x y:D):Res D:=U (GV op x y) OV
theorem k8 {op:Hu}{x y:D}:pN op x y=U (GV op x y) OV:=rfl
noncomputable def AS (cl:Nat->List D->Res D)(op:Hu)(b:IR)(τ:Ev)(x:D):Res D:=U (Dj cl b τ) (pN op x)
theorem pO {op:Hu}{b:IR}{x:D}:AS cl op b τ x=U (Dj cl b τ) (pN op x):=rfl
theorem vi {op:Hu}{a b:IR}:Dj cl (.cmp op a b) τ=U (Dj cl a τ) (AS cl op b τ):=rfl
noncomputable def pP (cl:Nat->List D->Res D)(b:IR)(τ:Ev)(x:D)(r:Bool):Res D:=if r=true then Dj cl b τ else .ok x
theorem k9 {b:IR}{x:D}{r:Bool}:pP cl b τ x r=if r=true then Dj cl b τ else .ok x:=rfl
noncomputable def AU (cl:Nat->List D->Res D)(b:IR)(τ:Ev)(x:D):Res D:=U (aU x) (pP cl b τ x)
theorem pQ {b:IR}{x:D}:AU cl b τ x=U (aU x) (pP cl b τ x):=rfl
theorem vk {a b:IR}:Dj cl (.Fs a b) τ=U (Dj cl a τ) (AU cl b τ):=rfl
noncomputable def yM (cl:Nat->List D->Res D)(b:IR)(τ:Ev)(x:D)(r:Bool):Res D:=if r=true then .ok x else Dj cl b τ
theorem pS {b:IR}{x:D}{r:Bool}:yM cl b τ x r=if r=true then .ok x else Dj cl b τ:=rfl
noncomputable def QU (cl:Nat->List D->Res D)(b:IR)(τ:Ev)(x:D):Res D:=U (aU x) (yM cl b τ x)
theorem vm {b:IR}{x:D}:QU cl b τ x=U (aU x) (yM cl b τ x):=rfl
theorem AV {a b:IR}:Dj cl (.HP a b) τ=U (Dj cl a τ) (QU cl b τ):=rfl
noncomputable def tupK (ds:List D):Res D:=Dk (aZ ds.length) (.ok (.tup ds))
theorem pT {ds:List D}:tupK ds=Dk (aZ ds.length) (.ok (.tup ds)):=rfl
theorem vn {es:List IR}:Dj cl (.tup es) τ=U (aH cl es τ) tupK:=rfl
noncomputable def lstK (ds:List D):Res D:=Dk (aZ ds.length) (.ok (.lst true ds))
theorem pU {ds:List D}:lstK ds=Dk (aZ ds.length) (.ok (.lst true ds)):=rfl
theorem vp {es:List IR}:Dj cl (.lst es) τ=U (aH cl es τ) lstK:=rfl
noncomputable def AW (cl:Nat->List D->Res D)(i:IR)(τ:Ev)(x:D):Res D:=U (Dj cl i τ) (aW x)
theorem pV {i:IR}{x:D}:AW cl i τ x=U (Dj cl i τ) (aW x):=rfl
theorem vq {a i:IR}:Dj cl (.idx a i) τ=U (Dj cl a τ) (AW cl i τ):=rfl
noncomputable def yN (cl:Nat->List D->Res D)(hi:Option IR)(τ:Ev)(x:D)(l:Option Int):Res D:=U (ic cl hi τ) (ia x l)
theorem pW {hi:Option IR}{x:D}{l:Option Int}:yN cl hi τ x l=U (ic cl hi τ) (ia x l):=rfl
noncomputable def QV (cl:Nat->List D->Res D)(lo hi:Option IR)(τ:Ev)(x:D):Res D:=U (ic cl lo τ) (yN cl hi τ x)
theorem vt {lo hi:Option IR}{x:D}:QV cl lo hi τ x=U (ic cl lo τ) (yN cl hi τ x):=rfl
theorem AY {a:IR}{lo hi:Option IR}:Dj cl (.sl a lo hi) τ=U (Dj cl a τ) (QV cl lo hi τ):=rfl
noncomputable def vw (cl:Nat->List D->Res D)(f:Nat)(ds:List D):Res D:=cl f (Dx ds)
theorem lh {f:Nat}{ds:List D}:vw cl f ds=cl f (Dx ds):=rfl
theorem pX {f:Nat}{es:List IR}:Dj cl (.call f es) τ=U (aH cl es τ) (vw cl f):=rfl
theorem AZ {f:Bi}{es:List IR}:Dj cl (.bi f es) τ=U (aH cl es τ) (bX f):=rfl
noncomputable def vx (cl:Nat->List D->Res D)(k:IR)(τ:Ev)(x:D):Res D:=U (Dj cl k τ) (fx x)
theorem lu {k:IR}{x:D}:vx cl k τ x=U (Dj cl k τ) (fx x):=rfl
theorem pY {a k:IR}:Dj cl (.DG a k) τ=U (Dj cl a τ) (vx cl k τ):=rfl
noncomputable def ua (n:Bool)(y x:D):Res D:=jl n x y
noncomputable def A1 (cl:Nat->List D->Res D)(n:Bool)(a:IR)(τ:Ev)(y:D):Res D:=U (Dj cl a τ) (ua n y)
theorem pZ {n:Bool}{a:IR}{y:D}:A1 cl n a τ y=U (Dj cl a τ) (ua n y):=rfl
theorem vy {n:Bool}{k a:IR}:Dj cl (.Hv n k a) τ=U (Dj cl k τ) (A1 cl n a τ):=rfl
theorem p5 {a:IR}:Dj cl (.FI a) τ=U (Dj cl a τ) kM:=rfl
theorem p6 {a:IR}:Dj cl (.Gb a) τ=U (Dj cl a τ) kL:=rfl
noncomputable def A3 (cl:Nat->List D->Res D)(m:Mt)(es:List IR)(τ:Ev)(x:D):Res D:=Dk (dy x) (U (aH cl es τ) (fy m x))
theorem p7 {m:Mt}{es:List IR}{x:D}:A3 cl m es τ x=Dk (dy x) (U (aH cl es τ) (fy m x)):=rfl
theorem vz {m:Mt}{o:IR}{es:List IR}:Dj cl (.Ik m o es) τ=U (Dj cl o τ) (A3 cl m es τ):=rfl
noncomputable def yO (ds:List D):Res D:=.ok (.lst true ds)
theorem p8 {ds:List D}:yO ds=.ok (.lst true ds):=rfl
noncomputable def vA (cl:Nat->List D->Res D)(G:Gm)(fr:List Nat)(T:Tg)(I:List IR)(E:IR)(τ:Ev)(its:List D):Res D:=Dk (bW its.length) (U (E3 (ba (bu cl T I E (GF G fr τ)) its)) yO)
theorem lC {G:Gm}{fr:List Nat}{T:Tg}{I:List IR}{E:IR}{its:List D}:vA cl G fr T I E τ its=Dk (bW its.length) (U (E3 (ba (bu cl T I E (GF G fr τ)) its)) yO):=rfl
theorem p9 {G:Gm}{fr:List Nat}{T:Tg}{s:Sr}{I:List IR}{E:IR}:Dj cl (.comp G fr T s I E) τ=U (cQ cl s τ) (vA cl G fr T I E τ):=rfl
theorem A4:aH cl [] τ=.ok []:=rfl
noncomputable def qa (d:D)(ds:List D):Res (List D):=.ok (d::ds)
theorem lD {d:D}{ds:List D}:qa d ds=.ok (d::ds):=rfl
noncomputable def QW (cl:Nat->List D->Res D)(es:List IR)(τ:Ev)(d:D):Res (List D):=U (aH cl es τ) (qa d)
theorem vB {es:List IR}{d:D}:QW cl es τ d=U (aH cl es τ) (qa d):=rfl
theorem A5 {e:IR}{es:List IR}:aH cl (e::es) τ=U (Dj cl e τ) (QW cl es τ):=rfl
noncomputable def A6:D->Res (Option Int)
 | .int i=>.ok (some i)
 | _=>Dq
theorem qb {i:Int}:A6 (.int i)=.ok (some i):=rfl
theorem A7:ic cl none τ=.ok none:=rfl
theorem A8 {e:IR}:ic cl (some e) τ=U (Dj cl e τ) A6:=rfl
theorem A9:dz cl [] τ=.ok true:=rfl
noncomputable def QX (cl:Nat->List D->Res D)(es:List IR)(τ:Ev)(r:Bool):Res Bool:=if r=true then dz cl es τ else .ok false
theorem vC {es:List IR}{r:Bool}:QX cl es τ r=if r=true then dz cl es τ else .ok false:=rfl
theorem Ba {e:IR}{es:List IR}:dz cl (e::es) τ=U (U (Dj cl e τ) aU) (QX cl es τ):=rfl
noncomputable def vD:D->Res (List D)
 | .int i=>Dk (bo i) (.ok (bI 0 i))
 | _=>Dq
noncomputable def qc:D->D->Res (List D)
 | .int i,.int j=>Dk (bo i&&bo j) (.ok (bI i j))
 | _,_=>Dq
theorem lE {i:Int}:vD (.int i)=Dk (bo i) (.ok (bI 0 i)):=rfl
theorem lF {i j:Int}:qc (.int i) (.int j)=Dk (bo i&&bo j) (.ok (bI i j)):=rfl
theorem Bb {n:IR}:cQ cl (.Eb n) τ=U (Dj cl n τ) vD:=rfl
noncomputable def QY (cl:Nat->List D->Res D)(b:IR)(τ:Ev)(x:D):Res (List D):=U (Dj cl b τ) (qc x)
theorem vE {b:IR}{x:D}:QY cl b τ x=U (Dj cl b τ) (qc x):=rfl
theorem Bc {a b:IR}:cQ cl (.Ey a b) τ=U (Dj cl a τ) (QY cl b τ):=rfl
theorem vG {e:IR}:cQ cl (.val e) τ=U (Dj cl e τ) ib:=rfl
theorem Be {o:Bool}{ds:List D}:ib (.lst o ds)=.ok ds:=rfl
theorem QZ {t:IR}:L7 cl t τ=U (Dj cl t τ) aU:=rfl
theorem Nd {i:Nat}:Ei cl mv (.v i) τ=(match aj τ i with|some d=>if mv=true then .ok (d,τ.set i none) else .ok (er d,τ.set i (some (er d)))|none=>Dq):=rfl
noncomputable def vH (p:List D×Ev):Res (D×Ev):=Dk (aZ p.1.length) (.ok (.tup p.1,p.2))
theorem lG {p:List D×Ev}:vH p=Dk (aZ p.1.length) (.ok (.tup p.1,p.2)):=rfl
theorem G0 {es:List IR}:Ei cl mv (.tup es) τ=U (fA cl mv es τ) vH:=rfl
noncomputable def vI (p:List D×Ev):Res (D×Ev):=Dk (aZ p.1.length) (.ok (.lst true p.1,p.2))
theorem lH {p:List D×Ev}:vI p=Dk (aZ p.1.length) (.ok (.lst true p.1,p.2)):=rfl
theorem G1 {es:List IR}:Ei cl mv (.lst es) τ=U (fA cl mv es τ) vI:=rfl
noncomputable def iJ (es:List IR)(τ:Ev)(d:D):Res (D×Ev):=if ay d=true then .ok (d,τ) else .ok (d,Dw (aq es) τ)
theorem gK {es:List IR}{d:D}:iJ es τ d=if ay d=true then .ok (d,τ) else .ok (d,Dw (aq es) τ):=rfl
noncomputable def qd (cl:Nat->List D->Res D)(f:Nat)(es:List IR)(τ:Ev)(ds:List D):Res (D×Ev):=U (cl f (Dx ds)) (iJ es τ)
theorem jH {f:Nat}{es:List IR}{ds:List D}:qd cl f es τ ds=U (cl f (Dx ds)) (iJ es τ):=rfl
theorem FN {f:Nat}{es:List IR}:Ei cl mv (.call f es) τ=U (aH cl es τ) (qd cl f es τ):=rfl
noncomputable def d5 (e:IR)(τ:Ev)(d:D):Res (D×Ev):=.ok (aP e d τ)
theorem lI {e:IR}{d:D}:d5 e τ d=.ok (aP e d τ):=rfl
theorem Q0 {d:D}:Ei cl mv (.c d) τ=U (Dj cl (.c d) τ) (d5 (.c d) τ):=rfl
theorem Q1 {n:Nat}{d:D}:Ei cl mv (.g n d) τ=U (Dj cl (.g n d) τ) (d5 (.g n d) τ):=rfl
theorem vJ {op:HN}{a b:IR}:Ei cl mv (.bin op a b) τ=U (Dj cl (.bin op a b) τ) (d5 (.bin op a b) τ):=rfl
theorem vK {a i:IR}:Ei cl mv (.idx a i) τ=U (Dj cl (.idx a i) τ) (d5 (.idx a i) τ):=rfl
theorem Bf {a:IR}{lo hi:Option IR}:Ei cl mv (.sl a lo hi) τ=U (Dj cl (.sl a lo hi) τ) (d5 (.sl a lo hi) τ):=rfl
theorem Bg {f:Bi}{es:List IR}:Ei cl mv (.bi f es) τ=U (Dj cl (.bi f es) τ) (d5 (.bi f es) τ):=rfl
theorem FO:Ei cl mv .EF τ=.ok (.Dl true [] [],τ):=rfl
theorem vL {m:Mt}{o:IR}{es:List IR}:Ei cl mv (.Ik m o es) τ=U (Dj cl (.Ik m o es) τ) (d5 (.Ik m o es) τ):=rfl
theorem qe {G:Gm}{fr:List Nat}{T:Tg}{s:Sr}{I:List IR}{E:IR}:Ei cl mv (.comp G fr T s I E) τ=U (Dj cl (.comp G fr T s I E) τ) (d5 (.comp G fr T s I E) τ):=rfl
theorem Bh:fA cl mv [] τ=.ok ([],τ):=rfl
noncomputable def yQ (d:D)(q:List D×Ev):Res (List D×Ev):=.ok (d::q.1,q.2)
theorem qf {d:D}{q:List D×Ev}:yQ d q=.ok (d::q.1,q.2):=rfl
noncomputable def Q2 (cl:Nat->List D->Res D)(mv:Bool)(es:List IR)(p:D×Ev):Res (List D×Ev):=U (fA cl mv es p.2) (yQ p.1)
theorem vM {es:List IR}{p:D×Ev}:Q2 cl mv es p=U (fA cl mv es p.2) (yQ p.1):=rfl
theorem Bj {e:IR}{es:List IR}:fA cl mv (e::es) τ=U (Ei cl mv e τ) (Q2 cl mv es):=rfl
noncomputable def OW (d:D):Res (Option D):=.ok (some d)
theorem vN {d:D}:OW d=.ok (some d):=rfl
noncomputable def yR (cl:Nat->List D->Res D)(E:IR)(τ:Ev)(r:Bool):Res (Option D):=if r=true then U (Dj cl E τ) OW else .ok none
theorem qg {E:IR}{r:Bool}:yR cl E τ r=if r=true then U (Dj cl E τ) OW else .ok none:=rfl
noncomputable def Q3 (cl:Nat->List D->Res D)(I:List IR)(E:IR)(τ:Ev):Res (Option D):=U (dz cl I τ) (yR cl E τ)
theorem vO {I:List IR}{E:IR}:Q3 cl I E τ=U (dz cl I τ) (yR cl E τ):=rfl
theorem lJ {T:Tg}{I:List IR}{E:IR}{x:D}:bu cl T I E τ x=U (bq T x τ) (Q3 cl I E):=rfl
theorem qi {G:Gm}{fr:List Nat}:GF G fr τ=fr.map (aj τ)++List.replicate (G.N.length - fr.length) none:=rfl
theorem Q4 {e:IR}{i:Int}:aP e (.int i) τ=(.int i,τ):=rfl
theorem Q5 {e:IR}{x:Str}:aP e (.str x) τ=(.str x,τ):=rfl
theorem Q6 {e:IR}{b:Bool}:aP e (.bl b) τ=(.bl b,τ):=rfl
noncomputable def Lp (Di:Ev):Res Fl:=.ok (.nx Di)
theorem vP:Lp τ=.ok (.nx τ):=rfl
noncomputable def Bl (tg:Tg)(p:D×Ev):Res Fl:=U (bq tg p.1 p.2) Lp
theorem qj {tg:Tg}{p:D×Ev}:Bl tg p=U (bq tg p.1 p.2) Lp:=rfl
theorem FP {tg:Tg}{e:IR}:D6 cl (.asg tg e) τ=U (Ei cl false e τ) (Bl tg):=rfl
noncomputable def yS (i:Nat)(p:D×Ev):Option D->Res Fl
 | some (.lst true ds)=>Dk (bW ds.length) (.ok (.nx (p.2.set i (some (.lst true (ds++[p.1]))))))
 | _=>Dq
noncomputable def yT (i:Nat)(p:D×Ev):Res Fl:=yS i p (aj p.2 i)
theorem qm {i:Nat}{p:D×Ev}:yT i p=yS i p (aj p.2 i):=rfl
noncomputable def Bm (cl:Nat->List D->Res D)(i:Nat)(e:IR)(τ:Ev):Option D->Res Fl
 | some (.lst _ _)=>U (Ei cl false e τ) (yT i)
 | _=>Dq
theorem qo {i:Nat}{e:IR}{o:Bool}{ds:List D}:Bm cl i e τ (some (.lst o ds))=U (Ei cl false e τ) (yT i):=rfl
theorem qr {i:Nat}{p:D×Ev}{ds:List D}:yS i p (some (.lst true ds))=Dk (bW ds.length) (.ok (.nx (p.2.set i (some (.lst true (ds++[p.1])))))):=rfl
noncomputable def cW (cl:Nat->List D->Res D)(i:Nat)(k:IR)(τ:Ev)(d:D):Option D->Res Fl
 | some (.Dl true ks ds)=>U (Dj cl k τ) fun y=>(match bQ y with|some q=>Dk (ay d&&ak ds&&bW ks.length) (.ok (.nx (τ.set i (some (.Dl true (bg ks q) (aR ks ds q d))))))|none=>Dq)
 | _=>Dq
theorem eT {i:Nat}{k:IR}{d:D}{ks:List Key}{ds:List D}{x:Str}(h:Dj cl k τ=.ok (.str x))(hl:(ay d&&ak ds&&bW ks.length)=true):cW cl i k τ d (some (.Dl true ks ds))=.ok (.nx (τ.set i (some (.Dl true (bg ks (.inr x)) (aR ks ds (.inr x) d))))):=by
 show (U (Dj cl k τ) fun y=>(match bQ y with|some q=>Dk (ay d&&ak ds&&bW ks.length) (.ok (Fl.nx (τ.set i (some (.Dl true (bg ks q) (aR ks ds q d))))))|none=>Dq))=_
 rw[h]
 show Dk _ _=_
 rw[hl]
 rfl
noncomputable def vQ (cl:Nat->List D->Res D)(i:Nat)(k:IR)(τ:Ev)(d:D):Res Fl:=cW cl i k τ d (aj τ i)
theorem lK {i:Nat}{k:IR}{d:D}:vQ cl i k τ d=cW cl i k τ d (aj τ i):=rfl
theorem E7 {i:Nat}{k e:IR}:D6 cl (.EG i k e) τ=U (Dj cl e τ) (vQ cl i k τ):=rfl
noncomputable def Bn (j:Nat)(τ:Ev)(d:D):Res Fl:=U (nk j τ d) Lp
theorem qt {j:Nat}{d:D}:Bn j τ d=U (nk j τ d) Lp:=rfl
theorem FQ {j:Nat}{e:IR}:D6 cl (.Ke j e) τ=U (Dj cl e τ) (Bn j τ):=rfl
theorem E8 {i j:Nat}:D6 cl (.GB i j) τ=U (oF i τ (aj τ i) (aj τ j)) Lp:=rfl
noncomputable def gM (cl:Nat->List D->Res D)(j:Nat)(body:List IS)(x:D)(τ:Ev):Res Fl:=U (bq (.nm j) x τ) (ax cl body)
noncomputable def Bo (i:Nat)(e:IR)(τ:Ev)(d:D)(ks:List Key)(ds:List D):Option Key->Res Fl
 | some q=>Dk (aV ds&&bW ks.length) (.ok (.nx ((Dw (vars e) τ).set i (some (.Dl true (bg ks q) (Dx (aR ks ds q d)))))))
 | none=>Dq
noncomputable def C2 (cl:Nat->List D->Res D)(i:Nat)(k e:IR)(τ:Ev)(d:D):Option D->Res Fl
 | some (.Dl true ks ds)=>U (Dj cl k (Dw (vars e) τ)) fun y=>Bo i e τ d ks ds (bQ y)
 | _=>Dq
noncomputable def C3 (cl:Nat->List D->Res D)(i:Nat)(k e:IR)(τ:Ev)(d:D):Res Fl:=C2 cl i k e τ d (aj τ i)
theorem Ew {i:Nat}{k e:IR}:D6 cl (.Et i k e) τ=U (Dj cl e τ) (C3 cl i k e τ):=by
 show U (Dj cl e τ) (fun d=>match aj τ i with|some (.Dl true ks ds)=>U (Dj cl k (Dw (vars e) τ)) fun y=>(match bQ y with|some q=>Dk (aV ds&&bW ks.length) (.ok (Fl.nx ((Dw (vars e) τ).set i (some (.Dl true (bg ks q) (Dx (aR ks ds q d)))))))|none=>Dq)|_=>Dq)=_
 congr 1
noncomputable def Bp (cl:Nat->List D->Res D)(j i:Nat)(body:List IS)(τ:Ev):Option D->Res Fl
 | some (.Dl true ks ds)=>Dk (aV ds) (U (forM (gM cl j body) (ks.map cJ) (τ.set i (some (.Dl false ks ds)))) (gx i))
 | _=>Dq
theorem ES {j i:Nat}{body:List IS}:D6 cl (.Gd j i body) τ=Bp cl j i body τ (aj τ i):=by
 show (match aj τ i with|some (.Dl true ks ds)=>Dk (aV ds) (U (forM (fun x τ=>U (bq (.nm j) x τ) fun Di=>ax cl body Di) (ks.map cJ) (τ.set i (some (.Dl false ks ds)))) (gx i))|_=>Dq)=_
 rcases aj τ i with _|d
 ·rfl
 ·cases d<;>first|rfl|(rename_i o ks ds;cases o<;>rfl)
noncomputable def Bq (cl:Nat->List D->Res D)(j g:Nat)(a:IR)(f:Nat)(es:List IR)(i:Nat)(τ:Ev):Option D->Res Fl
 | some (.Dl true ks vs)=>Dk (aF vs) (U (Dj cl a τ) fun x=>U (aH cl es τ) fun ds=>U (E3 (cl f (Dx ds++[D.Dl false ks vs]))) (gw cl j g i x (Dw (vars a++aq es) τ)))
 | _=>Dq
theorem ER {j g:Nat}{a:IR}{f:Nat}{es:List IR}{i:Nat}:D6 cl (.FL j g a f es i) τ=Bq cl j g a f es i τ (aj τ i):=by
 show (match aj τ i with|some (.Dl true ks vs)=>Dk (aF vs) (U (Dj cl a τ) fun x=>U (aH cl es τ) fun ds=>U (E3 (cl f (Dx ds++[D.Dl false ks vs]))) (gw cl j g i x (Dw (vars a++aq es) τ)))|_=>Dq)=_
 rcases aj τ i with _|d
 ·rfl
 ·cases d<;>first|rfl|(rename_i o ks ds;cases o<;>rfl)
theorem FR {i:Nat}{e:IR}:D6 cl (.app i e) τ=Bm cl i e τ (aj τ i):=rfl
noncomputable def Q7 (p:D×Ev):Res Fl:=.ok (.rt p.1)
theorem vR {p:D×Ev}:Q7 p=.ok (.rt p.1):=rfl
theorem FT {e:IR}:D6 cl (.ret e) τ=U (Ei cl true e τ) Q7:=rfl
noncomputable def Q8 (cl:Nat->List D->Res D)(a b:List IS)(τ:Ev)(r:Bool):Res Fl:=if r=true then ax cl a τ else ax cl b τ
theorem vS {a b:List IS}{r:Bool}:Q8 cl a b τ r=if r=true then ax cl a τ else ax cl b τ:=rfl
theorem qu {n:Nat}{c w:Str}:D6 cl (.Eu n c w) τ=.error (.exc c):=rfl
noncomputable def Br (c:Str)(d:D):Res Fl:=.error (.exc c)
theorem qv {c:Str}{d:D}:Br c d=.error (.exc c):=rfl
theorem lL {n:Nat}{c:Str}{e:IR}:D6 cl (.D4 n c e) τ=U (E3 (Dj cl e τ)) (Br c):=rfl
theorem vT {x:Str}{a:IR}{y:Option Str}:Dj cl (.Hw x a y) τ=U (Dj cl a τ) (oG x y):=rfl
theorem qw {x:Str}{y:Option Str}{z:Str}:oG x y (.str z)=Dk (aZ (x.length+(reprText z).length+(y.getD Str.empty).length)) (.ok (.str (x++reprText z++y.getD Str.empty))):=rfl
theorem vU {α β:Type}{c:Str}{f:α->Res β}:U (.error (.exc c)) f=.error (.exc c):=rfl
theorem G2 {t:IR}{a b:List IS}:D6 cl (.Eh t a b) τ=U (L7 cl t τ) (Q8 cl a b τ):=rfl
noncomputable def turn (cl:Nat->List D->Res D)(tg:Tg)(body:List IS)(x:D)(τ:Ev):Res Fl:=U (bq tg x τ) (ax cl body)
theorem aJ {tg:Tg}{body:List IS}{x:D}:turn cl tg body x τ=U (bq tg x τ) (ax cl body):=rfl
noncomputable def Bt (cl:Nat->List D->Res D)(tg:Tg)(body:List IS)(p:List D×Ev):Res Fl:=forM (turn cl tg body) p.1 p.2
theorem qx {tg:Tg}{body:List IS}{p:List D×Ev}:Bt cl tg body p=forM (turn cl tg body) p.1 p.2:=rfl
theorem FU {tg:Tg}{s:Sr}{body:List IS}:D6 cl (.DZ tg s body) τ=U (jm cl s τ) (Bt cl tg body):=rfl
noncomputable def fO (f:Ev->Res Fl):Fl->Res Fl
 | .nx Di=>f Di
 | .ct Di=>.ok (.ct Di)
 | .bk Di=>.ok (.bk Di)
 | .rt d=>.ok (.rt d)
theorem Bu:ax cl [] τ=.ok (.nx τ):=rfl
theorem Bv {s:IS}{r:List IS}:ax cl (s::r) τ=U (D6 cl s τ) (fO (ax cl r)):=rfl
theorem vV {f:Ev->Res Fl}:fO f (.nx τ)=f τ:=rfl
theorem vW {f:Ev->Res Fl}{d:D}:fO f (.rt d)=.ok (.rt d):=rfl
noncomputable def yU (τ:Ev)(its:List D):Res (List D×Ev):=.ok (its,τ)
theorem qy {its:List D}:yU τ its=.ok (its,τ):=rfl
noncomputable def vX (e:IR)(τ:Ev)(its:List D):Res (List D×Ev):=.ok (Dx its,Dw (vars e) τ)
theorem lM {e:IR}{its:List D}:vX e τ its=.ok (Dx its,Dw (vars e) τ):=rfl
theorem vY {n:IR}:jm cl (.Eb n) τ=U (cQ cl (.Eb n) τ) (yU τ):=rfl
theorem vZ {a b:IR}:jm cl (.Ey a b) τ=U (cQ cl (.Ey a b) τ) (yU τ):=rfl
theorem v5 {e:IR}:jm cl (.val e) τ=U (cQ cl (.val e) τ) (vX e τ):=rfl
noncomputable def Bw (body:D->Ev->Res Fl)(xs:List D):Fl->Res Fl
 | .nx Di=>forM body xs Di
 | .ct Di=>forM body xs Di
 | .bk Di=>.ok (.nx Di)
 | .rt d=>.ok (.rt d)
theorem cy {body:D->Ev->Res Fl}{x:D}{xs:List D}:forM body (x::xs) τ=U (body x τ) (Bw body xs):=rfl
theorem Bx {body:D->Ev->Res Fl}{xs:List D}:Bw body xs (.nx τ)=forM body xs τ:=rfl
theorem By {i:Nat}{d:D}:bq (.nm i) d τ=.ok (τ.set i (some d)):=rfl
theorem Bz {ts:List Tg}{ds:List D}:bq (.tp ts) (.tup ds) τ=Dk (decide (ds.length=ts.length)) (dM ts ds τ):=rfl
theorem v7:dM [] [] τ=.ok τ:=rfl
theorem v8 {t:Tg}{ts:List Tg}{d:D}{ds:List D}:dM (t::ts) (d::ds) τ=U (bq t d τ) (dM ts ds):=rfl
theorem BA {o:Option D}:aj (o::τ) 0=o:=by unfold aj;simp
theorem BC {o:Option D}{i:Nat}:aj (o::τ) (i+1)=aj τ i:=bh
theorem v9 {o p:Option D}:(o::τ).set 0 p=p::τ:=rfl
theorem wa {o p:Option D}{i:Nat}:(o::τ).set (i+1) p=o::τ.set i p:=rfl
theorem wb {a b:Int}:Fm .add (.int a) (.int b)=.ok (.int (a+b)):=rfl
theorem kh {a b:Str}:Fm .add (.str a) (.str b)=Dk (aZ (a.length+b.length)) (.ok (.str (a++b))):=rfl
theorem qz {o o':Bool}{a b:List D}:Fm .add (.lst o a) (.lst o' b)=Dk (aZ (a.length+b.length)) (.ok (.lst true (a++b))):=rfl
theorem wc {a b:Int}:Fm .sub (.int a) (.int b)=.ok (.int (a - b)):=rfl
theorem wd {a b:Int}:Fm .mul (.int a) (.int b)=Dk (decide (-(2 ^ 64) < a/\a < 2 ^ 64)||decide (-(2 ^ 64) < b/\b < 2 ^ 64)) (.ok (.int (a*b))):=rfl
theorem yV {a b:Int}:Fm .fdiv (.int a) (.int b)=Dk (decide (0 < b/\b < 1073741824)) (.ok (.int (a / b))):=rfl
theorem BD {a b:Int}:Fm .mod (.int a) (.int b)=Dk (decide (0 < b)) (.ok (.int (a % b))):=rfl
theorem Lq {o:Bool}{ds:List D}{i:Int}:aW (.lst o ds) (.int i)=(match EW ds i with|some d=>.ok d|none=>Dq):=rfl
theorem Np {ds:List D}{i:Int}:aW (.tup ds) (.int i)=(match EW ds i with|some d=>.ok d|none=>Dq):=rfl
theorem T2 {z:Str}{i:Int}:aW (.str z) (.int i)=Dk (aZ z.length) (match EW z.cps.toList i with|some c=>.ok (.str ⟨#[c]⟩)|none=>Dq):=rfl
theorem yW {o:Bool}{ds:List D}{lo hi:Option Int}:ia (.lst o ds) lo hi=.ok (.lst true (cF ds lo hi)):=rfl
theorem BE {z:Str}{lo hi:Option Int}:ia (.str z) lo hi=Dk (aZ z.length) (.ok (.str (Txt.slice z lo hi))):=rfl
theorem BF {b:Bool}:aU (.bl b)=.ok b:=rfl
theorem BG {a b:D}:GV .eq a b=D3 40 a b:=by cases a<;>cases b<;>rfl
noncomputable def BH (r:Bool):Res Bool:=.ok !r
theorem qA {r:Bool}:BH r=.ok !r:=rfl
theorem BI {a b:D}:GV .ne a b=U (D3 40 a b) BH:=by cases a<;>cases b<;>rfl
theorem BJ {n:Nat}{a b:Int}:D3 (n+1) (.int a) (.int b)=.ok (a == b):=rfl
theorem BK {n:Nat}{a b:Str}:D3 (n+1) (.str a) (.str b)=.ok (a == b):=rfl
theorem BL {n:Nat}{o o':Bool}{a b:List D}:D3 (n+1) (.lst o a) (.lst o' b)=bJ (D3 n) a b:=rfl
theorem BM {f:D->D->Res Bool}:bJ f [] []=.ok true:=rfl
theorem BN {f:D->D->Res Bool}{a:D}{r:List D}:bJ f (a::r) []=.ok false:=rfl
theorem BO {a b:Int}:GV .lt (.int a) (.int b)=.ok (decide (a < b)):=rfl
theorem BP {a b:Int}:GV .le (.int a) (.int b)=.ok (decide (a<=b)):=rfl
theorem BQ {a b:Int}:GV .gt (.int a) (.int b)=.ok (decide (b < a)):=rfl
theorem we {x:Str}:bX .len [.str x]=Dk (aZ x.length) (.ok (.int x.length)):=rfl
theorem wg {o:Bool}{ds:List D}:bX .len [.lst o ds]=.ok (.int ds.length):=rfl
theorem qB {a b:Int}:bX .min2 [.int a,.int b]=.ok (.int (if b < a then b else a)):=rfl
theorem qC {a b:Int}:bX .max2 [.int a,.int b]=.ok (.int (if b > a then b else a)):=rfl
theorem jI {o:Bool}{ds:List D}:bX .list [.lst o ds]=.ok (.lst true ds):=rfl
theorem qD (ns:List Int):bf (ns.map .int)=some ns:=by
 induction ns with
 | nil=>rfl
 | cons n ns ih=>
  show (bf (ns.map .int)).map (n::·)=_
  rw[ih]
  rfl
theorem jJ (ns:List Str):bB (ns.map .str)=some ns:=by
 induction ns with
 | nil=>rfl
 | cons n ns ih=>
  show (bB (ns.map .str)).map (n::·)=_
  rw[ih]
  rfl
theorem kj {o:Bool}{ns:List Int}(h:ns.length<=1000000):bX .sum [.lst o (ns.map .int)]=.ok (.int ns.sum):=by
 show (match bf (ns.map .int) with|some ns=>Dk (decide (ns.length<=1000000)) (.ok (.int ns.sum))|none=>Dq)=(_:Res D)
 rw[qD]
 show Dk (decide (ns.length<=1000000)) _=_
 rw[decide_eq_true h]
 rfl
theorem ub {x:Str}{o:Bool}{ys:List Str}(h:(ys.map (·.length)).sum+ys.length*x.length<=16777216):fy .join (.str x) [.lst o (ys.map .str)]=.ok (.str (Txt.join x ys)):=by
 show (match bB (ys.map .str) with|some ys=>Dk (decide ((ys.map (fun y:Str=>y.length)).sum+ys.length*x.length<=16777216)) (.ok (.str (Txt.join x ys)))|none=>Dq)=(_:Res D)
 rw[jJ]
 show Dk (decide _) _=_
 rw[decide_eq_true h]
 rfl
theorem wj {x:Str}:dy (.str x)=true:=rfl
theorem C4 (ns:List Int):ak (ns.map .int)=true:=by
 rw[bc,List.all_map,List.all_eq_true]
 intro x _
 rfl
theorem uc (ns:List Str):ak (ns.map .str)=true:=by
 rw[bc,List.all_map,List.all_eq_true]
 intro x _
 rfl
theorem BR {i:Int}:er (.int i)=.int i:=by rw[er]
theorem BS {i:Str}:er (.str i)=.str i:=by rw[er]
theorem BU {ds:List D}:er (.tup ds)=.tup (Dx ds):=by rw[er]
theorem BV {o:Bool}{ds:List D}:er (.lst o ds)=.lst false (Dx ds):=by rw[er]
theorem wk:Dx []=[]:=by rw[Dx]
theorem wm {d:D}{ds:List D}:Dx (d::ds)=er d::Dx ds:=by rw[Dx]
theorem cX (ns:List Int):Dx (ns.map .int)=ns.map .int:=bA (C4 ns)
theorem kl (ns:List Str):Dx (ns.map .str)=ns.map .str:=bA (uc ns)
theorem wo {i:Int}:ay (.int i)=true:=rfl
theorem wq {ds:List D}:ay (.tup ds)=ak ds:=rfl
theorem wt {o:Bool}{ds:List D}:ay (.lst o ds)=false:=rfl
theorem qE:ak []=true:=rfl
theorem qF {d:D}{ds:List D}:ak (d::ds)=(ay d&&ak ds):=rfl
noncomputable def qG:Fl->Res D
 | .nx _=>.ok .DE
 | .rt d=>.ok d
 | _=>Dq
theorem run {fn:Fn}{ds:List D}(h:ds.length=fn.np):cK cl fn ds=U (ax cl fn.body (ds.map some++List.replicate (fn.G.N.length - fn.np) none)) qG:=by
 unfold cK
 rw[decide_eq_true h]
 rfl
theorem qH {d:D}:qG (.rt d)=.ok d:=rfl
theorem call {T:Tb}{n f:Nat}{fn:Fn}{ds:List D}(h:T f=some fn)(h0:fn.io=none):aa T (n+1) f ds=cK (aa T n) fn ds:=by
 show (match T f with|some fn=>(match fn.io with|none=>cK (aa T n) fn ds|some e=>cL (aa T n) fn e ds)|none=>Dq)=_
 rw[h]
 show (match fn.io with|none=>cK (aa T n) fn ds|some e=>cL (aa T n) fn e ds)=_
 rw[h0]
noncomputable def Q9 (cl:Nat->List D->Res D)(e:IR)(p:Nat):Fl->Res D
 | .nx τ=>U (Ei cl true e τ) (L8 p)
 | _=>Dq
theorem T3 {T:Tb}{n f:Nat}{fn:Fn}{ds:List D}{m k:Nat}{body:List IS}{e:IR}(h:T f=some fn)(h0:fn.io=some e)(h1:fn.np=m)(h2:fn.G.N.length=k)(h3:fn.body=body)(hl:ds.length=m) :
  aa T (n+1) f ds=U (ax (aa T n) body ((nt ds).map some++List.replicate (k - m) none)) (Q9 (aa T n) e (m - 1)):=by
 show (match T f with|some fn=>(match fn.io with|none=>cK (aa T n) fn ds|some e=>cL (aa T n) fn e ds)|none=>Dq)=_
 rw[h]
 show (match fn.io with|none=>cK (aa T n) fn ds|some e=>cL (aa T n) fn e ds)=_
 rw[h0]
 show cL (aa T n) fn e ds=_
 unfold cL
 rw[decide_eq_true (show ds.length=fn.np by rw[hl,h1]),h1,h2,h3]
 show U _ _=U _ _
 congr 1
theorem go {T:Tb}{n f:Nat}{fn:Fn}{ds:List D}{m k:Nat}{body:List IS}(h:T f=some fn)(h0:fn.io=none)(h1:fn.np=m)(h2:fn.G.N.length=k)(h3:fn.body=body)(hl:ds.length=m) :
  aa T (n+1) f ds=U (ax (aa T n) body (ds.map some++List.replicate (k - m) none)) qG:=by
 rw[call h h0,run (by rw[hl,h1]),h1,h2,h3]
end
end Ev
namespace Ev
section
variable {cl:Nat->List D->Res D}{τ:Ev}
theorem line:sizeLine=16777216:=sizeLine_eq
theorem qI {a b:Int}(h1 : -18446744073709551616 < a)(h2:a < 18446744073709551616):Fm .mul (.int a) (.int b)=.ok (.int (a*b)):=by
 rw[wd,decide_eq_true (show -(2 ^ 64) < a/\a < 2 ^ 64 from ⟨by omega,by omega⟩)]
 rfl
theorem qJ {a b:Int}(h1 : -18446744073709551616 < b)(h2:b < 18446744073709551616):Fm .mul (.int a) (.int b)=.ok (.int (a*b)):=by
 rw[wd,decide_eq_true (show -(2 ^ 64) < b/\b < 2 ^ 64 from ⟨by omega,by omega⟩),Bool.or_true]
 rfl
theorem qK {a b:Int}(h1:0 < b)(h2:b < 1073741824):Fm .fdiv (.int a) (.int b)=.ok (.int (a / b)):=by
 rw[yV,decide_eq_true ⟨h1,h2⟩]
 rfl
theorem wu {a b:Int}(h1:0 < b):Fm .mod (.int a) (.int b)=.ok (.int (a % b)):=by
 rw[BD,decide_eq_true h1]
 rfl
theorem eD {n:Nat}(h:n<=16777216):aZ n=true:=decide_eq_true (by rw[line];exact h)
theorem fP {n:Nat}(h:n < 16777216):bW n=true:=decide_eq_true (by rw[line];exact h)
theorem lN {i:Int}(h1 : -4611686018427387904<=i)(h2:i < 4611686018427387904):bo i=true:=decide_eq_true ⟨by omega,by omega⟩
theorem ud {α β:Type}(f:α->β)(xs:List α)(i:Int):EW (xs.map f) i=(EW xs i).map f:=by
 unfold EW
 rw[List.length_map]
 cases IA xs.length i with
 | none=>rfl
 | some j=>exact List.getElem?_map ..
theorem eE {α:Type}{xs:List α}{i:Int}(d:α)(h0:0<=i)(h1:i < xs.length):EW xs i=some (xs.getD i.toNat d):=by
 unfold EW IA
 rw[if_pos h0,if_pos h1]
 show xs[i.toNat]? = _
 have:i.toNat < xs.length:=by omega
 rw[List.getD_eq_getElem?_getD,List.getElem?_eq_getElem this]
 rfl
theorem Lr {o:Bool}{xs:List Int}{i:Int}(h0:0<=i)(h1:i < xs.length):aW (.lst o (xs.map .int)) (.int i)=.ok (.int (xs.getD i.toNat 0)):=by
 rw[Lq,ud,eE 0 h0 h1]
 rfl
theorem OX {z:Str}{i:Int}(h0:0<=i)(h1:i < z.length)(hz:z.length<=16777216):aW (.str z) (.int i)=.ok (.str ⟨#[z.cps.toList.getD i.toNat 0]⟩):=by
 rw[T2,eD hz]
 have hl:z.cps.toList.length=z.length:=by simp[Str.length]
 rw[eE 0 h0 (by rw[hl];exact h1)]
 rfl
noncomputable def fz:Bool->Option D->Option D
 | true,some d=>some (er d)
 | true,none=>none
 | false,o=>o
theorem BW {d:D}:fz true (some d)=some (er d):=rfl
theorem BX {o:Option D}:fz false o=o:=rfl
theorem wx {is:List Nat}{k:Nat}:ej is k []=[]:=rfl
theorem wy {is:List Nat}{k:Nat}{o:Option D}{τ:Ev}:ej is k (o::τ)=fz (is.contains k) o::ej is (k+1) τ:=by
 show (if is.contains k then o.map er else o)::ej is (k+1) τ=_
 cases is.contains k<;>cases o<;>rfl
theorem BY {d:D}:vars (.c d)=[]:=rfl
theorem BZ {i:Nat}:vars (.v i)=[i]:=rfl
theorem qL {o:HN}{a b:IR}:vars (.bin o a b)=vars a++vars b:=rfl
theorem qM {es:List IR}:vars (.lst es)=aq es:=rfl
theorem lO {f:Nat}{es:List IR}:vars (.call f es)=aq es:=rfl
theorem wz {f:Bi}{es:List IR}:vars (.bi f es)=aq es:=rfl
theorem qN {a i:IR}:vars (.idx a i)=vars a++vars i:=rfl
theorem wA:aq []=[]:=rfl
theorem wB {e:IR}{es:List IR}:aq (e::es)=vars e++aq es:=rfl
theorem lP {G:Gm}{fr:List Nat}{t:Tg}{s:Sr}{i:List IR}{e:IR}:br (.comp G fr t s i e)=true:=rfl
theorem qO {a b:IR}:br (.bin .add a b)=true:=rfl
theorem qP {a i:IR}:br (.idx a i)=false:=rfl
theorem B1 {e:IR}{o:Bool}{ds:List D}{τ:Ev}:aP e (.lst o ds) τ=cond (br e) (cond (ak ds) (.lst true ds,τ) (.lst true (Dx ds),Dw (vars e) τ)) (.lst false (Dx ds),Dw (vars e) τ):=by
 unfold aP
 rw[if_neg (show ¬ ay (.lst o ds)=true by intro z;cases z)]
 cases br e
 ·exact Prod.ext (by show er (.lst o ds)=_;rw[er];rfl) rfl
 ·show (if ak ds=true then _ else _)=_
  cases ak ds<;>rfl
theorem lQ {body:D->Ev->Res Fl}(P:Nat->Ev->Prop):∀ (its:List D) (k:Nat) (τ:Ev),P k τ->(∀ (i:Nat) (x:D) (τ:Ev),its[i]? = some x->P (k+i) τ->∃ Di,body x τ=.ok (.nx Di)/\P (k+i+1) Di)->∃ Di,forM body its τ=.ok (.nx Di)/\P (k+its.length) Di
 | [],k,τ,h,_=>⟨τ,rfl,h⟩
 | x::xs,k,τ,h,hb=>by
  obtain⟨IX,e1,h1⟩:=hb 0 x τ rfl h
  obtain⟨Ky,e2,h2⟩:=lQ P xs (k+1) IX h1 fun i y σ hy hp=>by
   obtain⟨Di,e',h'⟩:=hb (i+1) y σ (by simpa using hy) (by rw[show k+(i+1)=k+1+i by omega];exact hp)
   exact⟨Di,e',by rw[show k+1+i+1=k+(i+1)+1 by omega];exact h'⟩
  refine⟨Ky,?_,by rw[List.length_cons,show k+(xs.length+1)=k+1+xs.length by omega];exact h2⟩
  rw[cy,e1,pK,Bx,e2]
theorem lT {body:D->Ev->Res Fl}(P:Nat->Ev->Prop){its:List D}{τ:Ev}(h:P 0 τ)(hb:∀ (i:Nat)(x:D)(τ:Ev),its[i]? = some x->P i τ->∃ Di,body x τ=.ok (.nx Di)/\P (i+1) Di):∃ Di,forM body its τ=.ok (.nx Di)/\P its.length Di:=by
 obtain⟨Di,h1,h2⟩:=lQ P its 0 τ h fun i x τ hx hp=>by
  rw[Nat.zero_add] at hp ⊢
  exact hb i x τ hx hp
 exact⟨Di,h1,by rw[Nat.zero_add] at h2;exact h2⟩
theorem bU {α β:Type}{g:D->Res (Option D)}(Io:α->D)(out:α->β)(KD:β->D):∀ (xs:List α),(∀ x∈xs,g (Io x)=.ok (some (KD (out x))))->ba g (xs.map Io)=.ok ((xs.map out).map KD)
 | [],_=>rfl
 | x::xs,h=>by
  show U (g (Io x)) _=_
  rw[h x (by simp)]
  show U (ba g (xs.map Io)) _=_
  rw[bU Io out KD xs fun y hy=>h y (List.mem_cons_of_mem _ hy)]
  rfl
theorem wC {α:Type}{a:α}:E3 (.ok a:Res α)=.ok a:=rfl
theorem qQ (a b:Int):bI a b=((List.range (b - a).toNat).map fun k=>a+(k:Nat)).map .int:=by
 unfold bI
 rw[List.map_map]
 rfl
end
end Ev
theorem DK:type_of% (And.intro (And.intro (And.intro (And.intro (And.intro (And.intro (And.intro @Ev.pK (And.intro @Ev.vc @Ev.QR)) (And.intro (And.intro @Ev.QS @Ev.QT) (And.intro @Ev.pL @Ev.ve))) (And.intro (And.intro @Ev.vf (And.intro @Ev.pM @Ev.vg)) (And.intro (And.intro @Ev.k8 @Ev.pO) (And.intro @Ev.vi @Ev.k9)))) (And.intro (And.intro (And.intro @Ev.pQ (And.intro @Ev.vk @Ev.pS)) (And.intro (And.intro @Ev.vm @Ev.AV) (And.intro @Ev.pT @Ev.vn))) (And.intro (And.intro @Ev.pU (And.intro @Ev.vp @Ev.pV)) (And.intro (And.intro @Ev.vq @Ev.pW) (And.intro @Ev.vt @Ev.AY))))) (And.intro (And.intro (And.intro (And.intro @Ev.lh (And.intro @Ev.pX @Ev.AZ)) (And.intro (And.intro @Ev.lu @Ev.pY) (And.intro @Ev.pZ @Ev.vy))) (And.intro (And.intro @Ev.p5 (And.intro @Ev.p6 @Ev.p7)) (And.intro (And.intro @Ev.vz @Ev.p8) (And.intro @Ev.lC @Ev.p9)))) (And.intro (And.intro (And.intro @Ev.A4 (And.intro @Ev.lD @Ev.vB)) (And.intro (And.intro @Ev.A5 @Ev.qb) (And.intro @Ev.A7 @Ev.A8))) (And.intro (And.intro (And.intro @Ev.A9 @Ev.vC) (And.intro @Ev.Ba @Ev.lE)) (And.intro (And.intro @Ev.lF @Ev.Bb) (And.intro @Ev.vE @Ev.Bc)))))) (And.intro (And.intro (And.intro (And.intro (And.intro @Ev.vG (And.intro @Ev.Be @Ev.QZ)) (And.intro (And.intro @Ev.Nd @Ev.lG) (And.intro @Ev.G0 @Ev.lH))) (And.intro (And.intro @Ev.G1 (And.intro @Ev.gK @Ev.jH)) (And.intro (And.intro @Ev.FN @Ev.lI) (And.intro @Ev.Q0 @Ev.Q1)))) (And.intro (And.intro (And.intro @Ev.vJ (And.intro @Ev.vK @Ev.Bf)) (And.intro (And.intro @Ev.Bg @Ev.FO) (And.intro @Ev.vL @Ev.qe))) (And.intro (And.intro (And.intro @Ev.Bh @Ev.qf) (And.intro @Ev.vM @Ev.Bj)) (And.intro (And.intro @Ev.vN @Ev.qg) (And.intro @Ev.vO @Ev.lJ))))) (And.intro (And.intro (And.intro (And.intro @Ev.qi (And.intro @Ev.Q4 @Ev.Q5)) (And.intro (And.intro @Ev.Q6 @Ev.vP) (And.intro @Ev.qj @Ev.FP))) (And.intro (And.intro @Ev.qm (And.intro @Ev.qo @Ev.qr)) (And.intro (And.intro @Ev.eT @Ev.lK) (And.intro @Ev.E7 @Ev.qt)))) (And.intro (And.intro (And.intro @Ev.FQ (And.intro @Ev.E8 @Ev.Ew)) (And.intro (And.intro @Ev.ES @Ev.ER) (And.intro @Ev.FR @Ev.vR))) (And.intro (And.intro (And.intro @Ev.FT @Ev.vS) (And.intro @Ev.qu @Ev.qv)) (And.intro (And.intro @Ev.lL @Ev.vT) (And.intro @Ev.qw @Ev.vU))))))) (And.intro (And.intro (And.intro (And.intro (And.intro (And.intro @Ev.G2 (And.intro @Ev.qx @Ev.FU)) (And.intro (And.intro @Ev.Bu @Ev.Bv) (And.intro @Ev.vV @Ev.vW))) (And.intro (And.intro @Ev.qy (And.intro @Ev.lM @Ev.vY)) (And.intro (And.intro @Ev.vZ @Ev.v5) (And.intro @Ev.cy @Ev.By)))) (And.intro (And.intro (And.intro @Ev.Bz (And.intro @Ev.v7 @Ev.v8)) (And.intro (And.intro @Ev.BA @Ev.BC) (And.intro @Ev.v9 @Ev.wa))) (And.intro (And.intro @Ev.wb (And.intro @Ev.kh @Ev.qz)) (And.intro (And.intro @Ev.wc @Ev.Np) (And.intro @Ev.yW @Ev.BE))))) (And.intro (And.intro (And.intro (And.intro @Ev.BF (And.intro @Ev.BG @Ev.qA)) (And.intro (And.intro @Ev.BI @Ev.BJ) (And.intro @Ev.BK @Ev.BL))) (And.intro (And.intro @Ev.BM (And.intro @Ev.BN @Ev.BO)) (And.intro (And.intro @Ev.BP @Ev.BQ) (And.intro @Ev.we @Ev.wg)))) (And.intro (And.intro (And.intro @Ev.qB (And.intro @Ev.qC @Ev.jI)) (And.intro (And.intro @Ev.wj @Ev.BR) (And.intro @Ev.BS @Ev.BU))) (And.intro (And.intro (And.intro @Ev.BV @Ev.wk) (And.intro @Ev.wm @Ev.cX)) (And.intro (And.intro @Ev.kl @Ev.wo) (And.intro @Ev.wq @Ev.wt)))))) (And.intro (And.intro (And.intro (And.intro (And.intro @Ev.qE (And.intro @Ev.qF @Ev.qH)) (And.intro (And.intro @Ev.qI @Ev.qJ) (And.intro @Ev.qK @Ev.wu))) (And.intro (And.intro @Ev.eD (And.intro @Ev.fP @Ev.lN)) (And.intro (And.intro @Ev.Lr @Ev.OX) (And.intro @Ev.wC @Ev.BW)))) (And.intro (And.intro (And.intro @Ev.BX (And.intro @Ev.wx @Ev.wy)) (And.intro (And.intro @Ev.BY @Ev.BZ) (And.intro @Ev.qL @Ev.qM))) (And.intro (And.intro (And.intro @Ev.lO @Ev.wz) (And.intro @Ev.qN @Ev.wA)) (And.intro (And.intro @Ev.wB @Ev.lP) (And.intro @Ev.qO @Ev.qP))))) (And.intro (And.intro (And.intro (And.intro @Ev.B1 (And.intro @cond_true.{1} @cond_false.{1})) (And.intro (And.intro @Ev.uc @List.contains_cons.{0}) (And.intro @List.contains_nil.{0} @Bool.or_false))) (And.intro (And.intro @Bool.or_true (And.intro @Bool.true_or @Bool.false_or)) (And.intro (And.intro @List.map_cons.{0,0} @List.map_nil.{0,0}) (And.intro @List.cons_append.{0} @List.nil_append.{0})))) (And.intro (And.intro (And.intro @List.replicate_succ.{0} (And.intro @List.replicate_zero.{0} @List.length_cons.{0})) (And.intro (And.intro @List.length_nil.{0} @Nat.zero_add) (And.intro @decide_true @Bool.and_self))) (And.intro (And.intro (And.intro @Bool.not_true @Bool.not_false) (And.intro @Bool.and_true @Bool.true_and)) (And.intro (And.intro @beq_self_eq_true.{0} @if_true.{1}) (And.intro @if_false.{1} @Bool.false_eq_true)))))))):=⟨⟨⟨⟨⟨⟨⟨@Ev.pK,⟨@Ev.vc,@Ev.QR⟩⟩,⟨⟨@Ev.QS,@Ev.QT⟩,⟨@Ev.pL,@Ev.ve⟩⟩⟩,⟨⟨@Ev.vf,⟨@Ev.pM,@Ev.vg⟩⟩,⟨⟨@Ev.k8,@Ev.pO⟩,⟨@Ev.vi,@Ev.k9⟩⟩⟩⟩,⟨⟨⟨@Ev.pQ,⟨@Ev.vk,@Ev.pS⟩⟩,⟨⟨@Ev.vm,@Ev.AV⟩,⟨@Ev.pT,@Ev.vn⟩⟩⟩,⟨⟨@Ev.pU,⟨@Ev.vp,@Ev.pV⟩⟩,⟨⟨@Ev.vq,@Ev.pW⟩,⟨@Ev.vt,@Ev.AY⟩⟩⟩⟩⟩,⟨⟨⟨⟨@Ev.lh,⟨@Ev.pX,@Ev.AZ⟩⟩,⟨⟨@Ev.lu,@Ev.pY⟩,⟨@Ev.pZ,@Ev.vy⟩⟩⟩,⟨⟨@Ev.p5,⟨@Ev.p6,@Ev.p7⟩⟩,⟨⟨@Ev.vz,@Ev.p8⟩,⟨@Ev.lC,@Ev.p9⟩⟩⟩⟩,⟨⟨⟨@Ev.A4,⟨@Ev.lD,@Ev.vB⟩⟩,⟨⟨@Ev.A5,@Ev.qb⟩,⟨@Ev.A7,@Ev.A8⟩⟩⟩,⟨⟨⟨@Ev.A9,@Ev.vC⟩,⟨@Ev.Ba,@Ev.lE⟩⟩,⟨⟨@Ev.lF,@Ev.Bb⟩,⟨@Ev.vE,@Ev.Bc⟩⟩⟩⟩⟩⟩,⟨⟨⟨⟨⟨@Ev.vG,⟨@Ev.Be,@Ev.QZ⟩⟩,⟨⟨@Ev.Nd,@Ev.lG⟩,⟨@Ev.G0,@Ev.lH⟩⟩⟩,⟨⟨@Ev.G1,⟨@Ev.gK,@Ev.jH⟩⟩,⟨⟨@Ev.FN,@Ev.lI⟩,⟨@Ev.Q0,@Ev.Q1⟩⟩⟩⟩,⟨⟨⟨@Ev.vJ,⟨@Ev.vK,@Ev.Bf⟩⟩,⟨⟨@Ev.Bg,@Ev.FO⟩,⟨@Ev.vL,@Ev.qe⟩⟩⟩,⟨⟨⟨@Ev.Bh,@Ev.qf⟩,⟨@Ev.vM,@Ev.Bj⟩⟩,⟨⟨@Ev.vN,@Ev.qg⟩,⟨@Ev.vO,@Ev.lJ⟩⟩⟩⟩⟩,⟨⟨⟨⟨@Ev.qi,⟨@Ev.Q4,@Ev.Q5⟩⟩,⟨⟨@Ev.Q6,@Ev.vP⟩,⟨@Ev.qj,@Ev.FP⟩⟩⟩,⟨⟨@Ev.qm,⟨@Ev.qo,@Ev.qr⟩⟩,⟨⟨@Ev.eT,@Ev.lK⟩,⟨@Ev.E7,@Ev.qt⟩⟩⟩⟩,⟨⟨⟨@Ev.FQ,⟨@Ev.E8,@Ev.Ew⟩⟩,⟨⟨@Ev.ES,@Ev.ER⟩,⟨@Ev.FR,@Ev.vR⟩⟩⟩,⟨⟨⟨@Ev.FT,@Ev.vS⟩,⟨@Ev.qu,@Ev.qv⟩⟩,⟨⟨@Ev.lL,@Ev.vT⟩,⟨@Ev.qw,@Ev.vU⟩⟩⟩⟩⟩⟩⟩,⟨⟨⟨⟨⟨⟨@Ev.G2,⟨@Ev.qx,@Ev.FU⟩⟩,⟨⟨@Ev.Bu,@Ev.Bv⟩,⟨@Ev.vV,@Ev.vW⟩⟩⟩,⟨⟨@Ev.qy,⟨@Ev.lM,@Ev.vY⟩⟩,⟨⟨@Ev.vZ,@Ev.v5⟩,⟨@Ev.cy,@Ev.By⟩⟩⟩⟩,⟨⟨⟨@Ev.Bz,⟨@Ev.v7,@Ev.v8⟩⟩,⟨⟨@Ev.BA,@Ev.BC⟩,⟨@Ev.v9,@Ev.wa⟩⟩⟩,⟨⟨@Ev.wb,⟨@Ev.kh,@Ev.qz⟩⟩,⟨⟨@Ev.wc,@Ev.Np⟩,⟨@Ev.yW,@Ev.BE⟩⟩⟩⟩⟩,⟨⟨⟨⟨@Ev.BF,⟨@Ev.BG,@Ev.qA⟩⟩,⟨⟨@Ev.BI,@Ev.BJ⟩,⟨@Ev.BK,@Ev.BL⟩⟩⟩,⟨⟨@Ev.BM,⟨@Ev.BN,@Ev.BO⟩⟩,⟨⟨@Ev.BP,@Ev.BQ⟩,⟨@Ev.we,@Ev.wg⟩⟩⟩⟩,⟨⟨⟨@Ev.qB,⟨@Ev.qC,@Ev.jI⟩⟩,⟨⟨@Ev.wj,@Ev.BR⟩,⟨@Ev.BS,@Ev.BU⟩⟩⟩,⟨⟨⟨@Ev.BV,@Ev.wk⟩,⟨@Ev.wm,@Ev.cX⟩⟩,⟨⟨@Ev.kl,@Ev.wo⟩,⟨@Ev.wq,@Ev.wt⟩⟩⟩⟩⟩⟩,⟨⟨⟨⟨⟨@Ev.qE,⟨@Ev.qF,@Ev.qH⟩⟩,⟨⟨@Ev.qI,@Ev.qJ⟩,⟨@Ev.qK,@Ev.wu⟩⟩⟩,⟨⟨@Ev.eD,⟨@Ev.fP,@Ev.lN⟩⟩,⟨⟨@Ev.Lr,@Ev.OX⟩,⟨@Ev.wC,@Ev.BW⟩⟩⟩⟩,⟨⟨⟨@Ev.BX,⟨@Ev.wx,@Ev.wy⟩⟩,⟨⟨@Ev.BY,@Ev.BZ⟩,⟨@Ev.qL,@Ev.qM⟩⟩⟩,⟨⟨⟨@Ev.lO,@Ev.wz⟩,⟨@Ev.qN,@Ev.wA⟩⟩,⟨⟨@Ev.wB,@Ev.lP⟩,⟨@Ev.qO,@Ev.qP⟩⟩⟩⟩⟩,⟨⟨⟨⟨@Ev.B1,⟨@cond_true.{1},@cond_false.{1}⟩⟩,⟨⟨@Ev.uc,@List.contains_cons.{0}⟩,⟨@List.contains_nil.{0},@Bool.or_false⟩⟩⟩,⟨⟨@Bool.or_true,⟨@Bool.true_or,@Bool.false_or⟩⟩,⟨⟨@List.map_cons.{0,0},@List.map_nil.{0,0}⟩,⟨@List.cons_append.{0},@List.nil_append.{0}⟩⟩⟩⟩,⟨⟨⟨@List.replicate_succ.{0},⟨@List.replicate_zero.{0},@List.length_cons.{0}⟩⟩,⟨⟨@List.length_nil.{0},@Nat.zero_add⟩,⟨@decide_true,@Bool.and_self⟩⟩⟩,⟨⟨⟨@Bool.not_true,@Bool.not_false⟩,⟨@Bool.and_true,@Bool.true_and⟩⟩,⟨⟨@beq_self_eq_true.{0},@if_true.{1}⟩,⟨@if_false.{1},@Bool.false_eq_true⟩⟩⟩⟩⟩⟩⟩⟩
namespace Fr
noncomputable def wD:List IS:=[(.Eh (.cmp .lt (.v 1) (.bi .len [(.v 0)])) [(.ret (.idx (.v 0) (.v 1)))] []),(.ret (.c (.int 0)))]
end Fr
end L2
namespace Law
open PySem L2
noncomputable def top (i:Nat):Stmt:=PySem.Challenge.pw_flagroll_k11_whole_comes_back.main.body.getD i (.Pass ⟨0,0,0,0⟩)
noncomputable def Z:Sg:={nm:=(["PLACES","run_size","run_parted","run_joined","allot_new","shares_of","wanted_shares","rows_shrunk","rows_grown","allot_changed","_law_cell_at","_law_stream","_law_names","_law_cut","_law_told_shares","_law_next","law","Twice","TooMuch","NoFace","BadShare"]:List Str),Lb:=[(20,(.int 10007))],fns:=[21,22,23,24,25,26,27,28,29,30,31,32,33,35,36],cls:=[],xt:=[],pl:=[],rc:=[(37,"Twice"),(38,"TooMuch"),(39,"NoFace"),(40,"BadShare")],xm:=[],Ft:=[34]}
noncomputable def OY:List IS:=
 [(.ret (.bi .sum [(.comp {N:=["low","high"],kd:=[.local,.local],gl:=[],df:=false} [] (.tp [(.nm 0),(.nm 1)]) (.val (.v 0)) [] (.bin .sub (.v 1) (.v 0)))]))]
noncomputable def KG:Fn:={np:=1,G:={N:=["run"],kd:=[.local],gl:=[1],df:=true},body:=OY}
noncomputable def T4:List IS:=
 [(.asg (.nm 2) (.lst [])),(.asg (.nm 3) (.lst [])),(.asg (.nm 4) (.v 1)),(.DZ (.tp [(.nm 5),(.nm 6)]) (.val (.v 0)) [(.asg (.nm 7) (.bi .min2 [(.bin .add (.v 5) (.v 4)),(.v 6)])),(.Eh (.cmp .lt (.v 5) (.v 7)) [(.app 2 (.tup [(.v 5),(.v 7)]))] []),(.Eh (.cmp .lt (.v 7) (.v 6)) [(.app 3 (.tup [(.v 7),(.v 6)]))] []),(.asg (.nm 4) (.bin .sub (.v 4) (.bin .sub (.v 7) (.v 5))))]),(.ret (.tup [(.v 2),(.v 3)]))]
noncomputable def OZ:Fn:={np:=2,G:={N:=["run","many","first","rest","wanted","low","high","cut"],kd:=[.local,.local,.local,.local,.local,.local,.local,.local],gl:=[2],df:=true},body:=T4}
noncomputable def T5:List IS:=
 [(.Eh (.HP (.cmp .eq (.v 0) (.lst [])) (.HP (.cmp .eq (.v 1) (.lst [])) (.cmp .ne (.idx (.idx (.v 0) (.neg (.c (.int 1)))) (.c (.int 1))) (.idx (.idx (.v 1) (.c (.int 0))) (.c (.int 0)))))) [(.ret (.bin .add (.v 0) (.v 1)))] []),(.asg (.nm 2) (.tup [(.idx (.idx (.v 0) (.neg (.c (.int 1)))) (.c (.int 0))),(.idx (.idx (.v 1) (.c (.int 0))) (.c (.int 1)))])),(.ret (.bin .add (.bin .add (.sl (.v 0) none (some (.neg (.c (.int 1))))) (.lst [(.v 2)])) (.sl (.v 1) (some (.c (.int 1))) none)))]
noncomputable def O0:Fn:={np:=2,G:={N:=["one","other","seam"],kd:=[.local,.local,.local],gl:=[],df:=true},body:=T5}
noncomputable def O1:List IS:=
 [(.Eh (.cmp .lt (.FI (.v 0)) (.bi .len [(.v 0)])) [(.Eu 37 "Twice" "a face stands twice among the faces")] []),(.ret (.tup [(.comp {N:=["face"],kd:=[.local],gl:=[],df:=false} [] (.nm 0) (.val (.v 0)) [] (.tup [(.v 0),(.lst [])])),(.lst [(.tup [(.c (.int 0)),(.g 20 (.int 10007))])])]))]
noncomputable def KH:Fn:={np:=1,G:={N:=["faces"],kd:=[.local],gl:=[0,12,37,20],df:=true},body:=O1}
noncomputable def O6:List IS:=
 [(.ret (.comp {N:=["face","run"],kd:=[.local,.local],gl:=[21],df:=false} [] (.tp [(.nm 0),(.nm 1)]) (.val (.idx (.v 0) (.c (.int 0)))) [] (.tup [(.v 0),(.call 21 [(.v 1)])])))]
noncomputable def KI:Fn:={np:=1,G:={N:=["allot"],kd:=[.local],gl:=[],df:=true},body:=O6}
noncomputable def Ra:List IS:=
 [(.Ke 2 (.call 25 [(.v 0)])),(.asg (.nm 3) .EF),(.DZ (.tp [(.nm 4),(.nm 5)]) (.val (.v 1)) [(.Eh (.Hv true (.v 4) (.v 2)) [(.D4 39 "NoFace" (.Hw "the allotment has no face " (.v 4) none))] []),(.Eh (.Hv false (.v 4) (.v 3)) [(.D4 37 "Twice" (.Hw "the face " (.v 4) (some " is told twice")))] []),(.Eh (.cmp .lt (.v 5) (.c (.int 0))) [(.D4 40 "BadShare" (.Hw "the face " (.v 4) (some " is to have fewer places than none")))] []),(.EG 3 (.v 4) (.v 5))]),(.GB 2 3),(.Eh (.cmp .gt (.Gb (.v 2)) (.g 20 (.int 10007))) [(.Eu 38 "TooMuch" "the faces together would have more places than there are")] []),(.ret (.v 2))]
noncomputable def KJ:Fn:={np:=2,G:={N:=["allot","shares","wanted","told","face","places"],kd:=[.local,.local,.local,.local,.local,.local],gl:=[19,25,39,37,40,1,20,38],df:=true},body:=Ra}
noncomputable def Rb:List IS:=
 [(.asg (.nm 3) (.lst [])),(.DZ (.tp [(.nm 4),(.nm 5)]) (.val (.v 0)) [(.asg (.nm 6) (.call 22 [(.v 5),(.bi .min2 [(.DG (.v 2) (.v 4)),(.call 21 [(.v 5)])])])),(.app 3 (.tup [(.v 4),(.idx (.v 6) (.c (.int 0)))])),(.asg (.nm 1) (.call 23 [(.idx (.v 6) (.c (.int 1))),(.v 1)]))]),(.ret (.tup [(.v 3),(.v 1)]))]
noncomputable def KN:Fn:={np:=3,G:={N:=["rows","free","wanted","kept_rows","face","run","parted"],kd:=[.local,.local,.local,.local,.local,.local,.local],gl:=[22,2,21,23],df:=true},body:=Rb}
noncomputable def Rc:List IS:=
 [(.asg (.nm 3) (.lst [])),(.DZ (.tp [(.nm 4),(.nm 5)]) (.val (.v 0)) [(.asg (.nm 6) (.call 22 [(.v 1),(.bin .sub (.DG (.v 2) (.v 4)) (.call 21 [(.v 5)]))])),(.app 3 (.tup [(.v 4),(.call 23 [(.v 5),(.idx (.v 6) (.c (.int 0)))])])),(.asg (.nm 1) (.idx (.v 6) (.c (.int 1))))]),(.ret (.tup [(.v 3),(.v 1)]))]
noncomputable def KO:Fn:={np:=3,G:={N:=["rows","free","wanted","grown_rows","face","run","parted"],kd:=[.local,.local,.local,.local,.local,.local,.local],gl:=[22,21,23],df:=true},body:=Rc}
noncomputable def Rf:List IS:=
 [(.asg (.nm 2) (.call 26 [(.v 0),(.v 1)])),(.asg (.nm 3) (.call 27 [(.idx (.v 0) (.c (.int 0))),(.bi .list [(.idx (.v 0) (.c (.int 1)))]),(.v 2)])),(.ret (.call 28 [(.idx (.v 3) (.c (.int 0))),(.idx (.v 3) (.c (.int 1))),(.v 2)]))]
noncomputable def KP:Fn:={np:=2,G:={N:=["allot","shares","wanted","shrunk"],kd:=[.local,.local,.local,.local],gl:=[26,27,5,28],df:=true},body:=Rf}
noncomputable def T6:List IS:=
 [(.Eh (.cmp .lt (.v 1) (.bi .len [(.v 0)])) [(.ret (.idx (.v 0) (.v 1)))] []),(.ret (.c (.int 0)))]
noncomputable def JL:Fn:={np:=2,G:={N:=["_law_script","_law_k"],kd:=[.local,.local],gl:=[0],df:=true},body:=T6}
noncomputable def T7:List IS:=
 [(.asg (.nm 2) (.lst [])),(.asg (.nm 3) (.bin .add (.bin .mod (.v 0) (.c (.int 2147483647))) (.c (.int 1)))),(.DZ (.nm 4) (.Eb (.v 1)) [(.asg (.nm 3) (.bin .mod (.bin .add (.bin .add (.bin .mul (.v 3) (.c (.int 48271))) (.bin .mul (.bin .mul (.c (.int 7)) (.v 4)) (.v 4))) (.c (.int 3))) (.c (.int 2147483647)))),(.app 2 (.bin .fdiv (.v 3) (.c (.int 16))))]),(.ret (.v 2))]
noncomputable def My:Fn:={np:=2,G:={N:=["_law_cell","_law_many","_law_found","_law_number","_law_k"],kd:=[.local,.local,.local,.local,.local],gl:=[15],df:=true},body:=T7}
noncomputable def Mz:List IS:=
 [(.asg (.nm 2) (.c (.str "abcdefghijklmnopqrstuvwxyz"))),(.asg (.nm 3) (.Ik .join (.c (.str "")) [(.comp {N:=["_law_abc","_law_number"],kd:=[.cell,.local],gl:=[],df:=false} [2] (.nm 1) (.val (.call 31 [(.bin .fdiv (.v 0) (.c (.int 3))),(.c (.int 8))])) [] (.idx (.v 0) (.bin .mod (.v 1) (.c (.int 26)))))])),(.Eh (.Fs (.cmp .eq (.bin .mod (.v 0) (.c (.int 3))) (.c (.int 1))) (.cmp .le (.v 1) (.c (.int 8)))) [(.ret (.comp {N:=["_law_base","_law_k"],kd:=[.cell,.local],gl:=[],df:=false} [3] (.nm 1) (.Eb (.v 1)) [] (.sl (.v 0) none (some (.bin .add (.v 1) (.c (.int 1)))))))] []),(.asg (.nm 3) (.sl (.v 3) none (some (.bin .add (.c (.int 1)) (.bin .mod (.bin .fdiv (.v 0) (.c (.int 3))) (.c (.int 8))))))),(.asg (.nm 4) (.bin .mod (.bin .fdiv (.v 0) (.c (.int 24))) (.bi .len [(.v 3)]))),(.ret (.comp {N:=["_law_base","_law_at","_law_abc","_law_cell","_law_k"],kd:=[.cell,.cell,.cell,.cell,.local],gl:=[],df:=false} [3,4,2,0] (.nm 4) (.Eb (.v 1)) [] (.bin .add (.bin .add (.sl (.v 0) none (some (.v 1))) (.idx (.v 2) (.bin .mod (.bin .add (.bin .fdiv (.v 3) (.c (.int 3))) (.bin .mul (.c (.int 7)) (.v 4))) (.c (.int 26))))) (.sl (.v 0) (some (.bin .add (.v 1) (.c (.int 1)))) none))))]
noncomputable def HA:Fn:={np:=2,G:={N:=["_law_cell","_law_many","_law_abc","_law_base","_law_at"],kd:=[.cell,.local,.cell,.cell,.cell],gl:=[31,15,0],df:=true},body:=Mz}
noncomputable def Rg:List IS:=
 [(.asg (.nm 2) (.lst [])),(.asg (.nm 3) (.lst [])),(.DZ (.tp [(.nm 4),(.nm 5)]) (.val (.v 0)) [(.asg (.nm 6) (.bi .min2 [(.v 5),(.bin .add (.v 4) (.v 1))])),(.asg (.nm 1) (.bin .sub (.v 1) (.bin .sub (.v 6) (.v 4)))),(.Eh (.cmp .lt (.v 4) (.v 6)) [(.app 2 (.tup [(.v 4),(.v 6)]))] []),(.Eh (.cmp .lt (.v 6) (.v 5)) [(.app 3 (.tup [(.v 6),(.v 5)]))] [])]),(.ret (.tup [(.v 2),(.v 3)]))]
noncomputable def KQ:Fn:={np:=2,G:={N:=["_law_run","_law_many","_law_first","_law_rest","_law_low","_law_high","_law_amid"],kd:=[.local,.local,.local,.local,.local,.local,.local],gl:=[2],df:=true},body:=Rg}
noncomputable def Rh:List IS:=
 [(.asg (.nm 3) (.call 31 [(.v 0),(.bin .add (.bin .mul (.c (.int 3)) (.bi .len [(.v 1)])) (.c (.int 2)))])),(.asg (.nm 4) (.lst [])),(.DZ (.nm 5) (.Eb (.bi .len [(.v 1)])) [(.asg (.nm 6) (.idx (.v 1) (.bin .mod (.bin .add (.v 5) (.idx (.v 3) (.c (.int 0)))) (.bi .len [(.v 1)])))),(.asg (.nm 7) (.bin .sub (.c (.int 10007)) (.bi .sum [(.comp {N:=["_law_due","_law_face","_law_own"],kd:=[.cell,.cell,.local],gl:=[],df:=false} [2,6] (.nm 2) (.val (.v 1)) [(.cmp .ne (.v 2) (.v 1))] (.DG (.v 0) (.v 2)))]))),(.Eh (.cmp .gt (.bin .mod (.idx (.v 3) (.bin .add (.bin .mul (.c (.int 3)) (.v 5)) (.c (.int 2)))) (.c (.int 3))) (.c (.int 0))) [(.asg (.nm 8) (.bi .max2 [(.c (.int 0)),(.bin .sub (.DG (.v 2) (.v 6)) (.bin .mod (.idx (.v 3) (.bin .add (.bin .mul (.c (.int 3)) (.v 5)) (.c (.int 4)))) (.c (.int 5))))])),(.asg (.nm 9) (.idx (.lst [(.bin .mod (.idx (.v 3) (.bin .add (.bin .mul (.c (.int 3)) (.v 5)) (.c (.int 3)))) (.bin .add (.v 7) (.c (.int 1)))),(.v 7),(.c (.int 0)),(.v 8)]) (.bin .mod (.bin .fdiv (.idx (.v 3) (.bin .add (.bin .mul (.c (.int 3)) (.v 5)) (.c (.int 4)))) (.c (.int 8))) (.c (.int 4))))),(.Eh (.cmp .eq (.bin .mod (.bin .fdiv (.idx (.v 3) (.bin .add (.bin .mul (.c (.int 3)) (.v 5)) (.c (.int 4)))) (.c (.int 32))) (.c (.int 3))) (.c (.int 0))) [(.asg (.nm 9) (.bi .min2 [(.v 7),(.bin .add (.DG (.v 2) (.v 6)) (.bin .mod (.idx (.v 3) (.bin .add (.bin .mul (.c (.int 3)) (.v 5)) (.c (.int 3)))) (.c (.int 7))))]))] []),(.EG 2 (.v 6) (.v 9)),(.app 4 (.tup [(.v 6),(.v 9)]))] [])])]
noncomputable def KR:Fn:={np:=3,G:={N:=["_law_cell","_law_faces","_law_due","_law_xs","_law_told","_law_k","_law_face","_law_room","_law_less","_law_places"],kd:=[.local,.local,.cell,.local,.local,.local,.cell,.local,.local,.local],gl:=[31,0,15,1,3,2],df:=true,io:=some 2},body:=Rh,io:=some (.v 4)}
noncomputable def MA:List IS:=
 [(.Eh (.cmp .eq (.bin .mod (.v 0) (.c (.int 5))) (.c (.int 0))) [(.ret (.idx (.bi .sorted [(.v 2)]) (.bin .mod (.bin .fdiv (.v 0) (.c (.int 5))) (.bi .len [(.v 2)]))))] []),(.ret (.idx (.lst [(.c (.int 0)),(.c (.int 0)),(.v 1),(.bin .mod (.bin .fdiv (.v 0) (.c (.int 5))) (.bin .add (.v 1) (.c (.int 1)))),(.bin .mod (.bin .fdiv (.v 0) (.c (.int 5))) (.bin .add (.bin .fdiv (.v 1) (.c (.int 40))) (.c (.int 1))))]) (.bin .mod (.v 0) (.c (.int 5)))))]
noncomputable def HB:Fn:={np:=3,G:={N:=["_law_cell","_law_room","_law_seen"],kd:=[.local,.local,.local],gl:=[4,0],df:=true},body:=MA}
noncomputable def Ri:List IS:=
 [(.asg (.nm 1) (.call 32 [(.call 30 [(.v 0),(.c (.int 0))]),(.bin .add (.c (.int 1)) (.bin .mod (.call 30 [(.v 0),(.c (.int 1))]) (.c (.int 6))))])),(.asg (.nm 2) .EF),(.DZ (.nm 3) (.val (.v 1)) [(.EG 2 (.v 3) (.c (.int 0)))]),(.asg (.nm 4) (.call 24 [(.bi .list [(.v 1)])])),(.DZ (.nm 5) (.Ey (.c (.int 2)) (.c (.int 4))) [(.FL 4 29 (.v 4) 34 [(.call 30 [(.v 0),(.v 5)]),(.v 1)] 2)]),(.asg (.nm 6) (.bin .mod (.call 30 [(.v 0),(.c (.int 4))]) (.bi .len [(.v 1)]))),(.asg (.nm 7) (.bin .sub (.c (.int 10007)) (.bi .sum [(.comp {N:=["_law_due","_law_faces","_law_at","_law_face"],kd:=[.cell,.cell,.cell,.local],gl:=[],df:=false} [2,1,6] (.nm 3) (.val (.v 1)) [(.cmp .ne (.v 3) (.idx (.v 1) (.v 2)))] (.DG (.v 0) (.v 3)))]))),(.asg (.nm 8) .EF),(.Et 8 (.DG (.v 2) (.idx (.v 1) (.v 6))) (.v 4)),(.DZ (.nm 9) (.val (.bin .add (.call 31 [(.call 30 [(.v 0),(.c (.int 4))]),(.c (.int 3))]) (.sl (.v 0) (some (.c (.int 5))) (some (.c (.int 63)))))) [(.asg (.nm 10) (.call 35 [(.v 9),(.v 7),(.v 8)])),(.asg (.nm 11) (.lst [(.tup [(.idx (.v 1) (.v 6)),(.v 10)])])),(.Eh (.cmp .eq (.bin .mod (.bin .fdiv (.call 30 [(.v 0),(.c (.int 4))]) (.c (.int 7))) (.c (.int 2))) (.c (.int 1))) [(.asg (.nm 11) (.bin .add (.comp {N:=["_law_due","_law_faces","_law_at","_law_face"],kd:=[.cell,.cell,.cell,.local],gl:=[],df:=false} [2,1,6] (.nm 3) (.val (.v 1)) [(.cmp .ne (.v 3) (.idx (.v 1) (.v 2)))] (.tup [(.v 3),(.DG (.v 0) (.v 3))])) (.v 11)))] []),(.asg (.nm 4) (.call 29 [(.v 4),(.v 11)])),(.Eh (.Fs (.Hv false (.v 10) (.v 8)) (.cmp .ne (.DG (.v 8) (.v 10)) (.v 4))) [(.ret (.c (.bl false)))] []),(.Et 8 (.v 10) (.v 4)),(.Gd 12 8 [(.asg (.nm 13) (.bi .min2 [(.v 12),(.v 10)])),(.asg (.nm 14) (.idx (.idx (.idx (.DG (.v 8) (.v 12)) (.c (.int 0))) (.v 6)) (.c (.int 1)))),(.Eh (.cmp .ne (.idx (.call 33 [(.v 14),(.v 13)]) (.c (.int 0))) (.idx (.call 33 [(.idx (.idx (.idx (.v 4) (.c (.int 0))) (.v 6)) (.c (.int 1))),(.v 13)]) (.c (.int 0)))) [(.ret (.c (.bl false)))] [])])]),(.ret (.c (.bl true)))]
noncomputable def JM:Fn:={np:=1,G:={N:=["_law_script","_law_faces","_law_due","_law_face","_law_allot","_law_k","_law_at","_law_room","_law_seen","_law_cell","_law_places","_law_told","_law_other","_law_least","_law_run"],kd:=[.local,.cell,.cell,.local,.local,.local,.cell,.local,.local,.local,.local,.local,.local,.local,.local],gl:=[32,30,24,5,15,29,34,0,1,31,35,2,33],df:=true},body:=Ri}
noncomputable def T:Tb:=fun n=>match n with
 | 21=>some KG
 | 22=>some OZ
 | 23=>some O0
 | 24=>some KH
 | 25=>some KI
 | 26=>some KJ
 | 27=>some KN
 | 28=>some KO
 | 29=>some KP
 | 30=>some JL
 | 31=>some My
 | 32=>some HA
 | 33=>some KQ
 | 34=>some KR
 | 35=>some HB
 | 36=>some JM
 | _=>none
theorem c21:a9 Z KG ["run"] (top 8)=true:=by decide +kernel
theorem c22:a9 Z OZ ["run","many"] (top 9)=true:=by decide +kernel
theorem c23:a9 Z O0 ["one","other"] (top 10)=true:=by decide +kernel
theorem c24:a9 Z KH ["faces"] (top 12)=true:=by decide +kernel
theorem c25:a9 Z KI ["allot"] (top 13)=true:=by decide +kernel
theorem c26:a9 Z KJ ["allot","shares"] (top 14)=true:=by decide +kernel
theorem c27:a9 Z KN ["rows","free","wanted"] (top 15)=true:=by decide +kernel
theorem c28:a9 Z KO ["rows","free","wanted"] (top 16)=true:=by decide +kernel
theorem c29:a9 Z KP ["allot","shares"] (top 17)=true:=by decide +kernel
theorem c30:a9 Z JL ["_law_script","_law_k"] (top 19)=true:=by decide +kernel
theorem c31:a9 Z My ["_law_cell","_law_many"] (top 20)=true:=by decide +kernel
theorem c32:a9 Z HA ["_law_cell","_law_many"] (top 21)=true:=by decide +kernel
theorem c33:a9 Z KQ ["_law_run","_law_many"] (top 22)=true:=by decide +kernel
theorem c34:eS Z KR ["_law_cell","_law_faces","_law_due"] (top 23)=true:=by decide +kernel
theorem c35:a9 Z HB ["_law_cell","_law_room","_law_seen"] (top 24)=true:=by decide +kernel
theorem Rj:a9 Z JM ["_law_script"] (top 25)=true:=by decide +kernel
theorem yX:∀ n x,Z.name n=some x->x≠"__name__"/\(x == ("__debug__" : Str))=false:=by
 have h:(a8++Z.nm).all (fun x=>!(x == "__name__")&&!(x == "__debug__"))=true:=by decide +kernel
 intro n x hx
 have:=List.all_eq_true.mp h x (List.mem_of_getElem? hx)
 simpa using this
theorem ln1 {fd:FuncData}{ps:List Str}(h:∀ x0:Value,bindArgs fd ⟨[x0],[]⟩=pure (ps.zip [x0]))(us:List Value)(e:us.length=1):bindArgs fd ⟨us,[]⟩=pure (ps.zip us):=by
 match us,e with
 | [x0],_=>exact h x0
theorem ln2 {fd:FuncData}{ps:List Str}(h:∀ x0 x1:Value,bindArgs fd ⟨[x0,x1],[]⟩=pure (ps.zip [x0,x1]))(us:List Value)(e:us.length=2):bindArgs fd ⟨us,[]⟩=pure (ps.zip us):=by
 match us,e with
 | [x0,x1],_=>exact h x0 x1
theorem ln3 {fd:FuncData}{ps:List Str}(h:∀ x0 x1 x2:Value,bindArgs fd ⟨[x0,x1,x2],[]⟩=pure (ps.zip [x0,x1,x2]))(us:List Value)(e:us.length=3):bindArgs fd ⟨us,[]⟩=pure (ps.zip us):=by
 match us,e with
 | [x0,x1,x2],_=>exact h x0 x1 x2
theorem dfo {f:Nat}{x:Str}{fn:Fn}{st:Stmt}{fa:Addr}{ps:List Str}{K:W.Frag}{h:Heap}{mg:Str->Option Value}{oc:Value}{od an:Option Addr}{sl:Array (Option Value)}{kV dc pm cd ct:Value}(c:a9 Z fn ps st=true)(hT:T f=some fn)(b:∀ (kV dc pm:Value)(an:Option Addr)(cd ct:Value)(us:List Value),us.length=ps.length->bindArgs (W.fnOf x x (bM st) (aO st) (av st) .none kV dc pm an cd ct) ⟨us,[]⟩=pure (ps.zip us))(X:K.In h)(G:h.Ns mainGlobals mg)
  (a:W.nsIn K mainGlobals x=some (some (.ref fa))) (l:K.lookup fa=some ⟨oc,od,.func (W.fnOf x x (bM st) (aO st) (av st) .none kV dc pm an cd ct),sl⟩) (e:W.codeIn K cd x=true) (k:W.keepIn K (.ref fa)=true):D0 K mg Z T f x:=⟨fn,st,fa,_,ps,hT,e6 l e k,W.mg_of X G a,(e6 l e k).binds b,jF c⟩
theorem C5 {f:Nat}{x:Str}{fn:Fn}{st:Stmt}{fa:Addr}{ps:List Str}{K:W.Frag}{h:Heap}{mg:Str->Option Value}{oc:Value}{od an:Option Addr}{sl:Array (Option Value)}{kV dc pm cd ct:Value}(c:eS Z fn ps st=true)(hT:T f=some fn)(b:∀ (kV dc pm:Value)(an:Option Addr)(cd ct:Value)(us:List Value),us.length=ps.length->bindArgs (W.fnOf x x (bM st) (aO st) (av st) .none kV dc pm an cd ct) ⟨us,[]⟩=pure (ps.zip us))(X:K.In h)(G:h.Ns mainGlobals mg)
  (a:W.nsIn K mainGlobals x=some (some (.ref fa))) (l:K.lookup fa=some ⟨oc,od,.func (W.fnOf x x (bM st) (aO st) (av st) .none kV dc pm an cd ct),sl⟩) (e:W.codeIn K cd x=true) (k:W.keepIn K (.ref fa)=true):Ib K mg Z T f x:=⟨fn,st,fa,_,ps,hT,e6 l e k,W.mg_of X G a,(e6 l e k).binds b,pG c⟩
noncomputable def ue:Nat:=36
noncomputable def uf:Str:="_law_script"
theorem all_mk {l:PySem.W.OpenLaw}{w:World}{fa:Addr}{Ip Iq Ir Iu:Addr}{K:W.Frag}{h:Heap}{mg:Str->Option Value}{O7:Addr}{O8 MB:Option Addr}{O9:Array (Option Value)}{O' MC MD ME KS MF:Value}{T8:Tok}(X:K.In h)(G:h.Ns mainGlobals mg)(Pa:mg "law" = some (.ref fa))
  (T9:D0 K mg Z T 21 "run_size")
  (Ua:D0 K mg Z T 22 "run_parted")
  (Ub:D0 K mg Z T 23 "run_joined")
  (Uc:D0 K mg Z T 24 "allot_new")
  (Ud:D0 K mg Z T 25 "shares_of")
  (Ue:D0 K mg Z T 26 "wanted_shares")
  (Ug:D0 K mg Z T 27 "rows_shrunk")
  (Uh:D0 K mg Z T 28 "rows_grown")
  (Ui:D0 K mg Z T 29 "allot_changed")
  (Uj:D0 K mg Z T 30 "_law_cell_at")
  (Uk:D0 K mg Z T 31 "_law_stream")
  (Ul:D0 K mg Z T 32 "_law_names")
  (Um:D0 K mg Z T 33 "_law_cut")
  (Uo:Ib K mg Z T 34 "_law_told_shares")
  (Up:D0 K mg Z T 35 "_law_next")
  (a36:W.nsIn K mainGlobals "law" = some (some (.ref O7))) (l36:K.lookup O7=some ⟨O',O8,.func (W.fnOf "law" "law" (bM (top 25)) (aO (top 25)) (av (top 25)) .none MC MD ME MB KS MF),O9⟩) (e36:W.codeIn K KS "law" = true) (k36:W.keepIn K (.ref O7)=true)
  (q20:W.nsIn K mainGlobals "PLACES" = some (some (.int 10007 T8)))
  (u37:W.nsIn K mainGlobals "Twice" = some (some (.ref Ip)))
  (u38:W.nsIn K mainGlobals "TooMuch" = some (some (.ref Iq)))
  (u39:W.nsIn K mainGlobals "NoFace" = some (some (.ref Ir)))
  (u40:W.nsIn K mainGlobals "BadShare" = some (some (.ref Iu)))
  (vn37:nameIn K Ip=some "Twice")
  (vg37:W.findIn K (.ref Ip) "__getattribute__" = some (some (.builtin "BaseException.__getattribute__")))
  (vo37:W.findIn K (.ref Ip) "__getattr__" = some none)
  (vc37:W.findIn K (.ref Ip) "__class__" = some (some (.builtin "object.__class__")))
  (vb37:W.mroIn K Ip (.type "BaseException")=some true)
  (vj37:W.mroIn K Ip (.type "object")=some true)
  (vi37:(W.clsIn K Ip).isSome=true)
  (vx37:W.excIn K Ip Lc "ValueError.__new__" = true)
  (vn38:nameIn K Iq=some "TooMuch")
  (vg38:W.findIn K (.ref Iq) "__getattribute__" = some (some (.builtin "BaseException.__getattribute__")))
  (vo38:W.findIn K (.ref Iq) "__getattr__" = some none)
  (vc38:W.findIn K (.ref Iq) "__class__" = some (some (.builtin "object.__class__")))
  (vb38:W.mroIn K Iq (.type "BaseException")=some true)
  (vj38:W.mroIn K Iq (.type "object")=some true)
  (vi38:(W.clsIn K Iq).isSome=true)
  (vx38:W.excIn K Iq Lc "ValueError.__new__" = true)
  (vn39:nameIn K Ir=some "NoFace")
  (vg39:W.findIn K (.ref Ir) "__getattribute__" = some (some (.builtin "BaseException.__getattribute__")))
  (vo39:W.findIn K (.ref Ir) "__getattr__" = some none)
  (vc39:W.findIn K (.ref Ir) "__class__" = some (some (.builtin "object.__class__")))
  (vb39:W.mroIn K Ir (.type "BaseException")=some true)
  (vj39:W.mroIn K Ir (.type "object")=some true)
  (vi39:(W.clsIn K Ir).isSome=true)
  (vx39:W.excIn K Ir Lc "ValueError.__new__" = true)
  (vn40:nameIn K Iu=some "BadShare")
  (vg40:W.findIn K (.ref Iu) "__getattribute__" = some (some (.builtin "BaseException.__getattribute__")))
  (vo40:W.findIn K (.ref Iu) "__getattr__" = some none)
  (vc40:W.findIn K (.ref Iu) "__class__" = some (some (.builtin "object.__class__")))
  (vb40:W.mroIn K Iu (.type "BaseException")=some true)
  (vj40:W.mroIn K Iu (.type "object")=some true)
  (vi40:(W.clsIn K Iu).isSome=true)
  (vx40:W.excIn K Iu Lc "ValueError.__new__" = true)
  (z0:W.nsIn K mainGlobals "len" = some none)
  (z1:W.nsIn K mainGlobals "sum" = some none)
  (z2:W.nsIn K mainGlobals "min" = some none)
  (z3:W.nsIn K mainGlobals "max" = some none)
  (z4:W.nsIn K mainGlobals "sorted" = some none)
  (z5:W.nsIn K mainGlobals "list" = some none)
  (z6:W.nsIn K mainGlobals "tuple" = some none)
  (z7:W.nsIn K mainGlobals "ord" = some none)
  (z8:W.nsIn K mainGlobals "int" = some none)
  (z9:W.nsIn K mainGlobals "all" = some none)
  (z10:W.nsIn K mainGlobals "any" = some none)
  (z11:W.nsIn K mainGlobals "str" = some none)
  (z12:W.nsIn K mainGlobals "set" = some none)
  (z13:W.nsIn K mainGlobals "abs" = some none)
  (z14:W.nsIn K mainGlobals "isinstance" = some none)
  (z15:W.nsIn K mainGlobals "range" = some none)
  (z16:W.nsIn K mainGlobals "bool" = some none)
  (z17:W.nsIn K mainGlobals "zip" = some none)
  (z18:W.nsIn K mainGlobals "reversed" = some none)
  (z19:W.nsIn K mainGlobals "dict" = some none) :
  ∃ fd:FuncData,(∀ (s:Shared) (v:Value),BindsTo s fd ⟨[v],[]⟩ [(uf,v)])/\∀ base:Heap,K.In base->base.Ns mainGlobals mg->EL l.prog w K mg base (EH l.prog w) (12+1) fa fd [uf] (Lo K (aa T (12+1)) ue [uf]):=by
 have e:=Pa.symm.trans (PySem.W.mg_of X G a36)
 cases e
 have t:FA K mg Z T:=by
  constructor
  case HU=>
   exact yX
  case blt=>
   exact fun n x hx=>by
    have key:∀ y∈a8,mg y=none:=by
     intro y hy
     simp only[a8,List.mem_cons,List.not_mem_nil,or_false] at hy
     rcases hy with rfl|rfl|rfl|rfl|rfl|rfl|rfl|rfl|rfl|rfl|rfl|rfl|rfl|rfl|rfl|rfl|rfl|rfl|rfl|rfl
     ·exact W.mg_none_of X G z0
     ·exact W.mg_none_of X G z1
     ·exact W.mg_none_of X G z2
     ·exact W.mg_none_of X G z3
     ·exact W.mg_none_of X G z4
     ·exact W.mg_none_of X G z5
     ·exact W.mg_none_of X G z6
     ·exact W.mg_none_of X G z7
     ·exact W.mg_none_of X G z8
     ·exact W.mg_none_of X G z9
     ·exact W.mg_none_of X G z10
     ·exact W.mg_none_of X G z11
     ·exact W.mg_none_of X G z12
     ·exact W.mg_none_of X G z13
     ·exact W.mg_none_of X G z14
     ·exact W.mg_none_of X G z15
     ·exact W.mg_none_of X G z16
     ·exact W.mg_none_of X G z17
     ·exact W.mg_none_of X G z18
     ·exact W.mg_none_of X G z19
    exact key x (List.mem_of_getElem? hx)
  case cst=>
   exact fun n d x hm hx=>by
    have Hs:(n,d)∈([(20,(.int 10007))]:List (Nat×D)):=hm
    simp only[List.mem_cons,List.not_mem_nil,or_false,Prod.mk.injEq] at Hs
    rcases Hs with ⟨rfl,rfl⟩
    ·cases hx;exact⟨_,.int _,PySem.W.mg_of X G q20,⟨_,rfl⟩,fun _ _=>.int _⟩
  case fns=>
   exact fun f hf x hx=>by
    have Gh:f∈([21,22,23,24,25,26,27,28,29,30,31,32,33,35,36]:List Nat):=hf
    simp only[List.mem_cons,List.not_mem_nil,or_false] at Gh
    rcases Gh with rfl|rfl|rfl|rfl|rfl|rfl|rfl|rfl|rfl|rfl|rfl|rfl|rfl|rfl|rfl
    ·cases hx;exact T9
    ·cases hx;exact Ua
    ·cases hx;exact Ub
    ·cases hx;exact Uc
    ·cases hx;exact Ud
    ·cases hx;exact Ue
    ·cases hx;exact Ug
    ·cases hx;exact Uh
    ·cases hx;exact Ui
    ·cases hx;exact Uj
    ·cases hx;exact Uk
    ·cases hx;exact Ul
    ·cases hx;exact Um
    ·cases hx;exact Up
    ·cases hx;exact dfo Rj rfl (fun _ _ _ _ _ _=>ln1 fun _=>rfl) X G a36 l36 e36 k36
  case Ft=>
   exact fun f hf x hx=>by
    have Gh:f∈([34]:List Nat):=hf
    simp only[List.mem_cons,List.not_mem_nil,or_false] at Gh
    rcases Gh with rfl
    ·cases hx;exact Uo
  case QI=>
   exact fun f hf=>absurd (show f∈([]:List Nat) from hf) (by simp)
  case I0=>
   exact fun n hn=>absurd (show n∈([]:List Nat) from hn) (by simp)
  case Ja=>
   exact fun c n b x hm=>absurd (show (c,n,b)∈([]:List (Str×Nat×Bool)) from hm) (by simp)
  case Jb=>
   exact fun c n x hm=>absurd (show (c,n)∈([]:List (Str×Nat)) from hm) (by simp)
  case HV=>
   exact fun n c hm=>by
    have Hs:(n,c)∈([(37,"Twice"),(38,"TooMuch"),(39,"NoFace"),(40,"BadShare")]:List (Nat×Str)):=hm
    simp only[List.mem_cons,List.not_mem_nil,or_false,Prod.mk.injEq] at Hs
    rcases Hs with ⟨rfl,rfl⟩|⟨rfl,rfl⟩|⟨rfl,rfl⟩|⟨rfl,rfl⟩
    ·exact⟨rfl,Ip,PySem.W.mg_of X G u37,u37,vx37⟩
    ·exact⟨rfl,Iq,PySem.W.mg_of X G u38,u38,vx38⟩
    ·exact⟨rfl,Ir,PySem.W.mg_of X G u39,u39,vx39⟩
    ·exact⟨rfl,Iu,PySem.W.mg_of X G u40,u40,vx40⟩
 exact⟨PySem.W.fnOf "law" "law" (bM (top 25)) (aO (top 25)) (av (top 25)) .none MC MD ME MB KS MF,fun s v=>.of_eq rfl,fun base _ _=>yJ t 12 (by decide) (f:=36) (fn:=JM) rfl (e6 (st:=top 25) l36 e36 k36) (jF Rj)⟩
end Law
namespace L2
open PySem PySem.Spec PyProof.Rows PySem.SeqAt
namespace Fr
variable {T:Tb}
theorem cell {f:Nat}{fn:Fn}(hT:T f=some fn)(h0:fn.io=none)(h1:fn.np=2)(h2:fn.G.N.length=2)(h3:fn.body=wD)(n:Nat)(ns:List Int)(k:Int)(hk:0<=k):aa T (n+1) f [.lst false (ns.map .int),.int k]=.ok (.int (ns.getD k.toNat 0)):=by
 rw[Ev.go hT h0 h1 h2 h3 rfl]
 unfold wD
 by_cases h:k < (ns.length:Int)
 ·have hd:decide (k < (((ns.map D.int).length:Nat):Int))=true:=decide_eq_true (by rw[List.length_map];exact h)
  simp -implicitDefEqProofs (disch:=omega) only[DK,Nat.reduceBEq,Nat.reduceSub,Nat.reduceAdd,reduceIte,hd]
 ·have hd:decide (k < (((ns.map D.int).length:Nat):Int))=false:=decide_eq_false (by rw[List.length_map];exact h)
  simp -implicitDefEqProofs (disch:=omega) only[DK,Nat.reduceBEq,Nat.reduceSub,Nat.reduceAdd,reduceIte,hd]
  rw[List.getD_eq_getElem?_getD,List.getElem?_eq_none (by omega)]
  rfl
noncomputable def iK:List IS:=[(.asg (.nm 3) (.bin .mod (.bin .add (.bin .add (.bin .mul (.v 3) (.c (.int 48271))) (.bin .mul (.bin .mul (.c (.int 7)) (.v 4)) (.v 4))) (.c (.int 3))) (.c (.int 2147483647)))),(.app 2 (.bin .fdiv (.v 3) (.c (.int 16))))]
noncomputable def lU:List IS:=[(.asg (.nm 2) (.lst [])),(.asg (.nm 3) (.bin .add (.bin .mod (.v 0) (.c (.int 2147483647))) (.c (.int 1)))),(.DZ (.nm 4) (.Eb (.v 1)) iK),(.ret (.v 2))]
theorem stream {f:Nat}{fn:Fn}(hT:T f=some fn)(h0:fn.io=none)(h1:fn.np=2)(h2:fn.G.N.length=5)(h3:fn.body=lU)(n:Nat)(c m:Int)(Vo:0<=m)(hm:m<=1000) :
  ∃ xs:List Int,aa T (n+1) f [.int c,.int m]=.ok (.lst true (xs.map .int))/\xs.length=m.toNat/\∀ x∈xs,0<=x:=by
 rw[Ev.go hT h0 h1 h2 h3 rfl]
 unfold lU
 obtain⟨Di,e,xs,num,kk,rfl,hl,hx,hn⟩:=Ev.lT (its:=bI 0 m) (τ:=[some (.int c),some (.int m),some (.lst true []),some (.int (c % 2147483647+1)),none]) (body:=Ev.turn (aa T n) (.nm 4) iK)
  (fun i τ=>∃ (xs:List Int) (num:Int) (kk:Option D),τ=[some (.int c),some (.int m),some (.lst true (xs.map .int)),some (.int num),kk]/\xs.length=i/\(∀ x∈xs,0<=x)/\0<=num)
  ⟨[],_,none,rfl,rfl,fun x hx=>absurd hx (by simp),by have:=Int.emod_nonneg c (show (2147483647:Int)≠0 by decide);omega⟩ (by
   rintro i x τ hx ⟨xs,num,kk,rfl,hl,Uq,hn⟩
   have hi:i < m.toNat:=by
    have:=(List.getElem?_eq_some_iff.mp hx).1
    rw[cu] at this
    omega
   unfold bI at hx
   rw[List.getElem?_map,List.getElem?_range (by omega)] at hx
   have EZ:D.int (0+(i:Nat))=x:=Option.some.inj hx
   subst EZ
   refine⟨[some (.int c),some (.int m),some (.lst true ((xs++[(num*48271+7*(0+(i:Int))*(0+(i:Int))+3) % 2147483647 / 16]).map .int)),some (.int ((num*48271+7*(0+(i:Int))*(0+(i:Int))+3) % 2147483647)),some (.int (0+(i:Nat)))],?_,_,_,_,rfl,by rw[List.length_append,List.length_singleton,hl],fun x hx=>?_,Int.emod_nonneg _ (by decide)⟩
   ·unfold iK
    simp -implicitDefEqProofs (disch:=omega) only[DK,Nat.reduceBEq,Nat.reduceSub,Nat.reduceAdd,reduceIte,Ev.aJ,List.map_append,List.length_map]
   ·rcases List.mem_append.mp hx with hx|hx
    ·exact Uq x hx
    ·rw[List.mem_singleton] at hx
     rw[hx]
     exact Int.ediv_nonneg (Int.emod_nonneg _ (by decide)) (by decide))
 refine⟨xs,?_,?_,hx⟩
 ·simp -implicitDefEqProofs (disch:=omega) only[DK,Nat.reduceBEq,Nat.reduceSub,Nat.reduceAdd,reduceIte,e]
 ·rw[hl,cu];omega
noncomputable def one (c:Nat):Str:=⟨#[c]⟩
noncomputable def DR (cs:List Nat):Str:=⟨cs.toArray⟩
theorem qR:(Str.ofString "abcdefghijklmnopqrstuvwxyz").cps.toList=List.range' 97 26:=by decide +kernel
theorem lV:(Str.ofString "abcdefghijklmnopqrstuvwxyz").length=26:=by decide +kernel
theorem qS {i:Int}(h0:0<=i)(h1:i < 26):aW (.str "abcdefghijklmnopqrstuvwxyz") (.int i)=.ok (.str (one (97+i.toNat))):=by
 rw[Ev.OX h0 (by rw[lV];exact h1) (by rw[lV];decide),qR]
 have:(List.range' 97 26).getD i.toNat 0=97+i.toNat:=by
  rw[List.getD_eq_getElem?_getD,List.getElem?_range' (by omega)]
  show 97+1*i.toNat=_
  omega
 rw[this]
 rfl
theorem c9 (cs:List Nat):(DR cs).length=cs.length:=by unfold DR Str.length;simp
theorem ug (c:Nat):(one c).length=1:=rfl
theorem gN:∀ (cs:List Nat) (acc:Array Nat),(cs.map one).foldl (fun acc p=>acc++(Str.ofString "").cps++p.cps) acc=acc++cs.toArray
 | [],acc=>by simp
 | c::cs,acc=>by
  have e:(Str.ofString "").cps = #[]:=by decide +kernel
  rw[List.map_cons,List.foldl_cons,gN cs,e]
  show acc++#[]++#[c]++cs.toArray=_
  simp
theorem join_one (cs:List Nat):Txt.join "" (cs.map one)=DR cs:=by
 show (⟨((cs.map one).drop 1).foldl (fun acc p=>acc++(Str.ofString "").cps++p.cps) ((cs.map one).headD Str.empty).cps⟩:Str)=_
 cases cs with
 | nil=>rfl
 | cons c cs=>
  rw[List.map_cons,List.drop_succ_cons,List.drop_zero,List.headD_cons,gN]
  unfold DR one
  simp
theorem uh (cs:List Nat):((cs.map one).map (fun y:Str=>y.length)).sum=cs.length:=by
 induction cs with
 | nil=>rfl
 | cons c cs ih=>
  rw[List.map_cons,List.map_cons,List.sum_cons,ih,List.length_cons,ug]
  omega
theorem ui {o:Bool}{cs:List Nat}(h:cs.length<=1000):fy .join (.str "") [.lst o ((cs.map one).map .str)]=.ok (.str (DR cs)):=by
 have e:(Str.ofString "").length=0:=by decide +kernel
 rw[Ev.ub (by rw[uh,List.length_map,e];omega),join_one]
theorem fQ {cs:List Nat}{j:Int}(h0:0<=j)(h1:j<=cs.length):Txt.slice (DR cs) none (some j)=DR (cs.take j.toNat):=by
 have:=StrLaws.sliceText_to (x:=DR cs) (j:=j) ⟨h0,by show j<=(cs.toArray.toList.length:Nat);simpa using h1⟩
 refine this.trans ?_
 show (⟨((cs.toArray.toList.drop 0).take (j - 0).toNat).toArray⟩:Str)=⟨(cs.take j.toNat).toArray⟩
 rw[List.toList_toArray,List.drop_zero,Int.sub_zero]
theorem km {cs:List Nat}{i:Int}(h0:0<=i)(h1:i<=cs.length):Txt.slice (DR cs) (some i) none=DR (cs.drop i.toNat):=by
 have:=StrLaws.sliceText_from (x:=DR cs) (i:=i) ⟨h0,by show i<=(cs.toArray.toList.length:Nat);simpa using h1⟩
 refine this.trans ?_
 show (⟨((cs.toArray.toList.drop i.toNat).take ((cs.toArray.toList.length:Int) - i).toNat).toArray⟩:Str)=⟨(cs.drop i.toNat).toArray⟩
 rw[List.toList_toArray,List.take_of_length_le (by rw[List.length_drop];omega)]
theorem uj (a b:List Nat):DR a++DR b=DR (a++b):=by
 show (⟨a.toArray++b.toArray⟩:Str)=⟨(a++b).toArray⟩
 rw[List.append_toArray]
theorem lW {a b:List Nat}(h:a.length+b.length<=1000):Fm .add (.str (DR a)) (.str (DR b))=.ok (.str (DR (a++b))):=by
 rw[Ev.kh,Ev.eD (by rw[c9,c9];omega),uj]
 rfl
end Fr
end L2
namespace Law
open PySem PySem.Spec L2 L2.Fr
theorem lX {a b:List Nat}(h:DR a=DR b):a=b:=by
 unfold DR at h
 injection h with h
 simpa using congrArg Array.toList h
theorem fR (fs:List Str):Dx (fs.map .str)=fs.map D.str:=Ev.kl fs
theorem ko (fs:List Str):ak (fs.map D.str)=true:=Ev.uc fs
noncomputable def ch (c k:Int):Nat:=97+((c / 3+7*k) % 26).toNat
theorem iL {α β:Type} [DecidableEq β](f:α->β):∀ {l:List α},l.Nodup->(∀ x∈l,∀ y∈l,f x=f y->x=y)->(l.map f).Nodup
 | [],_,_=>.nil
 | a::l,h,hf=>by
  rw[List.nodup_cons] at h
  rw[List.map_cons,List.nodup_cons]
  refine⟨fun z=>?_,iL f h.2 fun x hx y hy=>hf x (List.mem_cons_of_mem _ hx) y (List.mem_cons_of_mem _ hy)⟩
  obtain⟨x,hx,e⟩:=List.mem_map.mp z
  have:=hf x (List.mem_cons_of_mem _ hx) a (by simp) e
  exact h.1 (this ▸ hx)
noncomputable def ks (m:Int):List Int:=(List.range (m - 0).toNat).map fun k=>0+((k:Nat):Int)
theorem wF (m:Int):(ks m).Nodup:=iL _ List.nodup_range fun x _ y _ e=>by omega
theorem gO {m x:Int}(h:x∈ks m):0<=x/\x < m:=by
 obtain⟨k,hk,rfl⟩:=List.mem_map.mp h
 have:=List.mem_range.mp hk
 omega
theorem kq (m:Int):(ks m).length=(m - 0).toNat:=by unfold ks;rw[List.length_map,List.length_range]
structure Ur (m:Int)(fs:List Str):Prop where
 len:fs.length=(m - 0).toNat
 DJ:fs.Nodup
 rep:∀ f∈fs,(reprText f).length<=1000
theorem lY {cs:List Nat}(h:∀ c∈cs,c < 1000)(hl:cs.length<=90):(reprText (DR cs)).length<=1000:=by
 have h1:=StrLaws.reprText_len (DR cs) (fun c hc=>by have:=h c (by simpa[DR] using hc);omega)
 rw[c9] at h1
 omega
theorem qT (n:Nat)(c m:Int)(h0:0<=m)(h1:m<=12):∃ fs:List Str,aa T (n+2) 32 [.int c,.int m]=.ok (.lst true (fs.map .str))/\Ur m fs:=by
 obtain⟨xs,ex,lx,px⟩:=stream (show T 31=some My from rfl) rfl rfl rfl rfl n (c / 3) 8 (by omega) (by omega)
 have e1:ba (bu (aa T (n+1)) (.nm 1) [] (.idx (.v 0) (.bin .mod (.v 1) (.c (.int 26)))) [some (.str "abcdefghijklmnopqrstuvwxyz"),none]) (xs.map .int)=.ok (((xs.map fun x=>97+(x % 26).toNat).map one).map .str):=by
  have hg:(xs.map fun x=>97+(x % 26).toNat).map one=xs.map fun x:Int=>one (97+(x % 26).toNat):=by
   rw[List.map_map]
   rfl
  rw[hg]
  refine Ev.bU D.int (fun x:Int=>one (97+(x % 26).toNat)) .str _ fun x hx=>?_
  have Vp:=Int.emod_nonneg x (show (26:Int)≠0 by decide)
  have Us:=Int.emod_lt_of_pos x (show (0:Int) < 26 by decide)
  simp -implicitDefEqProofs (disch:=omega) only[DK,Nat.reduceBEq,Nat.reduceSub,Nat.reduceAdd,reduceIte,qS]
 have lb:(xs.map fun x=>97+(x % 26).toNat).length=8:=by rw[List.length_map,lx];rfl
 have Rk:∀ c∈(xs.map fun x=>97+(x % 26).toNat),c < 1000:=fun c hc=>by
  obtain⟨x,_,rfl⟩:=List.mem_map.mp hc
  have Us:=Int.emod_lt_of_pos x (show (0:Int) < 26 by decide)
  omega
 generalize (xs.map fun x=>97+(x % 26).toNat)=cs at *
 have MG:(xs.map D.int).length=8:=by rw[List.length_map,lx];rfl
 have je:∀ o:Bool,fy .join (.str "") [.lst o ((cs.map one).map .str)]=.ok (.str (DR cs)):=fun o=>ui (by omega)
 generalize (cs.map one).map D.str=J at *
 generalize xs.map D.int=X at *
 have rk:bI 0 m=(ks m).map .int:=Ev.qQ 0 m
 have lk:((ks m).map D.int).length=(m - 0).toNat:=by rw[List.length_map,kq]
 by_cases hb:c % 3=1/\m<=8
 ·have b1:(c % 3 == 1)=true:=by rw[hb.1];rfl
  have b2:decide (m<=8)=true:=decide_eq_true hb.2
  have e2:ba (bu (aa T (n+1)) (.nm 1) [] (.sl (.v 0) none (some (.bin .add (.v 1) (.c (.int 1))))) [some (.str (DR cs)),none]) ((ks m).map .int)=.ok (((ks m).map fun k=>DR (cs.take (k+1).toNat)).map .str):=by
   refine Ev.bU D.int (fun k:Int=>DR (cs.take (k+1).toNat)) .str _ fun k hk=>?_
   obtain⟨k0,k1⟩:=gO hk
   have es:=fQ (cs:=cs) (j:=k+1) (by omega) (by omega)
   have sl:=c9 cs
   have s8:(DR cs).length<=16777216:=by omega
   simp -implicitDefEqProofs (disch:=omega) only[DK,Nat.reduceBEq,Nat.reduceSub,Nat.reduceAdd,reduceIte,es]
  refine⟨(ks m).map fun k=>DR (cs.take (k+1).toNat),?_,by rw[List.length_map,kq],iL _ (wF m) fun x hx y hy e=>?_,fun f hf=>?_⟩
  ·rw[Ev.go (show T 32=some HA from rfl) (show HA.io=none from rfl) (show HA.np=2 from rfl) (show HA.G.N.length=5 from rfl) (show HA.body=Mz from rfl) rfl];unfold Mz
   generalize ((ks m).map fun k=>DR (cs.take (k+1).toNat))=F at *
   have ff:=ko F
   generalize (ks m).map D.int=KK at *
   simp -implicitDefEqProofs (disch:=omega) only[DK,Nat.reduceBEq,Nat.reduceSub,Nat.reduceAdd,reduceIte,ex,e1,je,b1,b2,rk,e2,MG,lk,ff]
  ·obtain⟨x0,x1⟩:=gO hx
   obtain⟨y0,y1⟩:=gO hy
   have:=congrArg List.length (lX e)
   rw[List.length_take,List.length_take] at this
   omega
  ·obtain⟨k,_,rfl⟩:=List.mem_map.mp hf
   exact lY (fun c hc=>Rk c (List.mem_of_mem_take hc)) (by rw[List.length_take];omega)
 ·have b3:((c % 3 == 1)&&decide (m<=8))=false:=by
   rw[Bool.and_eq_false_iff]
   by_cases hc:c % 3=1
   ·exact .inr (decide_eq_false fun z=>hb ⟨hc,z⟩)
   ·exact .inl (by simpa using hc)
  have m0:=Int.emod_nonneg (c / 3) (show (8:Int)≠0 by decide)
  have m1:=Int.emod_lt_of_pos (c / 3) (show (0:Int) < 8 by decide)
  have es:=fQ (cs:=cs) (j:=1+c / 3 % 8) (by omega) (by omega)
  have Vq:(cs.take (1+c / 3 % 8).toNat).length=(1+c / 3 % 8).toNat:=by rw[List.length_take];omega
  have sl:=c9 cs
  have hB:∀ c'∈cs.take (1+c / 3 % 8).toNat,c' < 1000:=fun c' hc=>Rk c' (List.mem_of_mem_take hc)
  generalize cs.take (1+c / 3 % 8).toNat=B at *
  have Ut:=c9 B
  have hlen:((DR B).length:Int)=1+c / 3 % 8:=by rw[Ut];omega
  have a0:=Int.emod_nonneg (c / 24) (show ((DR B).length:Int)≠0 by omega)
  have a1:=Int.emod_lt_of_pos (c / 24) (show (0:Int) < ((DR B).length:Int) by omega)
  generalize IQ:c / 24 % ((DR B).length:Int)=at' at *
  have Gs:=fQ (cs:=B) (j:=at') (by omega) (by omega)
  have Uu:=km (cs:=B) (i:=at' + 1) (by omega) (by omega)
  have la:(B.take at'.toNat).length<=8:=by rw[List.length_take];omega
  have lc:(B.drop (at' + 1).toNat).length<=8:=by rw[List.length_drop];omega
  have hA:∀ c'∈B.take at'.toNat,c' < 1000:=fun c' hc=>hB c' (List.mem_of_mem_take hc)
  have hC:∀ c'∈B.drop (at' + 1).toNat,c' < 1000:=fun c' hc=>hB c' (List.mem_of_mem_drop hc)
  generalize B.take at'.toNat=A at *
  generalize B.drop (at' + 1).toNat=C at *
  have e2:ba (bu (aa T (n+1)) (.nm 4) [] (.bin .add (.bin .add (.sl (.v 0) none (some (.v 1))) (.idx (.v 2) (.bin .mod (.bin .add (.bin .fdiv (.v 3) (.c (.int 3))) (.bin .mul (.c (.int 7)) (.v 4))) (.c (.int 26))))) (.sl (.v 0) (some (.bin .add (.v 1) (.c (.int 1)))) none)) [some (.str (DR B)),some (.int at'),some (.str "abcdefghijklmnopqrstuvwxyz"),some (.int c),none]) ((ks m).map .int)=.ok (((ks m).map fun k=>DR (A++[ch c k]++C)).map .str):=by
   refine Ev.bU D.int (fun k:Int=>DR (A++[ch c k]++C)) .str _ fun k hk=>?_
   obtain⟨k0,k1⟩:=gO hk
   have r0:=Int.emod_nonneg (c / 3+7*k) (show (26:Int)≠0 by decide)
   have r1:=Int.emod_lt_of_pos (c / 3+7*k) (show (0:Int) < 26 by decide)
   have f0:=qS r0 r1
   rw[show one (97+((c / 3+7*k) % 26).toNat)=DR [ch c k] from rfl] at f0
   have f1:Fm .add (.str (DR A)) (.str (DR [ch c k]))=.ok (.str (DR (A++[ch c k]))):=lW (by rw[List.length_cons,List.length_nil];omega)
   have f2:Fm .add (.str (DR (A++[ch c k]))) (.str (DR C))=.ok (.str (DR (A++[ch c k]++C))):=lW (by rw[List.length_append,List.length_cons,List.length_nil];omega)
   generalize DR (A++[ch c k]++C)=W3 at *
   generalize DR (A++[ch c k])=W2 at *
   generalize DR [ch c k]=W1 at *
   have s8:(DR B).length<=16777216:=by omega
   simp -implicitDefEqProofs (disch:=omega) only[DK,Nat.reduceBEq,Nat.reduceSub,Nat.reduceAdd,reduceIte,Gs,Uu,f0,f1,f2]
  refine⟨(ks m).map fun k=>DR (A++[ch c k]++C),?_,by rw[List.length_map,kq],iL _ (wF m) fun x hx y hy e=>?_,fun f hf=>?_⟩
  ·rw[Ev.go (show T 32=some HA from rfl) (show HA.io=none from rfl) (show HA.np=2 from rfl) (show HA.G.N.length=5 from rfl) (show HA.body=Mz from rfl) rfl];unfold Mz
   generalize ((ks m).map fun k=>DR (A++[ch c k]++C))=F at *
   have ff:=ko F
   generalize (ks m).map D.int=KK at *
   have s8:(DR cs).length<=16777216:=by omega
   have s9:(DR B).length<=16777216:=by omega
   have sp:(0:Int) < ((DR B).length:Int):=by omega
   cases q1:(c % 3 == 1) with
   | true=>
    cases q2:decide (m<=8) with
    | true=>rw[q1,q2] at b3;cases b3
    | false=>simp -implicitDefEqProofs (disch:=omega) only[DK,Nat.reduceBEq,Nat.reduceSub,Nat.reduceAdd,reduceIte,ex,e1,je,q1,q2,rk,e2,MG,lk,ff,es,IQ]
   | false=>simp -implicitDefEqProofs (disch:=omega) only[DK,Nat.reduceBEq,Nat.reduceSub,Nat.reduceAdd,reduceIte,ex,e1,je,q1,rk,e2,MG,lk,ff,es,IQ]
  ·obtain⟨x0,x1⟩:=gO hx
   obtain⟨y0,y1⟩:=gO hy
   have e3:=lX e
   rw[List.append_assoc,List.append_assoc] at e3
   have e4:=List.append_cancel_left e3
   have e5:ch c x=ch c y:=by
    rw[List.singleton_append,List.singleton_append] at e4
    exact(List.cons.inj e4).1
   unfold ch at e5
   omega
  ·obtain⟨k,_,rfl⟩:=List.mem_map.mp hf
   have r1:=Int.emod_lt_of_pos (c / 3+7*k) (show (0:Int) < 26 by decide)
   refine lY (fun c' hc=>?_) (by simp only[List.length_append,List.length_cons,List.length_nil];omega)
   rcases List.mem_append.mp hc with hc|hc
   ·rcases List.mem_append.mp hc with hc|hc
    ·exact hA c' hc
    ·rw[List.mem_singleton.mp hc]
     unfold ch
     omega
   ·exact hC c' hc
theorem lZ:∀ (l σ:List Str),(σ++l).Nodup->l.foldl Sx.dd σ=σ++l
 | [],σ,_=>by simp
 | v::l,σ,h=>by
  have hv:¬ (σ.any (· == v))=true:=fun z=>by
   obtain⟨a,ha,e⟩:=List.any_eq_true.mp z
   have e':a=v:=by simpa using e
   subst e'
   exact(List.nodup_append.mp h).2.2 a ha a (by simp) rfl
  have e:Sx.dd σ v=σ++[v]:=by unfold Sx.dd;rw[if_neg hv]
  rw[List.foldl_cons,e,lZ l (σ++[v]) (by rw[List.append_assoc];exact h),List.append_assoc]
  rfl
theorem yY {fs:List Str}(h:fs.Nodup)(hl:fs.length < 1000)(o:Bool):kM (.lst o (fs.map .str))=.ok (.int (fs.length:Nat)):=by
 show (match bB (fs.map .str) with|some ys=>Dk (decide (ys.length < 1000)) (.ok (.int ((ys.foldl Sx.dd []).length:Nat)))|none=>Dq)=(_:Res D)
 rw[Ev.jJ]
 show Dk (decide _) _=_
 rw[decide_eq_true hl,lZ fs [] h]
 rfl
noncomputable def row (f:Str):D:=.tup [.str f,.lst false []]
noncomputable def Nq (fs:List Str):D:=.tup [.lst true (fs.map row),.lst true [.tup [.int 0,.int 10007]]]
theorem uk (cl:Nat->List D->Res D)(fs:List Str):ba (bu cl (.nm 0) [] (.tup [(.v 0),(.lst [])]) [none]) (fs.map .str)=.ok (fs.map fun f=>.tup [.str f,.lst true []]):=by
 have:=Ev.bU (g:=bu cl (.nm 0) [] (.tup [(.v 0),(.lst [])]) [none]) D.str (fun f:Str=>f) (fun f=>D.tup [.str f,.lst true []]) fs fun f _=>by
  simp -implicitDefEqProofs (disch:=omega) only[DK,Nat.reduceBEq,Nat.reduceSub,Nat.reduceAdd,reduceIte]
 rw[this,List.map_id']
theorem um (fs:List Str):Dx (fs.map fun f=>D.tup [.str f,.lst true []])=fs.map row:=by
 rw[bE,List.map_map]
 rfl
theorem uo (fs:List Str):ak (fs.map fun f=>D.tup [.str f,.lst true []])=fs.isEmpty:=by
 cases fs<;>rfl
theorem yZ (n:Nat)(fs:List Str)(h:fs.Nodup)(hl:fs.length<=50):aa T (n+1) 24 [.lst false (fs.map .str)]=.ok (Nq fs):=by
 have e1:=yY h (by omega)
 have e2:=uk (aa T n) fs
 have e3:=um fs
 have e4:=uo fs
 have lm:(fs.map D.str).length=fs.length:=List.length_map _
 have hd:decide ((fs.length:Int) < (fs.length:Int))=false:=decide_eq_false (by omega)
 have el:fs.isEmpty=true->(fs.map fun f=>D.tup [.str f,.lst true []])=fs.map row:=fun z=>by
  cases fs with
  | nil=>rfl
  | cons _ _=>cases z
 unfold Nq
 rw[Ev.go (show T 24=some KH from rfl) (show KH.io=none from rfl) (show KH.np=1 from rfl) (show KH.G.N.length=1 from rfl) (show KH.body=O1 from rfl) rfl];unfold O1
 generalize (fs.map fun f=>D.tup [.str f,.lst true []])=R at *
 generalize fs.map row=R' at *
 generalize fs.map D.str=S at *
 cases z:fs.isEmpty with
 | true=>
  have Uv:=el z
  rw[z] at e4
  subst Uv
  simp -implicitDefEqProofs (disch:=omega) only[DK,Nat.reduceBEq,Nat.reduceSub,Nat.reduceAdd,reduceIte,e1,e2,e3,e4,lm,hd]
 | false=>
  rw[z] at e4
  simp -implicitDefEqProofs (disch:=omega) only[DK,Nat.reduceBEq,Nat.reduceSub,Nat.reduceAdd,reduceIte,e1,e2,e3,e4,lm,hd]
end Law
namespace L2
open PySem PySem.Spec PyProof.Rows PySem.SeqAt
namespace Rn
variable {T:Tb}
noncomputable abbrev Pr:=Int×Int
noncomputable def Dr (p:Pr):D:=.tup [.int p.1,.int p.2]
theorem l5 (run:List Pr):ak (run.map Dr)=true:=by
 rw[bc,List.all_map,List.all_eq_true]
 intro x _
 rfl
theorem bH (run:List Pr):Dx (run.map Dr)=run.map Dr:=bA (l5 run)
noncomputable def cnt:List Pr->Int
 | []=>0
 | p::r=>(p.2 - p.1)+cnt r
noncomputable def Ds (p:Pr)(w:Int):Int:=if p.2 < p.1+w then p.2 else p.1+w
theorem y6 (p:Pr)(w:Int):(if p.1+w < p.2 then p.1+w else p.2)=Ds p w:=by
 unfold Ds
 split<;>split<;>omega
noncomputable def aG:List Pr->List Pr->List Pr->Int->List Pr×List Pr
 | [],A,B,_=>(A,B)
 | p::r,A,B,w=>aG r (if p.1 < Ds p w then A++[(p.1,Ds p w)] else A) (if Ds p w < p.2 then B++[(Ds p w,p.2)] else B) (w - (Ds p w - p.1))
theorem fS:∀ (r A B:List Pr) (w:Int),(aG r A B w).1.length<=A.length+r.length/\(aG r A B w).2.length<=B.length+r.length
 | [],A,B,w=>⟨Nat.le_refl _,Nat.le_refl _⟩
 | p::r,A,B,w=>by
  obtain⟨h1,h2⟩:=fS r (if p.1 < Ds p w then A++[(p.1,Ds p w)] else A) (if Ds p w < p.2 then B++[(Ds p w,p.2)] else B) (w - (Ds p w - p.1))
  have a1:(if p.1 < Ds p w then A++[(p.1,Ds p w)] else A).length<=A.length+1:=by split<;>simp
  have a2:(if Ds p w < p.2 then B++[(Ds p w,p.2)] else B).length<=B.length+1:=by split<;>simp
  unfold aG
  rw[List.length_cons]
  exact⟨by omega,by omega⟩
noncomputable def JN:List IS:=[(.asg (.nm 7) (.bi .min2 [(.bin .add (.v 5) (.v 4)),(.v 6)])),(.Eh (.cmp .lt (.v 5) (.v 7)) [(.app 2 (.tup [(.v 5),(.v 7)]))] []),(.Eh (.cmp .lt (.v 7) (.v 6)) [(.app 3 (.tup [(.v 7),(.v 6)]))] []),(.asg (.nm 4) (.bin .sub (.v 4) (.bin .sub (.v 7) (.v 5))))]
noncomputable def Rl:List IS:=[(.asg (.nm 2) (.lst [])),(.asg (.nm 3) (.lst [])),(.asg (.nm 4) (.v 1)),(.DZ (.tp [(.nm 5),(.nm 6)]) (.val (.v 0)) JN),(.ret (.tup [(.v 2),(.v 3)]))]
theorem cf (A:List Pr)(p:Pr):(A++[p]).map Dr=A.map Dr++[.tup [.int p.1,.int p.2]]:=by rw[List.map_append];rfl
theorem uq {cl:Nat->List D->Res D}(r0 m0:D)(A B:List Pr)(hA:A.length<=1000)(hB:B.length<=1000)(w:Int)(p:Pr)(x y z:Option D) :
  Ev.turn cl (.tp [(.nm 5),(.nm 6)]) JN (Dr p) [some r0,some m0,some (.lst true (A.map Dr)),some (.lst true (B.map Dr)),some (.int w),x,y,z]=.ok (.nx [some r0,some m0,some (.lst true ((if p.1 < Ds p w then A++[(p.1,Ds p w)] else A).map Dr)),some (.lst true ((if Ds p w < p.2 then B++[(Ds p w,p.2)] else B).map Dr)),some (.int (w - (Ds p w - p.1))),some (.int p.1),some (.int p.2),some (.int (Ds p w))]):=by
 have hc:(if p.2 < p.1+w then p.2 else p.1+w)=Ds p w:=rfl
 rw[show Dr p=.tup [.int p.1,.int p.2] from rfl]
 generalize Ds p w=c at *
 by_cases c1:p.1 < c<;>by_cases c2:c < p.2
 ·have d1:decide (p.1 < c)=true:=decide_eq_true c1
  have d2:decide (c < p.2)=true:=decide_eq_true c2
  rw[if_pos c1,if_pos c2,cf,cf]
  unfold JN
  simp -implicitDefEqProofs (disch:=omega) only[DK,Nat.reduceBEq,Nat.reduceSub,Nat.reduceAdd,reduceIte,Ev.aJ,hc,d1,d2,List.length_map]
 ·have d1:decide (p.1 < c)=true:=decide_eq_true c1
  have d2:decide (c < p.2)=false:=decide_eq_false c2
  rw[if_pos c1,if_neg c2,cf]
  unfold JN
  simp -implicitDefEqProofs (disch:=omega) only[DK,Nat.reduceBEq,Nat.reduceSub,Nat.reduceAdd,reduceIte,Ev.aJ,hc,d1,d2,List.length_map]
 ·have d1:decide (p.1 < c)=false:=decide_eq_false c1
  have d2:decide (c < p.2)=true:=decide_eq_true c2
  rw[if_neg c1,if_pos c2,cf]
  unfold JN
  simp -implicitDefEqProofs (disch:=omega) only[DK,Nat.reduceBEq,Nat.reduceSub,Nat.reduceAdd,reduceIte,Ev.aJ,hc,d1,d2,List.length_map]
 ·have d1:decide (p.1 < c)=false:=decide_eq_false c1
  have d2:decide (c < p.2)=false:=decide_eq_false c2
  rw[if_neg c1,if_neg c2]
  unfold JN
  simp -implicitDefEqProofs (disch:=omega) only[DK,Nat.reduceBEq,Nat.reduceSub,Nat.reduceAdd,reduceIte,Ev.aJ,hc,d1,d2,List.length_map]
theorem l6 {cl:Nat->List D->Res D}(r0 m0:D):∀ (run A B:List Pr) (w:Int) (x y z:Option D),A.length+run.length<=1000->B.length+run.length<=1000->
  ∃ v x' y' z',forM (Ev.turn cl (.tp [(.nm 5),(.nm 6)]) JN) (run.map Dr) [some r0,some m0,some (.lst true (A.map Dr)),some (.lst true (B.map Dr)),some (.int w),x,y,z]=.ok (.nx [some r0,some m0,some (.lst true ((aG run A B w).1.map Dr)),some (.lst true ((aG run A B w).2.map Dr)),v,x',y',z'])
 | [],A,B,w,x,y,z,_,_=>⟨_,_,_,_,rfl⟩
 | p::r,A,B,w,x,y,z,h1,h2=>by
  rw[List.length_cons] at h1 h2
  rw[List.map_cons,Ev.cy,uq r0 m0 A B (by omega) (by omega)]
  have a1:(if p.1 < Ds p w then A++[(p.1,Ds p w)] else A).length<=A.length+1:=by split<;>simp
  have a2:(if Ds p w < p.2 then B++[(Ds p w,p.2)] else B).length<=B.length+1:=by split<;>simp
  exact l6 r0 m0 r _ _ _ _ _ _ (by omega) (by omega)
theorem B2 {f:Nat}{fn:Fn}(hT:T f=some fn)(h0:fn.io=none)(h1:fn.np=2)(h2:fn.G.N.length=8)(h3:fn.body=Rl)(n:Nat)(run:List Pr)(hl:run.length<=1000)(w:Int):aa T (n+1) f [.lst false (run.map Dr),.int w]=.ok (.tup [.lst true ((aG run [] [] w).1.map Dr),.lst true ((aG run [] [] w).2.map Dr)]):=by
 rw[Ev.go hT h0 h1 h2 h3 rfl]
 unfold Rl
 have pe:=bH run
 obtain⟨v,x',y',z',e⟩:=l6 (cl:=aa T n) (.lst false (run.map Dr)) (.int w) run [] [] w none none none (by simpa using hl) (by simpa using hl)
 generalize JN=tb at *
 rw[List.map_nil] at e
 simp -implicitDefEqProofs (disch:=omega) only[DK,Nat.reduceBEq,Nat.reduceSub,Nat.reduceAdd,reduceIte,pe,e]
end Rn
namespace Rn
variable {T:Tb}
theorem dh (a b:List Pr):cnt (a++b)=cnt a+cnt b:=by
 induction a with
 | nil=>show cnt b=0+cnt b;omega
 | cons p r ih=>show (p.2 - p.1)+cnt (r++b)=(p.2 - p.1)+cnt r+cnt b;rw[ih];omega
def Pos (run:List Pr):Prop:=∀ p∈run,p.1 < p.2
theorem dD {run:List Pr}(h:Pos run):0<=cnt run:=by
 induction run with
 | nil=>exact Int.le_refl _
 | cons p r ih=>
  have:=ih fun q hq=>h q (List.mem_cons_of_mem _ hq)
  have h1:=h p (.head _)
  show 0<=(p.2 - p.1)+cnt r
  omega
noncomputable def mI (x a b:Int):Int:=if a<=x/\x < b then 1 else 0
noncomputable def mc (x:Int):List Pr->Int
 | []=>0
 | p::r=>mI x p.1 p.2+mc x r
theorem eG (x:Int)(a b:List Pr):mc x (a++b)=mc x a+mc x b:=by
 induction a with
 | nil=>show mc x b=0+mc x b;omega
 | cons p r ih=>show mI x p.1 p.2+mc x (r++b)=mI x p.1 p.2+mc x r+mc x b;rw[ih];omega
theorem qU {a b c:Int}(x:Int)(h1:a<=b)(h2:b<=c):mI x a b+mI x b c=mI x a c:=by
 unfold mI
 split<;>split<;>split<;>omega
theorem B3 {a b:Int}(x:Int)(h:b<=a):mI x a b=0:=if_neg (by omega)
noncomputable def au:List Pr->List Pr->List Pr
 | [],r=>r
 | [q],[]=>[q]
 | [q],p::rs=>if q.2=p.1 then (q.1,p.2)::rs else q::p::rs
 | q::q'::l,r=>q::au (q'::l) r
theorem cz:∀ l:List Pr,au l []=l
 | []=>rfl
 | [q]=>rfl
 | q::q'::l=>by show q::au (q'::l) []=_;rw[cz (q'::l)]
theorem eI (q p:Pr)(rs:List Pr):∀ c:List Pr,au (c++[q]) (p::rs)=c++au [q] (p::rs)
 | []=>rfl
 | [x]=>rfl
 | x::y::c=>by
  show x::au (y::(c++[q])) (p::rs)=x::((y::c)++au [q] (p::rs))
  rw[<- eI q p rs (y::c)]
  rfl
theorem ur (xs:List D)(y:D):bJ (D3 39) (xs++[y]) []=.ok false:=by cases xs<;>rfl
noncomputable def Ro:List IS:=[(.Eh (.HP (.cmp .eq (.v 0) (.lst [])) (.HP (.cmp .eq (.v 1) (.lst [])) (.cmp .ne (.idx (.idx (.v 0) (.neg (.c (.int 1)))) (.c (.int 1))) (.idx (.idx (.v 1) (.c (.int 0))) (.c (.int 0)))))) [(.ret (.bin .add (.v 0) (.v 1)))] []),(.asg (.nm 2) (.tup [(.idx (.idx (.v 0) (.neg (.c (.int 1)))) (.c (.int 0))),(.idx (.idx (.v 1) (.c (.int 0))) (.c (.int 1)))])),(.ret (.bin .add (.bin .add (.sl (.v 0) none (some (.neg (.c (.int 1))))) (.lst [(.v 2)])) (.sl (.v 1) (some (.c (.int 1))) none)))]
theorem qV (xs:List D)(y:D):cF (xs++[y]) none (some (-1))=xs:=by
 show ((xs++[y]).drop 0).take (((-1:Int)+(((xs++[y]).length:Nat):Int)).toNat - 0)=xs
 rw[List.drop_zero,Nat.sub_zero,List.length_append,List.length_singleton,show ((-1:Int)+((xs.length+1:Nat):Int)).toNat=xs.length by omega]
 exact List.take_left
theorem qW (x:D)(ys:List D):cF (x::ys) (some 1) none=ys:=by
 show ((x::ys).drop (min 1 (ys.length+1))).take ((ys.length+1) - min 1 (ys.length+1))=ys
 rw[show min 1 (ys.length+1)=1 from Nat.min_eq_left (by omega)]
 exact List.take_length
theorem B4 {f:Nat}{fn:Fn}(hT:T f=some fn)(h0:fn.io=none)(h1:fn.np=2)(h2:fn.G.N.length=3)(h3:fn.body=Ro)(n:Nat)(l r:List Pr)(ll:l.length<=1000)(lr:r.length<=1000):∃ j:List Pr,aa T (n+1) f [.lst false (l.map Dr),.lst false (r.map Dr)]=.ok (.lst true (j.map Dr))/\cnt j=cnt l+cnt r/\(Pos l->Pos r->Pos j/\∀ x,mc x j=mc x l+mc x r)/\j.length<=l.length+r.length/\j=au l r:=by
 rw[Ev.go hT h0 h1 h2 h3 rfl]
 unfold Ro
 have Rp:∀ a b:List Pr,ak (a.map Dr++b.map Dr)=true:=fun a b=>by rw[<- List.map_append];exact l5 _
 rcases List.eq_nil_or_concat l with rfl|⟨c,q,rfl⟩
 ·refine⟨r,?_,by show _=0+_;omega,fun _ h=>⟨h,fun x=>by show _=0+_;omega⟩,by simp,rfl⟩
  have lf:=l5 r
  have lR:(r.map Dr).length<=1000:=by rw[List.length_map];exact lr
  rw[List.map_nil]
  generalize r.map Dr=R at *
  simp -implicitDefEqProofs (disch:=omega) only[DK,Nat.reduceBEq,Nat.reduceSub,Nat.reduceAdd,reduceIte,lf]
 ·rw[List.concat_eq_append] at *
  obtain⟨ql,qh⟩:=q
  have hlen:((c++[(ql,qh)]).map Dr).length=c.length+1:=by simp
  have Rq:c.length+1<=1000:=by simpa using ll
  have Fq:bJ (D3 39) ((c++[(ql,qh)]).map Dr) []=.ok false:=by rw[List.map_append];exact ur _ _
  have Rr:aW (.lst false ((c++[(ql,qh)]).map Dr)) (.int (-1))=.ok (.tup [.int ql,.int qh]):=by
   rw[Ev.Lq]
   unfold EW
   rw[hlen]
   unfold IA
   rw[if_neg (by omega),if_pos (by omega),show ((-1+((c.length+1:Nat):Int))).toNat=c.length by omega]
   simp[Dr]
  have a0:∀ a b:Int,EW [D.int a,.int b] 0=some (.int a):=fun _ _=>rfl
  have a1:∀ a b:Int,EW [D.int a,.int b] 1=some (.int b):=fun _ _=>rfl
  cases r with
  | nil=>
   refine⟨c++[(ql,qh)],?_,by show _=_+0;omega,fun h _=>⟨h,fun x=>by show _=_+0;omega⟩,by simp,(cz _).symm⟩
   have lf:=l5 (c++[(ql,qh)])
   generalize (c++[(ql,qh)]).map Dr=L at *
   simp -implicitDefEqProofs (disch:=omega) only[DK,Nat.reduceBEq,Nat.reduceSub,Nat.reduceAdd,reduceIte,Fq,List.append_nil,lf]
  | cons p rs=>
   obtain⟨pl,ph⟩:=p
   have hz:∀ zs:List D,aW (.lst false (.tup [.int pl,.int ph]::zs)) (.int 0)=.ok (.tup [.int pl,.int ph]):=by
    intro zs
    rw[Ev.Lq,Ev.eE .DE (Int.le_refl 0) (by rw[List.length_cons];omega)]
    rfl
   have Vr:rs.length+1<=1000:=by simpa using lr
   have hc:(rs.map Dr).length=rs.length:=List.length_map ..
   by_cases e:qh=pl
   ·have eb:(qh == pl)=true:=by simpa using e
    refine⟨(c++[(ql,ph)])++rs,?_,?_,fun h1 h2=>⟨fun p hp=>?_,fun x=>?_⟩,by simp<;>omega,?_⟩
    rotate_left
    ·rw[dh,dh,dh]
     show cnt c+(ph - ql+0)+cnt rs=cnt c+(qh - ql+0)+(ph - pl+cnt rs)
     omega
    ·have a1:=h1 (ql,qh) (by simp)
     have a2:=h2 (pl,ph) (by simp)
     have a1:ql < qh:=a1
     have a2:pl < ph:=a2
     rcases List.mem_append.mp hp with hp|hp
     ·rcases List.mem_append.mp hp with hp|hp
      ·exact h1 p (List.mem_append_left _ hp)
      ·rw[List.mem_singleton.mp hp]
       show ql < ph
       omega
     ·exact h2 p (List.mem_cons_of_mem _ hp)
    ·have a1:ql < qh:=h1 (ql,qh) (by simp)
     have a2:pl < ph:=h2 (pl,ph) (by simp)
     rw[eG,eG,eG]
     show mc x c+(mI x ql ph+0)+mc x rs=mc x c+(mI x ql qh+0)+(mI x pl ph+mc x rs)
     rw[e,<- qU x (a:=ql) (b:=pl) (c:=ph) (by omega) (by omega)]
     omega
    ·rw[eI]
     show _=c++(if qh=pl then (ql,ph)::rs else (ql,qh)::(pl,ph)::rs)
     rw[if_pos e,List.append_assoc]
     rfl
    have lf:=Rp (c++[(ql,ph)]) rs
    have Pb:cF ((c++[(ql,qh)]).map Dr) none (some (-1))=c.map Dr:=by rw[List.map_append];exact qV _ _
    have Pc:(c.map Dr).length=c.length:=List.length_map ..
    have Uw:=qW (.tup [.int pl,.int ph]) (rs.map Dr)
    rw[List.map_append (l₁:=c++[(ql,ph)]),cf c (ql,ph)]
    rw[cf c (ql,ph)] at lf
    rw[show ((pl,ph)::rs).map Dr=.tup [.int pl,.int ph]::rs.map Dr from rfl]
    generalize rs.map Dr=R at *
    generalize (c++[(ql,qh)]).map Dr=L at *
    generalize c.map Dr=C at *
    simp -implicitDefEqProofs (disch:=omega) only[DK,Nat.reduceBEq,Nat.reduceSub,Nat.reduceAdd,reduceIte,Fq,Rr,hz,a0,a1,eb,Ev.Np,lf,hlen,hc,Pc,Pb,Uw,List.length_append]
   ·have eb:(qh == pl)=false:=by simpa using e
    refine⟨(c++[(ql,qh)])++((pl,ph)::rs),?_,dh _ _,fun h1 h2=>⟨fun p hp=>(List.mem_append.mp hp).elim (h1 p) (h2 p),fun x=>eG x _ _⟩,by rw[List.length_append];exact Nat.le_refl _,by
     rw[eI]
     show _=c++(if qh=pl then (ql,ph)::rs else (ql,qh)::(pl,ph)::rs)
     rw[if_neg e,List.append_assoc]
     rfl⟩
    have lf:=Rp (c++[(ql,qh)]) ((pl,ph)::rs)
    rw[List.map_append (l₁:=c++[(ql,qh)]) (l₂:=(pl,ph)::rs),show ((pl,ph)::rs).map Dr=.tup [.int pl,.int ph]::rs.map Dr from rfl]
    rw[show ((pl,ph)::rs).map Dr=.tup [.int pl,.int ph]::rs.map Dr from rfl] at lf
    generalize rs.map Dr=R at *
    generalize (c++[(ql,qh)]).map Dr=L at *
    simp -implicitDefEqProofs (disch:=omega) only[DK,Nat.reduceBEq,Nat.reduceSub,Nat.reduceAdd,reduceIte,Fq,Rr,hz,a0,a1,eb,Ev.Np,lf,hlen,hc]
end Rn
end L2
namespace Law
open PySem PySem.Spec L2 L2.Fr L2.Rn
theorem uu (run:List Pr):(run.map fun p:Pr=>p.2 - p.1).sum=cnt run:=by
 induction run with
 | nil=>rfl
 | cons p r ih=>rw[List.map_cons,List.sum_cons,ih];rfl
theorem iM (n:Nat)(run:List Pr)(hl:run.length<=1000):aa T (n+1) 21 [.lst false (run.map Dr)]=.ok (.int (cnt run)):=by
 rw[Ev.go (show T 21=some KG from rfl) (show KG.io=none from rfl) (show KG.np=1 from rfl) (show KG.G.N.length=1 from rfl) (show KG.body=OY from rfl) rfl];unfold OY
 have lc:(run.map Dr).length=run.length:=List.length_map ..
 have e1:ba (bu (aa T n) (.tp [(.nm 0),(.nm 1)]) [] (.bin .sub (.v 1) (.v 0)) [none,none]) (run.map Dr)=.ok ((run.map fun p:Pr=>p.2 - p.1).map .int):=by
  refine Ev.bU Dr (fun p:Pr=>p.2 - p.1) .int run fun p _=>?_
  obtain⟨l,h⟩:=p
  unfold Dr
  simp -implicitDefEqProofs (disch:=omega) only[DK,Nat.reduceBEq,Nat.reduceSub,Nat.reduceAdd,reduceIte]
 have e2:∀ o,bX .sum [.lst o ((run.map fun p:Pr=>p.2 - p.1).map .int)]=.ok (.int (cnt run)):=fun o=>by rw[Ev.kj (by rw[List.length_map];omega),uu]
 simp -implicitDefEqProofs (disch:=omega) only[DK,Nat.reduceBEq,Nat.reduceSub,Nat.reduceAdd,reduceIte,e1,e2]
noncomputable abbrev Rw:=Str×List Pr
noncomputable def aw (o:Bool)(p:Rw):D:=.tup [.str p.1,.lst o (p.2.map Dr)]
noncomputable def alt (o o' Jf:Bool)(rows:List Rw)(free:List Pr):D:=.tup [.lst o (rows.map (aw o')),.lst Jf (free.map Dr)]
theorem y7 (o:Bool)(p:Rw):er (aw o p)=aw false p:=by
 unfold aw
 rw[er,Dx,Dx,Dx,er,er,bH]
theorem cY (o:Bool)(rows:List Rw):Dx (rows.map (aw o))=rows.map (aw false):=by
 rw[bE,List.map_map]
 exact List.map_congr_left fun p _=>y7 o p
theorem eJ (o o' Jf:Bool)(rows:List Rw)(free:List Pr):er (alt o o' Jf rows free)=alt false false false rows free:=by
 unfold alt
 rw[er,Dx,Dx,Dx,er,er,bH,cY]
noncomputable abbrev Sh:=Str×Int
noncomputable def DH (p:Sh):D:=.tup [.str p.1,.int p.2]
theorem qX (ps:List Sh):ak (ps.map DH)=true:=by
 rw[bc,List.all_map,List.all_eq_true]
 intro x _
 rfl
theorem l7 (ps:List Sh):Dx (ps.map DH)=ps.map DH:=bA (qX ps)
noncomputable def FY (rows:List Rw):List Sh:=rows.map fun p=>(p.1,cnt p.2)
theorem nG (n:Nat)(rows:List Rw)(free:List Pr)(hl:rows.length<=1000)(hr:∀ p∈rows,p.2.length<=1000):aa T (n+2) 25 [alt false false false rows free]=.ok (.lst true ((FY rows).map DH)):=by
 have e1:ba (bu (aa T (n+1)) (.tp [(.nm 0),(.nm 1)]) [] (.tup [(.v 0),(.call 21 [(.v 1)])]) [none,none]) (rows.map (aw false))=.ok ((rows.map fun p:Rw=>(p.1,cnt p.2)).map DH):=by
  refine Ev.bU (aw false) (fun p:Rw=>(p.1,cnt p.2)) DH rows fun p hp=>?_
  have e:=iM n p.2 (hr p hp)
  have pe:=bH p.2
  unfold aw DH
  simp -implicitDefEqProofs (disch:=omega) only[DK,Nat.reduceBEq,Nat.reduceSub,Nat.reduceAdd,reduceIte,e,pe]
 have x0:aW (alt false false false rows free) (.int 0)=.ok (.lst false (rows.map (aw false))):=rfl
 have lm:(rows.map (aw false)).length=rows.length:=List.length_map _
 have lf:=qX (FY rows)
 unfold FY at *
 rw[Ev.go (show T 25=some KI from rfl) (show KI.io=none from rfl) (show KI.np=1 from rfl) (show KI.G.N.length=1 from rfl) (show KI.body=O6 from rfl) rfl];unfold O6
 generalize alt false false false rows free=A at *
 generalize (rows.map fun p:Rw=>(p.1,cnt p.2)).map DH=Q at *
 generalize rows.map (aw false)=R at *
 simp -implicitDefEqProofs (disch:=omega) only[DK,Nat.reduceBEq,Nat.reduceSub,Nat.reduceAdd,reduceIte,x0,e1,lm,lf]
theorem kr:∀ (r A B:List Pr) (w:Int),Pos r->0<=w->Pos A->Pos B->cnt (aG r A B w).1=cnt A+(if w < cnt r then w else cnt r)/\cnt (aG r A B w).2=cnt B+cnt r - (if w < cnt r then w else cnt r)/\Pos (aG r A B w).1/\Pos (aG r A B w).2
 | [],A,B,w,_,hw,hA,hB=>by
  show cnt A=cnt A+(if w < 0 then w else 0)/\cnt B=cnt B+0 - (if w < 0 then w else 0)/\Pos A/\Pos B
  rw[if_neg (by omega)]
  exact⟨by omega,by omega,hA,hB⟩
 | p::r,A,B,w,hp,hw,hA,hB=>by
  have h1:p.1 < p.2:=hp p (.head _)
  have hr:Pos r:=fun q hq=>hp q (List.mem_cons_of_mem _ hq)
  have hc:=dD hr
  have c1:p.1<=Ds p w/\Ds p w<=p.2:=by unfold Ds;split<;>omega
  have c2:Ds p w - p.1=if w < p.2 - p.1 then w else p.2 - p.1:=by unfold Ds;split<;>split<;>omega
  have pA:Pos (if p.1 < Ds p w then A++[(p.1,Ds p w)] else A):=by
   split
   ·intro q hq
    rcases List.mem_append.mp hq with hq|hq
    ·exact hA q hq
    ·rw[List.mem_singleton.mp hq];assumption
   ·exact hA
  have pB:Pos (if Ds p w < p.2 then B++[(Ds p w,p.2)] else B):=by
   split
   ·intro q hq
    rcases List.mem_append.mp hq with hq|hq
    ·exact hB q hq
    ·rw[List.mem_singleton.mp hq];assumption
   ·exact hB
  obtain⟨i1,i2,i3,i4⟩:=kr r _ _ (w - (Ds p w - p.1)) hr (by rw[c2];split<;>omega) pA pB
  have sA:cnt (if p.1 < Ds p w then A++[(p.1,Ds p w)] else A)=cnt A+(Ds p w - p.1):=by
   split
   ·rw[dh];show cnt A+(Ds p w - p.1+0)=_;omega
   ·omega
  have sB:cnt (if Ds p w < p.2 then B++[(Ds p w,p.2)] else B)=cnt B+(p.2 - Ds p w):=by
   split
   ·rw[dh];show cnt B+(p.2 - Ds p w+0)=_;omega
   ·omega
  unfold aG
  have ec:cnt (p::r)=(p.2 - p.1)+cnt r:=rfl
  refine⟨?_,?_,i3,i4⟩
  ·rw[i1,sA,ec,c2]
   split<;>split<;>split<;>omega
  ·rw[i2,sB,ec]
   have:Ds p w=p.1+if w < p.2 - p.1 then w else p.2 - p.1:=by omega
   rw[this]
   split<;>split<;>split<;>omega
theorem l8:∀ (r A B:List Pr) (w:Int),Pos r->0<=w->(aG r A B w).1.length+(aG r A B w).2.length<=A.length+B.length+r.length+1/\(w=0->(aG r A B w).1.length+(aG r A B w).2.length<=A.length+B.length+r.length)
 | [],A,B,w,_,_=>⟨by show A.length+B.length<=_;rw[List.length_nil];omega,fun _=>by show A.length+B.length<=_;rw[List.length_nil];omega⟩
 | p::r,A,B,w,hp,hw=>by
  have h1:p.1 < p.2:=hp p (.head _)
  have hr:Pos r:=fun q hq=>hp q (List.mem_cons_of_mem _ hq)
  have c2:Ds p w - p.1=if w < p.2 - p.1 then w else p.2 - p.1:=by unfold Ds;split<;>split<;>omega
  have Ux:0<=w - (Ds p w - p.1):=by rw[c2];split<;>omega
  obtain⟨i1,i2⟩:=l8 r (if p.1 < Ds p w then A++[(p.1,Ds p w)] else A) (if Ds p w < p.2 then B++[(Ds p w,p.2)] else B) (w - (Ds p w - p.1)) hr Ux
  have lA:(if p.1 < Ds p w then A++[(p.1,Ds p w)] else A).length=A.length+if p.1 < Ds p w then 1 else 0:=by split<;>simp
  have lB:(if Ds p w < p.2 then B++[(Ds p w,p.2)] else B).length=B.length+if Ds p w < p.2 then 1 else 0:=by split<;>simp
  rw[lA,lB] at i1 i2
  unfold aG
  rw[List.length_cons]
  have kA:(if p.1 < Ds p w then 1 else 0)<=1:=by split<;>omega
  have kB:(if Ds p w < p.2 then 1 else 0)<=1:=by split<;>omega
  have zA:¬ p.1 < Ds p w->(if p.1 < Ds p w then 1 else 0)=0:=fun h=>if_neg h
  have zB:¬ Ds p w < p.2->(if Ds p w < p.2 then 1 else 0)=0:=fun h=>if_neg h
  generalize (aG r _ _ _).1.length=l1 at *
  generalize (aG r _ _ _).2.length=l2 at *
  generalize (if p.1 < Ds p w then 1 else 0)=d1 at *
  generalize (if Ds p w < p.2 then 1 else 0)=d2 at *
  by_cases hz:w < p.2 - p.1
  ·rw[if_pos hz] at c2
   have i2:=i2 (by omega)
   exact⟨by omega,fun e=>by have:=zA (by omega);omega⟩
  ·rw[if_neg hz] at c2
   have:=zB (by omega)
   exact⟨by omega,fun e=>by omega⟩
theorem qY (x:Int):∀ (r A B:List Pr) (w:Int),Pos r->0<=w->mc x (aG r A B w).1+mc x (aG r A B w).2=mc x A+mc x B+mc x r
 | [],A,B,w,_,_=>by show mc x A+mc x B=mc x A+mc x B+0;omega
 | p::r,A,B,w,hp,hw=>by
  have h1:p.1 < p.2:=hp p (.head _)
  have hr:Pos r:=fun q hq=>hp q (List.mem_cons_of_mem _ hq)
  have c1:p.1<=Ds p w/\Ds p w<=p.2:=by unfold Ds;split<;>omega
  have c2:Ds p w - p.1=if w < p.2 - p.1 then w else p.2 - p.1:=by unfold Ds;split<;>split<;>omega
  have i:=qY x r (if p.1 < Ds p w then A++[(p.1,Ds p w)] else A) (if Ds p w < p.2 then B++[(Ds p w,p.2)] else B) (w - (Ds p w - p.1)) hr (by rw[c2];split<;>omega)
  have sA:mc x (if p.1 < Ds p w then A++[(p.1,Ds p w)] else A)=mc x A+mI x p.1 (Ds p w):=by
   split
   ·rw[eG];show mc x A+(mI x p.1 (Ds p w)+0)=_;omega
   ·rw[B3 x (by omega)];omega
  have sB:mc x (if Ds p w < p.2 then B++[(Ds p w,p.2)] else B)=mc x B+mI x (Ds p w) p.2:=by
   split
   ·rw[eG];show mc x B+(mI x (Ds p w) p.2+0)=_;omega
   ·rw[B3 x (by omega)];omega
  unfold aG
  rw[i,sA,sB]
  show _=_+(mI x p.1 p.2+mc x r)
  rw[<- qU x c1.1 c1.2]
  omega
theorem l9 (n:Nat)(run:List Pr)(w:Int)(hl:run.length<=1000)(hp:Pos run)(hw:0<=w):∃ a b:List Pr,aa T (n+1) 22 [.lst false (run.map Dr),.int w]=.ok (.tup [.lst true (a.map Dr),.lst true (b.map Dr)])/\
  cnt a=(if w < cnt run then w else cnt run)/\cnt b=cnt run - (if w < cnt run then w else cnt run)/\Pos a/\Pos b/\a.length<=run.length/\b.length<=run.length/\a.length+b.length<=run.length+1/\(∀ x,mc x a+mc x b=mc x run)/\a=(aG run [] [] w).1/\b=(aG run [] [] w).2:=by
 obtain⟨h1,h2,h3,h4⟩:=kr run [] [] w hp hw (fun _ h=>by cases h) (fun _ h=>by cases h)
 obtain⟨l1,l2⟩:=fS run [] [] w
 refine⟨_,_,B2 (show T 22=some OZ from rfl) rfl rfl rfl rfl n run hl w,?_,?_,h3,h4,by simpa using l1,by simpa using l2,by have:=(l8 run [] [] w hp hw).1;simpa using this,fun x=>by rw[qY x run [] [] w hp hw];show 0+0+_=_;omega,rfl,rfl⟩
 ·rw[h1];show 0+_=_;omega
 ·rw[h2];show 0+_ - _=_;omega
theorem ma (n:Nat)(l r:List Pr)(ll:l.length<=1000)(lr:r.length<=1000):∃ j:List Pr,aa T (n+1) 23 [.lst false (l.map Dr),.lst false (r.map Dr)]=.ok (.lst true (j.map Dr))/\cnt j=cnt l+cnt r/\(Pos l->Pos r->Pos j/\∀ x,mc x j=mc x l+mc x r)/\j.length<=l.length+r.length/\j=au l r:=
 B4 (show T 23=some O0 from rfl) rfl rfl rfl rfl n l r ll lr
noncomputable def kf (f:Str):Key:=.inr f
noncomputable def iv (v:Str->Int)(f:Str):D:=.int (v f)
noncomputable def dF (o:Bool)(fs:List Str)(v:Str->Int):D:=.Dl o (fs.map kf) (fs.map (iv v))
noncomputable def up (v:Str->Int)(f:Str)(x:Int):Str->Int:=fun g=>if g=f then x else v g
noncomputable def ups:(Str->Int)->List Sh->Str->Int
 | v,[]=>v
 | v,p::ps=>ups (up v p.1 p.2) ps
theorem kf_eq {f g:Str}:(kf f=kf g)=(f=g):=by
 unfold kf
 exact propext ⟨fun h=>Sum.inr.inj h,fun h=>by rw[h]⟩
theorem ku (v:Str->Int){f:Str}:∀ {fs:List Str},f∈fs->look (fs.map kf) (fs.map (iv v)) (kf f)=some (.int (v f))
 | g::fs,h=>by
  show (if kf g=kf f then some (iv v g) else look (fs.map kf) (fs.map (iv v)) (kf f))=_
  by_cases e:g=f
  ·rw[if_pos (by rw[e]),e];rfl
  ·rw[if_neg (by rw[kf_eq];exact e)]
   exact ku v ((List.mem_cons.mp h).resolve_left fun z=>e z.symm)
theorem qZ (v:Str->Int){f:Str}:∀ {fs:List Str},f∉fs->look (fs.map kf) (fs.map (iv v)) (kf f)=none
 | [],_=>rfl
 | g::fs,h=>by
  show (if kf g=kf f then some (iv v g) else look (fs.map kf) (fs.map (iv v)) (kf f))=_
  rw[if_neg (by rw[kf_eq];exact fun e=>h (by rw[e];exact .head _))]
  exact qZ v fun z=>h (List.mem_cons_of_mem _ z)
theorem nH (v:Str->Int)(f:Str)(fs:List Str):(look (fs.map kf) (fs.map (iv v)) (kf f)).isSome=decide (f∈fs):=by
 by_cases h:f∈fs
 ·rw[ku v h,decide_eq_true h];rfl
 ·rw[qZ v h,decide_eq_false h];rfl
theorem rb (f:Str):∀ fs:List Str,fY (fs.map kf) (kf f)=decide (f∈fs)
 | []=>rfl
 | g::fs=>by
  have ih:=rb f fs
  unfold fY at *
  rw[List.map_cons,List.any_cons,ih]
  by_cases e:g=f
  ·rw[e];simp
  ·have:decide (kf g=kf f)=false:=decide_eq_false (by rw[kf_eq];exact e)
   rw[this,Bool.false_or]
   have e':¬ f=g:=fun z=>e z.symm
   simp[e']
theorem md (v:Str->Int)(x:Int){f:Str}{fs:List Str}(h:f∈fs):bg (fs.map kf) (kf f)=fs.map kf/\aR (fs.map kf) (fs.map (iv v)) (kf f) (.int x)=fs.map (iv (up v f x)):=by
 unfold bg aR
 rw[rb,decide_eq_true h,if_pos rfl,if_pos rfl]
 refine⟨rfl,?_⟩
 clear h
 induction fs with
 | nil=>rfl
 | cons g fs ih=>
  rw[List.map_cons,List.map_cons,List.zipWith_cons_cons,ih,List.map_cons]
  congr 1
  unfold iv up
  by_cases e:g=f
  ·rw[if_pos (by rw[e]),if_pos e]
  ·rw[if_neg (by rw[kf_eq];exact e),if_neg e]
theorem B5 (v:Str->Int)(x:Int){f:Str}{fs:List Str}(h:f∉fs):fs.map (iv (up v f x))=fs.map (iv v):=
 List.map_congr_left fun g hg=>by
  unfold iv up
  rw[if_neg fun e=>h (by rw[<- e];exact hg)]
theorem me (v:Str->Int)(x:Int){f:Str}{fs:List Str}(h:f∉fs):bg (fs.map kf) (kf f)=(fs++[f]).map kf/\aR (fs.map kf) (fs.map (iv v)) (kf f) (.int x)=(fs++[f]).map (iv (up v f x)):=by
 unfold bg aR
 rw[rb,decide_eq_false h,if_neg Bool.false_ne_true,if_neg Bool.false_ne_true,List.map_append,List.map_append,B5 v x h]
 refine⟨rfl,?_⟩
 congr 1
 show [D.int x]=[.int (if f=f then x else v f)]
 rw[if_pos rfl]
theorem rf (v:Str->Int)(fs:List Str):ak (fs.map (iv v))=true:=by
 rw[bc,List.all_map,List.all_eq_true]
 intro x _
 rfl
theorem gP (v:Str->Int)(fs:List Str):aF (fs.map (iv v))=true:=by
 unfold aF
 rw[List.all_map,List.all_eq_true]
 intro x _
 rfl
theorem B6 (v:Str->Int)(fs:List Str):Dx (fs.map (iv v))=fs.map (iv v):=bA (rf v fs)
theorem mf (o:Bool)(fs:List Str)(v:Str->Int):er (dF o fs v)=dF false fs v:=by
 unfold dF
 rw[er,B6]
theorem mh (v:Str->Int):∀ fs:List Str,bf (fs.map (iv v))=some (fs.map v)
 | []=>rfl
 | f::fs=>by
  show (bf (fs.map (iv v))).map (v f::·)=_
  rw[mh v fs]
  rfl
theorem B7 (o:Bool)(fs:List Str)(v:Str->Int):kL (dF o fs v)=.ok (.int (fs.map v).sum):=by
 show (match bf (fs.map (iv v)) with|some ns=>(.ok (.int ns.sum):Res D)|none=>Dq)=_
 rw[mh]
theorem fT (o:Bool){fs:List Str}(v:Str->Int){f:Str}(h:f∈fs):fx (dF o fs v) (.str f)=.ok (.int (v f)):=by
 show (match look (fs.map kf) (fs.map (iv v)) (kf f) with|some d=>(.ok d:Res D)|none=>Dq)=_
 rw[ku v h]
theorem B8 (o n:Bool)(fs:List Str)(v:Str->Int)(f:Str):Ev.ua n (.str f) (dF o fs v)=.ok (.bl (n != decide (f∈fs))):=by
 show (.ok (.bl (n != (look (fs.map kf) (fs.map (iv v)) (kf f)).isSome)):Res D)=_
 rw[nH]
noncomputable def Lu (c:Str->Int)(ns:List Str)(u:Str->Int):Str->Int:=fun f=>if f∈ns then u f else c f
theorem rg:∀ (ps:List Sh) (v v':Str->Int) (f:Str),f∈ps.map (·.1)->ups v ps f=ups v' ps f
 | [],_,_,_,h=>by cases h
 | p::ps,v,v',f,h=>by
  show ups (up v p.1 p.2) ps f=ups (up v' p.1 p.2) ps f
  by_cases e:f∈ps.map (·.1)
  ·exact rg ps _ _ f e
  ·have ef:f=p.1:=(List.mem_cons.mp h).resolve_right e
   have key:∀ (ps:List Sh) (w:Str->Int),f∉ps.map (·.1)->ups w ps f=w f:=by
    intro ps
    induction ps with
    | nil=>intro w _;rfl
    | cons q ps ih=>
     intro w hn
     show ups (up w q.1 q.2) ps f=w f
     rw[ih _ fun z=>hn (List.mem_cons_of_mem _ z)]
     unfold up
     rw[if_neg fun z=>hn (by rw[z];exact .head _)]
   rw[key ps _ e,key ps _ e]
   unfold up
   rw[if_pos ef,if_pos ef]
theorem mi:∀ (ps:List Sh) (w:Str->Int) (f:Str),f∉ps.map (·.1)->ups w ps f=w f
 | [],_,_,_=>rfl
 | q::ps,w,f,hn=>by
  show ups (up w q.1 q.2) ps f=w f
  rw[mi ps _ f fun z=>hn (List.mem_cons_of_mem _ z)]
  unfold up
  rw[if_neg fun z=>hn (by rw[z];exact .head _)]
theorem uv (c z:Str->Int)(ps:List Sh)(f:Str):Lu c (ps.map (·.1)) (ups z ps) f=ups c ps f:=by
 unfold Lu
 by_cases h:f∈ps.map (·.1)
 ·rw[if_pos h];exact rg ps _ _ f h
 ·rw[if_neg h,mi ps c f h]
theorem rh (fs:List Str)(u:Str->Int):∀ (ns:List Str) (c:Str->Int),(∀ f∈ns,f∈fs)->E2 (ns.map fun f=>(kf f,iv u f)) (fs.map kf) (fs.map (iv c))=(fs.map kf,fs.map (iv (Lu c ns u)))
 | [],c,_=>rfl
 | f::ns,c,h=>by
  show E2 (ns.map fun f=>(kf f,iv u f)) (bg (fs.map kf) (kf f)) (aR (fs.map kf) (fs.map (iv c)) (kf f) (.int (u f)))=_
  obtain⟨h1,h2⟩:=md c (u f) (h f (.head _))
  rw[h1,h2,rh fs u ns _ fun g hg=>h g (List.mem_cons_of_mem _ hg)]
  congr 1
  refine List.map_congr_left fun g _=>?_
  unfold iv Lu up
  by_cases a:g∈ns
  ·rw[if_pos a,if_pos (List.mem_cons_of_mem _ a)]
  ·rw[if_neg a]
   by_cases b:g=f
   ·rw[if_pos b,if_pos (by rw[b];exact .head _),b]
   ·rw[if_neg b,if_neg fun z=>(List.mem_cons.mp z).elim b a]
theorem ml (c:Str->Int):∀ (gs ns:List Str),(ns++gs).Nodup->E2 (gs.map fun f=>(kf f,iv c f)) (ns.map kf) (ns.map (iv c))=((ns++gs).map kf,(ns++gs).map (iv c))
 | [],ns,_=>by rw[List.append_nil];rfl
 | f::gs,ns,h=>by
  show E2 (gs.map fun f=>(kf f,iv c f)) (bg (ns.map kf) (kf f)) (aR (ns.map kf) (ns.map (iv c)) (kf f) (.int (c f)))=_
  have nf:f∉ns:=fun z=>(List.nodup_append.mp h).2.2 f z f (.head _) rfl
  obtain⟨h1,h2⟩:=me c (c f) nf
  have e:(ns++[f]).map (iv (up c f (c f)))=(ns++[f]).map (iv c):=List.map_congr_left fun g _=>by
   unfold iv up
   by_cases b:g=f
   ·rw[if_pos b,b]
   ·rw[if_neg b]
  have h':((ns++[f])++gs).Nodup:=by rw[List.append_assoc];exact h
  rw[h1,h2,e,ml c gs (ns++[f]) h',List.append_assoc]
  rfl
theorem wG (c:Str->Int):∀ fs:List Str,dJ ((fs.map fun f=>((f,c f):Sh)).map DH)=some (fs.map fun f=>(kf f,iv c f))
 | []=>rfl
 | f::fs=>by
  show (match bQ (.str f),dJ ((fs.map fun f=>((f,c f):Sh)).map DH) with|some q,some ps=>some ((q,D.int (c f))::ps)|_,_=>none)=_
  rw[wG c fs]
  rfl
theorem B9 (j:Nat)(τ:Ev)(o:Bool)(c:Str->Int){fs:List Str}(h:fs.Nodup):nk j τ (.lst o ((fs.map fun f=>((f,c f):Sh)).map DH))=.ok (τ.set j (some (dF true fs c))):=by
 have e:=ml c fs [] h
 have e:E2 (fs.map fun f=>(kf f,iv c f)) [] []=(fs.map kf,fs.map (iv c)):=e
 have s:aF ((fs.map fun f=>(kf f,iv c f)).map (·.2))=true:=by
  rw[List.map_map]
  exact gP c fs
 show (match dJ ((fs.map fun f=>((f,c f):Sh)).map DH) with|some ps=>Dk (aF (ps.map (fun p:Key×D=>p.2))) (.ok (τ.set j (some (D.Dl true (E2 ps [] []).1 (E2 ps [] []).2))))|none=>Dq)=_
 rw[wG]
 show Dk (aF ((fs.map fun f=>(kf f,iv c f)).map (·.2))) _=_
 rw[s,e]
 rfl
theorem wH (u:Str->Int):∀ ns:List Str,(ns.map kf).zip (ns.map (iv u))=ns.map fun f=>(kf f,iv u f)
 | []=>rfl
 | f::ns=>by rw[List.map_cons,List.map_cons,List.zip_cons_cons,wH u ns];rfl
theorem Ca (i:Nat)(τ:Ev)(o:Bool)(c u:Str->Int){fs ns:List Str}(h:∀ f∈ns,f∈fs)(hl:fs.length+ns.length<=1000):oF i τ (some (dF true fs c)) (some (dF o ns u))=.ok (τ.set i (some (dF true fs (Lu c ns u)))):=by
 show Dk (aF (fs.map (iv c))&&aF (ns.map (iv u))&&aZ ((fs.map kf).length+(ns.map kf).length)) (.ok (τ.set i (some (.Dl true (E2 ((ns.map kf).zip (ns.map (iv u))) (fs.map kf) (fs.map (iv c))).1 (E2 ((ns.map kf).zip (ns.map (iv u))) (fs.map kf) (fs.map (iv c))).2))))=_
 rw[gP,gP,List.length_map,List.length_map,Ev.eD (by omega),wH,rh fs u ns c h]
 rfl
theorem uw (cl:Nat->List D->Res D)(i:Nat)(k:IR)(τ:Ev){f:Str}{fs:List Str}{v:Str->Int}{x:Int}(hk:Dj cl k τ=.ok (.str f))(h:f∈fs)(hl:fs.length<=1000):Ev.cW cl i k τ (.int x) (some (dF true fs v))=.ok (.nx (τ.set i (some (dF true fs (up v f x))))):=by
 obtain⟨h1,h2⟩:=md v x h
 show Ev.cW cl i k τ (.int x) (some (.Dl true (fs.map kf) (fs.map (iv v))))=_
 rw[Ev.eT hk (by rw[rf,List.length_map,Ev.fP (by omega)];rfl)]
 show (.ok (.nx (τ.set i (some (.Dl true (bg (fs.map kf) (kf f)) (aR (fs.map kf) (fs.map (iv v)) (kf f) (.int x)))))):Res Fl)=_
 rw[h1,h2]
 rfl
theorem mq (cl:Nat->List D->Res D)(i:Nat)(k:IR)(τ:Ev){f:Str}{fs:List Str}{v:Str->Int}{x:Int}(hk:Dj cl k τ=.ok (.str f))(h:f∉fs)(hl:fs.length<=1000):Ev.cW cl i k τ (.int x) (some (dF true fs v))=.ok (.nx (τ.set i (some (dF true (fs++[f]) (up v f x))))):=by
 obtain⟨h1,h2⟩:=me v x h
 show Ev.cW cl i k τ (.int x) (some (.Dl true (fs.map kf) (fs.map (iv v))))=_
 rw[Ev.eT hk (by rw[rf,List.length_map,Ev.fP (by omega)];rfl)]
 show (.ok (.nx (τ.set i (some (.Dl true (bg (fs.map kf) (kf f)) (aR (fs.map kf) (fs.map (iv v)) (kf f) (.int x)))))):Res Fl)=_
 rw[h1,h2]
 rfl
noncomputable def d6 (fs:List Str):List Sh->List Str->Option Str
 | [],_=>none
 | p::r,seen=>if p.1∉fs then some "NoFace" else if p.1∈seen then some "Twice" else if p.2 < 0 then some "BadShare" else d6 fs r (seen++[p.1])
noncomputable def tW:List IS:=[(.Eh (.Hv true (.v 4) (.v 2)) [(.D4 39 "NoFace" (.Hw "the allotment has no face " (.v 4) none))] []),(.Eh (.Hv false (.v 4) (.v 3)) [(.D4 37 "Twice" (.Hw "the face " (.v 4) (some " is told twice")))] []),(.Eh (.cmp .lt (.v 5) (.c (.int 0))) [(.D4 40 "BadShare" (.Hw "the face " (.v 4) (some " is to have fewer places than none")))] []),(.EG 3 (.v 4) (.v 5))]
theorem kx (x:Str)(y:Option Str)(z:Str)(hx:x.length<=100)(hy:(y.getD Str.empty).length<=100)(hz:(reprText z).length<=1000):∃ m,oG x y (.str z)=.ok (.str m):=by
 rw[Ev.qw,Ev.eD (by omega)]
 exact⟨_,rfl⟩
theorem y9 (cl:Nat->List D->Res D)(a0 s0:D){fs seen:List Str}(c u:Str->Int)(p:Sh)(hl:seen.length<=1000)(hz:(reprText p.1).length<=1000)(x y:Option D) :
  Ev.turn cl (.tp [(.nm 4),(.nm 5)]) tW (DH p) [some a0,some s0,some (dF true fs c),some (dF true seen u),x,y] =
   if p.1∉fs then .error (.exc "NoFace") else if p.1∈seen then .error (.exc "Twice") else if p.2 < 0 then .error (.exc "BadShare") else .ok (.nx [some a0,some s0,some (dF true fs c),some (dF true (seen++[p.1]) (up u p.1 p.2)),some (.str p.1),some (.int p.2)]):=by
 obtain⟨f,v⟩:=p
 obtain⟨m1,f1⟩:=kx "the allotment has no face " none f (by decide +kernel) (by decide +kernel) hz
 obtain⟨m2,f2⟩:=kx "the face " (some " is told twice") f (by decide +kernel) (by decide +kernel) hz
 obtain⟨m3,f3⟩:=kx "the face " (some " is to have fewer places than none") f (by decide +kernel) (by decide +kernel) hz
 have i1:=B8 true true fs c f
 have i2:=B8 true false seen u f
 have st:f∉seen->∀ (τ:Ev),Dj cl (.v 4) τ=.ok (.str f)->Ev.cW cl 3 (.v 4) τ (.int v) (some (dF true seen u))=.ok (.nx (τ.set 3 (some (dF true (seen++[f]) (up u f v))))):=fun h τ hk=>mq cl 3 (.v 4) τ hk h hl
 have FW:f∉seen->Ev.cW cl 3 (.v 4) [some a0,some s0,some (dF true fs c),some (dF true seen u),some (.str f),some (.int v)] (.int v) (some (dF true seen u))=.ok (.nx [some a0,some s0,some (dF true fs c),some (dF true (seen++[f]) (up u f v)),some (.str f),some (.int v)]):=fun h=>st h _ rfl
 show Ev.turn cl (.tp [(.nm 4),(.nm 5)]) tW (.tup [.str f,.int v]) _=if f∉fs then _ else if f∈seen then _ else if v < 0 then _ else _
 by_cases h1:f∈fs
 ·rw[if_neg (fun z=>z h1)]
  rw[decide_eq_true h1] at i1
  by_cases h2:f∈seen
  ·rw[if_pos h2]
   rw[decide_eq_true h2] at i2
   generalize dF true fs c=W at *
   generalize dF true seen u=S at *
   unfold tW
   simp -implicitDefEqProofs (disch:=omega) only[DK,Nat.reduceBEq,Nat.reduceSub,Nat.reduceAdd,reduceIte,Ev.aJ,i1,i2,f2,bne_self_eq_false,Bool.false_bne]
  ·rw[if_neg h2]
   rw[decide_eq_false h2] at i2
   have Ii:=FW h2
   by_cases h3:v < 0
   ·rw[if_pos h3]
    have d3:decide (v < 0)=true:=decide_eq_true h3
    generalize dF true fs c=W at *
    generalize dF true seen u=S at *
    unfold tW
    simp -implicitDefEqProofs (disch:=omega) only[DK,Nat.reduceBEq,Nat.reduceSub,Nat.reduceAdd,reduceIte,Ev.aJ,i1,i2,f3,d3,bne_self_eq_false,Bool.false_bne]
   ·rw[if_neg h3]
    have d3:decide (v < 0)=false:=decide_eq_false h3
    generalize dF true fs c=W at *
    generalize dF true seen u=S at *
    generalize dF true (seen++[f]) (up u f v)=S' at *
    unfold tW
    simp -implicitDefEqProofs (disch:=omega) only[DK,Nat.reduceBEq,Nat.reduceSub,Nat.reduceAdd,reduceIte,Ev.aJ,i1,i2,d3,Ii,bne_self_eq_false,Bool.false_bne]
 ·rw[if_pos h1]
  rw[decide_eq_false h1] at i1
  generalize dF true fs c=W at *
  generalize dF true seen u=S at *
  unfold tW
  simp -implicitDefEqProofs (disch:=omega) only[DK,Nat.reduceBEq,Nat.reduceSub,Nat.reduceAdd,reduceIte,Ev.aJ,i1,f1,Bool.true_bne,Bool.not_false]
theorem ri (cl:Nat->List D->Res D)(a0 s0:D){fs:List Str}(c:Str->Int):∀ (ps:List Sh) (seen:List Str) (u:Str->Int) (x y:Option D),seen.length+ps.length<=1000->(∀ p∈ps,(reprText p.1).length<=1000)->
  (∀ e,d6 fs ps seen=some e->forM (Ev.turn cl (.tp [(.nm 4),(.nm 5)]) tW) (ps.map DH) [some a0,some s0,some (dF true fs c),some (dF true seen u),x,y]=.error (.exc e))/\
  (d6 fs ps seen=none->(∃ x' y',forM (Ev.turn cl (.tp [(.nm 4),(.nm 5)]) tW) (ps.map DH) [some a0,some s0,some (dF true fs c),some (dF true seen u),x,y]=.ok (.nx [some a0,some s0,some (dF true fs c),some (dF true (seen++ps.map (·.1)) (ups u ps)),x',y']))/\∀ p∈ps,p.1∈fs/\0<=p.2)
 | [],seen,u,x,y,_,_=>⟨(fun e h=>by cases h),fun _=>⟨⟨x,y,by rw[List.map_nil,List.map_nil,List.append_nil];rfl⟩,(fun p h=>by cases h)⟩⟩
 | p::ps,seen,u,x,y,hl,hz=>by
  rw[List.length_cons] at hl
  have ht:=y9 cl a0 s0 (fs:=fs) (seen:=seen) c u p (by omega) (hz p (.head _)) x y
  rw[List.map_cons,Ev.cy]
  unfold d6
  by_cases h1:p.1∈fs
  ·rw[if_neg (fun z=>z h1)] at ht ⊢
   by_cases h2:p.1∈seen
   ·rw[if_pos h2] at ht ⊢
    exact⟨(fun e h=>by cases h;rw[ht];rfl),(fun h=>by cases h)⟩
   ·rw[if_neg h2] at ht ⊢
    by_cases h3:p.2 < 0
    ·rw[if_pos h3] at ht ⊢
     exact⟨(fun e h=>by cases h;rw[ht];rfl),(fun h=>by cases h)⟩
    ·rw[if_neg h3] at ht ⊢
     obtain⟨i1,i2⟩:=ri cl a0 s0 (fs:=fs) c ps (seen++[p.1]) (up u p.1 p.2) (some (.str p.1)) (some (.int p.2)) (by rw[List.length_append,List.length_singleton];omega) fun q hq=>hz q (List.mem_cons_of_mem _ hq)
     rw[ht]
     refine⟨fun e h=>i1 e h,fun h=>?_⟩
     obtain⟨⟨x',y',e⟩,hp⟩:=i2 h
     refine⟨⟨x',y',?_⟩,fun q hq=>?_⟩
     ·rw[List.append_assoc] at e
      exact e
     ·rcases List.mem_cons.mp hq with rfl|hq
      ·exact⟨h1,by omega⟩
      ·exact hp q hq
  ·rw[if_pos h1] at ht ⊢
   exact⟨(fun e h=>by cases h;rw[ht];rfl),(fun h=>by cases h)⟩
noncomputable def lsum (rows:List Rw):Nat:=(rows.map fun p=>p.2.length).sum
noncomputable def GI (x:Int)(rows:List Rw):Int:=(rows.map fun p=>mc x p.2).sum
theorem iN:∀ {rows:List Rw}{p:Rw},p∈rows->p.2.length<=lsum rows
 | q::rows,p,h=>by
  show _<=q.2.length+lsum rows
  rcases List.mem_cons.mp h with rfl|h
  ·omega
  ·have:=iN h
   omega
structure Al (fs:List Str)(c:Str->Int)(rows:List Rw)(free:List Pr)(L:Nat):Prop where
 DJ:fs.Nodup
 Jj:fs.length<=6
 rep:∀ f∈fs,(reprText f).length<=1000
 sz:FY rows=fs.map fun f=>(f,c f)
 pos:∀ p∈rows,Pos p.2
 Hn:Pos free
 len:lsum rows+free.length<=L
 Fu:(fs.map c).sum+cnt free=10007
 Uy:∀ x,GI x rows+mc x free=mI x 0 10007
theorem Al.MH {fs:List Str}{c:Str->Int}{rows:List Rw}{free:List Pr}{L:Nat}(a:Al fs c rows free L):rows.length=fs.length:=by
 have:=congrArg List.length a.sz
 unfold FY at this
 rwa [List.length_map,List.length_map] at this
theorem ux (n:Nat){fs:List Str}{c:Str->Int}{rows:List Rw}{free:List Pr}{L:Nat}(a:Al fs c rows free L)(hL:L<=1000)(ps:List Sh)(hp:ps.length<=100)(hz:∀ p∈ps,(reprText p.1).length<=1000) :
  (∀ e,d6 fs ps []=some e->aa T (n+3) 26 [alt false false false rows free,.lst false (ps.map DH)]=.error (.exc e))/\
  (d6 fs ps []=none->(10007 < (fs.map (ups c ps)).sum->aa T (n+3) 26 [alt false false false rows free,.lst false (ps.map DH)]=.error (.exc "TooMuch"))/\
   ((fs.map (ups c ps)).sum<=10007->aa T (n+3) 26 [alt false false false rows free,.lst false (ps.map DH)]=.ok (dF true fs (ups c ps)))):=by
 have Uz:=a.MH
 have hf:=a.Jj
 have e1:=nG n rows free (by omega) fun p h=>by have h1:=iN h;have h2:=a.len;omega
 rw[a.sz] at e1
 have ae:=eJ false false false rows free
 have e2:=B9 (j:=2) (τ:=[some (alt false false false rows free),some (.lst false (ps.map DH)),none,none,none,none]) (o:=true) c a.DJ
 have pe:=l7 ps
 obtain⟨i1,i2⟩:=ri (aa T (n+2)) (alt false false false rows free) (.lst false (ps.map DH)) (fs:=fs) c ps [] (fun _=>0) none none (by rw[List.length_nil];omega) hz
 have UA:dF true [] (fun _=>0)=.Dl true [] []:=rfl
 rw[UA] at i1 i2
 have body:Ra=[(.Ke 2 (.call 25 [(.v 0)])),(.asg (.nm 3) .EF),(.DZ (.tp [(.nm 4),(.nm 5)]) (.val (.v 1)) tW),(.GB 2 3),(.Eh (.cmp .gt (.Gb (.v 2)) (.g 20 (.int 10007))) [(.Eu 38 "TooMuch" "the faces together would have more places than there are")] []),(.ret (.v 2))]:=rfl
 rw[Ev.go (show T 26=some KJ from rfl) (show KJ.io=none from rfl) (show KJ.np=2 from rfl) (show KJ.G.N.length=6 from rfl) (show KJ.body=_ from body) rfl]
 have Eg:nk 2 [some (alt false false false rows free),some (.lst false (ps.map DH)),none,none,none,none] (.lst true ((fs.map fun f=>((f,c f):Sh)).map DH))=.ok [some (alt false false false rows free),some (.lst false (ps.map DH)),some (dF true fs c),none,none,none]:=e2
 generalize (fs.map fun f=>((f,c f):Sh)).map DH=Q at *
 refine⟨fun e h=>?_,fun h=>?_⟩
 ·have i:=i1 e h
  generalize alt false false false rows free=A at *
  generalize tW=tb at *
  generalize ps.map DH=PS at *
  simp -implicitDefEqProofs (disch:=omega) only[DK,Nat.reduceBEq,Nat.reduceSub,Nat.reduceAdd,reduceIte,e1,Eg,ae,pe,i]
 ·obtain⟨⟨x',y',i⟩,FV⟩:=i2 h
  have Pd:∀ f∈ps.map (·.1),f∈fs:=fun f hf=>by
   obtain⟨p,hp,rfl⟩:=List.mem_map.mp hf
   exact(FV p hp).1
  rw[List.nil_append] at i
  have e3:oF 2 [some (alt false false false rows free),some (.lst false (ps.map DH)),some (dF true fs c),some (dF true (ps.map (·.1)) (ups (fun _=>0) ps)),x',y'] (some (dF true fs c)) (some (dF true (ps.map (·.1)) (ups (fun _=>0) ps)))=.ok [some (alt false false false rows free),some (.lst false (ps.map DH)),some (dF true fs (ups c ps)),some (dF true (ps.map (·.1)) (ups (fun _=>0) ps)),x',y']:=by
   have:=Ca 2 [some (alt false false false rows free),some (.lst false (ps.map DH)),some (dF true fs c),some (dF true (ps.map (·.1)) (ups (fun _=>0) ps)),x',y'] true c (ups (fun _=>0) ps) Pd (by rw[List.length_map];omega)
   rw[this]
   have UB:Lu c (ps.map (·.1)) (ups (fun _=>0) ps)=ups c ps:=funext fun f=>uv c _ ps f
   rw[UB]
   rfl
  have e4:=B7 true fs (ups c ps)
  refine⟨fun hs=>?_,fun hs=>?_⟩
  ·have d1:decide ((10007:Int) < (fs.map (ups c ps)).sum)=true:=decide_eq_true hs
   generalize (fs.map (ups c ps)).sum=SS at *
   generalize dF true fs (ups c ps)=W' at *
   generalize dF true fs c=W at *
   generalize dF true (ps.map (·.1)) (ups (fun _=>0) ps)=TD at *
   generalize alt false false false rows free=A at *
   generalize tW=tb at *
   generalize ps.map DH=PS at *
   simp -implicitDefEqProofs (disch:=omega) only[DK,Nat.reduceBEq,Nat.reduceSub,Nat.reduceAdd,reduceIte,e1,Eg,ae,pe,i,e3,e4,d1]
  ·have d1:decide ((10007:Int) < (fs.map (ups c ps)).sum)=false:=decide_eq_false (by omega)
   generalize (fs.map (ups c ps)).sum=SS at *
   generalize dF true fs (ups c ps)=W' at *
   generalize dF true fs c=W at *
   generalize dF true (ps.map (·.1)) (ups (fun _=>0) ps)=TD at *
   generalize alt false false false rows free=A at *
   generalize tW=tb at *
   generalize ps.map DH=PS at *
   simp -implicitDefEqProofs (disch:=omega) only[DK,Nat.reduceBEq,Nat.reduceSub,Nat.reduceAdd,reduceIte,e1,Eg,ae,pe,i,e3,e4,d1]
noncomputable def mn (a b:Int):Int:=if b < a then b else a
noncomputable def tS:List IS:=[(.asg (.nm 6) (.call 22 [(.v 5),(.bi .min2 [(.DG (.v 2) (.v 4)),(.call 21 [(.v 5)])])])),(.app 3 (.tup [(.v 4),(.idx (.v 6) (.c (.int 0)))])),(.asg (.nm 1) (.call 23 [(.idx (.v 6) (.c (.int 1))),(.v 1)]))]
noncomputable def tG:List IS:=[(.asg (.nm 6) (.call 22 [(.v 1),(.bin .sub (.DG (.v 2) (.v 4)) (.call 21 [(.v 5)]))])),(.app 3 (.tup [(.v 4),(.call 23 [(.v 5),(.idx (.v 6) (.c (.int 0)))])])),(.asg (.nm 1) (.idx (.v 6) (.c (.int 1))))]
theorem mz (o:Bool)(K:List Rw)(p:Rw):(K++[p]).map (aw o)=K.map (aw o)++[.tup [.str p.1,.lst o (p.2.map Dr)]]:=by rw[List.map_append];rfl
theorem za (n:Nat)(r0:D){fs:List Str}{v:Str->Int}(K:List Rw)(hK:K.length<=1000)(free:List Pr)(o1:Bool)(f:Str)(run:List Pr)(hf:f∈fs)(hr:run.length+free.length<=990)(pr:Pos run)(h0:0<=v f)(x y z:Option D) :
  ∃ a b j:List Pr,Ev.turn (aa T (n+1)) (.tp [(.nm 4),(.nm 5)]) tS (aw false (f,run)) [some r0,some (.lst o1 (free.map Dr)),some (dF false fs v),some (.lst true (K.map (aw false))),x,y,z] =
   .ok (.nx [some r0,some (.lst true (j.map Dr)),some (dF false fs v),some (.lst true ((K++[(f,a)]).map (aw false))),some (.str f),some (.lst false (run.map Dr)),some (.tup [.lst false (a.map Dr),.lst false (b.map Dr)])])/\
   cnt a=mn (v f) (cnt run)/\cnt a+cnt j=cnt run+cnt free/\Pos a/\(Pos free->Pos j/\∀ x,mc x a+mc x j=mc x run+mc x free)/\a.length+j.length<=run.length+free.length+1/\a=(aG run [] [] (mn (v f) (cnt run))).1/\j=au (aG run [] [] (mn (v f) (cnt run))).2 free:=by
 have hc:=dD pr
 have e1:=iM n run (by omega)
 obtain⟨a,b,e2,ca,cb,pa,pb,la,lb,UC,Pe,xa,xb⟩:=l9 n run (if cnt run < v f then cnt run else v f) (by omega) pr (by split<;>omega)
 obtain⟨j,e3,cj,pj,lj,xj⟩:=ma n b free (by omega) (by omega)
 refine⟨a,b,j,?_,?_,?_,pa,fun h=>⟨(pj pb h).1,fun x=>by rw[(pj pb h).2 x,<- Pe x];omega⟩,by omega,xa,by rw[xj,xb];rfl⟩
 ·have g:=fT false v hf
  have de:=mf false fs v
  have p1:=bH run
  have p2:=bH a
  have p3:=bH b
  have p4:=bH free
  have lm:(K.map (aw false)).length=K.length:=List.length_map _
  rw[mz,show aw false (f,run)=.tup [.str f,.lst false (run.map Dr)] from rfl]
  have x0:∀ (P Q:D),aW (.tup [P,Q]) (.int 0)=.ok P:=fun _ _=>rfl
  have x1:∀ (P Q:D),aW (.tup [P,Q]) (.int 1)=.ok Q:=fun _ _=>rfl
  have vd:vars ((IR.v 2).DG (IR.v 4))=[2,4]:=rfl
  show Ev.turn (aa T (n+1)) (.tp [(.nm 4),(.nm 5)]) tS (.tup [.str f,.lst false (run.map Dr)]) _=.ok (.nx [_,_,_,some (.lst true (K.map (aw false)++[.tup [.str f,.lst false (a.map Dr)]])),_,_,_])
  generalize dF false fs v=W at *
  generalize K.map (aw false)=KK at *
  generalize run.map Dr=RR at *
  generalize free.map Dr=FF at *
  generalize a.map Dr=AA at *
  generalize b.map Dr=BB at *
  generalize j.map Dr=JJ at *
  generalize cnt run=cr at *
  unfold tS
  simp -implicitDefEqProofs (disch:=omega) only[DK,Nat.reduceBEq,Nat.reduceSub,Nat.reduceAdd,reduceIte,Ev.aJ,vd,g,e1,e2,e3,de,p1,p2,p3,p4,x0,x1,lm]
 ·rw[ca]
  unfold mn
  split<;>split<;>omega
 ·rw[cj,cb,ca]
  omega
noncomputable def bV (v:Str->Int):List Rw->List Pr->List Rw×List Pr
 | [],free=>([],free)
 | p::rows,free=>((p.1,(aG p.2 [] [] (mn (v p.1) (cnt p.2))).1)::(bV v rows (au (aG p.2 [] [] (mn (v p.1) (cnt p.2))).2 free)).1,(bV v rows (au (aG p.2 [] [] (mn (v p.1) (cnt p.2))).2 free)).2)
noncomputable def cI (v:Str->Int):List Rw->List Pr->List Rw×List Pr
 | [],free=>([],free)
 | p::rows,free=>((p.1,au p.2 (aG free [] [] (v p.1 - cnt p.2)).1)::(cI v rows (aG free [] [] (v p.1 - cnt p.2)).2).1,(cI v rows (aG free [] [] (v p.1 - cnt p.2)).2).2)
noncomputable def Fu (rows:List Rw):Int:=(rows.map fun p=>cnt p.2).sum
theorem rj (n:Nat)(r0:D){fs:List Str}{v:Str->Int}(hv:∀ f∈fs,0<=v f):∀ (rows K:List Rw) (free:List Pr) (o1:Bool) (x y z:Option D),K.length+rows.length<=6->(∀ p∈rows,p.1∈fs/\Pos p.2)->Pos free->lsum rows+free.length+rows.length<=980->
  ∃ (K':List Rw) (Dm:List Pr) (o':Bool) (x' y' z':Option D),forM (Ev.turn (aa T (n+1)) (.tp [(.nm 4),(.nm 5)]) tS) (rows.map (aw false)) [some r0,some (.lst o1 (free.map Dr)),some (dF false fs v),some (.lst true (K.map (aw false))),x,y,z]=.ok (.nx [some r0,some (.lst o' (Dm.map Dr)),some (dF false fs v),some (.lst true ((K++K').map (aw false))),x',y',z'])/\
   FY K'=rows.map (fun p=>(p.1,mn (v p.1) (cnt p.2)))/\Fu K' + cnt Dm=Fu rows+cnt free/\(∀ p∈K',Pos p.2)/\Pos Dm/\lsum K' + Dm.length<=lsum rows+free.length+rows.length/\(∀ x,GI x K' + mc x Dm=GI x rows+mc x free)/\(K',Dm)=bV v rows free
 | [],K,free,o1,x,y,z,_,_,pf,hl=>⟨[],free,o1,x,y,z,by rw[List.append_nil];rfl,rfl,rfl,(fun p h=>by cases h),pf,by simp,(fun _=>rfl),rfl⟩
 | (f,run)::rows,K,free,o1,x,y,z,hk,hp,pf,hl=>by
  obtain⟨h1,h2⟩:=hp (f,run) (.head _)
  rw[List.length_cons] at hk hl
  have hl:run.length+lsum rows+free.length+(rows.length+1)<=980:=hl
  obtain⟨a,b,j,e,ca,cj,pa,pj,lj,xa,xj⟩:=za n r0 (fs:=fs) (v:=v) K (by omega) free o1 f run h1 (by omega) h2 (hv f h1) x y z
  obtain⟨K',Dm,o',x',y',z',i1,i2,i3,i4,i5,i6,i7,i8⟩:=rj n r0 hv rows (K++[(f,a)]) j true (some (.str f)) (some (.lst false (run.map Dr))) (some (.tup [.lst false (a.map Dr),.lst false (b.map Dr)])) (by rw[List.length_append,List.length_singleton];omega) (fun p h=>hp p (List.mem_cons_of_mem _ h)) (pj pf).1 (by omega)
  refine⟨(f,a)::K',Dm,o',x',y',z',?_,?_,?_,fun p h=>?_,i5,by rw[List.length_cons];show a.length+lsum K' + Dm.length<=run.length+lsum rows+free.length+(rows.length+1);omega,fun w=>?_,?_⟩
  ·rw[List.map_cons,Ev.cy,e]
   rw[List.append_assoc] at i1
   exact i1
  ·show (f,cnt a)::FY K'=_
   rw[i2,ca]
   rfl
  ·show cnt a+Fu K' + cnt Dm=cnt run+Fu rows+cnt free
   omega
  ·rcases List.mem_cons.mp h with rfl|h
   ·exact pa
   ·exact i4 p h
  ·have:=i7 w
   have:=(pj pf).2 w
   show mc w a+GI w K' + mc w Dm=mc w run+GI w rows+mc w free
   omega
  ·unfold bV
   rw[<- xj,<- i8,<- xa]
theorem nJ (n:Nat){fs:List Str}{v:Str->Int}(hv:∀ f∈fs,0<=v f)(rows:List Rw)(free:List Pr)(hk:rows.length<=6)(hp:∀ p∈rows,p.1∈fs/\Pos p.2)(pf:Pos free)(lf:lsum rows+free.length<=970) :
  ∃ (K':List Rw) (Dm:List Pr) (o':Bool),aa T (n+2) 27 [.lst false (rows.map (aw false)),.lst false (free.map Dr),dF false fs v]=.ok (alt true false o' K' Dm)/\FY K'=rows.map (fun p=>(p.1,mn (v p.1) (cnt p.2)))/\Fu K' + cnt Dm=Fu rows+cnt free/\(∀ p∈K',Pos p.2)/\Pos Dm/\lsum K' + Dm.length<=lsum rows+free.length+6/\(∀ x,GI x K' + mc x Dm=GI x rows+mc x free)/\(K',Dm)=bV v rows free:=by
 obtain⟨K',Dm,o',x',y',z',i1,i2,i3,i4,i5,i6,i7,i8⟩:=rj n (.lst false (rows.map (aw false))) hv rows [] free false none none none (by rw[List.length_nil];omega) hp pf (by omega)
 refine⟨K',Dm,o',?_,i2,i3,i4,i5,by omega,i7,i8⟩
 have body:Rb=[(.asg (.nm 3) (.lst [])),(.DZ (.tp [(.nm 4),(.nm 5)]) (.val (.v 0)) tS),(.ret (.tup [(.v 3),(.v 1)]))]:=rfl
 rw[Ev.go (show T 27=some KN from rfl) (show KN.io=none from rfl) (show KN.np=3 from rfl) (show KN.G.N.length=7 from rfl) (show KN.body=_ from body) rfl]
 rw[List.nil_append,List.map_nil] at i1
 have re:=cY false rows
 have pe:=bH free
 unfold alt
 generalize dF false fs v=W at *
 generalize K'.map (aw false)=KK at *
 generalize rows.map (aw false)=RR at *
 generalize free.map Dr=FF at *
 generalize Dm.map Dr=UD at *
 generalize tS=tb at *
 simp -implicitDefEqProofs (disch:=omega) only[DK,Nat.reduceBEq,Nat.reduceSub,Nat.reduceAdd,reduceIte,re,pe,i1]
theorem zb (n:Nat)(r0:D){fs:List Str}{v:Str->Int}(K:List Rw)(hK:K.length<=1000)(free:List Pr)(o1:Bool)(f:Str)(run:List Pr)(hf:f∈fs)(hr:run.length+free.length<=990)(pr:Pos run)(pf:Pos free)(h0:cnt run<=v f)(h1:v f - cnt run<=cnt free)(x y z:Option D) :
  ∃ a b j:List Pr,Ev.turn (aa T (n+1)) (.tp [(.nm 4),(.nm 5)]) tG (aw false (f,run)) [some r0,some (.lst o1 (free.map Dr)),some (dF false fs v),some (.lst true (K.map (aw true))),x,y,z] =
   .ok (.nx [some r0,some (.lst false (b.map Dr)),some (dF false fs v),some (.lst true ((K++[(f,j)]).map (aw true))),some (.str f),some (.lst false (run.map Dr)),some (.tup [.lst false (a.map Dr),.lst false (b.map Dr)])])/\
   cnt j=v f/\cnt b=cnt free - (v f - cnt run)/\Pos j/\Pos b/\j.length+b.length<=run.length+free.length+1/\(∀ x,mc x j+mc x b=mc x run+mc x free)/\j=au run (aG free [] [] (v f - cnt run)).1/\b=(aG free [] [] (v f - cnt run)).2:=by
 have e1:=iM n run (by omega)
 obtain⟨a,b,e2,ca,cb,pa,pb,la,lb,UC,Pe,xa,xb⟩:=l9 n free (v f - cnt run) (by omega) pf (by omega)
 obtain⟨j,e3,cj,pj,lj,xj⟩:=ma n run a (by omega) (by omega)
 refine⟨a,b,j,?_,?_,?_,(pj pr pa).1,pb,by omega,(fun x=>by rw[(pj pr pa).2 x,<- Pe x];omega),by rw[xj,xa],xb⟩
 ·have g:=fT false v hf
  have de:=mf false fs v
  have p1:=bH run
  have p2:=bH a
  have p3:=bH b
  have p4:=bH free
  have lm:(K.map (aw true)).length=K.length:=List.length_map _
  rw[mz,show aw false (f,run)=.tup [.str f,.lst false (run.map Dr)] from rfl]
  have x0:∀ (P Q:D),aW (.tup [P,Q]) (.int 0)=.ok P:=fun _ _=>rfl
  have x1:∀ (P Q:D),aW (.tup [P,Q]) (.int 1)=.ok Q:=fun _ _=>rfl
  have vd:vars ((IR.v 2).DG (IR.v 4))=[2,4]:=rfl
  show Ev.turn (aa T (n+1)) (.tp [(.nm 4),(.nm 5)]) tG (.tup [.str f,.lst false (run.map Dr)]) _=.ok (.nx [_,_,_,some (.lst true (K.map (aw true)++[.tup [.str f,.lst true (j.map Dr)]])),_,_,_])
  generalize dF false fs v=W at *
  generalize K.map (aw true)=KK at *
  generalize run.map Dr=RR at *
  generalize free.map Dr=FF at *
  generalize a.map Dr=AA at *
  generalize b.map Dr=BB at *
  generalize j.map Dr=JJ at *
  generalize cnt run=cr at *
  unfold tG
  simp -implicitDefEqProofs (disch:=omega) only[DK,Nat.reduceBEq,Nat.reduceSub,Nat.reduceAdd,reduceIte,Ev.aJ,vd,g,e1,e2,e3,de,p1,p2,p3,p4,x0,x1,lm]
 ·rw[cj,ca]
  split<;>omega
 ·rw[cb]
  split<;>omega
theorem rl (n:Nat)(r0:D){fs:List Str}{v:Str->Int}:∀ (rows K:List Rw) (free:List Pr) (o1:Bool) (x y z:Option D),K.length+rows.length<=6->(∀ p∈rows,p.1∈fs/\Pos p.2/\cnt p.2<=v p.1)->Pos free->lsum rows+free.length+rows.length<=980->(rows.map fun p=>v p.1).sum<=Fu rows+cnt free->
  ∃ (K':List Rw) (Dm:List Pr) (o':Bool) (x' y' z':Option D),forM (Ev.turn (aa T (n+1)) (.tp [(.nm 4),(.nm 5)]) tG) (rows.map (aw false)) [some r0,some (.lst o1 (free.map Dr)),some (dF false fs v),some (.lst true (K.map (aw true))),x,y,z]=.ok (.nx [some r0,some (.lst o' (Dm.map Dr)),some (dF false fs v),some (.lst true ((K++K').map (aw true))),x',y',z'])/\
   FY K'=rows.map (fun p=>(p.1,v p.1))/\(rows.map fun p=>v p.1).sum+cnt Dm=Fu rows+cnt free/\(∀ p∈K',Pos p.2)/\Pos Dm/\lsum K' + Dm.length<=lsum rows+free.length+rows.length/\(o1=false->o'=false)/\(∀ x,GI x K' + mc x Dm=GI x rows+mc x free)/\(K',Dm)=cI v rows free
 | [],K,free,o1,x,y,z,_,_,pf,hl,_=>⟨[],free,o1,x,y,z,by rw[List.append_nil];rfl,rfl,rfl,(fun p h=>by cases h),pf,by simp,id,(fun _=>rfl),rfl⟩
 | (f,run)::rows,K,free,o1,x,y,z,hk,hp,pf,hl,hs=>by
  obtain⟨h1,h2,h4⟩:=hp (f,run) (.head _)
  rw[List.length_cons] at hk hl
  have hl:run.length+lsum rows+free.length+(rows.length+1)<=980:=hl
  have h4:cnt run<=v f:=h4
  have hs:v f+(rows.map fun p=>v p.1).sum<=cnt run+Fu rows+cnt free:=hs
  have Rt:Fu rows<=(rows.map fun p=>v p.1).sum:=by
   have key:∀ rs:List Rw,(∀ p∈rs,cnt p.2<=v p.1)->Fu rs<=(rs.map fun p=>v p.1).sum:=by
    intro rs
    induction rs with
    | nil=>intro _;exact Int.le_refl _
    | cons q rs ih=>
     intro h
     have a1:=h q (.head _)
     have a2:=ih fun p hp=>h p (List.mem_cons_of_mem _ hp)
     show cnt q.2+Fu rs<=v q.1+(rs.map fun p=>v p.1).sum
     omega
   exact key rows fun p h=>(hp p (List.mem_cons_of_mem _ h)).2.2
  obtain⟨a,b,j,e,ca,cj,pa,pj,la,lj,xj,xb⟩:=zb n r0 (fs:=fs) (v:=v) K (by omega) free o1 f run h1 (by omega) h2 pf h4 (by omega) x y z
  obtain⟨K',Dm,o',x',y',z',i1,i2,i3,i4,i5,i6,i7,i8,i9⟩:=rl n r0 rows (K++[(f,j)]) b false (some (.str f)) (some (.lst false (run.map Dr))) (some (.tup [.lst false (a.map Dr),.lst false (b.map Dr)])) (by rw[List.length_append,List.length_singleton];omega) (fun p h=>hp p (List.mem_cons_of_mem _ h)) pj (by omega) (by omega)
  refine⟨(f,j)::K',Dm,o',x',y',z',?_,?_,?_,fun p h=>?_,i5,by rw[List.length_cons];show j.length+lsum K' + Dm.length<=run.length+lsum rows+free.length+(rows.length+1);omega,fun _=>i7 rfl,fun w=>?_,?_⟩
  ·rw[List.map_cons,Ev.cy,e]
   rw[List.append_assoc] at i1
   exact i1
  ·show (f,cnt j)::FY K'=_
   rw[i2,ca]
   rfl
  ·show v f+(rows.map fun p=>v p.1).sum+cnt Dm=cnt run+Fu rows+cnt free
   omega
  ·rcases List.mem_cons.mp h with rfl|h
   ·exact pa
   ·exact i4 p h
  ·have:=i8 w
   have:=lj w
   show mc w j+GI w K' + mc w Dm=mc w run+GI w rows+mc w free
   omega
  ·unfold cI
   rw[<- xb,<- i9,<- xj]
theorem rn (n:Nat){fs:List Str}{v:Str->Int}(rows:List Rw)(free:List Pr)(hk:rows.length<=6)(hp:∀ p∈rows,p.1∈fs/\Pos p.2/\cnt p.2<=v p.1)(pf:Pos free)(lf:lsum rows+free.length<=970)(hs:(rows.map fun p=>v p.1).sum<=Fu rows+cnt free) :
  ∃ (K':List Rw) (Dm:List Pr),aa T (n+2) 28 [.lst false (rows.map (aw false)),.lst false (free.map Dr),dF false fs v]=.ok (alt true true false K' Dm)/\FY K'=rows.map (fun p=>(p.1,v p.1))/\(rows.map fun p=>v p.1).sum+cnt Dm=Fu rows+cnt free/\(∀ p∈K',Pos p.2)/\Pos Dm/\lsum K' + Dm.length<=lsum rows+free.length+6/\(∀ x,GI x K' + mc x Dm=GI x rows+mc x free)/\(K',Dm)=cI v rows free:=by
 obtain⟨K',Dm,o',x',y',z',i1,i2,i3,i4,i5,i6,i7,i8,i9⟩:=rl n (.lst false (rows.map (aw false))) rows [] free false none none none (by rw[List.length_nil];omega) hp pf (by omega) hs
 have eo:=i7 rfl
 subst eo
 refine⟨K',Dm,?_,i2,i3,i4,i5,by omega,i8,i9⟩
 have body:Rc=[(.asg (.nm 3) (.lst [])),(.DZ (.tp [(.nm 4),(.nm 5)]) (.val (.v 0)) tG),(.ret (.tup [(.v 3),(.v 1)]))]:=rfl
 rw[Ev.go (show T 28=some KO from rfl) (show KO.io=none from rfl) (show KO.np=3 from rfl) (show KO.G.N.length=7 from rfl) (show KO.body=_ from body) rfl]
 rw[List.nil_append,List.map_nil] at i1
 have re:=cY false rows
 have pe:=bH free
 unfold alt
 generalize dF false fs v=W at *
 generalize K'.map (aw true)=KK at *
 generalize rows.map (aw false)=RR at *
 generalize free.map Dr=FF at *
 generalize Dm.map Dr=UD at *
 generalize tG=tb at *
 simp -implicitDefEqProofs (disch:=omega) only[DK,Nat.reduceBEq,Nat.reduceSub,Nat.reduceAdd,reduceIte,re,pe,i1]
theorem mB (rows:List Rw):(FY rows).map (·.1)=rows.map (·.1):=by
 unfold FY
 rw[List.map_map]
 rfl
theorem uy (rows:List Rw):(FY rows).map (·.2)=rows.map fun p=>cnt p.2:=by
 unfold FY
 rw[List.map_map]
 rfl
section
variable {fs:List Str}{c:Str->Int}{rows:List Rw}{free:List Pr}{L:Nat}
theorem Al.names (a:Al fs c rows free L):rows.map (·.1)=fs:=by
 rw[<- mB,a.sz,List.map_map]
 exact List.map_id' fs
theorem Al.total (a:Al fs c rows free L):Law.Fu rows=(fs.map c).sum:=by
 unfold Law.Fu
 rw[<- uy,a.sz,List.map_map]
 rfl
theorem Al.Ec (a:Al fs c rows free L){p:Rw}(h:p∈rows):p.1∈fs/\cnt p.2=c p.1:=by
 have h1:(p.1,cnt p.2)∈FY rows:=List.mem_map.mpr ⟨p,h,rfl⟩
 rw[a.sz] at h1
 obtain⟨f,hf,e⟩:=List.mem_map.mp h1
 have e1:f=p.1:=congrArg Prod.fst e
 have e2:c f=cnt p.2:=congrArg Prod.snd e
 rw[<- e1]
 exact⟨hf,e2.symm⟩
theorem Al.nn (a:Al fs c rows free L){f:Str}(h:f∈fs):0<=c f:=by
 rw[<- a.names] at h
 obtain⟨p,hp,rfl⟩:=List.mem_map.mp h
 rw[<- (a.Ec hp).2]
 exact dD (a.pos p hp)
theorem mC:∀ (ps:List Sh) (seen:List Str),d6 fs ps seen=none->∀ p∈ps,p.1∈fs/\0<=p.2
 | [],_,_,p,h=>by cases h
 | q::ps,seen,h,p,hp=>by
  unfold d6 at h
  by_cases h1:q.1∈fs
  ·rw[if_neg (fun z=>z h1)] at h
   by_cases h2:q.1∈seen
   ·rw[if_pos h2] at h;cases h
   ·rw[if_neg h2] at h
    by_cases h3:q.2 < 0
    ·rw[if_pos h3] at h;cases h
    ·rw[if_neg h3] at h
     rcases List.mem_cons.mp hp with rfl|hp
     ·exact⟨h1,by omega⟩
     ·exact mC ps _ h p hp
  ·rw[if_pos h1] at h;cases h
theorem rp:∀ (ps:List Sh) (c:Str->Int),(∀ p∈ps,0<=p.2)->∀ f,0<=c f->0<=ups c ps f
 | [],c,_,f,h=>h
 | p::ps,c,hp,f,h=>by
  refine rp ps (up c p.1 p.2) (fun q hq=>hp q (List.mem_cons_of_mem _ hq)) f ?_
  unfold up
  split
  ·exact hp p (.head _)
  ·exact h
theorem rq (a b:Int):mn a b<=a:=by unfold mn;split<;>omega
theorem fU (n:Nat)(a:Al fs c rows free L)(hL:L<=900)(ps:List Sh)(hp:ps.length<=100)(hz:∀ p∈ps,(reprText p.1).length<=1000) :
  (∀ e,d6 fs ps []=some e->aa T (n+4) 29 [alt false false false rows free,.lst false (ps.map DH)]=.error (.exc e))/\
  (d6 fs ps []=none->(10007 < (fs.map (ups c ps)).sum->aa T (n+4) 29 [alt false false false rows free,.lst false (ps.map DH)]=.error (.exc "TooMuch"))/\
   ((fs.map (ups c ps)).sum<=10007->∃ DT Dm,aa T (n+4) 29 [alt false false false rows free,.lst false (ps.map DH)]=.ok (alt true true false DT Dm)/\Al fs (ups c ps) DT Dm (L+12)/\(DT,Dm)=cI (ups c ps) (bV (ups c ps) rows free).1 (bV (ups c ps) rows free).2)):=by
 obtain⟨w1,w2⟩:=ux n a (by omega) ps hp hz
 have ae:=eJ false false false rows free
 have pe:=l7 ps
 have body:Rf=[(.asg (.nm 2) (.call 26 [(.v 0),(.v 1)])),(.asg (.nm 3) (.call 27 [(.idx (.v 0) (.c (.int 0))),(.bi .list [(.idx (.v 0) (.c (.int 1)))]),(.v 2)])),(.ret (.call 28 [(.idx (.v 3) (.c (.int 0))),(.idx (.v 3) (.c (.int 1))),(.v 2)]))]:=rfl
 rw[Ev.go (show T 29=some KP from rfl) (show KP.io=none from rfl) (show KP.np=2 from rfl) (show KP.G.N.length=4 from rfl) (show KP.body=_ from body) rfl]
 have err:∀ e,aa T (n+3) 26 [alt false false false rows free,.lst false (ps.map DH)]=.error (.exc e)->U (ax (aa T (n+3)) [(.asg (.nm 2) (.call 26 [(.v 0),(.v 1)])),(.asg (.nm 3) (.call 27 [(.idx (.v 0) (.c (.int 0))),(.bi .list [(.idx (.v 0) (.c (.int 1)))]),(.v 2)])),(.ret (.call 28 [(.idx (.v 3) (.c (.int 0))),(.idx (.v 3) (.c (.int 1))),(.v 2)]))] (List.map some [alt false false false rows free,.lst false (ps.map DH)]++List.replicate (4 - 2) none)) Ev.qG=.error (.exc e):=fun e h=>by
  generalize alt false false false rows free=A at *
  generalize ps.map DH=PS at *
  simp -implicitDefEqProofs (disch:=omega) only[DK,Nat.reduceBEq,Nat.reduceSub,Nat.reduceAdd,reduceIte,h,ae,pe]
 refine⟨fun e h=>err e (w1 e h),fun h=>⟨fun hs=>err _ ((w2 h).1 hs),fun hs=>?_⟩⟩
 have hw:=(w2 h).2 hs
 have HG:=mC ps [] h
 have hv:∀ f∈fs,0<=ups c ps f:=fun f hf=>rp ps c (fun p hp=>(HG p hp).2) f (a.nn hf)
 have Uz:=a.MH
 have F4:=a.Jj
 have Rq:=a.len
 obtain⟨K,f1,o1,s1,s2,s3,s4,s5,s6,s7,s8⟩:=nJ (n+1) hv rows free (by omega) (fun p h=>⟨(a.Ec h).1,a.pos p h⟩) a.Hn (by omega)
 have kn:K.map (·.1)=fs:=by
  rw[<- mB,s2,List.map_map]
  exact a.names
 have Ig:∀ p∈K,p.1∈fs/\Pos p.2/\cnt p.2<=ups c ps p.1:=fun p h=>by
  refine⟨by rw[<- kn];exact List.mem_map.mpr ⟨p,h,rfl⟩,s4 p h,?_⟩
  have h1:(p.1,cnt p.2)∈FY K:=List.mem_map.mpr ⟨p,h,rfl⟩
  rw[s2] at h1
  obtain⟨q,hq,e⟩:=List.mem_map.mp h1
  have e1:q.1=p.1:=(Prod.mk.inj e).1
  have e2:mn (ups c ps q.1) (cnt q.2)=cnt p.2:=(Prod.mk.inj e).2
  rw[<- e2,<- e1]
  exact rq _ _
 have UE:(K.map fun p=>ups c ps p.1).sum=(fs.map (ups c ps)).sum:=by
  rw[<- kn,List.map_map]
  rfl
 have UG:K.length=fs.length:=by rw[<- kn,List.length_map]
 have ht:=a.total
 have Vs:=a.Fu
 obtain⟨R,f2,g1,g2,g3,g4,g5,g6,g7,g8⟩:=rn (n+1) (fs:=fs) (v:=ups c ps) K f1 (by omega) Ig s5 (by omega) (by omega)
 refine⟨R,f2,?_,⟨a.DJ,a.Jj,a.rep,?_,fun p h=>g4 p h,g5,by omega,by omega,fun x=>by rw[g7 x,s7 x];exact a.Uy x⟩,by rw[g8,<- s8]⟩
 ·have x0:aW (alt false false false rows free) (.int 0)=.ok (.lst false (rows.map (aw false))):=rfl
  have x1:aW (alt false false false rows free) (.int 1)=.ok (.lst false (free.map Dr)):=rfl
  have y0:aW (alt true false o1 K f1) (.int 0)=.ok (.lst true (K.map (aw false))):=rfl
  have y1:aW (alt true false o1 K f1) (.int 1)=.ok (.lst o1 (f1.map Dr)):=rfl
  have l1:ay (dF true fs (ups c ps))=false:=rfl
  have l2:ay (alt true false o1 K f1)=false:=rfl
  have l3:ay (alt true true false R f2)=false:=rfl
  have de:=mf true fs (ups c ps)
  have df:=mf false fs (ups c ps)
  have re:=cY false rows
  have UH:=cY false K
  have p1:=bH free
  have p2:=bH f1
  generalize alt false false false rows free=A at *
  generalize alt true false o1 K f1=B at *
  generalize alt true true false R f2=C at *
  generalize dF true fs (ups c ps)=W at *
  generalize dF false fs (ups c ps)=W' at *
  generalize ps.map DH=PS at *
  generalize rows.map (aw false)=RR at *
  generalize K.map (aw false)=KK at *
  generalize free.map Dr=FF at *
  generalize f1.map Dr=Vt at *
  simp -implicitDefEqProofs (disch:=omega) only[DK,Nat.reduceBEq,Nat.reduceSub,Nat.reduceAdd,reduceIte,hw,ae,pe,x0,x1,y0,y1,l1,l2,l3,de,df,re,UH,p1,p2,s1,g1]
 ·rw[g2,<- kn,List.map_map]
  rfl
end
noncomputable def DQ (fs:List Str)(f:Str)(u:Str->Int):List Int:=(fs.filter fun g=>!(g == f)).map u
theorem mD (cl:Nat->List D->Res D)(o:Bool){fs:List Str}(u:Str->Int)(f:Str):∀ gs:List Str,(∀ g∈gs,g∈fs)->ba (bu cl (.nm 2) [(.cmp .ne (.v 2) (.v 1))] (.DG (.v 0) (.v 2)) [some (dF o fs u),some (.str f),none]) (gs.map .str)=.ok ((DQ gs f u).map .int)
 | [],_=>rfl
 | g::gs,h=>by
  have ih:=mD cl o u f gs fun q hq=>h q (List.mem_cons_of_mem _ hq)
  have hg:=fT o u (h g (.head _))
  unfold DQ at *
  rw[List.map_cons,List.filter_cons]
  show U (bu cl (.nm 2) [(.cmp .ne (.v 2) (.v 1))] (.DG (.v 0) (.v 2)) [some (dF o fs u),some (.str f),none] (.str g)) _=_
  cases e:(g == f) with
  | true=>
   have e1:bu cl (.nm 2) [(.cmp .ne (.v 2) (.v 1))] (.DG (.v 0) (.v 2)) [some (dF o fs u),some (.str f),none] (.str g)=.ok none:=by
    generalize dF o fs u=W at *
    simp -implicitDefEqProofs (disch:=omega) only[DK,Nat.reduceBEq,Nat.reduceSub,Nat.reduceAdd,reduceIte,hg,e]
   rw[e1]
   exact ih
  | false=>
   have e1:bu cl (.nm 2) [(.cmp .ne (.v 2) (.v 1))] (.DG (.v 0) (.v 2)) [some (dF o fs u),some (.str f),none] (.str g)=.ok (some (.int (u g))):=by
    generalize dF o fs u=W at *
    simp -implicitDefEqProofs (disch:=omega) only[DK,Nat.reduceBEq,Nat.reduceSub,Nat.reduceAdd,reduceIte,hg,e]
   rw[e1]
   show U (ba _ _) _=_
   rw[ih]
   rfl
theorem mE {f:Str}(u:Str->Int):∀ {fs:List Str},f∉fs->DQ fs f u=fs.map u
 | [],_=>rfl
 | g::fs,h=>by
  have e:(g == f)=false:=by simpa using fun z:g=f=>h (by rw[z];exact .head _)
  unfold DQ
  rw[List.filter_cons,e]
  show u g::DQ fs f u=_
  rw[mE u fun z=>h (List.mem_cons_of_mem _ z)]
  rfl
theorem eU {f:Str}(u:Str->Int):∀ {fs:List Str},f∈fs->fs.Nodup->(fs.map u).sum=u f+(DQ fs f u).sum
 | g::fs,h,nd=>by
  rw[List.nodup_cons] at nd
  by_cases e:g=f
  ·have eb:(g == f)=true:=by simpa using e
   have ef:DQ (g::fs) f u=DQ fs f u:=by unfold DQ;rw[List.filter_cons,eb];rfl
   rw[ef,mE u (by rw[<- e];exact nd.1),List.map_cons,List.sum_cons,e]
  ·have eb:(g == f)=false:=by simpa using e
   have ef:DQ (g::fs) f u=u g::DQ fs f u:=by unfold DQ;rw[List.filter_cons,eb];rfl
   have:=eU u ((List.mem_cons.mp h).resolve_left fun z=>e z.symm) nd.2
   rw[ef,List.map_cons,List.sum_cons,List.sum_cons,this]
   omega
theorem zd (u:Str->Int)(x:Int)(f:Str):∀ fs:List Str,DQ fs f (up u f x)=DQ fs f u:=fun fs=>by
 unfold DQ
 refine List.map_congr_left fun g hg=>?_
 have:(!(g == f))=true:=(List.mem_filter.mp hg).2
 unfold up
 rw[if_neg (by simpa using this)]
theorem rz:∀ ns:List Int,(∀ x∈ns,0<=x)->0<=ns.sum
 | [],_=>Int.le_refl _
 | n::ns,h=>by
  have a1:=h n (.head _)
  have a2:=rz ns fun x hx=>h x (List.mem_cons_of_mem _ hx)
  rw[List.sum_cons]
  omega
theorem rA (ps:List Sh)(f:Str)(x:Int):(ps++[(f,x)]).map DH=ps.map DH++[.tup [.str f,.int x]]:=by rw[List.map_append];rfl
noncomputable def tT:List IS:=[(.asg (.nm 6) (.idx (.v 1) (.bin .mod (.bin .add (.v 5) (.idx (.v 3) (.c (.int 0)))) (.bi .len [(.v 1)])))),(.asg (.nm 7) (.bin .sub (.c (.int 10007)) (.bi .sum [(.comp {N:=["_law_due","_law_face","_law_own"],kd:=[.cell,.cell,.local],gl:=[],df:=false} [2,6] (.nm 2) (.val (.v 1)) [(.cmp .ne (.v 2) (.v 1))] (.DG (.v 0) (.v 2)))]))),(.Eh (.cmp .gt (.bin .mod (.idx (.v 3) (.bin .add (.bin .mul (.c (.int 3)) (.v 5)) (.c (.int 2)))) (.c (.int 3))) (.c (.int 0))) [(.asg (.nm 8) (.bi .max2 [(.c (.int 0)),(.bin .sub (.DG (.v 2) (.v 6)) (.bin .mod (.idx (.v 3) (.bin .add (.bin .mul (.c (.int 3)) (.v 5)) (.c (.int 4)))) (.c (.int 5))))])),(.asg (.nm 9) (.idx (.lst [(.bin .mod (.idx (.v 3) (.bin .add (.bin .mul (.c (.int 3)) (.v 5)) (.c (.int 3)))) (.bin .add (.v 7) (.c (.int 1)))),(.v 7),(.c (.int 0)),(.v 8)]) (.bin .mod (.bin .fdiv (.idx (.v 3) (.bin .add (.bin .mul (.c (.int 3)) (.v 5)) (.c (.int 4)))) (.c (.int 8))) (.c (.int 4))))),(.Eh (.cmp .eq (.bin .mod (.bin .fdiv (.idx (.v 3) (.bin .add (.bin .mul (.c (.int 3)) (.v 5)) (.c (.int 4)))) (.c (.int 32))) (.c (.int 3))) (.c (.int 0))) [(.asg (.nm 9) (.bi .min2 [(.v 7),(.bin .add (.DG (.v 2) (.v 6)) (.bin .mod (.idx (.v 3) (.bin .add (.bin .mul (.c (.int 3)) (.v 5)) (.c (.int 3)))) (.c (.int 7))))]))] []),(.EG 2 (.v 6) (.v 9)),(.app 4 (.tup [(.v 6),(.v 9)]))] [])]
theorem Cb (a r l i:Int)(h0:0<=i)(h1:i < 4)(ha:0<=a/\a<=r)(hr:0<=r)(hl:0<=l/\l<=r):∃ p,aW (.lst true [.int a,.int r,.int 0,.int l]) (.int i)=.ok (.int p)/\0<=p/\p<=r:=by
 have:i=0∨i=1∨i=2∨i=3:=by omega
 rcases this with rfl|rfl|rfl|rfl
 ·exact⟨a,rfl,ha⟩
 ·exact⟨r,rfl,hr,Int.le_refl _⟩
 ·exact⟨0,rfl,Int.le_refl _,hr⟩
 ·exact⟨l,rfl,hl⟩
theorem rB (o:Bool)(fs:List Str){i:Int}(h0:0<=i)(h1:i < fs.length):aW (.lst o (fs.map .str)) (.int i)=.ok (.str (fs.getD i.toNat Str.empty)):=by
 rw[Ev.Lq,Ev.eE .DE h0 (by rw[List.length_map];exact h1)]
 have DV:i.toNat < fs.length:=by omega
 simp[DV]
theorem ze (cl:Nat->List D->Res D)(cell:Int){fs:List Str}(nd:fs.Nodup)(hn:fs.length<=6)(u:Str->Int)(hu:∀ f∈fs,0<=u f)(hs:(fs.map u).sum<=10007)(xs:List Int)(lx:xs.length=3*fs.length+2)(px:∀ x∈xs,0<=x)(ps:List Sh)(hp:ps.length<=100)(k:Nat)(hk:k < fs.length)(x5 x6 x7 x8 x9:Option D) :
  ∃ q6 q7 q8 q9,(Ev.turn cl (.nm 5) tT (.int (0+(k:Nat))) [some (.int cell),some (.lst false (fs.map .str)),some (dF true fs u),some (.lst true (xs.map .int)),some (.lst true (ps.map DH)),x5,x6,x7,x8,x9]=.ok (.nx [some (.int cell),some (.lst false (fs.map .str)),some (dF true fs u),some (.lst true (xs.map .int)),some (.lst true (ps.map DH)),some (.int (0+(k:Nat))),q6,q7,q8,q9]))∨
   ∃ x,0<=x/\x<=10007 - (DQ fs (fs.getD (((k:Int)+xs.getD 0 0) % fs.length).toNat Str.empty) u).sum/\Ev.turn cl (.nm 5) tT (.int (0+(k:Nat))) [some (.int cell),some (.lst false (fs.map .str)),some (dF true fs u),some (.lst true (xs.map .int)),some (.lst true (ps.map DH)),x5,x6,x7,x8,x9]=.ok (.nx [some (.int cell),some (.lst false (fs.map .str)),some (dF true fs (up u (fs.getD (((k:Int)+xs.getD 0 0) % fs.length).toNat Str.empty) x)),some (.lst true (xs.map .int)),some (.lst true ((ps++[(fs.getD (((k:Int)+xs.getD 0 0) % fs.length).toNat Str.empty,x)]).map DH)),some (.int (0+(k:Nat))),q6,q7,q8,q9]):=by
 have m0:=Int.emod_nonneg ((k:Int)+xs.getD 0 0) (show (fs.length:Int)≠0 by omega)
 have m1:=Int.emod_lt_of_pos ((k:Int)+xs.getD 0 0) (show (0:Int) < fs.length by omega)
 have fi:=rB false fs m0 m1
 have hf:fs.getD (((k:Int)+xs.getD 0 0) % fs.length).toNat Str.empty∈fs:=by
  rw[List.getD_eq_getElem?_getD,List.getElem?_eq_getElem (by omega)]
  exact List.getElem_mem _
 generalize fs.getD (((k:Int)+xs.getD 0 0) % fs.length).toNat Str.empty=f at *
 have g:=fT true u hf
 have e1:=mD cl true u f fs fun g h=>h
 have MI:=eU u hf nd
 have Vu:=hu f hf
 have Rq:(DQ fs f u).length<=1000:=by
  unfold DQ
  rw[List.length_map]
  exact Nat.le_trans (List.length_filter_le _ _) (by omega)
 have ho:0<=(DQ fs f u).sum:=rz _ fun x hx=>by
  unfold DQ at hx
  obtain⟨g,hg,rfl⟩:=List.mem_map.mp hx
  exact hu g (List.mem_filter.mp hg).1
 have e2:∀ o,bX .sum [.lst o ((DQ fs f u).map .int)]=.ok (.int (DQ fs f u).sum):=fun o=>Ev.kj (by omega)
 have lm:(fs.map D.str).length=fs.length:=List.length_map _
 have lp:(ps.map DH).length=ps.length:=List.length_map _
 have y2:=Ev.Lr (o:=true) (xs:=xs) (i:=3*(0+(k:Int))+2) (by omega) (by omega)
 have y3:=Ev.Lr (o:=true) (xs:=xs) (i:=3*(0+(k:Int))+3) (by omega) (by omega)
 have y4:=Ev.Lr (o:=true) (xs:=xs) (i:=3*(0+(k:Int))+4) (by omega) (by omega)
 have y0:=Ev.Lr (o:=true) (xs:=xs) (i:=0) (by omega) (by omega)
 have z3:0<=xs.getD (3*(0+(k:Int))+3).toNat 0:=px _ (by
  rw[List.getD_eq_getElem?_getD,List.getElem?_eq_getElem (by omega)]
  exact List.getElem_mem _)
 have z4:0<=xs.getD (3*(0+(k:Int))+4).toNat 0:=px _ (by
  rw[List.getD_eq_getElem?_getD,List.getElem?_eq_getElem (by omega)]
  exact List.getElem_mem _)
 rw[show (0:Int).toNat=0 from rfl] at y0
 have Pf:aW (.lst false (fs.map .str)) (.int ((0+(k:Int)+xs.getD 0 0) % (fs.length:Int)))=.ok (.str f):=by rw[Int.zero_add];exact fi
 have hr:0<=10007 - (DQ fs f u).sum:=by omega
 have Vv:u f<=10007 - (DQ fs f u).sum:=by omega
 have nz:(0:Int) < (fs.length:Int):=by omega
 generalize (DQ fs f u).sum=S at *
 generalize xs.getD (3*(0+(k:Int))+2).toNat 0=w2 at *
 generalize xs.getD (3*(0+(k:Int))+3).toNat 0=w3 at *
 generalize xs.getD (3*(0+(k:Int))+4).toNat 0=w4 at *
 by_cases c1:0 < w2 % 3
 ·have d1:decide (0 < w2 % 3)=true:=decide_eq_true c1
  have a0:=Int.emod_nonneg w3 (show (10007 - S+1:Int)≠0 by omega)
  have a1:=Int.emod_lt_of_pos w3 (show (0:Int) < 10007 - S+1 by omega)
  have b0:=Int.emod_nonneg (w4 / 8) (show (4:Int)≠0 by decide)
  have b1:=Int.emod_lt_of_pos (w4 / 8) (show (0:Int) < 4 by decide)
  have c0:=Int.emod_nonneg w4 (show (5:Int)≠0 by decide)
  have g0:=Int.emod_nonneg w3 (show (7:Int)≠0 by decide)
  obtain⟨p,ep,p0,p1⟩:=Cb (w3 % (10007 - S+1)) (10007 - S) (if u f - w4 % 5 > 0 then u f - w4 % 5 else 0) (w4 / 8 % 4) b0 b1 ⟨a0,by omega⟩ hr (by split<;>exact⟨by omega,by omega⟩)
  have nr:(0:Int) < 10007 - S+1:=by omega
  have Nr:∀ (v:Int),Ev.cW cl 2 (.v 6) [some (.int cell),some (.lst false (fs.map .str)),some (dF true fs u),some (.lst true (xs.map .int)),some (.lst true (ps.map DH)),some (.int (0+(k:Nat))),some (.str f),some (.int (10007 - S)),some (.int (if u f - w4 % 5 > 0 then u f - w4 % 5 else 0)),some (.int v)] (.int v) (some (dF true fs u))=.ok (.nx [some (.int cell),some (.lst false (fs.map .str)),some (dF true fs (up u f v)),some (.lst true (xs.map .int)),some (.lst true (ps.map DH)),some (.int (0+(k:Nat))),some (.str f),some (.int (10007 - S)),some (.int (if u f - w4 % 5 > 0 then u f - w4 % 5 else 0)),some (.int v)]):=fun v=>uw cl 2 (.v 6) _ rfl hf (by omega)
  cases c2:(w4 / 32 % 3 == 0) with
  | true=>
   refine⟨some (.str f),some (.int (10007 - S)),some (.int (if u f - w4 % 5 > 0 then u f - w4 % 5 else 0)),some (.int (if u f+w3 % 7 < 10007 - S then u f+w3 % 7 else 10007 - S)),.inr ⟨if u f+w3 % 7 < 10007 - S then u f+w3 % 7 else 10007 - S,by split<;>omega,by split<;>omega,?_⟩⟩
   rw[rA]
   have st:=Nr (if u f+w3 % 7 < 10007 - S then u f+w3 % 7 else 10007 - S)
   clear Nr
   generalize hv:(if u f+w3 % 7 < 10007 - S then u f+w3 % 7 else 10007 - S)=v at *
   generalize dF true fs u=W at *
   generalize dF true fs (up u f v)=W' at *
   generalize (DQ fs f u).map D.int=OO at *
   generalize fs.map D.str=FF at *
   generalize xs.map D.int=XX at *
   generalize ps.map DH=PP at *
   generalize Pg:(if u f - w4 % 5 > 0 then u f - w4 % 5 else 0)=less at *
   unfold tT
   simp -implicitDefEqProofs (disch:=omega) only[DK,Nat.reduceBEq,Nat.reduceSub,Nat.reduceAdd,reduceIte,Ev.aJ,Pf,g,e1,e2,lm,lp,y0,y2,y3,y4,d1,ep,c2,st,hv,Pg]
  | false=>
   refine⟨some (.str f),some (.int (10007 - S)),some (.int (if u f - w4 % 5 > 0 then u f - w4 % 5 else 0)),some (.int p),.inr ⟨p,p0,p1,?_⟩⟩
   rw[rA]
   have st:=Nr p
   clear Nr
   generalize p=v at *
   generalize dF true fs u=W at *
   generalize dF true fs (up u f v)=W' at *
   generalize (DQ fs f u).map D.int=OO at *
   generalize fs.map D.str=FF at *
   generalize xs.map D.int=XX at *
   generalize ps.map DH=PP at *
   generalize Pg:(if u f - w4 % 5 > 0 then u f - w4 % 5 else 0)=less at *
   unfold tT
   simp -implicitDefEqProofs (disch:=omega) only[DK,Nat.reduceBEq,Nat.reduceSub,Nat.reduceAdd,reduceIte,Ev.aJ,Pf,g,e1,e2,lm,lp,y0,y2,y3,y4,d1,ep,c2,st,Pg]
 ·have d1:decide (0 < w2 % 3)=false:=decide_eq_false c1
  refine⟨some (.str f),some (.int (10007 - S)),x8,x9,.inl ?_⟩
  generalize dF true fs u=W at *
  generalize (DQ fs f u).map D.int=OO at *
  generalize fs.map D.str=FF at *
  generalize xs.map D.int=XX at *
  generalize ps.map DH=PP at *
  unfold tT
  simp -implicitDefEqProofs (disch:=omega) only[DK,Nat.reduceBEq,Nat.reduceSub,Nat.reduceAdd,reduceIte,Ev.aJ,Pf,g,e1,e2,lm,lp,y0,y2,y3,y4,d1]
theorem cZ (q:Sh):∀ (ps:List Sh) (c:Str->Int),ups c (ps++[q])=up (ups c ps) q.1 q.2
 | [],c=>rfl
 | p::ps,c=>cZ q ps (up c p.1 p.2)
theorem ky {fs:List Str}:∀ (ps:List Sh) (seen:List Str),(∀ p∈ps,p.1∈fs/\0<=p.2)->(ps.map (·.1)).Nodup->(∀ p∈ps,p.1∉seen)->d6 fs ps seen=none
 | [],_,_,_,_=>rfl
 | p::ps,seen,h1,h2,h3=>by
  unfold d6
  rw[List.map_cons,List.nodup_cons] at h2
  have a:=h1 p (.head _)
  rw[if_neg (fun z=>z a.1),if_neg (h3 p (.head _)),if_neg (by omega)]
  refine ky ps _ (fun q hq=>h1 q (List.mem_cons_of_mem _ hq)) h2.2 fun q hq z=>?_
  rcases List.mem_append.mp z with z|z
  ·exact h3 q (List.mem_cons_of_mem _ hq) z
  ·exact h2.1 (by rw[<- List.mem_singleton.mp z];exact List.mem_map.mpr ⟨q,hq,rfl⟩)
noncomputable def fc (fs:List Str)(x0:Int)(k:Nat):Str:=fs.getD (((k:Int)+x0) % fs.length).toNat Str.empty
theorem Cc {fs:List Str}{x0:Int}{k:Nat}(h:k < fs.length):fc fs x0 k∈fs:=by
 have m0:=Int.emod_nonneg ((k:Int)+x0) (show (fs.length:Int)≠0 by omega)
 have m1:=Int.emod_lt_of_pos ((k:Int)+x0) (show (0:Int) < fs.length by omega)
 unfold fc
 rw[List.getD_eq_getElem?_getD,List.getElem?_eq_getElem (by omega)]
 exact List.getElem_mem _
theorem Cd {fs:List Str}(nd:fs.Nodup){x0:Int}{j k:Nat}(hj:j < k)(hk:k < fs.length):fc fs x0 j≠fc fs x0 k:=by
 have m0:=Int.emod_nonneg ((k:Int)+x0) (show (fs.length:Int)≠0 by omega)
 have m1:=Int.emod_lt_of_pos ((k:Int)+x0) (show (0:Int) < fs.length by omega)
 have n0:=Int.emod_nonneg ((j:Int)+x0) (show (fs.length:Int)≠0 by omega)
 have n1:=Int.emod_lt_of_pos ((j:Int)+x0) (show (0:Int) < fs.length by omega)
 have Fq:(((j:Int)+x0) % fs.length).toNat≠(((k:Int)+x0) % fs.length).toNat:=by
  intro e
  have e':((j:Int)+x0) % fs.length=((k:Int)+x0) % fs.length:=by omega
  have h1:((k:Int)+x0 - ((j:Int)+x0)) % fs.length=0:=by
   rw[Int.sub_emod,e',Int.sub_self]
   exact Int.zero_emod _
  have h2:((k:Int)+x0 - ((j:Int)+x0))=(k:Int) - j:=by omega
  rw[h2,Int.emod_eq_of_lt (by omega) (by omega)] at h1
  omega
 unfold fc
 rw[List.getD_eq_getElem?_getD,List.getD_eq_getElem?_getD,List.getElem?_eq_getElem (show (((j:Int)+x0) % fs.length).toNat < fs.length by omega),List.getElem?_eq_getElem (show (((k:Int)+x0) % fs.length).toNat < fs.length by omega)]
 have pw:=List.pairwise_iff_getElem.mp nd
 show fs[(((j:Int)+x0) % fs.length).toNat]≠fs[(((k:Int)+x0) % fs.length).toNat]
 rcases Nat.lt_or_gt_of_ne Fq with h|h
 ·exact pw _ _ _ _ h
 ·exact fun e=>pw _ _ (by omega) (by omega) h e.symm
theorem rC {fs:List Str}(nd:fs.Nodup){f:Str}(hf:f∈fs)(u:Str->Int)(x:Int):(fs.map (up u f x)).sum=x+(DQ fs f u).sum:=by
 rw[eU (up u f x) hf nd,zd]
 unfold up
 rw[if_pos rfl]
theorem uz (n:Nat)(cell:Int){fs:List Str}(nd:fs.Nodup)(hn:fs.length<=6)(c:Str->Int)(hc:∀ f,0<=c f)(hs:(fs.map c).sum<=10007) :
  ∃ ps:List Sh,aa T (n+2) 34 [.int cell,.lst false (fs.map .str),dF false fs c]=.ok (.tup [.lst true (ps.map DH),dF false fs (ups c ps)])/\d6 fs ps []=none/\ps.length<=6/\(fs.map (ups c ps)).sum<=10007/\(∀ p∈ps,p.1∈fs)/\∀ f,0<=ups c ps f:=by
 obtain⟨xs,ex,lx,px⟩:=stream (show T 31=some My from rfl) rfl rfl rfl rfl n cell (3*(fs.length:Int)+2) (by omega) (by omega)
 have lx:xs.length=3*fs.length+2:=by rw[lx];omega
 obtain⟨Di,e,ps,x5,x6,x7,x8,x9,rfl,h1,h2,h3,h4,h5⟩:=Ev.lT (its:=bI 0 (fs.length:Int)) (τ:=[some (.int cell),some (.lst false (fs.map .str)),some (dF true fs c),some (.lst true (xs.map .int)),some (.lst true []),none,none,none,none,none]) (body:=Ev.turn (aa T (n+1)) (.nm 5) tT)
  (fun i τ=>∃ (ps:List Sh) (x5 x6 x7 x8 x9:Option D),τ=[some (.int cell),some (.lst false (fs.map .str)),some (dF true fs (ups c ps)),some (.lst true (xs.map .int)),some (.lst true (ps.map DH)),x5,x6,x7,x8,x9]/\ps.length<=i/\(∀ p∈ps,p.1∈fs/\0<=p.2/\∃ j,j < i/\p.1=fc fs (xs.getD 0 0) j)/\(ps.map (·.1)).Nodup/\(fs.map (ups c ps)).sum<=10007/\∀ f,0<=ups c ps f)
  ⟨[],none,none,none,none,none,rfl,Nat.le_refl _,(fun p h=>by cases h),List.nodup_nil,hs,hc⟩ (by
   rintro i x τ hx ⟨ps,x5,x6,x7,x8,x9,rfl,h1,h2,h3,h4,h5⟩
   have hi:i < fs.length:=by
    have:=(List.getElem?_eq_some_iff.mp hx).1
    rw[cu] at this
    omega
   unfold bI at hx
   rw[List.getElem?_map,List.getElem?_range (by omega)] at hx
   have EZ:D.int (0+(i:Nat))=x:=Option.some.inj hx
   subst EZ
   have weak:∀ p∈ps,p.1∈fs/\0<=p.2/\∃ j,j < i+1/\p.1=fc fs (xs.getD 0 0) j:=fun p hp=>by
    obtain⟨a1,a2,j,a3,a4⟩:=h2 p hp
    exact⟨a1,a2,j,by omega,a4⟩
   obtain⟨q6,q7,q8,q9,ht|⟨v,v0,v1,ht⟩⟩:=ze (aa T (n+1)) cell nd hn (ups c ps) (fun f _=>h5 f) h4 xs lx px ps (by omega) i hi x5 x6 x7 x8 x9
   ·exact⟨_,ht,ps,_,q6,q7,q8,q9,rfl,by omega,weak,h3,h4,h5⟩
   ·have hf:fc fs (xs.getD 0 0) i∈fs:=Cc hi
    have FX:Ev.turn (aa T (n+1)) (.nm 5) tT (.int (0+(i:Nat))) [some (.int cell),some (.lst false (fs.map .str)),some (dF true fs (ups c ps)),some (.lst true (xs.map .int)),some (.lst true (ps.map DH)),x5,x6,x7,x8,x9]=.ok (.nx [some (.int cell),some (.lst false (fs.map .str)),some (dF true fs (ups c (ps++[(fc fs (xs.getD 0 0) i,v)]))),some (.lst true (xs.map .int)),some (.lst true ((ps++[(fc fs (xs.getD 0 0) i,v)]).map DH)),some (.int (0+(i:Nat))),q6,q7,q8,q9]):=by
     rw[cZ]
     exact ht
    refine⟨_,FX,ps++[(fc fs (xs.getD 0 0) i,v)],_,q6,q7,q8,q9,rfl,by rw[List.length_append,List.length_singleton];omega,fun p hp=>?_,?_,?_,fun f=>?_⟩
    ·rcases List.mem_append.mp hp with hp|hp
     ·exact weak p hp
     ·rw[List.mem_singleton.mp hp]
      exact⟨hf,v0,i,by omega,rfl⟩
    ·rw[List.map_append,List.nodup_append]
     refine⟨h3,by simp,fun a ha b hb=>?_⟩
     obtain⟨p,hp,rfl⟩:=List.mem_map.mp ha
     obtain⟨_,_,j,hj,e⟩:=h2 p hp
     have hb:b=fc fs (xs.getD 0 0) i:=by simpa using hb
     rw[hb,e]
     exact Cd nd hj hi
    ·rw[cZ,rC nd hf]
     have v1:v<=10007 - (DQ fs (fc fs (xs.getD 0 0) i) (ups c ps)).sum:=v1
     show v+(DQ fs (fc fs (xs.getD 0 0) i) (ups c ps)).sum<=10007
     omega
    ·rw[cZ]
     unfold up
     split
     ·exact v0
     ·exact h5 f)
 rw[cu] at h1 h2
 refine⟨ps,?_,ky ps [] (fun p hp=>⟨(h2 p hp).1,(h2 p hp).2.1⟩) h3 (fun p _ h=>by cases h),by omega,h4,fun p hp=>(h2 p hp).1,h5⟩
 have body:Rh=[(.asg (.nm 3) (.call 31 [(.v 0),(.bin .add (.bin .mul (.c (.int 3)) (.bi .len [(.v 1)])) (.c (.int 2)))])),(.asg (.nm 4) (.lst [])),(.DZ (.nm 5) (.Eb (.bi .len [(.v 1)])) tT)]:=rfl
 rw[Ev.T3 (show T 34=some KR from rfl) (show KR.io=some (.v 4) from rfl) (show KR.np=3 from rfl) (show KR.G.N.length=10 from rfl) (show KR.body=_ from body) rfl]
 have eo:nt [.int cell,.lst false (fs.map .str),dF false fs c]=[.int cell,.lst false (fs.map .str),dF true fs c]:=rfl
 have fin:∀ (d:D) (t0 t1 t3 t4 t5 t6 t7 t8 t9:Option D),L8 2 (d,[t0,t1,some (dF true fs (ups c ps)),t3,t4,t5,t6,t7,t8,t9])=.ok (.tup [d,dF false fs (ups c ps)]):=fun d t0 t1 t3 t4 t5 t6 t7 t8 t9=>by
  show Dk (aF (fs.map (iv (ups c ps)))) (.ok (D.tup [d,dF false fs (ups c ps)]))=_
  rw[gP]
  rfl
 have se:=fR fs
 have lm:(fs.map D.str).length=fs.length:=List.length_map _
 rw[eo]
 generalize dF true fs c=W at *
 generalize dF true fs (ups c ps)=W1 at *
 generalize dF false fs (ups c ps)=W2 at *
 generalize fs.map D.str=FF at *
 generalize xs.map D.int=XX at *
 generalize ps.map DH=PP at *
 generalize tT=tb at *
 generalize hR:bI 0 (fs.length:Int)=R at *
 simp -implicitDefEqProofs (disch:=omega) only[DK,Nat.reduceBEq,Nat.reduceSub,Nat.reduceAdd,reduceIte,Ev.Q9,ex,e,se,lm,hR,fin]
noncomputable def tk (w:Int)(r:List Pr):List Pr:=(aG r [] [] w).1
noncomputable def dr (w:Int)(r:List Pr):List Pr:=(aG r [] [] w).2
theorem d7:∀ (r A B:List Pr) (w:Int),aG r A B w=(A++tk w r,B++dr w r)
 | [],A,B,w=>by
  show (A,B)=(A++[],B++[])
  rw[List.append_nil,List.append_nil]
 | p::r,A,B,w=>by
  have e1:aG (p::r) A B w=aG r (if p.1 < Ds p w then A++[(p.1,Ds p w)] else A) (if Ds p w < p.2 then B++[(Ds p w,p.2)] else B) (w - (Ds p w - p.1)):=rfl
  have e2:aG (p::r) [] [] w=aG r (if p.1 < Ds p w then []++[(p.1,Ds p w)] else []) (if Ds p w < p.2 then []++[(Ds p w,p.2)] else []) (w - (Ds p w - p.1)):=rfl
  unfold tk dr
  rw[e1,e2,d7 r,d7 r (if p.1 < Ds p w then []++[(p.1,Ds p w)] else [])]
  refine Prod.ext ?_ ?_
  ·show (if p.1 < Ds p w then A++[(p.1,Ds p w)] else A)++_=A++((if p.1 < Ds p w then []++[(p.1,Ds p w)] else [])++_)
   split<;>simp
  ·show (if Ds p w < p.2 then B++[(Ds p w,p.2)] else B)++_=B++((if Ds p w < p.2 then []++[(Ds p w,p.2)] else [])++_)
   split<;>simp
theorem iO (p:Pr)(r:List Pr)(w:Int):tk w (p::r)=(if p.1 < Ds p w then [(p.1,Ds p w)] else [])++tk (w - (Ds p w - p.1)) r:=by
 have e2:aG (p::r) [] [] w=aG r (if p.1 < Ds p w then []++[(p.1,Ds p w)] else []) (if Ds p w < p.2 then []++[(Ds p w,p.2)] else []) (w - (Ds p w - p.1)):=rfl
 show (aG (p::r) [] [] w).1=_
 rw[e2,d7]
 rfl
theorem iP (p:Pr)(r:List Pr)(w:Int):dr w (p::r)=(if Ds p w < p.2 then [(Ds p w,p.2)] else [])++dr (w - (Ds p w - p.1)) r:=by
 have e2:aG (p::r) [] [] w=aG r (if p.1 < Ds p w then []++[(p.1,Ds p w)] else []) (if Ds p w < p.2 then []++[(Ds p w,p.2)] else []) (w - (Ds p w - p.1)):=rfl
 show (aG (p::r) [] [] w).2=_
 rw[e2,d7]
 rfl
theorem _root_.L2.Rn.Pos.tl {p:Pr}{r:List Pr}(h:Pos (p::r)):Pos r:=fun q hq=>h q (List.mem_cons_of_mem _ hq)
theorem _root_.L2.Rn.Pos.hd {p:Pr}{r:List Pr}(h:Pos (p::r)):p.1 < p.2:=h p (.head _)
theorem t0:∀ r:List Pr,Pos r->tk 0 r=[]/\dr 0 r=r
 | [],_=>⟨rfl,rfl⟩
 | p::r,h=>by
  have h1:=h.hd
  have c:Ds p 0=p.1:=by unfold Ds;split<;>omega
  obtain⟨i1,i2⟩:=t0 r h.tl
  rw[iO,iP,c,if_neg (by omega),if_pos h1,show (0:Int) - (p.1 - p.1)=0 by omega,i1,i2]
  exact⟨rfl,rfl⟩
theorem t1 {p:Pr}{r:List Pr}(h:Pos (p::r)){w:Int}(h0:0 < w)(h1:w < p.2 - p.1):tk w (p::r)=[(p.1,p.1+w)]/\dr w (p::r)=(p.1+w,p.2)::r:=by
 have c:Ds p w=p.1+w:=by unfold Ds;split<;>omega
 obtain⟨i1,i2⟩:=t0 r h.tl
 rw[iO,iP,c,if_pos (by omega),if_pos (by omega),show w - (p.1+w - p.1)=0 by omega,i1,i2]
 exact⟨rfl,rfl⟩
theorem t2 {p:Pr}{r:List Pr}(h:Pos (p::r)){w:Int}(h1:p.2 - p.1<=w):tk w (p::r)=p::tk (w - (p.2 - p.1)) r/\dr w (p::r)=dr (w - (p.2 - p.1)) r:=by
 have hh:=h.hd
 have c:Ds p w=p.2:=by unfold Ds;split<;>omega
 rw[iO,iP,c,if_pos hh,if_neg (by omega)]
 exact⟨rfl,rfl⟩
noncomputable def NF:List Pr->Prop
 | p::q::r=>p.2≠q.1/\NF (q::r)
 | _=>True
theorem NF.tl:∀ {p:Pr}{r:List Pr},NF (p::r)->NF r
 | _,[],_=>trivial
 | _,_::_,h=>h.2
noncomputable def rD (x:Int):List Pr->Prop
 | []=>True
 | q::_=>x≠q.1
theorem NF.cons {p:Pr}:∀ {r:List Pr},rD p.2 r->NF r->NF (p::r)
 | [],_,_=>trivial
 | _::_,h,n=>⟨h,n⟩
theorem NF.ne {p:Pr}:∀ {r:List Pr},NF (p::r)->rD p.2 r
 | [],_=>trivial
 | _::_,h=>h.1
theorem wI {x w:Int}(hw:0<=w):∀ {r:List Pr},Pos r->rD x r->rD x (tk w r)
 | [],_,_=>trivial
 | p::r,h,n=>by
  by_cases h0:w=0
  ·subst h0
   rw[(t0 _ h).1]
   exact trivial
  ·by_cases h1:w < p.2 - p.1
   ·rw[(t1 h (by omega) h1).1]
    exact n
   ·rw[(t2 h (by omega)).1]
    exact n
theorem wJ {w:Int}(hw:0<=w):∀ {r:List Pr} ,Pos r->NF r->NF (tk w r):=by
 intro r
 induction r generalizing w with
 | nil=>intro _ _;exact trivial
 | cons p r ih=>
  intro h n
  by_cases h0:w=0
  ·subst h0
   rw[(t0 _ h).1]
   exact trivial
  ·by_cases h1:w < p.2 - p.1
   ·rw[(t1 h (by omega) h1).1]
    exact trivial
   ·rw[(t2 h (by omega)).1]
    exact NF.cons (wI (by omega) h.tl n.ne) (ih (by omega) h.tl n.tl)
theorem wK {w:Int}(hw:0<=w):∀ {r:List Pr} ,Pos r->NF r->NF (dr w r):=by
 intro r
 induction r generalizing w with
 | nil=>intro _ _;exact trivial
 | cons p r ih=>
  intro h n
  by_cases h0:w=0
  ·subst h0
   rw[(t0 _ h).2]
   exact n
  ·by_cases h1:w < p.2 - p.1
   ·rw[(t1 h (by omega) h1).2]
    exact NF.cons n.ne n.tl
   ·rw[(t2 h (by omega)).2]
    exact ih (by omega) h.tl n.tl
theorem eV:∀ {l r:List Pr},NF l->NF r->NF (au l r)
 | [],r,_,h=>h
 | [q],[],_,_=>trivial
 | [q],p::rs,_,h=>by
  show NF (if q.2=p.1 then (q.1,p.2)::rs else q::p::rs)
  split
  ·exact NF.cons h.ne h.tl
  ·exact⟨by assumption,h⟩
 | q::q'::l,r,h,n=>by
  show NF (q::au (q'::l) r)
  refine NF.cons ?_ (eV h.2 n)
  match l,r with
  | [],[]=>exact h.1
  | [],p::rs=>
   show rD q.2 (if q'.2=p.1 then (q'.1,p.2)::rs else q'::p::rs)
   split<;>exact h.1
  | _::_,_=>exact h.1
theorem c5:∀ {l r:List Pr},Pos l->Pos r->Pos (au l r)
 | [],r,_,h=>h
 | [q],[],h,_=>h
 | [q],p::rs,h,h'=>by
  have a1:=h.hd
  have a2:=h'.hd
  show Pos (if q.2=p.1 then (q.1,p.2)::rs else q::p::rs)
  split
  ·intro y hy
   rcases List.mem_cons.mp hy with rfl|hy
   ·show q.1 < p.2
    omega
   ·exact h'.tl y hy
  ·intro y hy
   rcases List.mem_cons.mp hy with rfl|hy
   ·exact a1
   ·exact h' y hy
 | q::q'::l,r,h,h'=>by
  intro y hy
  rcases List.mem_cons.mp (show y∈q::au (q'::l) r from hy) with rfl|hy
  ·exact h.hd
  ·exact c5 h.tl h' y hy
theorem kz {w:Int}(hw:0<=w):∀ {r:List Pr},Pos r->Pos (tk w r):=by
 intro r
 induction r generalizing w with
 | nil=>intro _ q hq;cases hq
 | cons p r ih=>
  intro h
  by_cases h0:w=0
  ·subst h0
   rw[(t0 _ h).1]
   intro q hq
   cases hq
  ·by_cases h1:w < p.2 - p.1
   ·rw[(t1 h (by omega) h1).1]
    intro q hq
    rw[List.mem_singleton.mp hq]
    show p.1 < p.1+w
    omega
   ·rw[(t2 h (by omega)).1]
    intro q hq
    rcases List.mem_cons.mp hq with rfl|hq
    ·exact h.hd
    ·exact ih (by omega) h.tl q hq
theorem dE {w:Int}(hw:0<=w):∀ {r:List Pr},Pos r->Pos (dr w r):=by
 intro r
 induction r generalizing w with
 | nil=>intro _ q hq;cases hq
 | cons p r ih=>
  intro h
  by_cases h0:w=0
  ·subst h0
   rw[(t0 _ h).2]
   exact h
  ·by_cases h1:w < p.2 - p.1
   ·rw[(t1 h (by omega) h1).2]
    intro q hq
    rcases List.mem_cons.mp hq with rfl|hq
    ·show p.1+w < p.2
     omega
    ·exact h.tl q hq
   ·rw[(t2 h (by omega)).2]
    exact ih (by omega) h.tl
theorem rE {v m:Int}(hv:0<=v)(hm:v<=m):∀ {r:List Pr},Pos r->tk v (tk m r)=tk v r:=by
 intro r
 induction r generalizing v m with
 | nil=>intro _;rfl
 | cons p r ih=>
  intro h
  have hp:=kz (w:=m) (by omega) h
  have hh:=h.hd
  by_cases v0:v=0
  ·subst v0
   rw[(t0 _ hp).1,(t0 _ h).1]
  ·by_cases m1:m < p.2 - p.1
   ·rw[(t1 h (by omega) m1).1] at hp ⊢
    rw[(t1 h (by omega) (by omega)).1]
    by_cases e:v=m
    ·subst e
     rw[(t2 hp (by show p.1+v - p.1<=v;omega)).1]
     rfl
    ·rw[(t1 hp (by omega) (by show v < p.1+m - p.1;omega)).1]
   ·rw[(t2 h (by omega)).1] at hp ⊢
    by_cases v1:v < p.2 - p.1
    ·rw[(t1 hp (by omega) v1).1,(t1 h (by omega) v1).1]
    ·rw[(t2 hp (by omega)).1,(t2 h (by omega)).1,ih (by omega) (by omega) h.tl]
theorem Ce {u m:Int}(hu:0<=u)(hm:0<=m):∀ {r:List Pr},Pos r->dr u (dr m r)=dr (m+u) r:=by
 intro r
 induction r generalizing m with
 | nil=>intro _;rfl
 | cons p r ih=>
  intro h
  have hp:=dE (w:=m) hm h
  have hh:=h.hd
  by_cases m0:m=0
  ·subst m0
   rw[(t0 _ h).2,Int.zero_add]
  ·by_cases m1:m < p.2 - p.1
   ·rw[(t1 h (by omega) m1).2] at hp ⊢
    by_cases u0:u=0
    ·subst u0
     rw[(t0 _ hp).2,Int.add_zero,(t1 h (by omega) m1).2]
    ·by_cases u1:u < p.2 - (p.1+m)
     ·rw[(t1 hp (by omega) u1).2,(t1 h (w:=m+u) (by omega) (by omega)).2,Int.add_assoc]
     ·rw[(t2 hp (by show p.2 - (p.1+m)<=u;omega)).2,(t2 h (w:=m+u) (by omega)).2]
      congr 1
      show u - (p.2 - (p.1+m))=_
      omega
   ·rw[(t2 h (by omega)).2,ih (by omega) h.tl,(t2 h (w:=m+u) (by omega)).2]
    congr 1
    omega
theorem join_cons (q p:Pr)(l r:List Pr):au (q::p::l) r=q::au (p::l) r:=rfl
theorem join_1 {q p:Pr}(rs:List Pr)(h:q.2=p.1):au [q] (p::rs)=(q.1,p.2)::rs:=if_pos h
theorem kC {q p:Pr}(rs:List Pr)(h:q.2≠p.1):au [q] (p::rs)=q::p::rs:=if_neg h
theorem rF {w:Int}(hw:0<=w):∀ {r:List Pr}{q:Pr},Pos r->NF (q::r)->au (q::tk w r) (dr w r)=q::r:=by
 intro r
 induction r generalizing w with
 | nil=>intro q _ _;rfl
 | cons p r ih=>
  intro q h n
  by_cases w0:w=0
  ·subst w0
   rw[(t0 _ h).1,(t0 _ h).2]
   exact kC r n.1
  ·by_cases w1:w < p.2 - p.1
   ·rw[(t1 h (by omega) w1).1,(t1 h (by omega) w1).2,join_cons,join_1 r (by rfl)]
   ·rw[(t2 h (by omega)).1,(t2 h (by omega)).2,join_cons,ih (by omega) h.tl n.2]
theorem uA {v m:Int}(hv:0<=v)(hm:v<=m):∀ {r:List Pr},Pos r->NF r->au (dr v (tk m r)) (dr m r)=dr v r:=by
 intro r
 induction r generalizing v m with
 | nil=>intro _ _;rfl
 | cons p r ih=>
  intro h n
  have hp:=kz (w:=m) (by omega) h
  have hh:=h.hd
  by_cases m0:m=0
  ·subst m0
   have v0:v=0:=by omega
   subst v0
   rw[(t0 _ h).1,(t0 _ h).2]
   rfl
  ·by_cases m1:m < p.2 - p.1
   ·rw[(t1 h (by omega) m1).1] at hp ⊢
    rw[(t1 h (by omega) m1).2]
    by_cases v0:v=0
    ·subst v0
     rw[(t0 _ hp).2,(t0 _ h).2,join_1 r (by rfl)]
    ·by_cases e:v=m
     ·subst e
      rw[(t2 hp (by show p.1+v - p.1<=v;omega)).2,(t1 h (by omega) m1).2]
      rfl
     ·rw[(t1 hp (by omega) (by show v < p.1+m - p.1;omega)).2,(t1 h (w:=v) (by omega) (by omega)).2,join_1 r (by rfl)]
   ·rw[(t2 h (by omega)).1] at hp ⊢
    rw[(t2 h (w:=m) (by omega)).2]
    by_cases v0:v=0
    ·subst v0
     rw[(t0 _ hp).2,(t0 _ h).2,rF (by omega) h.tl n]
    ·by_cases v1:v < p.2 - p.1
     ·rw[(t1 hp (by omega) v1).2,(t1 h (by omega) v1).2,rF (q:=(p.1+v,p.2)) (by omega) h.tl (NF.cons n.ne n.tl)]
     ·rw[(t2 hp (by omega)).2,(t2 h (w:=v) (by omega)).2,ih (by omega) (by omega) h.tl n.tl]
theorem C6 {m u:Int}(hm:0<=m)(hu:0<=u):∀ {r:List Pr}{q:Pr},Pos r->NF (q::r)->au (q::tk m r) (tk u (dr m r))=q::tk (m+u) r:=by
 intro r
 induction r generalizing m with
 | nil=>intro q _ _;rfl
 | cons p r ih=>
  intro q h n
  have hh:=h.hd
  have hd:=dE (w:=m) hm h
  by_cases m0:m=0
  ·subst m0
   rw[(t0 _ h).1,(t0 _ h).2,Int.zero_add]
   have:=wI (x:=q.2) hu h n.1
   cases z:tk u (p::r) with
   | nil=>rfl
   | cons a l=>
    rw[z] at this
    exact kC l this
  ·by_cases m1:m < p.2 - p.1
   ·rw[(t1 h (by omega) m1).2] at hd ⊢
    rw[(t1 h (by omega) m1).1,join_cons]
    by_cases u0:u=0
    ·subst u0
     rw[(t0 _ hd).1,Int.add_zero,(t1 h (by omega) m1).1]
     rfl
    ·by_cases u1:u < p.2 - (p.1+m)
     ·rw[(t1 hd (by omega) u1).1,(t1 h (w:=m+u) (by omega) (by omega)).1,join_1 _ (by rfl)]
      show _::[(p.1,p.1+m+u)]=_
      rw[Int.add_assoc]
     ·rw[(t2 hd (by show p.2 - (p.1+m)<=u;omega)).1,(t2 h (w:=m+u) (by omega)).1,join_1 _ (by rfl)]
      show _::(p.1,p.2)::tk (u - (p.2 - (p.1+m))) r=_
      rw[show u - (p.2 - (p.1+m))=m+u - (p.2 - p.1) by omega]
   ·rw[(t2 h (by omega)).1,(t2 h (w:=m) (by omega)).2,join_cons,ih (by omega) h.tl n.2,(t2 h (w:=m+u) (by omega)).1,show m - (p.2 - p.1)+u=m+u - (p.2 - p.1) by omega]
theorem uB {m u:Int}(hm:0<=m)(hu:0<=u){r:List Pr}(h:Pos r)(n:NF r):au (tk m r) (tk u (dr m r))=tk (m+u) r:=by
 cases r with
 | nil=>rfl
 | cons p r=>
  have hh:=h.hd
  have hd:=dE (w:=m) hm h
  by_cases m0:m=0
  ·subst m0
   rw[(t0 _ h).1,(t0 _ h).2,Int.zero_add]
   rfl
  ·by_cases m1:m < p.2 - p.1
   ·rw[(t1 h (by omega) m1).2] at hd ⊢
    rw[(t1 h (by omega) m1).1]
    by_cases u0:u=0
    ·subst u0
     rw[(t0 _ hd).1,Int.add_zero,(t1 h (by omega) m1).1]
     rfl
    ·by_cases u1:u < p.2 - (p.1+m)
     ·rw[(t1 hd (by omega) u1).1,(t1 h (w:=m+u) (by omega) (by omega)).1,join_1 _ (by rfl)]
      show [(p.1,p.1+m+u)]=_
      rw[Int.add_assoc]
     ·rw[(t2 hd (by show p.2 - (p.1+m)<=u;omega)).1,(t2 h (w:=m+u) (by omega)).1,join_1 _ (by rfl)]
      show (p.1,p.2)::tk (u - (p.2 - (p.1+m))) r=_
      rw[show u - (p.2 - (p.1+m))=m+u - (p.2 - p.1) by omega]
   ·rw[(t2 h (by omega)).1,(t2 h (w:=m) (by omega)).2,C6 (by omega) hu h.tl n,(t2 h (w:=m+u) (by omega)).1,show m - (p.2 - p.1)+u=m+u - (p.2 - p.1) by omega]
theorem fV:∀ {l r:List Pr},Pos l->Pos r->tk (cnt l) (au l r)=l/\dr (cnt l) (au l r)=r
 | [],r,_,h=>t0 r h
 | [q],[],h,_=>by
  have e:cnt [q]=q.2 - q.1:=by show q.2 - q.1+0=_;omega
  rw[e]
  obtain⟨a,b⟩:=t2 h (w:=q.2 - q.1) (Int.le_refl _)
  exact⟨a,b⟩
 | [q],p::rs,h,h'=>by
  have e:cnt [q]=q.2 - q.1:=by show q.2 - q.1+0=_;omega
  have a1:=h.hd
  have a2:=h'.hd
  rw[e]
  have hj:=c5 h h'
  by_cases c:q.2=p.1
  ·rw[join_1 rs c] at hj ⊢
   obtain⟨b1,b2⟩:=t1 hj (w:=q.2 - q.1) (by omega) (by show q.2 - q.1 < p.2 - q.1;omega)
   rw[b1,b2]
   have e1:(q.1,q.1+(q.2 - q.1))=q:=by rw[show q.1+(q.2 - q.1)=q.2 by omega]
   have e2:(q.1+(q.2 - q.1),p.2)=p:=by rw[show q.1+(q.2 - q.1)=p.1 by omega]
   exact⟨congrArg (·::[]) e1,congrArg (·::rs) e2⟩
  ·rw[kC rs c] at hj ⊢
   obtain⟨b1,b2⟩:=t2 hj (w:=q.2 - q.1) (Int.le_refl _)
   obtain⟨d1,d2⟩:=t0 _ h'
   rw[b1,b2,Int.sub_self,d1,d2]
   exact⟨rfl,rfl⟩
 | q::q'::l,r,h,h'=>by
  obtain⟨i1,i2⟩:=fV h.tl h'
  have a1:=h.hd
  have hj:=c5 h h'
  have cn:=dD h.tl
  have e:cnt (q::q'::l)=(q.2 - q.1)+cnt (q'::l):=rfl
  rw[join_cons] at hj ⊢
  obtain⟨b1,b2⟩:=t2 hj (w:=cnt (q::q'::l)) (by omega)
  rw[b1,b2,show cnt (q::q'::l) - (q.2 - q.1)=cnt (q'::l) by omega,i1,i2]
  exact⟨rfl,rfl⟩
theorem kD {w:Int}(hw:0<=w){r:List Pr}(h:Pos r)(hr:w<=cnt r):cnt (tk w r)=w:=by
 have:=(kr r [] [] w h hw (fun _ h=>by cases h) (fun _ h=>by cases h)).1
 show cnt (aG r [] [] w).1=w
 rw[this]
 show 0+(if w < cnt r then w else cnt r)=w
 split<;>omega
theorem rG {r:List Pr}(h:Pos r):tk (cnt r) r=r/\dr (cnt r) r=[]:=by
 have:=fV h (r:=[]) (fun _ h=>by cases h)
 rw[cz] at this
 exact this
theorem wL {a b:Int}(ha:0<=a)(hb:0<=b):0<=mn a b:=by unfold mn;split<;>omega
theorem rH (a b:Int):mn a b<=b:=by unfold mn;split<;>omega
theorem rJ (v:Str->Int):∀ (rows:List Rw) (free:List Pr),(∀ p∈rows,Pos p.2/\NF p.2/\0<=v p.1)->Pos free->NF free->
  (∀ p∈(bV v rows free).1,Pos p.2/\NF p.2/\cnt p.2<=v p.1)/\Pos (bV v rows free).2/\NF (bV v rows free).2
 | [],free,_,h1,h2=>⟨(fun p h=>by cases h),h1,h2⟩
 | (f,run)::rows,free,h,h1,h2=>by
  obtain⟨a1,a2,a3⟩:=h (f,run) (.head _)
  have a1:Pos run:=a1
  have a2:NF run:=a2
  have a3:0<=v f:=a3
  have cn:=dD a1
  have m0:=wL a3 cn
  have m1:=rH (v f) (cnt run)
  have m2:=rq (v f) (cnt run)
  obtain⟨i1,i2,i3⟩:=rJ v rows (au (dr (mn (v f) (cnt run)) run) free) (fun p hp=>h p (List.mem_cons_of_mem _ hp)) (c5 (dE m0 a1) h1) (eV (wK m0 a1 a2) h2)
  refine⟨fun p hp=>?_,i2,i3⟩
  rcases List.mem_cons.mp (show p∈(f,tk (mn (v f) (cnt run)) run)::(bV v rows (au (dr (mn (v f) (cnt run)) run) free)).1 from hp) with rfl|hp
  ·refine⟨kz m0 a1,wJ m0 a1 a2,?_⟩
   show cnt (tk (mn (v f) (cnt run)) run)<=v f
   rw[kD m0 a1 m1]
   exact m2
  ·exact i1 p hp
theorem rK (v:Str->Int):∀ (rows:List Rw) (free:List Pr),(∀ p∈rows,Pos p.2/\NF p.2/\cnt p.2<=v p.1)->Pos free->NF free->
  (∀ p∈(cI v rows free).1,NF p.2)/\NF (cI v rows free).2
 | [],free,_,h1,h2=>⟨(fun p h=>by cases h),h2⟩
 | (f,run)::rows,free,h,h1,h2=>by
  obtain⟨a1,a2,a3⟩:=h (f,run) (.head _)
  have a1:Pos run:=a1
  have a2:NF run:=a2
  have a3:cnt run<=v f:=a3
  have m0:0<=v f - cnt run:=by omega
  obtain⟨i1,i2⟩:=rK v rows (dr (v f - cnt run) free) (fun p hp=>h p (List.mem_cons_of_mem _ hp)) (dE m0 h1) (wK m0 h1 h2)
  refine⟨fun p hp=>?_,i2⟩
  rcases List.mem_cons.mp (show p∈(f,au run (tk (v f - cnt run) free))::(cI v rows (dr (v f - cnt run) free)).1 from hp) with rfl|hp
  ·exact eV a2 (wJ m0 h1 h2)
  ·exact i1 p hp
structure KU (rows:List Rw)(free:List Pr):Prop where
 r:∀ p∈rows,NF p.2
 f:NF free
theorem zh {fs:List Str}{c:Str->Int}{rows:List Rw}{free:List Pr}{L:Nat}(a:Al fs c rows free L)(n:KU rows free){v:Str->Int}(hv:∀ f,0<=v f){DT:List Rw}{Dm:List Pr}(e:(DT,Dm)=cI v (bV v rows free).1 (bV v rows free).2):KU DT Dm:=by
 obtain⟨i1,i2,i3⟩:=rJ v rows free (fun p hp=>⟨a.pos p hp,n.r p hp,hv _⟩) a.Hn n.f
 obtain⟨j1,j2⟩:=rK v _ _ i1 i2 i3
 rw[<- e] at j1 j2
 exact⟨j1,j2⟩
noncomputable def Ed (f:Str)(R:List Pr)(rows:List Rw):List Rw:=rows.map fun p=>if p.1=f then (p.1,R) else p
theorem bx (f:Str)(R:List Pr)(p:Rw)(rows:List Rw):Ed f R (p::rows)=(if p.1=f then (p.1,R) else p)::Ed f R rows:=rfl
theorem d8 {f:Str}{R:List Pr}:∀ {rows:List Rw},f∉rows.map (·.1)->Ed f R rows=rows
 | [],_=>rfl
 | p::rows,h=>by
  rw[List.map_cons,List.mem_cons,not_or] at h
  rw[bx,if_neg (fun z=>h.1 z.symm),d8 h.2]
theorem rL {v:Str->Int}:∀ {rows:List Rw}{free:List Pr},(∀ p∈rows,Pos p.2/\v p.1=cnt p.2)->bV v rows free=(rows,free)
 | [],_,_=>rfl
 | (f,run)::rows,free,h=>by
  obtain⟨a1,a2⟩:=h (f,run) (.head _)
  have a1:Pos run:=a1
  have a2:v f=cnt run:=a2
  have e:mn (v f) (cnt run)=cnt run:=by rw[a2];unfold mn;split<;>rfl
  have i:=rL (rows:=rows) (free:=free) fun p hp=>h p (List.mem_cons_of_mem _ hp)
  obtain⟨c1,c2⟩:=rG a1
  show ((f,tk (mn (v f) (cnt run)) run)::(bV v rows (au (dr (mn (v f) (cnt run)) run) free)).1,(bV v rows (au (dr (mn (v f) (cnt run)) run) free)).2)=_
  rw[e,c1,c2,show au [] free=free from rfl,i]
theorem rM {v:Str->Int}:∀ {rows:List Rw}{free:List Pr},Pos free->(∀ p∈rows,v p.1=cnt p.2)->cI v rows free=(rows,free)
 | [],_,_,_=>rfl
 | (f,run)::rows,free,hf,h=>by
  have a2:v f=cnt run:=h (f,run) (.head _)
  have i:=rM (rows:=rows) hf fun p hp=>h p (List.mem_cons_of_mem _ hp)
  obtain⟨c1,c2⟩:=t0 _ hf
  show ((f,au run (tk (v f - cnt run) free))::(cI v rows (dr (v f - cnt run) free)).1,(cI v rows (dr (v f - cnt run) free)).2)=_
  rw[a2,Int.sub_self,c1,c2,cz,i]
theorem rN {v:Str->Int}{f:Str}{R:List Pr}:∀ {rows:List Rw}{free:List Pr},(rows.map (·.1)).Nodup->f∈rows.map (·.1)->(∀ p∈rows,p.1≠f->Pos p.2/\v p.1=cnt p.2)->
  bV v (Ed f R rows) free=(Ed f (tk (mn (v f) (cnt R)) R) rows,au (dr (mn (v f) (cnt R)) R) free)
 | [],_,_,h,_=>by cases h
 | (g,run)::rows,free,nd,FV,h=>by
  rw[List.map_cons] at nd FV
  obtain⟨n1,n2⟩:=List.nodup_cons.mp nd
  by_cases e:g=f
  ·subst e
   have n1:g∉rows.map (·.1):=n1
   rw[bx,bx,if_pos rfl,if_pos rfl,d8 n1,d8 n1]
   have i:=rL (v:=v) (rows:=rows) (free:=au (dr (mn (v g) (cnt R)) R) free) fun p hp=>h p (List.mem_cons_of_mem _ hp) fun z=>n1 (by rw[<- z];exact List.mem_map_of_mem hp)
   show ((g,tk (mn (v g) (cnt R)) R)::(bV v rows (au (dr (mn (v g) (cnt R)) R) free)).1,(bV v rows (au (dr (mn (v g) (cnt R)) R) free)).2)=_
   rw[i]
  ·obtain⟨a1,a2⟩:=h (g,run) (.head _) e
   have a1:Pos run:=a1
   have a2:v g=cnt run:=a2
   have FV:f∈rows.map (·.1):=(List.mem_cons.mp FV).elim (fun z=>absurd z.symm e) id
   have em:mn (v g) (cnt run)=cnt run:=by rw[a2];unfold mn;split<;>rfl
   obtain⟨c1,c2⟩:=rG a1
   have i:=rN (v:=v) (R:=R) (rows:=rows) (free:=free) n2 FV fun p hp=>h p (List.mem_cons_of_mem _ hp)
   rw[bx,bx,if_neg (show ¬ (g,run).1=f from e),if_neg (show ¬ (g,run).1=f from e)]
   show ((g,tk (mn (v g) (cnt run)) run)::(bV v (Ed f R rows) (au (dr (mn (v g) (cnt run)) run) free)).1,(bV v (Ed f R rows) (au (dr (mn (v g) (cnt run)) run) free)).2)=_
   rw[em,c1,c2,show au [] free=free from rfl,i]
theorem rO {v:Str->Int}{f:Str}{R:List Pr}:∀ {rows:List Rw}{free:List Pr},Pos free->cnt R<=v f->(rows.map (·.1)).Nodup->f∈rows.map (·.1)->(∀ p∈rows,p.1≠f->v p.1=cnt p.2)->
  cI v (Ed f R rows) free=(Ed f (au R (tk (v f - cnt R) free)) rows,dr (v f - cnt R) free)
 | [],_,_,_,_,h,_=>by cases h
 | (g,run)::rows,free,hf,hR,nd,FV,h=>by
  rw[List.map_cons] at nd FV
  obtain⟨n1,n2⟩:=List.nodup_cons.mp nd
  by_cases e:g=f
  ·subst e
   have n1:g∉rows.map (·.1):=n1
   rw[bx,bx,if_pos rfl,if_pos rfl,d8 n1,d8 n1]
   have i:=rM (v:=v) (rows:=rows) (dE (w:=v g - cnt R) (by omega) hf) fun p hp=>h p (List.mem_cons_of_mem _ hp) fun z=>n1 (by rw[<- z];exact List.mem_map_of_mem hp)
   show ((g,au R (tk (v g - cnt R) free))::(cI v rows (dr (v g - cnt R) free)).1,(cI v rows (dr (v g - cnt R) free)).2)=_
   rw[i]
  ·have a2:v g=cnt run:=h (g,run) (.head _) e
   have FV:f∈rows.map (·.1):=(List.mem_cons.mp FV).elim (fun z=>absurd z.symm e) id
   obtain⟨c1,c2⟩:=t0 _ hf
   have i:=rO (v:=v) (R:=R) (rows:=rows) hf hR n2 FV fun p hp=>h p (List.mem_cons_of_mem _ hp)
   rw[bx,bx,if_neg (show ¬ (g,run).1=f from e),if_neg (show ¬ (g,run).1=f from e)]
   show ((g,au run (tk (v g - cnt run) free))::(cI v (Ed f R rows) (dr (v g - cnt run) free)).1,(cI v (Ed f R rows) (dr (v g - cnt run) free)).2)=_
   rw[a2,Int.sub_self,c1,c2,cz,i]
theorem zk {v:Str->Int}{f:Str}{S:List Pr}(hS:Pos S)(nS:NF S){m:Int}(m0:0<=m)(m1:m<=cnt S)(w0:0<=v f)(w1:v f<=cnt S){rows:List Rw}(nd:(rows.map (·.1)).Nodup)(FV:f∈rows.map (·.1))(h:∀ p∈rows,p.1≠f->Pos p.2/\v p.1=cnt p.2) :
  cI v (bV v (Ed f (tk m S) rows) (dr m S)).1 (bV v (Ed f (tk m S) rows) (dr m S)).2=(Ed f (tk (v f) S) rows,dr (v f) S):=by
 rw[rN nd FV h,kD m0 hS m1]
 have u0:=wL w0 m0
 have u1:=rH (v f) m
 have u2:=rq (v f) m
 generalize mn (v f) m=u at *
 rw[rE u0 u1 hS,uA u0 u1 hS nS]
 have hc:=kD u0 hS (by omega)
 rw[rO (dE u0 hS) (by omega) nd FV fun p hp e=>(h p hp e).2,hc,uB u0 (by omega) hS nS,Ce (by omega) u0 hS,show u+(v f - u)=v f by omega]
noncomputable def JO:List IS:=[(.asg (.nm 6) (.bi .min2 [(.v 5),(.bin .add (.v 4) (.v 1))])),(.asg (.nm 1) (.bin .sub (.v 1) (.bin .sub (.v 6) (.v 4)))),(.Eh (.cmp .lt (.v 4) (.v 6)) [(.app 2 (.tup [(.v 4),(.v 6)]))] []),(.Eh (.cmp .lt (.v 6) (.v 5)) [(.app 3 (.tup [(.v 6),(.v 5)]))] [])]
theorem uC (cl:Nat->List D->Res D)(r0:D)(A B:List Pr)(hA:A.length<=1000)(hB:B.length<=1000)(w:Int)(p:Pr)(x y z:Option D) :
  Ev.turn cl (.tp [(.nm 4),(.nm 5)]) JO (Dr p) [some r0,some (.int w),some (.lst true (A.map Dr)),some (.lst true (B.map Dr)),x,y,z]=.ok (.nx [some r0,some (.int (w - (Ds p w - p.1))),some (.lst true ((if p.1 < Ds p w then A++[(p.1,Ds p w)] else A).map Dr)),some (.lst true ((if Ds p w < p.2 then B++[(Ds p w,p.2)] else B).map Dr)),some (.int p.1),some (.int p.2),some (.int (Ds p w))]):=by
 have hc:=y6 p w
 rw[show Dr p=.tup [.int p.1,.int p.2] from rfl]
 generalize Ds p w=c at *
 by_cases c1:p.1 < c<;>by_cases c2:c < p.2
 ·have d1:decide (p.1 < c)=true:=decide_eq_true c1
  have d2:decide (c < p.2)=true:=decide_eq_true c2
  rw[if_pos c1,if_pos c2,cf,cf]
  unfold JO
  simp -implicitDefEqProofs (disch:=omega) only[DK,Nat.reduceBEq,Nat.reduceSub,Nat.reduceAdd,reduceIte,Ev.aJ,hc,d1,d2,List.length_map]
 ·have d1:decide (p.1 < c)=true:=decide_eq_true c1
  have d2:decide (c < p.2)=false:=decide_eq_false c2
  rw[if_pos c1,if_neg c2,cf]
  unfold JO
  simp -implicitDefEqProofs (disch:=omega) only[DK,Nat.reduceBEq,Nat.reduceSub,Nat.reduceAdd,reduceIte,Ev.aJ,hc,d1,d2,List.length_map]
 ·have d1:decide (p.1 < c)=false:=decide_eq_false c1
  have d2:decide (c < p.2)=true:=decide_eq_true c2
  rw[if_neg c1,if_pos c2,cf]
  unfold JO
  simp -implicitDefEqProofs (disch:=omega) only[DK,Nat.reduceBEq,Nat.reduceSub,Nat.reduceAdd,reduceIte,Ev.aJ,hc,d1,d2,List.length_map]
 ·have d1:decide (p.1 < c)=false:=decide_eq_false c1
  have d2:decide (c < p.2)=false:=decide_eq_false c2
  rw[if_neg c1,if_neg c2]
  unfold JO
  simp -implicitDefEqProofs (disch:=omega) only[DK,Nat.reduceBEq,Nat.reduceSub,Nat.reduceAdd,reduceIte,Ev.aJ,hc,d1,d2,List.length_map]
theorem mG (cl:Nat->List D->Res D)(r0:D):∀ (run A B:List Pr) (w:Int) (x y z:Option D),A.length+run.length<=1000->B.length+run.length<=1000->
  ∃ v x' y' z',forM (Ev.turn cl (.tp [(.nm 4),(.nm 5)]) JO) (run.map Dr) [some r0,some (.int w),some (.lst true (A.map Dr)),some (.lst true (B.map Dr)),x,y,z]=.ok (.nx [some r0,v,some (.lst true ((aG run A B w).1.map Dr)),some (.lst true ((aG run A B w).2.map Dr)),x',y',z'])
 | [],A,B,w,x,y,z,_,_=>⟨_,_,_,_,rfl⟩
 | p::r,A,B,w,x,y,z,h1,h2=>by
  rw[List.length_cons] at h1 h2
  rw[List.map_cons,Ev.cy,uC cl r0 A B (by omega) (by omega)]
  have a1:(if p.1 < Ds p w then A++[(p.1,Ds p w)] else A).length<=A.length+1:=by split<;>simp
  have a2:(if Ds p w < p.2 then B++[(Ds p w,p.2)] else B).length<=B.length+1:=by split<;>simp
  exact mG cl r0 r _ _ _ _ _ _ (by omega) (by omega)
theorem Cf (n:Nat)(run:List Pr)(hl:run.length<=1000)(w:Int):aa T (n+1) 33 [.lst false (run.map Dr),.int w]=.ok (.tup [.lst true ((tk w run).map Dr),.lst true ((dr w run).map Dr)]):=by
 have body:Rg=[(.asg (.nm 2) (.lst [])),(.asg (.nm 3) (.lst [])),(.DZ (.tp [(.nm 4),(.nm 5)]) (.val (.v 0)) JO),(.ret (.tup [(.v 2),(.v 3)]))]:=rfl
 rw[Ev.go (show T 33=some KQ from rfl) (show KQ.io=none from rfl) (show KQ.np=2 from rfl) (show KQ.G.N.length=7 from rfl) (show KQ.body=_ from body) rfl]
 have pe:=bH run
 obtain⟨v,x',y',z',e⟩:=mG (aa T n) (.lst false (run.map Dr)) run [] [] w none none none (by simpa using hl) (by simpa using hl)
 unfold tk dr
 generalize JO=tb at *
 rw[List.map_nil] at e
 simp -implicitDefEqProofs (disch:=omega) only[DK,Nat.reduceBEq,Nat.reduceSub,Nat.reduceAdd,reduceIte,pe,e]
theorem wM:∀ ms:List Int,du (ms.map Sum.inl)=some ms
 | []=>rfl
 | m::ms=>by
  show (du (ms.map Sum.inl)).map (m::·)=_
  rw[wM ms]
  rfl
theorem zm (o:Bool)(ns:List Int){i:Int}(h0:0<=i)(h1:i < ns.length):aW (.lst o (ns.map .int)) (.int i)=.ok (.int (ns.getD i.toNat 0)):=by
 rw[Ev.Lq,Ev.eE (.int 0) h0 (by rw[List.length_map];exact h1)]
 show Except.ok ((ns.map D.int).getD i.toNat (.int 0))=_
 rw[List.getD_eq_getElem?_getD,List.getD_eq_getElem?_getD,List.getElem?_map]
 cases ns[i.toNat]?<;>rfl
theorem uD (n:Nat)(cell room:Int)(hr:0<=room)(ms:List Int)(vs:List D)(h0:0 < ms.length)(h1:ms.length < 64)(Vw:Dx vs=vs)(hl:vs.length=ms.length):∃ p,aa T (n+1) 35 [.int cell,.int room,.Dl false (ms.map Sum.inl) vs]=.ok (.int p)/\(p∈ms∨0<=p/\p<=room):=by
 have sr:∀ o,bX .sorted [.Dl o (ms.map Sum.inl) vs]=.ok (.lst true ((PySem.W.sortI ms).map .int)):=fun o=>by
  show (match du (ms.map Sum.inl) with|some ns=>Dk (decide (ns.length < 64)) (.ok (D.lst true ((PySem.W.sortI ns).map .int)))|none=>Dq)=_
  rw[wM]
  show Dk (decide (ms.length < 64)) _=_
  rw[decide_eq_true h1]
  rfl
 have ln:∀ o,bX .len [.Dl o (ms.map Sum.inl) vs]=.ok (.int (ms.length:Nat)):=fun o=>by
  show (.ok (.int ((ms.map Sum.inl:List Key).length:Nat)):Res D)=_
  rw[List.length_map]
 have pm:=PySem.W.sortI_perm ms
 have sl:(PySem.W.sortI ms).length=ms.length:=pm.length_eq
 by_cases c:cell % 5=0
 ·have i0:0<=cell / 5 % (ms.length:Nat):=Int.emod_nonneg _ (by omega)
  have i1:cell / 5 % (ms.length:Nat) < (ms.length:Nat):=Int.emod_lt_of_pos _ (by omega)
  have ix:=zm true (PySem.W.sortI ms) i0 (by rw[sl];exact i1)
  have hm:(PySem.W.sortI ms).getD (cell / 5 % (ms.length:Nat)).toNat 0∈ms:=by
   have DV:(cell / 5 % (ms.length:Nat)).toNat < (PySem.W.sortI ms).length:=by rw[sl];omega
   rw[List.getD_eq_getElem?_getD,List.getElem?_eq_getElem DV]
   exact pm.subset (List.getElem_mem DV)
  refine⟨_,?_,.inl hm⟩
  have d1:decide (cell % 5=0)=true:=decide_eq_true c
  have b1:(cell % 5 == 0)=true:=by simpa using c
  have Ph:(0:Int) < (ms.length:Nat):=by omega
  rw[Ev.go (show T 35=some HB from rfl) (show HB.io=none from rfl) (show HB.np=3 from rfl) (show HB.G.N.length=3 from rfl) (show HB.body=MA from rfl) rfl];unfold MA
  generalize (PySem.W.sortI ms).map D.int=SS at *
  generalize ms.map Sum.inl=KK at *
  generalize (PySem.W.sortI ms).getD (cell / 5 % (ms.length:Nat)).toNat 0=res at *
  generalize ((ms.length:Nat):Int)=l at *
  simp -implicitDefEqProofs (disch:=omega) only[DK,Nat.reduceBEq,Nat.reduceSub,Nat.reduceAdd,reduceIte,b1,sr,ln,ix]
 ·have b1:(cell % 5 == 0)=false:=by simpa using c
  have c1:cell % 5=1∨cell % 5=2∨cell % 5=3∨cell % 5=4:=by omega
  have a1:0<=cell / 5 % (room+1):=Int.emod_nonneg _ (by omega)
  have a2:cell / 5 % (room+1) < room+1:=Int.emod_lt_of_pos _ (by omega)
  have q1:0<=room / 40/\room / 40<=room:=by omega
  have a3:0<=cell / 5 % (room / 40+1):=Int.emod_nonneg _ (by omega)
  have a4:cell / 5 % (room / 40+1) < room / 40+1:=Int.emod_lt_of_pos _ (by omega)
  have pick:∃ p,aW (.lst true [.int 0,.int 0,.int room,.int (cell / 5 % (room+1)),.int (cell / 5 % (room / 40+1))]) (.int (cell % 5))=.ok (.int p)/\0<=p/\p<=room:=by
   rcases c1 with e|e|e|e<;>rw[e]
   ·exact⟨0,rfl,Int.le_refl _,hr⟩
   ·exact⟨room,rfl,hr,Int.le_refl _⟩
   ·exact⟨_,rfl,a1,by omega⟩
   ·exact⟨_,rfl,a3,by omega⟩
  obtain⟨p,ep,hp⟩:=pick
  refine⟨p,?_,.inr hp⟩
  have g1:0 < room+1:=by omega
  have g2:0 < room / 40+1:=by omega
  rw[Ev.go (show T 35=some HB from rfl) (show HB.io=none from rfl) (show HB.np=3 from rfl) (show HB.G.N.length=3 from rfl) (show HB.body=MA from rfl) rfl];unfold MA
  generalize ms.map Sum.inl=KK at *
  simp -implicitDefEqProofs (disch:=omega) only[DK,Nat.reduceBEq,Nat.reduceSub,Nat.reduceAdd,reduceIte,b1,ep]
noncomputable def z0:Str->Int:=fun _=>0
theorem C7 (f:Str):up z0 f 0=z0:=by
 funext g
 unfold up z0
 split<;>rfl
theorem rP (cl:Nat->List D->Res D)(q0 q1:Option D):∀ (gs ns:List Str) (x3:Option D),(ns++gs).Nodup->ns.length+gs.length<=100->
  ∃ y3,(y3=x3∨∃ g,y3=some (.str g))/\forM (Ev.turn cl (.nm 3) [(.EG 2 (.v 3) (.c (.int 0)))]) (gs.map .str) [q0,q1,some (dF true ns z0),x3,none,none,none,none,none,none,none,none,none,none,none]=.ok (.nx [q0,q1,some (dF true (ns++gs) z0),y3,none,none,none,none,none,none,none,none,none,none,none])
 | [],ns,x3,_,_=>⟨x3,.inl rfl,by rw[List.append_nil];rfl⟩
 | g::gs,ns,x3,nd,hl=>by
  rw[List.length_cons] at hl
  have nf:g∉ns:=fun z=>(List.nodup_append.mp nd).2.2 g z g (.head _) rfl
  have st:=mq cl 2 (.v 3) [q0,q1,some (dF true ns z0),some (.str g),none,none,none,none,none,none,none,none,none,none,none] (f:=g) (fs:=ns) (v:=z0) (x:=0) rfl nf (by omega)
  rw[C7] at st
  have e:Ev.turn cl (.nm 3) [(.EG 2 (.v 3) (.c (.int 0)))] (.str g) [q0,q1,some (dF true ns z0),x3,none,none,none,none,none,none,none,none,none,none,none]=.ok (.nx [q0,q1,some (dF true (ns++[g]) z0),some (.str g),none,none,none,none,none,none,none,none,none,none,none]):=by
   have FW:Ev.cW cl 2 (.v 3) [q0,q1,some (dF true ns z0),some (.str g),none,none,none,none,none,none,none,none,none,none,none] (.int 0) (some (dF true ns z0))=.ok (.nx [q0,q1,some (dF true (ns++[g]) z0),some (.str g),none,none,none,none,none,none,none,none,none,none,none]):=st
   generalize dF true ns z0=W at *
   generalize dF true (ns++[g]) z0=W' at *
   simp -implicitDefEqProofs (disch:=omega) only[DK,Nat.reduceBEq,Nat.reduceSub,Nat.reduceAdd,reduceIte,Ev.aJ,FW]
  obtain⟨y3,hy,i⟩:=rP cl q0 q1 gs (ns++[g]) (some (.str g)) (by rw[List.append_assoc];exact nd) (by rw[List.length_append,List.length_singleton];omega)
  refine⟨y3,hy.elim (fun z=>.inr ⟨g,z⟩) .inr,?_⟩
  rw[List.map_cons,Ev.cy,e]
  rw[List.append_assoc] at i
  exact i
theorem uE (fs:List Str):Nq fs=alt true false true (fs.map fun f=>(f,[])) [(0,10007)]:=by
 unfold Nq alt
 rw[List.map_map]
 rfl
theorem Cg:∀ l:List Str,(l.map z0).sum=0
 | []=>rfl
 | f::l=>by rw[List.map_cons,List.sum_cons,Cg l];rfl
theorem C8 {fs:List Str}(nd:fs.Nodup)(hl:fs.length<=6)(hr:∀ f∈fs,(reprText f).length<=1000):Al fs z0 (fs.map fun f=>(f,[])) [(0,10007)] 1:=by
 refine⟨nd,hl,hr,?_,fun p h=>?_,fun p h=>?_,?_,?_,fun x=>?_⟩
 ·unfold FY
  rw[List.map_map]
  rfl
 ·obtain⟨f,_,rfl⟩:=List.mem_map.mp h
  intro q hq
  cases hq
 ·rw[List.mem_singleton.mp h]
  decide
 ·have:∀ l:List Str,lsum (l.map fun f=>((f,[]):Rw))=0:=by
   intro l
   induction l with
   | nil=>rfl
   | cons f l ih=>show 0+lsum (l.map fun f=>((f,[]):Rw))=0;rw[ih]
  rw[this]
  simp
 ·rw[Cg]
  rfl
 ·have:∀ l:List Str,GI x (l.map fun f=>((f,[]):Rw))=0:=by
   intro l
   induction l with
   | nil=>rfl
   | cons f l ih=>show 0+GI x (l.map fun f=>((f,[]):Rw))=0;rw[ih];rfl
  rw[this]
  show 0+(mI x 0 10007+0)=_
  omega
theorem Ci (fs:List Str):KU (fs.map fun f=>((f,[]):Rw)) [(0,10007)]:=by
 refine⟨fun p hp=>?_,trivial⟩
 obtain⟨f,_,rfl⟩:=List.mem_map.mp hp
 exact trivial
noncomputable def eC:IR:=.call 30 [(.v 0),(.v 5)]
noncomputable def tC:List IS:=[(.FL 4 29 (.v 4) 34 [eC,(.v 1)] 2)]
theorem zo {fs:List Str}{c:Str->Int}{rows:List Rw}{free:List Pr}{L:Nat}(a:Al fs c rows free L):(fs.map c).sum<=10007:=by
 have h1:=a.Fu
 have h2:=dD a.Hn
 omega
theorem uF (cl:Nat->List D->Res D)(s:D)(hs:er s=s)(v k:Int){x3:Option D}{fs:List Str}{c:Str->Int}{ps:List Sh}{rows DT:List Rw}{free Dm:List Pr}(o1 o2 o3:Bool)
  (e:cl 34 [.int v,.lst false (fs.map .str),dF false fs c]=.ok (.tup [.lst true (ps.map DH),dF false fs (ups c ps)])) (e29:cl 29 [alt false false false rows free,.lst false (ps.map DH)]=.ok (alt true true false DT Dm))
  (hv:Dj cl eC [some s,some (.lst false (fs.map .str)),some (dF true fs c),x3,some (alt o1 o2 o3 rows free),some (.int k),none,none,none,none,none,none,none,none,none]=.ok (.int v)) :
  ax cl tC [some s,some (.lst false (fs.map .str)),some (dF true fs c),x3,some (alt o1 o2 o3 rows free),some (.int k),none,none,none,none,none,none,none,none,none]=.ok (.nx [some s,some (.lst false (fs.map .str)),some (dF true fs (ups c ps)),x3,some (alt true true false DT Dm),some (.int k),none,none,none,none,none,none,none,none,none]):=by
 unfold tC
 show U (D6 cl (.FL 4 29 (.v 4) 34 [eC,(.v 1)] 2) _) (Ev.fO (ax cl []))=_
 have key:D6 cl (.FL 4 29 (.v 4) 34 [eC,(.v 1)] 2) [some s,some (.lst false (fs.map .str)),some (dF true fs c),x3,some (alt o1 o2 o3 rows free),some (.int k),none,none,none,none,none,none,none,none,none]=.ok (.nx [some s,some (.lst false (fs.map .str)),some (dF true fs (ups c ps)),x3,some (alt true true false DT Dm),some (.int k),none,none,none,none,none,none,none,none,none]):=by
  rw[Ev.ER]
  have r0:Dj cl (.v 4) [some s,some (.lst false (fs.map .str)),some (dF true fs c),x3,some (alt o1 o2 o3 rows free),some (.int k),none,none,none,none,none,none,none,none,none]=.ok (alt o1 o2 o3 rows free):=by
   generalize dF true fs c=W at *
   generalize alt o1 o2 o3 rows free=A at *
   simp -implicitDefEqProofs (disch:=omega) only[DK,Nat.reduceBEq,Nat.reduceSub,Nat.reduceAdd,reduceIte]
  have r1:aH cl [eC,(.v 1)] [some s,some (.lst false (fs.map .str)),some (dF true fs c),x3,some (alt o1 o2 o3 rows free),some (.int k),none,none,none,none,none,none,none,none,none]=.ok [.int v,.lst false (fs.map .str)]:=by
   generalize dF true fs c=W at *
   generalize alt o1 o2 o3 rows free=A at *
   generalize eC=E at *
   generalize fs.map D.str=FF at *
   simp -implicitDefEqProofs (disch:=omega) only[DK,Nat.reduceBEq,Nat.reduceSub,Nat.reduceAdd,reduceIte,hv]
  have se:=fR fs
  have r2:Dx [.int v,.lst false (fs.map .str)]++[dF false fs c]=[.int v,.lst false (fs.map .str),dF false fs c]:=by
   rw[Dx,Dx,Dx,er,er,se]
   rfl
  show Dk (aF (fs.map (iv c))) (U (Dj cl (.v 4) _) fun x=>U (aH cl [eC,(.v 1)] _) fun ds=>U (E3 (cl 34 (Dx ds++[dF false fs c]))) _)=_
  rw[gP,r0]
  show U (aH cl [eC,(.v 1)] _) _=_
  rw[r1]
  show U (E3 (cl 34 (Dx [.int v,.lst false (fs.map .str)]++[dF false fs c]))) _=_
  rw[r2,e]
  have fz:Dw (vars (.v 4)++aq [eC,(.v 1)]) [some s,some (.lst false (fs.map .str)),some (dF true fs c),x3,some (alt o1 o2 o3 rows free),some (.int k),none,none,none,none,none,none,none,none,none]=[some s,some (.lst false (fs.map .str)),some (dF true fs c),x3,some (alt false false false rows free),some (.int k),none,none,none,none,none,none,none,none,none]:=by
   show [some (er s),some (er (.lst false (fs.map .str))),some (dF true fs c),x3,some (er (alt o1 o2 o3 rows free)),some (er (.int k)),none,none,none,none,none,none,none,none,none]=_
   rw[hs,er,se,eJ,er]
  rw[fz]
  show Dk (aF (fs.map (iv (ups c ps)))) (U (E3 (cl 29 [er (alt o1 o2 o3 rows free),er (.lst true (ps.map DH))])) _)=_
  rw[gP,eJ,er,l7,e29]
  rfl
 rw[key]
 rfl
theorem rQ (n:Nat)(ns:List Int)(k:Int)(hk:0<=k){fs:List Str}{c:Str->Int}{rows:List Rw}{free:List Pr}{L:Nat}(a:Al fs c rows free L)(an:KU rows free)(hc:∀ f,0<=c f)(hL:L<=900)(o1 o2 o3:Bool)(x3 x5:Option D) :
  ∃ (c':Str->Int) (DT:List Rw) (Dm:List Pr),Ev.turn (aa T (n+5)) (.nm 5) tC (.int k) [some (.lst false (ns.map .int)),some (.lst false (fs.map .str)),some (dF true fs c),x3,some (alt o1 o2 o3 rows free),x5,none,none,none,none,none,none,none,none,none] =
   .ok (.nx [some (.lst false (ns.map .int)),some (.lst false (fs.map .str)),some (dF true fs c'),x3,some (alt true true false DT Dm),some (.int k),none,none,none,none,none,none,none,none,none])/\Al fs c' DT Dm (L+12)/\KU DT Dm/\∀ f,0<=c' f:=by
 have ck:=cell (show T 30=some JL from rfl) rfl rfl rfl rfl (n+4) ns k hk
 have ie:Dx (ns.map D.int)=ns.map D.int:=Ev.cX ns
 generalize ns.getD k.toNat 0=v at *
 obtain⟨ps,t1,t2,t3,t4,t5,t6⟩:=uz (n+3) v a.DJ a.Jj c hc (zo a)
 obtain⟨_,ch⟩:=fU (n+1) a hL ps (by omega) fun p hp=>a.rep _ (t5 p hp)
 obtain⟨DT,Dm,e29,al,ex⟩:=(ch t2).2 t4
 refine⟨ups c ps,DT,Dm,?_,al,zh a an t6 ex,t6⟩
 have se:=fR fs
 have hv:Dj (aa T (n+5)) eC [some (.lst false (ns.map .int)),some (.lst false (fs.map .str)),some (dF true fs c),x3,some (alt o1 o2 o3 rows free),some (.int k),none,none,none,none,none,none,none,none,none]=.ok (.int v):=by
  clear t1 e29 ch
  generalize dF true fs c=W at *
  generalize alt o1 o2 o3 rows free=A at *
  generalize fs.map D.str=FF at *
  generalize ns.map D.int=XX at *
  unfold eC
  simp -implicitDefEqProofs (disch:=omega) only[DK,Nat.reduceBEq,Nat.reduceSub,Nat.reduceAdd,reduceIte,ck,ie]
 exact uF (aa T (n+5)) (.lst false (ns.map .int)) (by rw[er,ie]) v k o1 o2 o3 t1 e29 hv
noncomputable def sA:List IS:=[(.asg (.nm 1) (.call 32 [(.call 30 [(.v 0),(.c (.int 0))]),(.bin .add (.c (.int 1)) (.bin .mod (.call 30 [(.v 0),(.c (.int 1))]) (.c (.int 6))))])),(.asg (.nm 2) .EF),(.DZ (.nm 3) (.val (.v 1)) [(.EG 2 (.v 3) (.c (.int 0)))]),(.asg (.nm 4) (.call 24 [(.bi .list [(.v 1)])])),(.DZ (.nm 5) (.Ey (.c (.int 2)) (.c (.int 4))) tC)]
theorem C9 (ns:List Int):∃ (fs:List Str) (c:Str->Int) (rows:List Rw) (free:List Pr) (x3:Option D),(x3=none∨∃ g,x3=some (.str g))/\0 < fs.length/\Al fs c rows free 25/\KU rows free/\(∀ f,0<=c f)/\
  ax (aa T 12) sA [some (.lst false (ns.map .int)),none,none,none,none,none,none,none,none,none,none,none,none,none,none]=.ok (.nx [some (.lst false (ns.map .int)),some (.lst false (fs.map .str)),some (dF true fs c),x3,some (alt true true false rows free),some (.int 3),none,none,none,none,none,none,none,none,none]):=by
 have c0:=cell (show T 30=some JL from rfl) rfl rfl rfl rfl 11 ns 0 (by omega)
 have c1:=cell (show T 30=some JL from rfl) rfl rfl rfl rfl 11 ns 1 (by omega)
 have ie:Dx (ns.map D.int)=ns.map D.int:=Ev.cX ns
 generalize ns.getD (0:Int).toNat 0=v0 at *
 generalize ns.getD (1:Int).toNat 0=v1 at *
 obtain⟨fs,en,hn⟩:=qT 10 v0 (1+v1 % 6) (by omega) (by omega)
 have hl:=hn.len
 have nw:=yZ 11 fs hn.DJ (by omega)
 rw[uE] at nw
 obtain⟨y3,UI,zl⟩:=rP (aa T 12) (some (.lst false (ns.map .int))) (some (.lst false (fs.map .str))) fs [] none (by rw[List.nil_append];exact hn.DJ) (by rw[List.length_nil];omega)
 rw[List.nil_append] at zl
 obtain⟨Vx,Ru,Rv,t1,UJ,UL,UM⟩:=rQ 7 ns 2 (by omega) (C8 hn.DJ (by omega) hn.rep) (Ci fs) (fun _=>Int.le_refl _) (by omega) true false true y3 none
 obtain⟨Pj,Ic,Ie,t2,UN,UO,Pc⟩:=rQ 7 ns 3 (by omega) UJ UL UM (by omega) true true false y3 (some (.int 2))
 refine⟨fs,Pj,Ic,Ie,y3,UI,by omega,UN,UO,Pc,?_⟩
 have hf:forM (Ev.turn (aa T 12) (.nm 5) tC) (bI 2 4) [some (.lst false (ns.map .int)),some (.lst false (fs.map .str)),some (dF true fs z0),y3,some (alt true false true (fs.map fun f=>((f,[]):Rw)) [(0,10007)]),none,none,none,none,none,none,none,none,none,none]=.ok (.nx [some (.lst false (ns.map .int)),some (.lst false (fs.map .str)),some (dF true fs Pj),y3,some (alt true true false Ic Ie),some (.int 3),none,none,none,none,none,none,none,none,none]):=by
  rw[show bI 2 4=[.int 2,.int 3] from rfl,Ev.cy,t1]
  show forM _ [.int 3] _=_
  rw[Ev.cy,t2]
  rfl
 have se:=fR fs
 have sf:=ko fs
 have l2:ay (alt true false true (fs.map fun f=>((f,[]):Rw)) [(0,10007)])=false:=rfl
 have UQ:forM (Ev.turn (aa T 12) (.nm 3) [(.EG 2 (.v 3) (.c (.int 0)))]) (fs.map .str) [some (.lst false (ns.map .int)),some (.lst false (fs.map .str)),some (.Dl true [] []),none,none,none,none,none,none,none,none,none,none,none,none]=.ok (.nx [some (.lst false (ns.map .int)),some (.lst false (fs.map .str)),some (dF true fs z0),y3,none,none,none,none,none,none,none,none,none,none,none]):=zl
 clear zl t1 t2
 generalize alt true false true (fs.map fun f=>((f,[]):Rw)) [(0,10007)]=A0 at *
 generalize alt true true false Ic Ie=A2 at *
 generalize dF true fs z0=W0 at *
 generalize dF true fs Pj=W2 at *
 generalize fs.map D.str=FF at *
 generalize ns.map D.int=XX at *
 unfold sA
 generalize tC=tb at *
 generalize [IS.EG 2 (.v 3) (.c (.int 0))]=td at *
 simp -implicitDefEqProofs (disch:=omega) only[DK,Nat.reduceBEq,Nat.reduceSub,Nat.reduceAdd,reduceIte,c0,c1,ie,en,UQ,nw,hf,se,sf,l2]
noncomputable def ki (m:Int):Key:=.inl m
noncomputable def dX (o:Bool)(A:Int->D)(ms:List Int):D:=.Dl o (ms.map ki) (ms.map A)
theorem mH {a b:Int}:(ki a=ki b)=(a=b):=by
 unfold ki
 simp
theorem kE (A:Int->D){p:Int}:∀ {ms:List Int},p∈ms->look (ms.map ki) (ms.map A) (ki p)=some (A p)
 | m::ms,h=>by
  show (if ki m=ki p then some (A m) else look (ms.map ki) (ms.map A) (ki p))=_
  by_cases e:m=p
  ·subst e
   rw[if_pos rfl]
  ·rw[if_neg (by rw[mH];exact e)]
   exact kE A ((List.mem_cons.mp h).elim (fun z=>absurd z.symm e) id)
theorem mJ (A:Int->D){p:Int}:∀ {ms:List Int},p∉ms->look (ms.map ki) (ms.map A) (ki p)=none
 | [],_=>rfl
 | m::ms,h=>by
  rw[List.mem_cons,not_or] at h
  show (if ki m=ki p then some (A m) else look (ms.map ki) (ms.map A) (ki p))=_
  rw[if_neg (by rw[mH];exact fun z=>h.1 z.symm)]
  exact mJ A h.2
theorem wN (o:Bool)(A:Int->D){ms:List Int}{p:Int}(h:p∈ms):fx (dX o A ms) (.int p)=.ok (A p):=by
 show (match look (ms.map ki) (ms.map A) (ki p) with|some d=>(.ok d:Res D)|none=>Dq)=_
 rw[kE A h]
theorem Dc (o n:Bool)(A:Int->D)(ms:List Int)(p:Int):Ev.ua n (.int p) (dX o A ms)=.ok (.bl (n != decide (p∈ms))):=by
 show (.ok (.bl (n != (look (ms.map ki) (ms.map A) (ki p)).isSome)):Res D)=_
 by_cases h:p∈ms
 ·rw[kE A h,decide_eq_true h]
  rfl
 ·rw[mJ A h,decide_eq_false h]
  rfl
theorem wO (p:Int):∀ ms:List Int,fY (ms.map ki) (ki p)=decide (p∈ms)
 | []=>rfl
 | m::ms=>by
  show (decide (ki m=ki p)||fY (ms.map ki) (ki p))=_
  rw[wO p ms]
  by_cases e:m=p
  ·subst e
   rw[decide_eq_true rfl,decide_eq_true (List.mem_cons_self)]
   rfl
  ·rw[decide_eq_false (by rw[mH];exact e)]
   by_cases h:p∈ms
   ·rw[decide_eq_true h,decide_eq_true (List.mem_cons_of_mem _ h)]
    rfl
   ·rw[decide_eq_false h,decide_eq_false (by rw[List.mem_cons,not_or];exact⟨fun z=>e z.symm,h⟩)]
    rfl
noncomputable def dG (ms:List Int)(p:Int):List Int:=if p∈ms then ms else ms++[p]
theorem Cj (A:Int->D)(hA:∀ m,er (A m)=A m){d:D}{p:Int}(hd:er d=A p)(ms:List Int):bg (ms.map ki) (ki p)=(dG ms p).map ki/\Dx (aR (ms.map ki) (ms.map A) (ki p) d)=(dG ms p).map A:=by
 unfold bg aR dG
 rw[wO]
 by_cases h:p∈ms
 ·rw[decide_eq_true h,if_pos rfl,if_pos rfl,if_pos h]
  refine⟨rfl,?_⟩
  clear h
  induction ms with
  | nil=>rfl
  | cons m ms ih=>
   rw[List.map_cons,List.map_cons,List.zipWith_cons_cons,Dx,ih]
   congr 1
   by_cases e:m=p
   ·subst e
    rw[if_pos rfl,hd]
   ·rw[if_neg (by rw[mH];exact e),hA]
 ·rw[decide_eq_false h,if_neg h,if_neg Bool.false_ne_true,if_neg Bool.false_ne_true,List.map_append,List.map_append]
  refine⟨rfl,?_⟩
  rw[bE,List.map_append,List.map_map]
  congr 1
  ·exact List.map_congr_left fun m _=>hA m
  ·rw[List.map_cons,hd]
   rfl
theorem wQ (o:Bool)(A:Int->D)(hA:∀ m,er (A m)=A m)(ms:List Int):er (dX o A ms)=dX false A ms:=by
 unfold dX
 rw[er,bE,List.map_map]
 congr 1
 exact List.map_congr_left fun m _=>hA m
theorem dm:∀ ds:List D,aV ds=ds.all dO
 | []=>rfl
 | d::ds=>by show (dO d&&aV ds)=(dO d&&ds.all dO);rw[dm ds]
theorem bD:∀ ds:List D,aT ds=ds.all bS
 | []=>rfl
 | d::ds=>by show (bS d&&aT ds)=(bS d&&ds.all bS);rw[bD ds]
theorem iQ (run:List Pr):aV (run.map Dr)=true/\aT (run.map Dr)=true:=by
 rw[dm,bD,List.all_map,List.all_map,List.all_eq_true,List.all_eq_true]
 exact⟨fun p _=>rfl,fun p _=>rfl⟩
theorem jK (rows:List Rw)(free:List Pr):dO (alt false false false rows free)=true/\∀ a b c,bS (alt a b c rows free)=true:=by
 have h1:∀ (o:Bool) (p:Rw),dO (aw false p)=true/\bS (aw o p)=true:=fun o p=>by
  obtain⟨a,b⟩:=iQ p.2
  refine⟨?_,?_⟩
  ·show (true&&((!false&&aV (p.2.map Dr))&&true))=true
   rw[a]
   rfl
  ·show (true&&(aT (p.2.map Dr)&&true))=true
   rw[b]
   rfl
 have h2:aV (rows.map (aw false))=true:=by
  rw[dm,List.all_map,List.all_eq_true]
  exact fun p _=>(h1 false p).1
 have h3:∀ b,aT (rows.map (aw b))=true:=fun b=>by
  rw[bD,List.all_map,List.all_eq_true]
  exact fun p _=>(h1 b p).2
 obtain⟨a,b⟩:=iQ free
 refine⟨?_,fun x y z=>?_⟩
 ·show ((!false&&aV (rows.map (aw false)))&&((!false&&aV (free.map Dr))&&true))=true
  rw[h2,a]
  rfl
 ·show (aT (rows.map (aw y))&&(aT (free.map Dr)&&true))=true
  rw[h3,b]
  rfl
theorem rR (A:Int->D)(hA:∀ m,dO (A m)=true/\bS (A m)=true)(ms:List Int):aV (ms.map A)=true/\aT (ms.map A)=true:=by
 rw[dm,bD,List.all_map,List.all_map,List.all_eq_true,List.all_eq_true]
 exact⟨fun m _=>(hA m).1,fun m _=>(hA m).2⟩
theorem uG (ps:List Sh):aT (ps.map DH)=true:=by
 rw[bD,List.all_map,List.all_eq_true]
 exact fun p _=>rfl
theorem rS (ns:List Int):aT (ns.map .int)=true:=by
 rw[bD,List.all_map,List.all_eq_true]
 exact fun p _=>rfl
theorem rT (fs:List Str):aT (fs.map .str)=true:=by
 rw[bD,List.all_map,List.all_eq_true]
 exact fun p _=>rfl
theorem uH (fs:List Str)(c:Str->Int):bS (dF true fs c)=true:=by
 show (true&&aT (fs.map (iv c)))=true
 rw[bD,List.all_map,Bool.true_and,List.all_eq_true]
 exact fun p _=>rfl
noncomputable def El:Option D->Bool
 | none=>true
 | some d=>bS d
theorem iR:∀ τ:Ev,Hb τ=τ.all El
 | []=>rfl
 | none::τ=>by show Hb τ=(true&&τ.all El);rw[iR τ];rfl
 | some d::τ=>by show (bS d&&Hb τ)=(bS d&&τ.all El);rw[iR τ]
noncomputable def AX (f:Str)(S:List Pr)(rows:List Rw)(m:Int):D:=alt false false false (Ed f (tk m S) rows) (dr m S)
theorem jL (f:Str)(S:List Pr)(rows:List Rw)(m:Int):er (AX f S rows m)=AX f S rows m:=eJ _ _ _ _ _
theorem rV (f:Str)(S:List Pr)(rows:List Rw)(m:Int):dO (AX f S rows m)=true/\bS (AX f S rows m)=true:=⟨(jK _ _).1,(jK _ _).2 _ _ _⟩
theorem rW {f:Str}{T':List Pr}:∀ {rows:List Rw}{k:Nat},(rows.map (·.1))[k]? = some f->(Ed f T' rows)[k]? = some (f,T')
 | p::rows,0,h=>by
  have h:some p.1=some f:=h
  have h:=Option.some.inj h
  show some (if p.1=f then (p.1,T') else p)=_
  rw[if_pos h,h]
 | p::rows,k+1,h=>by
  show (Ed f T' rows)[k]? = _
  exact rW (by simpa using h)
theorem zp (o o':Bool){f:Str}{R:List Pr}{rows:List Rw}{i:Int}(h0:0<=i)(h:(rows.map (·.1))[i.toNat]? = some f):aW (.lst o ((Ed f R rows).map (aw o'))) (.int i)=.ok (aw o' (f,R)):=by
 have hr:=rW (T':=R) h
 have DV:=(List.getElem?_eq_some_iff.mp hr).1
 rw[Ev.Lq,Ev.eE .DE h0 (by rw[List.length_map];omega),List.getD_eq_getElem?_getD,List.getElem?_map,hr]
 rfl
theorem mK {α:Type}(n:Nat)(g g':α->D)(h:∀ a,D3 n (g a) (g' a)=.ok true):∀ l:List α,bJ (D3 n) (l.map g) (l.map g')=.ok true
 | []=>rfl
 | a::l=>by
  show U (D3 n (g a) (g' a)) (fun x=>U (bJ (D3 n) (l.map g) (l.map g')) fun y=>.ok (x&&y))=_
  rw[h a,mK n g g' h l]
  rfl
theorem wR (n:Nat)(p:Pr):D3 (n+2) (Dr p) (Dr p)=.ok true:=by
 show U (.ok (p.1 == p.1)) (fun x=>U (U (.ok (p.2 == p.2)) fun x=>U (.ok true) fun y=>.ok (x&&y)) fun y=>(.ok (x&&y):Res Bool))=_
 rw[beq_self_eq_true,beq_self_eq_true]
 rfl
theorem rX (n:Nat)(o o':Bool)(r:List Pr):D3 (n+3) (.lst o (r.map Dr)) (.lst o' (r.map Dr))=.ok true:=mK (n+2) Dr Dr (wR n) r
theorem zq (n:Nat)(o o':Bool)(p:Rw):D3 (n+4) (aw o p) (aw o' p)=.ok true:=by
 show U (.ok (p.1 == p.1)) (fun x=>U (U (D3 (n+3) (.lst o (p.2.map Dr)) (.lst o' (p.2.map Dr))) fun x=>U (.ok true) fun y=>.ok (x&&y)) fun y=>(.ok (x&&y):Res Bool))=_
 rw[beq_self_eq_true,rX]
 rfl
theorem zr (n:Nat)(a b c a' b' c':Bool)(rows:List Rw)(free:List Pr):D3 (n+6) (alt a b c rows free) (alt a' b' c' rows free)=.ok true:=by
 show U (bJ (D3 (n+4)) (rows.map (aw b)) (rows.map (aw b'))) (fun x=>U (U (D3 (n+5) (.lst c (free.map Dr)) (.lst c' (free.map Dr))) fun x=>U (.ok true) fun y=>.ok (x&&y)) fun y=>(.ok (x&&y):Res Bool))=_
 rw[mK (n+4) (aw b) (aw b') (zq n b b'),rX (n+2)]
 rfl
noncomputable def tF:List IS:=[(.asg (.nm 13) (.bi .min2 [(.v 12),(.v 10)])),(.asg (.nm 14) (.idx (.idx (.idx (.DG (.v 8) (.v 12)) (.c (.int 0))) (.v 6)) (.c (.int 1)))),(.Eh (.cmp .ne (.idx (.call 33 [(.v 14),(.v 13)]) (.c (.int 0))) (.idx (.call 33 [(.idx (.idx (.idx (.v 4) (.c (.int 0))) (.v 6)) (.c (.int 1))),(.v 13)]) (.c (.int 0)))) [(.ret (.c (.bl false)))] [])]
theorem rY (w:Int)(r:List Pr):(tk w r).length<=r.length:=by
 have:=(fS r [] [] w).1
 rw[List.length_nil,Nat.zero_add] at this
 exact this
section
variable {f:Str}{S:List Pr}{rows:List Rw}{a:Int}{ms:List Int}
theorem zt (cl:Nat->List D->Res D)(GS:∀ (run:List Pr)(w:Int),run.length<=1000->cl 33 [.lst false (run.map Dr),.int w]=.ok (.tup [.lst true ((tk w run).map Dr),.lst true ((dr w run).map Dr)]))(hS:Pos S)(lS:S.length<=1000)(a0:0<=a)(ha:(rows.map (·.1))[a.toNat]? = some f){p k:Int}(hp:0<=p)(hk:0<=k)(hm:k∈ms)(s0 s1 s2 s3 s5 s7 s9 s11 x12 x13 x14:Option D) :
  ∃ (FC:Int) (Fv:List Pr),Ev.gM cl 12 tF (.int k) [s0,s1,s2,s3,some (AX f S rows p),s5,some (.int a),s7,some (dX false (AX f S rows) ms),s9,some (.int p),s11,x12,x13,x14]=.ok (.nx [s0,s1,s2,s3,some (AX f S rows p),s5,some (.int a),s7,some (dX false (AX f S rows) ms),s9,some (.int p),s11,some (.int k),some (.int FC),some (.lst false (Fv.map Dr))]):=by
 have g:=wN false (AX f S rows) hm
 have de:=wQ false (AX f S rows) (jL f S rows) ms
 have x0:∀ m,aW (AX f S rows m) (.int 0)=.ok (.lst false ((Ed f (tk m S) rows).map (aw false))):=fun _=>rfl
 have xa:∀ m,aW (.lst false ((Ed f (tk m S) rows).map (aw false))) (.int a)=.ok (aw false (f,tk m S)):=fun m=>zp false false a0 ha
 have x1:∀ m,aW (aw false (f,tk m S)) (.int 1)=.ok (.lst false ((tk m S).map Dr)):=fun _=>rfl
 have y0:∀ P Q:D,aW (.tup [P,Q]) (.int 0)=.ok P:=fun _ _=>rfl
 generalize hl:(if p < k then p else k)=l at *
 have l0:0<=l:=by rw[<- hl];split<;>omega
 have l1:l<=k:=by rw[<- hl];split<;>omega
 have l2:l<=p:=by rw[<- hl];split<;>omega
 have c1:=GS (tk k S) l (by have:=rY k S;omega)
 have c2:=GS (tk p S) l (by have:=rY p S;omega)
 rw[rE l0 l1 hS] at c1
 rw[rE l0 l2 hS] at c2
 have eq:bJ (D3 39) ((tk l S).map Dr) ((tk l S).map Dr)=.ok true:=mK 39 Dr Dr (wR 37) _
 have p1:=bH (tk k S)
 have p2:=bH (tk p S)
 have vd:vars (.idx (.idx (.idx (.DG (.v 8) (.v 12)) (.c (.int 0))) (.v 6)) (.c (.int 1)))=[8,12,6]:=rfl
 refine⟨l,tk k S,?_⟩
 have g':fx (dX false (AX f S rows) ms) (.int k)=.ok (AX f S rows k):=g
 have UR:=x0 k
 have US:=xa k
 have UT:=x1 k
 have UU:=x0 p
 have UW:=xa p
 have Gp:=x1 p
 clear x0 xa x1 g GS
 generalize dX false (AX f S rows) ms=DX at *
 generalize AX f S rows k=AK at *
 generalize AX f S rows p=AP at *
 generalize (Ed f (tk k S) rows).map (aw false)=RK at *
 generalize (Ed f (tk p S) rows).map (aw false)=RP at *
 generalize aw false (f,tk k S)=QK at *
 generalize aw false (f,tk p S)=QP at *
 generalize (tk k S).map Dr=TK at *
 generalize (tk p S).map Dr=TP at *
 generalize (tk l S).map Dr=TL at *
 generalize (dr l (tk k S)).map Dr=UK at *
 generalize (dr l (tk p S)).map Dr=UP at *
 unfold tF Ev.gM
 simp -implicitDefEqProofs (disch:=omega) only[DK,Nat.reduceBEq,Nat.reduceSub,Nat.reduceAdd,reduceIte,hl,g',de,UR,US,UT,UU,UW,Gp,y0,c1,c2,eq,p1,p2,vd]
theorem rZ (cl:Nat->List D->Res D)(GS:∀ (run:List Pr)(w:Int),run.length<=1000->cl 33 [.lst false (run.map Dr),.int w]=.ok (.tup [.lst true ((tk w run).map Dr),.lst true ((dr w run).map Dr)]))(hS:Pos S)(lS:S.length<=1000)(a0:0<=a)(ha:(rows.map (·.1))[a.toNat]? = some f){p:Int}(hp:0<=p)(s0 s1 s2 s3 s5 s7 s9 s11:Option D):∀ (ks:List Int) (x12 x13 x14:Option D),(∀ k∈ks,k∈ms/\0<=k)->El x12=true->El x13=true->El x14=true->
  ∃ Gu FC Fv,El Gu=true/\El FC=true/\El Fv=true/\forM (Ev.gM cl 12 tF) (ks.map .int) [s0,s1,s2,s3,some (AX f S rows p),s5,some (.int a),s7,some (dX false (AX f S rows) ms),s9,some (.int p),s11,x12,x13,x14]=.ok (.nx [s0,s1,s2,s3,some (AX f S rows p),s5,some (.int a),s7,some (dX false (AX f S rows) ms),s9,some (.int p),s11,Gu,FC,Fv])
 | [],x12,x13,x14,_,h1,h2,h3=>⟨x12,x13,x14,h1,h2,h3,rfl⟩
 | k::ks,x12,x13,x14,h,h1,h2,h3=>by
  obtain⟨hm,hk⟩:=h k (.head _)
  obtain⟨FC,Fv,e⟩:=zt (ms:=ms) cl GS hS lS a0 ha hp hk hm s0 s1 s2 s3 s5 s7 s9 s11 x12 x13 x14
  obtain⟨z12,z13,z14,j1,j2,j3,i⟩:=rZ cl GS hS lS a0 ha hp s0 s1 s2 s3 s5 s7 s9 s11 ks (some (.int k)) (some (.int FC)) (some (.lst false (Fv.map Dr))) (fun q hq=>h q (List.mem_cons_of_mem _ hq)) rfl rfl (iQ Fv).2
  refine⟨z12,z13,z14,j1,j2,j3,?_⟩
  rw[List.map_cons,Ev.cy,e]
  exact i
theorem uI (cl:Nat->List D->Res D)(GS:∀ (run:List Pr)(w:Int),run.length<=1000->cl 33 [.lst false (run.map Dr),.int w]=.ok (.tup [.lst true ((tk w run).map Dr),.lst true ((dr w run).map Dr)]))(hS:Pos S)(lS:S.length<=1000)(a0:0<=a)(ha:(rows.map (·.1))[a.toNat]? = some f){p:Int}(hp:0<=p)(Ph:∀ k∈ms,0<=k){s0 s1 s2 s3 s5 s7 s9 s11 x12 x13 x14:Option D}
  (h0:El s0=true) (h1:El s1=true) (h2:El s2=true) (h3:El s3=true) (h5:El s5=true) (h7:El s7=true) (h9:El s9=true) (Ju:El s11=true) (IH:El x12=true) (Pk:El x13=true) (Pl:El x14=true) :
  ∃ Gu FC Fv,El Gu=true/\El FC=true/\El Fv=true/\D6 cl (.Gd 12 8 tF) [s0,s1,s2,s3,some (AX f S rows p),s5,some (.int a),s7,some (dX true (AX f S rows) ms),s9,some (.int p),s11,x12,x13,x14]=.ok (.nx [s0,s1,s2,s3,some (AX f S rows p),s5,some (.int a),s7,some (dX true (AX f S rows) ms),s9,some (.int p),s11,Gu,FC,Fv]):=by
 obtain⟨Gu,FC,Fv,j1,j2,j3,e⟩:=rZ (ms:=ms) cl GS hS lS a0 ha hp s0 s1 s2 s3 s5 s7 s9 s11 ms x12 x13 x14 (fun k hk=>⟨hk,Ph k hk⟩) IH Pk Pl
 refine⟨Gu,FC,Fv,j1,j2,j3,?_⟩
 obtain⟨n1,n2⟩:=rR (AX f S rows) (rV f S rows) ms
 have ik:(ms.map ki).map cJ=ms.map .int:=by
  rw[List.map_map]
  rfl
 have n3:Hb [s0,s1,s2,s3,some (AX f S rows p),s5,some (.int a),s7,none,s9,some (.int p),s11,Gu,FC,Fv]=true:=by
  rw[iR]
  have hA:El (some (AX f S rows p))=true:=(rV f S rows p).2
  simp only[List.all_cons,List.all_nil,h0,h1,h2,h3,h5,h7,h9,Ju,j1,j2,j3,hA]
  rfl
 rw[Ev.ES]
 show Dk (aV (ms.map (AX f S rows))) (U (forM (Ev.gM cl 12 tF) ((ms.map ki).map cJ) [s0,s1,s2,s3,some (AX f S rows p),s5,some (.int a),s7,some (dX false (AX f S rows) ms),s9,some (.int p),s11,x12,x13,x14]) (gx 8))=_
 rw[n1,ik]
 show U (forM (Ev.gM cl 12 tF) (ms.map .int) _) (gx 8)=_
 rw[e]
 show Dk (Hb [s0,s1,s2,s3,some (AX f S rows p),s5,some (.int a),s7,none,s9,some (.int p),s11,Gu,FC,Fv]&&aT (ms.map (AX f S rows))) _=_
 rw[n3,n2]
 rfl
end
theorem kF {α:Type}{g:D->Res (Option D)}(Io:α->D)(p:α->Bool)(out:α->D):∀ xs:List α,(∀ x∈xs,g (Io x)=.ok (if p x=true then some (out x) else none))->ba g (xs.map Io)=.ok ((xs.filter p).map out)
 | [],_=>rfl
 | x::xs,h=>by
  have ih:=kF Io p out xs fun y hy=>h y (List.mem_cons_of_mem _ hy)
  rw[List.map_cons,List.filter_cons]
  show U (g (Io x)) _=_
  rw[h x (.head _)]
  cases p x with
  | true=>
   show U (ba _ _) _=_
   rw[ih]
   rfl
  | false=>exact ih
noncomputable def Ho (fs:List Str)(f:Str)(c:Str->Int):List Sh:=(fs.filter fun g=>!(g == f)).map fun g=>(g,c g)
theorem uJ (cl:Nat->List D->Res D)(o:Bool){fs:List Str}(c:Str->Int){f:Str}{a:Int}(hf:aW (.lst false (fs.map .str)) (.int a)=.ok (.str f)):ba (bu cl (.nm 3) [(.cmp .ne (.v 3) (.idx (.v 1) (.v 2)))] (.tup [(.v 3),(.DG (.v 0) (.v 3))]) [some (dF o fs c),some (.lst false (fs.map .str)),some (.int a),none]) (fs.map .str)=.ok ((Ho fs f c).map DH):=by
 unfold Ho
 rw[List.map_map]
 refine kF .str (fun g=>!(g == f)) (fun g=>DH (g,c g)) fs fun g hg=>?_
 have gg:=fT o c hg
 unfold DH
 generalize dF o fs c=W at *
 generalize fs.map D.str=FF at *
 cases e:(g == f) with
 | true=>
  rw[if_neg (by decide)]
  simp -implicitDefEqProofs (disch:=omega) only[DK,Nat.reduceBEq,Nat.reduceSub,Nat.reduceAdd,reduceIte,hf,gg,e]
 | false=>
  rw[if_pos (by decide)]
  simp -implicitDefEqProofs (disch:=omega) only[DK,Nat.reduceBEq,Nat.reduceSub,Nat.reduceAdd,reduceIte,hf,gg,e]
theorem zu (cl:Nat->List D->Res D)(o:Bool){fs:List Str}(c:Str->Int){f:Str}{a:Int}(hf:aW (.lst false (fs.map .str)) (.int a)=.ok (.str f)):ba (bu cl (.nm 3) [(.cmp .ne (.v 3) (.idx (.v 1) (.v 2)))] (.DG (.v 0) (.v 3)) [some (dF o fs c),some (.lst false (fs.map .str)),some (.int a),none]) (fs.map .str)=.ok ((DQ fs f c).map .int):=by
 unfold DQ
 rw[List.map_map]
 refine kF .str (fun g=>!(g == f)) (fun g=>.int (c g)) fs fun g hg=>?_
 have gg:=fT o c hg
 generalize dF o fs c=W at *
 generalize fs.map D.str=FF at *
 cases e:(g == f) with
 | true=>
  rw[if_neg (by decide)]
  simp -implicitDefEqProofs (disch:=omega) only[DK,Nat.reduceBEq,Nat.reduceSub,Nat.reduceAdd,reduceIte,hf,gg,e]
 | false=>
  rw[if_pos (by decide)]
  simp -implicitDefEqProofs (disch:=omega) only[DK,Nat.reduceBEq,Nat.reduceSub,Nat.reduceAdd,reduceIte,hf,gg,e]
noncomputable def cT:IR:=.comp {N:=["_law_due","_law_faces","_law_at","_law_face"],kd:=[.cell,.cell,.cell,.local],gl:=[],df:=false} [2,1,6] (.nm 3) (.val (.v 1)) [(.cmp .ne (.v 3) (.idx (.v 1) (.v 2)))] (.tup [(.v 3),(.DG (.v 0) (.v 3))])
noncomputable def Nt:List IS:=[(.asg (.nm 10) (.call 35 [(.v 9),(.v 7),(.v 8)])),(.asg (.nm 11) (.lst [(.tup [(.idx (.v 1) (.v 6)),(.v 10)])])),(.Eh (.cmp .eq (.bin .mod (.bin .fdiv (.call 30 [(.v 0),(.c (.int 4))]) (.c (.int 7))) (.c (.int 2))) (.c (.int 1))) [(.asg (.nm 11) (.bin .add cT (.v 11)))] [])]
theorem mL (fs:List Str)(f:Str)(c:Str->Int):(Ho fs f c).length<=fs.length:=by
 unfold Ho
 rw[List.length_map]
 exact List.length_filter_le _ _
section
variable {f:Str}{S:List Pr}{rows:List Rw}{a:Int}{ms:List Int}{fs:List Str}{c:Str->Int}
theorem Ck (cl:Nat->List D->Res D){s:D}(hs:er s=s){cell room p v4:Int}(hf:aW (.lst false (fs.map .str)) (.int a)=.ok (.str f))(hl:fs.length<=6)(e35:cl 35 [.int cell,.int room,dX false (AX f S rows) ms]=.ok (.int p))(e30:cl 30 [s,.int 4]=.ok (.int v4))(x3 s4 x5 x10 x11 x12 x13 x14:Option D) :
  ∃ ps:List Sh,(ps=[(f,p)]∨ps=Ho fs f c++[(f,p)])/\ax cl Nt [some s,some (.lst false (fs.map .str)),some (dF true fs c),x3,s4,x5,some (.int a),some (.int room),some (dX true (AX f S rows) ms),some (.int cell),x10,x11,x12,x13,x14] =
   .ok (.nx [some s,some (.lst false (fs.map .str)),some (dF true fs c),x3,s4,x5,some (.int a),some (.int room),some (dX true (AX f S rows) ms),some (.int cell),some (.int p),some (.lst true (ps.map DH)),x12,x13,x14]):=by
 have de:=wQ true (AX f S rows) (jL f S rows) ms
 have fm:=uJ cl true (fs:=fs) c hf
 have se:=fR fs
 have lm:(fs.map D.str).length=fs.length:=List.length_map _
 have ol:=mL fs f c
 by_cases hc:v4 / 7 % 2=1
 ·have b1:(v4 / 7 % 2 == 1)=true:=by simpa using hc
  refine⟨_,.inr rfl,?_⟩
  have lq:((Ho fs f c).map DH).length=(Ho fs f c).length:=List.length_map _
  have lf:=qX (Ho fs f c++[(f,p)])
  rw[List.map_append] at lf ⊢
  rw[show [((f,p):Sh)].map DH=[.tup [.str f,.int p]] from rfl] at lf ⊢
  generalize (Ho fs f c).map DH=Q at *
  generalize dF true fs c=W at *
  generalize dX true (AX f S rows) ms=DX at *
  generalize dX false (AX f S rows) ms=UX at *
  generalize fs.map D.str=FF at *
  unfold Nt cT
  simp -implicitDefEqProofs (disch:=omega) only[DK,Nat.reduceBEq,Nat.reduceSub,Nat.reduceAdd,reduceIte,e35,e30,hf,de,fm,se,lm,lf,lq,b1,hs]
 ·have b1:(v4 / 7 % 2 == 1)=false:=by simpa using hc
  refine⟨_,.inl rfl,?_⟩
  rw[show [((f,p):Sh)].map DH=[.tup [.str f,.int p]] from rfl]
  generalize dF true fs c=W at *
  generalize dX true (AX f S rows) ms=DX at *
  generalize dX false (AX f S rows) ms=UX at *
  generalize fs.map D.str=FF at *
  unfold Nt cT
  simp -implicitDefEqProofs (disch:=omega) only[DK,Nat.reduceBEq,Nat.reduceSub,Nat.reduceAdd,reduceIte,e35,e30,hf,de,se,b1,hs]
noncomputable def Nu:List IS:=[(.asg (.nm 4) (.call 29 [(.v 4),(.v 11)])),(.Eh (.Fs (.Hv false (.v 10) (.v 8)) (.cmp .ne (.DG (.v 8) (.v 10)) (.v 4))) [(.ret (.c (.bl false)))] [])]
theorem Cm (cl:Nat->List D->Res D){m p:Int}{ps:List Sh}(e29:cl 29 [AX f S rows m,.lst false (ps.map DH)]=.ok (alt true true false (Ed f (tk p S) rows) (dr p S)))(s0 s1 s2 x3 x5 s6 s7 s9 x12 x13 x14:Option D) :
  ax cl Nu [s0,s1,s2,x3,some (AX f S rows m),x5,s6,s7,some (dX true (AX f S rows) ms),s9,some (.int p),some (.lst true (ps.map DH)),x12,x13,x14] =
   .ok (.nx [s0,s1,s2,x3,some (alt true true false (Ed f (tk p S) rows) (dr p S)),x5,s6,s7,some (dX true (AX f S rows) ms),s9,some (.int p),some (.lst false (ps.map DH)),x12,x13,x14]):=by
 have ae:=jL f S rows m
 have pe:=l7 ps
 have i1:=Dc true false (AX f S rows) ms p
 have l1:ay (alt true true false (Ed f (tk p S) rows) (dr p S))=false:=rfl
 by_cases h:p∈ms
 ·have g:=wN true (AX f S rows) h
  have eq:D3 40 (AX f S rows p) (alt true true false (Ed f (tk p S) rows) (dr p S))=.ok true:=zr 34 _ _ _ _ _ _ _ _
  rw[decide_eq_true h] at i1
  generalize dX true (AX f S rows) ms=DX at *
  generalize alt true true false (Ed f (tk p S) rows) (dr p S)=B at *
  generalize AX f S rows m=A at *
  generalize AX f S rows p=AP at *
  generalize ps.map DH=PS at *
  unfold Nu
  simp -implicitDefEqProofs (disch:=omega) only[DK,Nat.reduceBEq,Nat.reduceSub,Nat.reduceAdd,reduceIte,e29,ae,pe,i1,l1,g,eq,Bool.false_bne]
 ·rw[decide_eq_false h] at i1
  generalize dX true (AX f S rows) ms=DX at *
  generalize alt true true false (Ed f (tk p S) rows) (dr p S)=B at *
  generalize AX f S rows m=A at *
  generalize ps.map DH=PS at *
  unfold Nu
  simp -implicitDefEqProofs (disch:=omega) only[DK,Nat.reduceBEq,Nat.reduceSub,Nat.reduceAdd,reduceIte,e29,ae,pe,i1,l1,Bool.false_bne]
theorem wU (cl:Nat->List D->Res D){p:Int}{k:IR}(hl:ms.length<=1000)(s0 s1 s2 x3 x5 s6 s7 s9 x10 s11 x12 x13 x14:Option D){a1 a2 a3:Bool}
  (hk:Dj cl k [s0,s1,s2,x3,some (AX f S rows p),x5,s6,s7,some (dX true (AX f S rows) ms),s9,x10,s11,x12,x13,x14]=.ok (.int p)) :
  D6 cl (.Et 8 k (.v 4)) [s0,s1,s2,x3,some (alt a1 a2 a3 (Ed f (tk p S) rows) (dr p S)),x5,s6,s7,some (dX true (AX f S rows) ms),s9,x10,s11,x12,x13,x14] =
   .ok (.nx [s0,s1,s2,x3,some (AX f S rows p),x5,s6,s7,some (dX true (AX f S rows) (dG ms p)),s9,x10,s11,x12,x13,x14]):=by
 have hd:er (alt a1 a2 a3 (Ed f (tk p S) rows) (dr p S))=AX f S rows p:=eJ _ _ _ _ _
 obtain⟨q1,q2⟩:=Cj (AX f S rows) (jL f S rows) hd ms
 obtain⟨n1,_⟩:=rR (AX f S rows) (rV f S rows) ms
 have fz:Dw (vars (.v 4)) [s0,s1,s2,x3,some (alt a1 a2 a3 (Ed f (tk p S) rows) (dr p S)),x5,s6,s7,some (dX true (AX f S rows) ms),s9,x10,s11,x12,x13,x14]=[s0,s1,s2,x3,some (AX f S rows p),x5,s6,s7,some (dX true (AX f S rows) ms),s9,x10,s11,x12,x13,x14]:=by
  show [s0,s1,s2,x3,some (er (alt a1 a2 a3 (Ed f (tk p S) rows) (dr p S))),x5,s6,s7,some (dX true (AX f S rows) ms),s9,x10,s11,x12,x13,x14]=_
  rw[hd]
 have r4:Dj cl (.v 4) [s0,s1,s2,x3,some (alt a1 a2 a3 (Ed f (tk p S) rows) (dr p S)),x5,s6,s7,some (dX true (AX f S rows) ms),s9,x10,s11,x12,x13,x14]=.ok (alt a1 a2 a3 (Ed f (tk p S) rows) (dr p S)):=by
  generalize alt a1 a2 a3 (Ed f (tk p S) rows) (dr p S)=B
  generalize dX true (AX f S rows) ms=DX at *
  simp -implicitDefEqProofs (disch:=omega) only[DK,Nat.reduceBEq,Nat.reduceSub,Nat.reduceAdd,reduceIte]
 rw[Ev.Ew,r4]
 show U (Dj cl k (Dw (vars (.v 4)) _)) (fun y=>Ev.Bo 8 (.v 4) _ _ (ms.map ki) (ms.map (AX f S rows)) (bQ y))=_
 rw[fz,hk]
 show Dk (aV (ms.map (AX f S rows))&&bW (ms.map ki).length) (.ok (Fl.nx ((Dw (vars (.v 4)) _).set 8 (some (.Dl true (bg (ms.map ki) (ki p)) (Dx (aR (ms.map ki) (ms.map (AX f S rows)) (ki p) _)))))))=_
 rw[n1,List.length_map,Ev.fP (by omega),fz,q1,q2]
 rfl
end
theorem cnt_join:∀ l r:List Pr,cnt (au l r)=cnt l+cnt r
 | [],r=>by show cnt r=0+cnt r;omega
 | [q],[]=>by show cnt [q]=cnt [q]+0;omega
 | [q],p::rs=>by
  show cnt (if q.2=p.1 then (q.1,p.2)::rs else q::p::rs)=(q.2 - q.1+0)+(p.2 - p.1+cnt rs)
  split
  ·show p.2 - q.1+cnt rs=_
   omega
  ·show q.2 - q.1+(p.2 - p.1+cnt rs)=_
   omega
 | q::q'::l,r=>by
  show q.2 - q.1+cnt (au (q'::l) r)=q.2 - q.1+cnt (q'::l)+cnt r
  rw[cnt_join (q'::l) r]
  omega
theorem jM:∀ l r:List Pr,(au l r).length<=l.length+r.length
 | [],r=>by show r.length<=0+r.length;omega
 | [q],[]=>Nat.le_refl _
 | [q],p::rs=>by
  show (if q.2=p.1 then (q.1,p.2)::rs else q::p::rs).length<=_
  split<;>simp<;>omega
 | q::q'::l,r=>by
  have:=jM (q'::l) r
  show (au (q'::l) r).length+1<=(q'::l).length+1+r.length
  omega
theorem jN {f:Str}{R:List Pr}:∀ {rows:List Rw},(∀ p∈rows,p.1=f->p.2=R)->Ed f R rows=rows
 | [],_=>rfl
 | p::rows,h=>by
  rw[bx,jN fun q hq=>h q (List.mem_cons_of_mem _ hq)]
  congr 1
  by_cases e:p.1=f
  ·rw[if_pos e]
   have:=h p (.head _) e
   rw[<- this]
  ·rw[if_neg e]
theorem r6 {f:Str}{R:List Pr}:∀ {rows:List Rw},(rows.map (·.1)).Nodup->(f,R)∈rows->∀ p∈rows,p.1=f->p.2=R
 | q::rows,nd,h,p,hp,e=>by
  rw[List.map_cons] at nd
  obtain⟨n1,n2⟩:=List.nodup_cons.mp nd
  rcases List.mem_cons.mp h with z|z
  ·rcases List.mem_cons.mp hp with y|y
   ·rw[y,<- z]
   ·exact absurd (List.mem_map_of_mem (f:=(·.1)) y) (by rw[e,show f=q.1 by rw[<- z]];exact n1)
  ·rcases List.mem_cons.mp hp with y|y
   ·exact absurd (List.mem_map_of_mem (f:=(·.1)) z) (by show f∉_;rw[<- e,y];exact n1)
   ·exact r6 n2 z p y e
theorem dn (c:Str->Int)(f:Str)(x:Int):up c f x f=x:=if_pos rfl
theorem gQ {c:Str->Int}{f g:Str}{x:Int}(h:g≠f):up c f x g=c g:=if_neg h
theorem wV (c:Str->Int)(f:Str)(x y:Int):up (up c f x) f y=up c f y:=by
 funext g
 by_cases h:g=f
 ·rw[h,dn,dn]
 ·rw[gQ h,gQ h,gQ h]
theorem wW (c:Str->Int)(g:Str):up c g (c g)=c:=by
 funext h
 by_cases e:h=g
 ·rw[e,dn]
 ·rw[gQ e]
theorem iS {u c:Str->Int}{f:Str}(hu:∀ g,g≠f->u g=c g):∀ l:List Str,ups u ((l.filter fun g=>!(g == f)).map fun g=>(g,c g))=u
 | []=>rfl
 | g::l=>by
  rw[List.filter_cons]
  by_cases e:g=f
  ·subst e
   rw[if_neg (by simp)]
   exact iS hu l
  ·rw[if_pos (by simpa using e)]
   show ups (up u g (c g)) ((l.filter fun g=>!(g == f)).map fun g=>(g,c g))=u
   rw[<- hu g e,wW]
   exact iS hu l
structure Nv (fs:List Str)(c:Str->Int)(rows:List Rw)(f:Str)(S:List Pr)(a room:Int):Prop where
 DJ:fs.Nodup
 Jj:fs.length<=6
 rep:∀ g∈fs,(reprText g).length<=1000
 hc:∀ g,0<=c g
 hf:f∈fs
 a0:0<=a
 at_:aW (.lst false (fs.map .str)) (.int a)=.ok (.str f)
 nm:rows.map (·.1)=fs
 ra:(rows.map (·.1))[a.toNat]? = some f
 hS:Pos S
 nS:NF S
 lS:S.length<=1000
 cS:cnt S=room
 ho:∀ p∈rows,p.1≠f->Pos p.2/\c p.1=cnt p.2
 UY:room=10007 - (Law.DQ fs f c).sum
 r0:0<=room
structure Lv (fs:List Str)(c:Str->Int)(rows:List Rw)(f:Str)(S:List Pr)(room m:Int)(ms:List Int)(L:Nat):Prop where
 al:Al fs (up c f m) (Ed f (tk m S) rows) (dr m S) L
 m0:0<=m
 m1:m<=room
 Pm:0 < ms.length
 ms:∀ k∈ms,0<=k/\k<=room
theorem jO (ms:List Int)(p:Int):(dG ms p).length<=ms.length+1/\0 < (dG ms p).length∨ms.length=0:=by
 unfold dG
 by_cases h:ms.length=0
 ·exact .inr h
 ·left
  split
  ·omega
  ·rw[List.length_append,List.length_singleton]
   omega
theorem uK {ms:List Int}{p k:Int}(h:k∈dG ms p):k∈ms∨k=p:=by
 unfold dG at h
 split at h
 ·exact .inl h
 ·rcases List.mem_append.mp h with h|h
  ·exact .inl h
  ·exact .inr (List.mem_singleton.mp h)
section
variable {f:Str}{S:List Pr}{rows:List Rw}{a room:Int}{fs:List Str}{c:Str->Int}
theorem uL (b:Nv fs c rows f S a room){m:Int}{ms:List Int}{L:Nat}(s:Lv fs c rows f S room m ms L)(hL:L<=900){p:Int}(hp:p∈ms∨0<=p/\p<=room){ps:List Sh}(Ht:ps=[(f,p)]∨ps=Ho fs f c++[(f,p)]) :
  aa T 12 29 [AX f S rows m,.lst false (ps.map DH)]=.ok (alt true true false (Ed f (tk p S) rows) (dr p S))/\Lv fs c rows f S room p (dG ms p) (L+12):=by
 have MJ:0<=p/\p<=room:=hp.elim (s.ms p) id
 have MK:ups (up c f m) ps=up c f p:=by
  rcases Ht with rfl|rfl
  ·exact wV c f m p
  ·rw[cZ]
   show up (ups (up c f m) (Ho fs f c)) f p=_
   unfold Ho
   rw[iS (fun g hg=>gQ hg),wV]
 have FV:∀ q∈ps,q.1∈fs/\0<=q.2:=fun q hq=>by
  have one:q∈[((f,p):Sh)]->q.1∈fs/\0<=q.2:=fun h=>by
   rw[List.mem_singleton.mp h]
   exact⟨b.hf,MJ.1⟩
  rcases Ht with rfl|rfl
  ·exact one hq
  ·rcases List.mem_append.mp hq with hq|hq
   ·obtain⟨g,hg,rfl⟩:=List.mem_map.mp hq
    exact⟨(List.mem_filter.mp hg).1,b.hc g⟩
   ·exact one hq
 have UZ:(ps.map (·.1)).Nodup:=by
  rcases Ht with rfl|rfl
  ·simp
  ·rw[List.map_append]
   unfold Ho
   rw[List.map_map,show ((fun x:Sh=>x.1) ∘ fun g=>((g,c g):Sh))=id from rfl,List.map_id]
   refine List.nodup_append.mpr ⟨b.DJ.sublist List.filter_sublist,by simp,fun x hx y hy e=>?_⟩
   have h1:=(List.mem_filter.mp hx).2
   have h2:y=f:=by simpa using hy
   rw[e,h2] at h1
   simp at h1
 have hlen:ps.length<=100:=by
  rcases Ht with rfl|rfl
  ·simp
  ·rw[List.length_append,List.length_singleton]
   have:=mL fs f c
   have:=b.Jj
   omega
 have GJ:d6 fs ps []=none:=ky ps [] FV UZ (fun q _ h=>by cases h)
 have MI:(fs.map (ups (up c f m) ps)).sum<=10007:=by
  rw[MK,rC b.DJ b.hf]
  have:=b.UY
  omega
 obtain⟨_,ch⟩:=fU 8 s.al hL ps hlen fun q hq=>b.rep _ (FV q hq).1
 obtain⟨DT,Dm,e29,al,ex⟩:=(ch GJ).2 MI
 rw[MK] at al ex
 have Vy:=b.cS
 have nd:(rows.map (·.1)).Nodup:=by rw[b.nm];exact b.DJ
 have OJ:f∈rows.map (·.1):=by rw[b.nm];exact b.hf
 have key:=zk (v:=up c f p) (f:=f) b.hS b.nS s.m0 (by have:=s.m1;omega) (by rw[dn];exact MJ.1) (by rw[dn];omega) nd OJ fun q hq Fq=>⟨(b.ho q hq Fq).1,by rw[gQ Fq];exact(b.ho q hq Fq).2⟩
 rw[key,dn] at ex
 obtain⟨U0,U1⟩:=Prod.mk.inj ex
 rw[U0,U1] at e29 al
 refine⟨e29,al,MJ.1,MJ.2,?_,fun k hk=>?_⟩
 ·rcases jO ms p with h|h
  ·exact h.2
  ·have:=s.Pm
   omega
 ·rcases uK hk with h|h
  ·exact s.ms k h
  ·rw[h];exact MJ
noncomputable def tB:List IS:=Nt++(Nu++[(.Et 8 (.v 10) (.v 4)),(.Gd 12 8 tF)])
theorem r9 (cl:Nat->List D->Res D):∀ (a b:List IS) (τ:Ev),ax cl (a++b) τ=U (ax cl a τ) (Ev.fO (ax cl b))
 | [],b,τ=>rfl
 | s::a,b,τ=>by
  show U (D6 cl s τ) (Ev.fO (ax cl (a++b)))=U (U (D6 cl s τ) (Ev.fO (ax cl a))) (Ev.fO (ax cl b))
  cases D6 cl s τ with
  | error e=>rfl
  | ok r=>
   cases r with
   | nx Di=>exact r9 cl a b Di
   | rt d=>rfl
   | bk Di=>rfl
   | ct Di=>rfl
theorem seg {cl:Nat->List D->Res D}{a b:List IS}{τ Di:Ev}(h:ax cl a τ=.ok (.nx Di)):ax cl (a++b) τ=ax cl b Di:=by
 rw[r9,h]
 rfl
theorem zv (cl:Nat->List D->Res D){s1 s2:IS}{τ Di He:Ev}(h1:D6 cl s1 τ=.ok (.nx Di))(h2:D6 cl s2 Di=.ok (.nx He)):ax cl [s1,s2] τ=.ok (.nx He):=by
 show U (D6 cl s1 τ) (Ev.fO (ax cl [s2]))=_
 rw[h1]
 show U (D6 cl s2 Di) (Ev.fO (ax cl []))=_
 rw[h2]
 rfl
theorem zw (b:Nv fs c rows f S a room)(ns:List Int){m:Int}{ms:List Int}{L:Nat}(s:Lv fs c rows f S room m ms L)(hL:L<=900)(Ph:ms.length < 63)(cell:Int){x3 x9 x10 x11 x12 x13 x14:Option D}(h3:El x3=true)(IH:El x12=true)(Pk:El x13=true)(Pl:El x14=true) :
  ∃ (p:Int) (Pn Gu FC Fv:Option D),Lv fs c rows f S room p (dG ms p) (L+12)/\El Gu=true/\El FC=true/\El Fv=true/\
   Ev.turn (aa T 12) (.nm 9) tB (.int cell) [some (.lst false (ns.map .int)),some (.lst false (fs.map .str)),some (dF true fs c),x3,some (AX f S rows m),some (.int 3),some (.int a),some (.int room),some (dX true (AX f S rows) ms),x9,x10,x11,x12,x13,x14] =
   .ok (.nx [some (.lst false (ns.map .int)),some (.lst false (fs.map .str)),some (dF true fs c),x3,some (AX f S rows p),some (.int 3),some (.int a),some (.int room),some (dX true (AX f S rows) (dG ms p)),some (.int cell),some (.int p),Pn,Gu,FC,Fv]):=by
 have ie:Dx (ns.map D.int)=ns.map D.int:=Ev.cX ns
 have c4:=Fr.cell (show T 30=some JL from rfl) rfl rfl rfl rfl 11 ns 4 (by omega)
 obtain⟨p,e35,hp⟩:=uD 11 cell room b.r0 ms (ms.map (AX f S rows)) s.Pm (by omega) (by rw[bE,List.map_map];exact List.map_congr_left fun m _=>jL f S rows m) (List.length_map _)
 obtain⟨ps,Ht,e1⟩:=Ck (c:=c) (aa T 12) (s:=.lst false (ns.map .int)) (by rw[er,ie]) b.at_ b.Jj (show aa T 12 35 [.int cell,.int room,dX false (AX f S rows) ms]=.ok (.int p) from e35) c4 x3 (some (AX f S rows m)) (some (.int 3)) x10 x11 x12 x13 x14
 obtain⟨e29,st⟩:=uL b s hL hp Ht
 have e2:=Cm (ms:=ms) (aa T 12) e29 (some (.lst false (ns.map .int))) (some (.lst false (fs.map .str))) (some (dF true fs c)) x3 (some (.int 3)) (some (.int a)) (some (.int room)) (some (.int cell)) x12 x13 x14
 have hk:Dj (aa T 12) (.v 10) [some (.lst false (ns.map .int)),some (.lst false (fs.map .str)),some (dF true fs c),x3,some (AX f S rows p),some (.int 3),some (.int a),some (.int room),some (dX true (AX f S rows) ms),some (.int cell),some (.int p),some (.lst false (ps.map DH)),x12,x13,x14]=.ok (.int p):=rfl
 have e3:=wU (aa T 12) (k:=.v 10) (by omega) _ _ _ x3 _ _ _ _ _ _ x12 x13 x14 (a1:=true) (a2:=true) (a3:=false) hk
 obtain⟨Gu,FC,Fv,j1,j2,j3,e4⟩:=uI (ms:=dG ms p) (aa T 12) (fun run w h=>Cf 11 run h w) b.hS b.lS b.a0 b.ra st.m0 (fun k hk=>(st.ms k hk).1) (s0:=some (.lst false (ns.map .int))) (s1:=some (.lst false (fs.map .str))) (s2:=some (dF true fs c)) (s3:=x3) (s5:=some (.int 3)) (s7:=some (.int room)) (s9:=some (.int cell)) (s11:=some (.lst false (ps.map DH))) (x12:=x12) (x13:=x13) (x14:=x14)
  (rS ns) (rT fs) (uH fs c) h3 rfl rfl rfl (uG ps) IH Pk Pl
 refine⟨p,some (.lst false (ps.map DH)),Gu,FC,Fv,st,j1,j2,j3,?_⟩
 show ax (aa T 12) tB [some (.lst false (ns.map .int)),some (.lst false (fs.map .str)),some (dF true fs c),x3,some (AX f S rows m),some (.int 3),some (.int a),some (.int room),some (dX true (AX f S rows) ms),some (.int cell),x10,x11,x12,x13,x14]=_
 unfold tB
 rw[seg e1,seg e2]
 exact zv _ e3 e4
end
section
variable {f:Str}{S:List Pr}{rows:List Rw}{a room:Int}{fs:List Str}{c:Str->Int}
theorem sa (b:Nv fs c rows f S a room)(ns:List Int){x3:Option D}(h3:El x3=true):∀ (cells:List Int) (m:Int) (ms:List Int) (L:Nat) (x9 x10 x11 x12 x13 x14:Option D),Lv fs c rows f S room m ms L->ms.length+cells.length<=63->L+12*cells.length<=900->El x12=true->El x13=true->El x14=true->
  ∃ Di:Ev,forM (Ev.turn (aa T 12) (.nm 9) tB) (cells.map .int) [some (.lst false (ns.map .int)),some (.lst false (fs.map .str)),some (dF true fs c),x3,some (AX f S rows m),some (.int 3),some (.int a),some (.int room),some (dX true (AX f S rows) ms),x9,x10,x11,x12,x13,x14]=.ok (.nx Di)
 | [],m,ms,L,x9,x10,x11,x12,x13,x14,_,_,_,_,_,_=>⟨_,rfl⟩
 | cell::cells,m,ms,L,x9,x10,x11,x12,x13,x14,s,h1,h2,k1,k2,k3=>by
  rw[List.length_cons] at h1 h2
  obtain⟨p,Pn,Gu,FC,Fv,st,j1,j2,j3,e⟩:=zw b ns s (by omega) (by omega) cell (x9:=x9) (x10:=x10) (x11:=x11) h3 k1 k2 k3
  have hl:(dG ms p).length<=ms.length+1:=by
   rcases jO ms p with h|h
   ·exact h.1
   ·have:=s.Pm
    omega
  obtain⟨Di,i⟩:=sa b ns h3 cells p (dG ms p) (L+12) (some (.int cell)) (some (.int p)) Pn Gu FC Fv st (by omega) (by omega) j1 j2 j3
  refine⟨Di,?_⟩
  rw[List.map_cons,Ev.cy,e]
  exact i
end
theorem sd {α β:Type}(f:α->β)(xs:List α)(lo hi:Option Int):cF (xs.map f) lo hi=(cF xs lo hi).map f:=by
 unfold cF
 rw[List.length_map,List.map_take,List.map_drop]
theorem sg {α:Type}(xs:List α){a b:Int}(ha:0<=a)(hb:0<=b):(cF xs (some a) (some (a+b))).length<=b.toNat:=by
 unfold cF
 rw[List.length_take]
 have h1:HT.Fw xs.length 0 (some a)=min a.toNat xs.length:=by
  show (if a < 0 then _ else min a.toNat xs.length)=_
  rw[if_neg (by omega)]
 have h2:HT.Fw xs.length xs.length (some (a+b))=min (a+b).toNat xs.length:=by
  show (if a+b < 0 then _ else min (a+b).toNat xs.length)=_
  rw[if_neg (by omega)]
 rw[h1,h2]
 omega
theorem uM {fs:List Str}{c:Str->Int}{rows:List Rw}{free:List Pr}(h0:0 < fs.length)(al:Al fs c rows free 25)(an:KU rows free)(hc:∀ g,0<=c g)(v:Int) :
  ∃ (f:Str) (S:List Pr),Nv fs c rows f S (v % fs.length) (10007 - (DQ fs f c).sum)/\Lv fs c rows f S (10007 - (DQ fs f c).sum) (c f) [c f] 25/\Ed f (tk (c f) S) rows=rows/\dr (c f) S=free:=by
 have i0:0<=v % (fs.length:Nat):=Int.emod_nonneg _ (by omega)
 have i1:v % (fs.length:Nat) < (fs.length:Nat):=Int.emod_lt_of_pos _ (by omega)
 have DV:(v % (fs.length:Nat)).toNat < fs.length:=by omega
 have ix:=rB false fs i0 i1
 have U2:fs.getD (v % (fs.length:Nat)).toNat Str.empty=fs[(v % (fs.length:Nat)).toNat]:=by
  rw[List.getD_eq_getElem?_getD,List.getElem?_eq_getElem DV]
  rfl
 rw[U2] at ix
 have hf:fs[(v % (fs.length:Nat)).toNat]∈fs:=List.getElem_mem DV
 have Pa:fs[(v % (fs.length:Nat)).toNat]? = some fs[(v % (fs.length:Nat)).toNat]:=List.getElem?_eq_getElem DV
 generalize fs[(v % (fs.length:Nat)).toNat]=f at *
 have nm:=al.names
 have OT:f∈rows.map (·.1):=by rw[nm];exact hf
 obtain⟨⟨f',R⟩,hR,e⟩:=List.mem_map.mp OT
 have e:f'=f:=e
 subst e
 have nd:(rows.map (·.1)).Nodup:=by rw[nm];exact al.DJ
 have cR:cnt R=c f':=(al.Ec hR).2
 have pR:Pos R:=al.pos _ hR
 obtain⟨g1,g2⟩:=fV pR al.Hn
 have self:Ed f' R rows=rows:=jN (r6 nd hR)
 have tt:=al.Fu
 have os:=eU c hf al.DJ
 have hl:=al.len
 have IP:=iN hR
 have IP:R.length<=lsum rows:=IP
 have hj:=jM R free
 have Vz:=dD al.Hn
 have Rx:=hc f'
 refine⟨f',au R free,⟨al.DJ,al.Jj,al.rep,hc,hf,i0,ix,nm,by rw[nm];exact Pa,c5 pR al.Hn,eV (an.r _ hR) an.f,by omega,by rw[cnt_join,cR];omega,fun p hp Fq=>⟨al.pos p hp,(al.Ec hp).2.symm⟩,rfl,by omega⟩,⟨?_,Rx,by omega,by simp,fun k hk=>?_⟩,by rw[<- cR,g1];exact self,by rw[<- cR];exact g2⟩
 ·rw[wW,<- cR,g1,g2,self]
  exact al
 ·rw[List.mem_singleton.mp hk]
  exact⟨Rx,by omega⟩
noncomputable def cS:IR:=.comp {N:=["_law_due","_law_faces","_law_at","_law_face"],kd:=[.cell,.cell,.cell,.local],gl:=[],df:=false} [2,1,6] (.nm 3) (.val (.v 1)) [(.cmp .ne (.v 3) (.idx (.v 1) (.v 2)))] (.DG (.v 0) (.v 3))
noncomputable def sB:List IS:=[(.asg (.nm 6) (.bin .mod (.call 30 [(.v 0),(.c (.int 4))]) (.bi .len [(.v 1)]))),(.asg (.nm 7) (.bin .sub (.c (.int 10007)) (.bi .sum [cS]))),(.asg (.nm 8) .EF)]
noncomputable def sC:List IS:=[(.Et 8 (.DG (.v 2) (.idx (.v 1) (.v 6))) (.v 4))]
noncomputable def eF:IR:=.bin .add (.call 31 [(.call 30 [(.v 0),(.c (.int 4))]),(.c (.int 3))]) (.sl (.v 0) (some (.c (.int 5))) (some (.c (.int 63))))
noncomputable def sD:List IS:=[(.DZ (.nm 9) (.val eF) tB),(.ret (.c (.bl true)))]
theorem zx:Ri=sA++(sB++(sC++sD)):=rfl
theorem uN (fs:List Str)(f:Str)(c:Str->Int):(DQ fs f c).length<=fs.length:=by
 unfold DQ
 rw[List.length_map]
 exact List.length_filter_le _ _
theorem Dd (ns:List Int){fs:List Str}{c:Str->Int}{f:Str}(h0:0 < fs.length)(hl:fs.length<=6)(ix:aW (.lst false (fs.map .str)) (.int (ns.getD (4:Int).toNat 0 % fs.length))=.ok (.str f))(x3 s4:Option D) :
  ax (aa T 12) sB [some (.lst false (ns.map .int)),some (.lst false (fs.map .str)),some (dF true fs c),x3,s4,some (.int 3),none,none,none,none,none,none,none,none,none] =
   .ok (.nx [some (.lst false (ns.map .int)),some (.lst false (fs.map .str)),some (dF true fs c),x3,s4,some (.int 3),some (.int (ns.getD (4:Int).toNat 0 % fs.length)),some (.int (10007 - (DQ fs f c).sum)),some (.Dl true [] []),none,none,none,none,none,none]):=by
 have c4:=Fr.cell (show T 30=some JL from rfl) rfl rfl rfl rfl 11 ns 4 (by omega)
 have ie:Dx (ns.map D.int)=ns.map D.int:=Ev.cX ns
 generalize ns.getD (4:Int).toNat 0=v4 at *
 have fm:=zu (aa T 12) true (fs:=fs) c ix
 have lm:(fs.map D.str).length=fs.length:=List.length_map _
 have sm:∀ o,bX .sum [.lst o ((DQ fs f c).map .int)]=.ok (.int (DQ fs f c).sum):=fun o=>Ev.kj (by have:=uN fs f c;omega)
 have hp:(0:Int) < (fs.length:Nat):=by omega
 generalize (DQ fs f c).map D.int=Q at *
 generalize (DQ fs f c).sum=q at *
 generalize dF true fs c=W at *
 generalize fs.map D.str=FF at *
 generalize ns.map D.int=XX at *
 unfold sB cS
 simp -implicitDefEqProofs (disch:=omega) only[DK,Nat.reduceBEq,Nat.reduceSub,Nat.reduceAdd,reduceIte,c4,ie,fm,lm,sm]
theorem holds (ns:List Int)(h:ns.length<=63):aa T (12+1) ue [.lst false (ns.map .int)]=.ok (.bl true):=by
 rw[Ev.go (show T ue=some JM from rfl) (show JM.io=none from rfl) (show JM.np=1 from rfl) (show JM.G.N.length=15 from rfl) (show JM.body=_ from zx) rfl]
 obtain⟨fs,c,rows,free,x3,U3,h0,al,an,hc,ea⟩:=C9 ns
 obtain⟨f,S,b,s,r1,r2⟩:=uM h0 al an hc (ns.getD (4:Int).toNat 0)
 have eb:=Dd ns (c:=c) (f:=f) h0 al.Jj b.at_ x3 (some (alt true true false rows free))
 have h3:El x3=true:=by
  rcases U3 with rfl|⟨g,rfl⟩<;>rfl
 show U (ax (aa T 12) (sA++(sB++(sC++sD))) [some (.lst false (ns.map .int)),none,none,none,none,none,none,none,none,none,none,none,none,none,none]) Ev.qG=_
 rw[seg ea,seg eb]
 generalize hv:ns.getD (4:Int).toNat 0 % (fs.length:Nat)=a at *
 have gF:=fT true c b.hf
 have IQ:=b.at_
 have hk:Dj (aa T 12) (.DG (.v 2) (.idx (.v 1) (.v 6))) [some (.lst false (ns.map .int)),some (.lst false (fs.map .str)),some (dF true fs c),x3,some (AX f S rows (c f)),some (.int 3),some (.int a),some (.int (10007 - (DQ fs f c).sum)),some (dX true (AX f S rows) []),none,none,none,none,none,none]=.ok (.int (c f)):=by
  clear ea eb
  generalize AX f S rows (c f)=A at *
  generalize dX true (AX f S rows) []=DX at *
  generalize dF true fs c=W at *
  generalize fs.map D.str=FF at *
  simp -implicitDefEqProofs (disch:=omega) only[DK,Nat.reduceBEq,Nat.reduceSub,Nat.reduceAdd,reduceIte,IQ,gF]
 have e3:=wU (aa T 12) (k:=.DG (.v 2) (.idx (.v 1) (.v 6))) (ms:=[]) (by simp) _ _ _ x3 _ _ _ _ none none none none none (a1:=true) (a2:=true) (a3:=false) hk
 rw[r1,r2] at e3
 have ec:ax (aa T 12) sC [some (.lst false (ns.map .int)),some (.lst false (fs.map .str)),some (dF true fs c),x3,some (alt true true false rows free),some (.int 3),some (.int a),some (.int (10007 - (DQ fs f c).sum)),some (.Dl true [] []),none,none,none,none,none,none]=.ok (.nx [some (.lst false (ns.map .int)),some (.lst false (fs.map .str)),some (dF true fs c),x3,some (AX f S rows (c f)),some (.int 3),some (.int a),some (.int (10007 - (DQ fs f c).sum)),some (dX true (AX f S rows) [c f]),none,none,none,none,none,none]):=by
  show U (D6 (aa T 12) (.Et 8 (.DG (.v 2) (.idx (.v 1) (.v 6))) (.v 4)) _) (Ev.fO (ax (aa T 12) []))=_
  rw[show (some (.Dl true [] []):Option D)=some (dX true (AX f S rows) []) from rfl,e3]
  rfl
 rw[seg ec]
 have c4:=Fr.cell (show T 30=some JL from rfl) rfl rfl rfl rfl 11 ns 4 (by omega)
 have ie:Dx (ns.map D.int)=ns.map D.int:=Ev.cX ns
 obtain⟨xs,ex,lx,px⟩:=stream (show T 31=some My from rfl) rfl rfl rfl rfl 11 (ns.getD (4:Int).toNat 0) 3 (by omega) (by omega)
 have sl:ia (.lst false (ns.map .int)) (some 5) (some 63)=.ok (.lst true ((cF ns (some 5) (some 63)).map .int)):=by
  rw[Ev.yW,sd]
 have ll:=sg ns (a:=5) (b:=58) (by omega) (by omega)
 have ll:(cF ns (some 5) (some 63)).length<=58:=ll
 have lx:xs.length=3:=lx
 obtain⟨Di,e⟩:=sa b ns h3 (xs++cF ns (some 5) (some 63)) (c f) [c f] 25 none none none none none none s (by rw[List.length_append];simp;omega) (by rw[List.length_append];omega) rfl rfl rfl
 rw[List.map_append] at e
 have lc:((cF ns (some 5) (some 63)).map D.int).length<=58:=by rw[List.length_map];exact ll
 have MG:(xs.map D.int).length=3:=by rw[List.length_map];exact lx
 have Ov:Dx (xs.map D.int++(cF ns (some 5) (some 63)).map D.int)=xs.map D.int++(cF ns (some 5) (some 63)).map D.int:=by
  rw[<- List.map_append]
  exact Ev.cX _
 have vF:vars eF=[0,0]:=rfl
 clear ea eb ec e3 hk
 generalize AX f S rows (c f)=A at *
 generalize dX true (AX f S rows) [c f]=DX at *
 generalize dF true fs c=W at *
 generalize fs.map D.str=FF at *
 generalize (cF ns (some 5) (some 63)).map D.int=CC at *
 generalize xs.map D.int=X3 at *
 generalize ns.map D.int=XX at *
 unfold sD
 generalize tB=tb at *
 unfold eF at *
 simp -implicitDefEqProofs (disch:=omega) only[DK,Nat.reduceBEq,Nat.reduceSub,Nat.reduceAdd,reduceIte,c4,ex,ie,sl,Ov,MG,lc,e,vF]
end Law
namespace PySem.W.Fast
theorem tw15116218665412727227:True:=⟨⟩
theorem tw13545923322693812923:True:=⟨⟩
theorem tw13738079634966314758:True:=⟨⟩
theorem tw3790244091234290314:True:=⟨⟩
theorem tw6539461021391490654:True:=⟨⟩
theorem tw1196804009135989670:True:=⟨⟩
theorem tw5705598512054740391:True:=⟨⟩
theorem tw14512756586649789379:True:=⟨⟩
theorem tw12375434812819650250:True:=⟨⟩
theorem tw6619734788540001859:True:=⟨⟩
theorem tw4082072553608074603:True:=⟨⟩
theorem tw13395950731736410461:True:=⟨⟩
theorem tw7022047891395294662:True:=⟨⟩
theorem tw15841362920158991815:True:=⟨⟩
theorem tw16556876296248760090:True:=⟨⟩
theorem tw11418793200171173923:True:=⟨⟩
theorem tw17876571939411481872:True:=⟨⟩
theorem tw5047870764072618882:True:=⟨⟩
theorem tw5927523020950187291:True:=⟨⟩
theorem tw14746255629843473107:True:=⟨⟩
theorem tw7814076719702485274:True:=⟨⟩
theorem tw16224725375910924658:True:=⟨⟩
theorem tw17556686109447734296:True:=⟨⟩
theorem tw10605614843607477615:True:=⟨⟩
theorem tw10686950801046516898:True:=⟨⟩
theorem tw13245588877148949285:True:=⟨⟩
theorem tw4093693649446939263:True:=⟨⟩
theorem tw16746000035876074544:True:=⟨⟩
theorem tw9792983348825571249:True:=⟨⟩
theorem tw4400185213726876575:True:=⟨⟩
theorem tw6830740294143900490:True:=⟨⟩
theorem tw9957228428362683939:True:=⟨⟩
theorem tw9426841878917287945:True:=⟨⟩
theorem tw3459681246856401112:True:=⟨⟩
theorem tw8363356886954631516:True:=⟨⟩
theorem tw11497573027674659512:True:=⟨⟩
theorem tw8083080818003097693:True:=⟨⟩
theorem tw6131650715174372983:True:=⟨⟩
theorem tw5163953236689455070:True:=⟨⟩
theorem tw14746753566299435891:True:=⟨⟩
theorem tw1066499741276920264:True:=⟨⟩
theorem tw3195925031942195885:True:=⟨⟩
theorem tw376035960825817082:True:=⟨⟩
theorem tw8404418460735717809:True:=⟨⟩
theorem tw3939675582762695927:True:=⟨⟩
theorem tw13952696455122949195:True:=⟨⟩
theorem tw11256935637294809767:True:=⟨⟩
theorem tw12313486714038240761:True:=⟨⟩
theorem tw5964480084807535522:True:=⟨⟩
theorem tw13670828838912271220:True:=⟨⟩
theorem tw2760622987611816620:True:=⟨⟩
theorem tw15524247120990371930:True:=⟨⟩
theorem tw8525092276087866733:True:=⟨⟩
theorem tw1256274668949894703:True:=⟨⟩
theorem tw18188060002061501796:True:=⟨⟩
theorem tw16944431392859838071:True:=⟨⟩
theorem tw15474722814285559623:True:=⟨⟩
theorem tw6798214653434868538:True:=⟨⟩
theorem tw10187996237262285001:True:=⟨⟩
theorem tw11512576045554232887:True:=⟨⟩
theorem tw17220734696299928561:True:=⟨⟩
theorem tw8910576145384030122:True:=⟨⟩
theorem tw6976040395259423122:True:=⟨⟩
theorem tw4681406478150233180:True:=⟨⟩
theorem tw442586633580352622:True:=⟨⟩
theorem tw15719904388146888034:True:=⟨⟩
theorem tw4771850538465626421:True:=⟨⟩
theorem tw6119582994956575961:True:=⟨⟩
theorem tw710272514474058135:True:=⟨⟩
theorem tw16664903854325765649:True:=⟨⟩
theorem tw13769749137863403948:True:=⟨⟩
theorem tw6988695296174517356:True:=⟨⟩
theorem tw2568103099156604639:True:=⟨⟩
theorem tw17974394293672999540:True:=⟨⟩
theorem tw1570365724357112317:True:=⟨⟩
theorem tw13021078915628735590:True:=⟨⟩
theorem tw7715636013914041066:True:=⟨⟩
theorem tw14283974052979700039:True:=⟨⟩
theorem tw1025859037766906108:True:=⟨⟩
theorem tw6349058278436266812:True:=⟨⟩
theorem tw4367711127924789658:True:=⟨⟩
theorem tw17203379344784796080:True:=⟨⟩
theorem tw534908703223298469:True:=⟨⟩
theorem tw14347434106678415311:True:=⟨⟩
theorem tw5734920879064494949:True:=⟨⟩
theorem tw9311720669076289941:True:=⟨⟩
theorem tw12326664260005902741:True:=⟨⟩
theorem tw11926806296046208722:True:=⟨⟩
theorem tw11039166221483044806:True:=⟨⟩
theorem tw6743464235590431057:True:=⟨⟩
theorem tw17526629022205346453:True:=⟨⟩
theorem tw4035835970683678599:True:=⟨⟩
theorem tw17138806477148241362:True:=⟨⟩
theorem tw8941035661416521276:True:=⟨⟩
theorem tw13811218794329040890:True:=⟨⟩
theorem tw7544611169598015644:True:=⟨⟩
theorem tw3119288992860359498:True:=⟨⟩
theorem tw14364734661424730298:True:=⟨⟩
theorem tw6002429576522344460:True:=⟨⟩
theorem tw5356595370666854144:True:=⟨⟩
theorem tw5948747608820933197:True:=⟨⟩
theorem tw15679181255591012630:True:=⟨⟩
theorem tw9605702248778547588:True:=⟨⟩
theorem tw6906695207632532206:True:=⟨⟩
theorem tw4500151445510880956:True:=⟨⟩
theorem tw14088537754674334878:True:=⟨⟩
theorem tw14057790510765632097:True:=⟨⟩
theorem tw17151474509996136074:True:=⟨⟩
theorem tw6611177426016071078:True:=⟨⟩
theorem tw18229935471962009652:True:=⟨⟩
theorem tw9515603670835060422:True:=⟨⟩
theorem tw2585068130455883665:True:=⟨⟩
theorem tw17688071538110253176:True:=⟨⟩
theorem tw4092834324805074900:True:=⟨⟩
theorem tw1067975761572243265:True:=⟨⟩
theorem tw4481270306564563875:True:=⟨⟩
theorem tw7853886725205709931:True:=⟨⟩
theorem tw14616205497964429193:True:=⟨⟩
theorem tw11990029404470649068:True:=⟨⟩
theorem tw13447343893176491836:True:=⟨⟩
theorem tw8202311539933042960:True:=⟨⟩
theorem tw13088133349517705057:True:=⟨⟩
theorem tw12603187415694287561:True:=⟨⟩
theorem tw1780426214105759131:True:=⟨⟩
theorem tw11078319589625130811:True:=⟨⟩
theorem tw15969253325379510240:True:=⟨⟩
theorem tw1627854391557634410:True:=⟨⟩
theorem tw15554103469269060667:True:=⟨⟩
theorem tw1598154207020461734:True:=⟨⟩
theorem tw3685804442856926716:True:=⟨⟩
theorem tw4002406747072246983:True:=⟨⟩
theorem tw9348000699773697810:True:=⟨⟩
theorem tw18271514750127122420:True:=⟨⟩
theorem tw4160154489000249076:True:=⟨⟩
theorem tw12893390347827277142:True:=⟨⟩
theorem tw4048945148880037868:True:=⟨⟩
theorem tw940049941313978931:True:=⟨⟩
theorem tw16685814734088053043:True:=⟨⟩
theorem tw10811787402823178314:True:=⟨⟩
theorem tw2198259773752154829:True:=⟨⟩
theorem tw13755895221999734271:True:=⟨⟩
theorem tw12081517956711888061:True:=⟨⟩
theorem tw16348741450402298604:True:=⟨⟩
theorem tw16033514242832992740:True:=⟨⟩
theorem tw18348681104458226358:True:=⟨⟩
theorem tw12256732742489620314:True:=⟨⟩
theorem tw2843426071061438528:True:=⟨⟩
theorem tw15900424166076038831:True:=⟨⟩
theorem tw764873782531425900:True:=⟨⟩
theorem tw6474196913923105122:True:=⟨⟩
theorem tw3582270317202023023:True:=⟨⟩
theorem tw4580217442660615854:True:=⟨⟩
theorem tw13647727631766314519:True:=⟨⟩
theorem tw15344912961617989559:True:=⟨⟩
theorem tw7794667183534317139:True:=⟨⟩
theorem tw16496592817253239807:True:=⟨⟩
theorem tw8427778192853624960:True:=⟨⟩
theorem tw2567537693545489449:True:=⟨⟩
theorem tw11195987601030038405:True:=⟨⟩
theorem tw8728935472882609737:True:=⟨⟩
theorem tw2223783903255133777:True:=⟨⟩
theorem tw30950996979166344:True:=⟨⟩
theorem tw4310740793842356482:True:=⟨⟩
theorem tw1592388096078474700:True:=⟨⟩
theorem tw12800574744517388886:True:=⟨⟩
theorem tw1478240798544405555:True:=⟨⟩
theorem tw18055117160941338926:True:=⟨⟩
theorem tw4181605718852477828:True:=⟨⟩
theorem tw16330669663786346345:True:=⟨⟩
theorem tw17166896574409789023:True:=⟨⟩
theorem tw16825759412739549119:True:=⟨⟩
theorem tw2842705561988798842:True:=⟨⟩
theorem tw5676495451183973616:True:=⟨⟩
end PySem.W.Fast
open PySem PySem.W PyProof.Rows
set_option maxRecDepth 100000 in
set_option maxHeartbeats 0 in
theorem PySem.Challenge.cw_flagroll_k11_whole_comes_back_holds : PySem.Challenge.rw_flagroll_k11_whole_comes_back.Holds := by
  w_on; o_law; k_head; (case hw => w_witness2)
  k_fill
  refine L2.pJ (l := PySem.Challenge.rw_flagroll_k11_whole_comes_back) (T := Law.T) (n := 12) (f := Law.ue) (x := Law.uf) rfl rfl ⟨fun _ => rfl, by decide, by decide⟩ (fun w h Y => PySem.W.kIn_of Y) ?F Law.holds
  case F =>
    intro w mg fa h KX G hmg
    refine' Law.all_mk KX G hmg (Law.dfo Law.c21 rfl (fun _ _ _ _ _ _ => Law.ln1 fun _ => rfl) KX G ?a21 ?l21 ?e21 ?k21) (Law.dfo Law.c22 rfl (fun _ _ _ _ _ _ => Law.ln2 fun _ _ => rfl) KX G ?a22 ?l22 ?e22 ?k22) (Law.dfo Law.c23 rfl (fun _ _ _ _ _ _ => Law.ln2 fun _ _ => rfl) KX G ?a23 ?l23 ?e23 ?k23) (Law.dfo Law.c24 rfl (fun _ _ _ _ _ _ => Law.ln1 fun _ => rfl) KX G ?a24 ?l24 ?e24 ?k24) (Law.dfo Law.c25 rfl (fun _ _ _ _ _ _ => Law.ln1 fun _ => rfl) KX G ?a25 ?l25 ?e25 ?k25) (Law.dfo Law.c26 rfl (fun _ _ _ _ _ _ => Law.ln2 fun _ _ => rfl) KX G ?a26 ?l26 ?e26 ?k26) (Law.dfo Law.c27 rfl (fun _ _ _ _ _ _ => Law.ln3 fun _ _ _ => rfl) KX G ?a27 ?l27 ?e27 ?k27) (Law.dfo Law.c28 rfl (fun _ _ _ _ _ _ => Law.ln3 fun _ _ _ => rfl) KX G ?a28 ?l28 ?e28 ?k28) (Law.dfo Law.c29 rfl (fun _ _ _ _ _ _ => Law.ln2 fun _ _ => rfl) KX G ?a29 ?l29 ?e29 ?k29) (Law.dfo Law.c30 rfl (fun _ _ _ _ _ _ => Law.ln2 fun _ _ => rfl) KX G ?a30 ?l30 ?e30 ?k30) (Law.dfo Law.c31 rfl (fun _ _ _ _ _ _ => Law.ln2 fun _ _ => rfl) KX G ?a31 ?l31 ?e31 ?k31) (Law.dfo Law.c32 rfl (fun _ _ _ _ _ _ => Law.ln2 fun _ _ => rfl) KX G ?a32 ?l32 ?e32 ?k32) (Law.dfo Law.c33 rfl (fun _ _ _ _ _ _ => Law.ln2 fun _ _ => rfl) KX G ?a33 ?l33 ?e33 ?k33) (Law.C5 Law.c34 rfl (fun _ _ _ _ _ _ => Law.ln3 fun _ _ _ => rfl) KX G ?a34 ?l34 ?e34 ?k34) (Law.dfo Law.c35 rfl (fun _ _ _ _ _ _ => Law.ln3 fun _ _ _ => rfl) KX G ?a35 ?l35 ?e35 ?k35) ?a36 ?l36 ?e36 ?k36 ?q20 ?u37 ?u38 ?u39 ?u40 ?vn37 ?vg37 ?vo37 ?vc37 ?vb37 ?vj37 ?vi37 ?vx37 ?vn38 ?vg38 ?vo38 ?vc38 ?vb38 ?vj38 ?vi38 ?vx38 ?vn39 ?vg39 ?vo39 ?vc39 ?vb39 ?vj39 ?vi39 ?vx39 ?vn40 ?vg40 ?vo40 ?vc40 ?vb40 ?vj40 ?vi40 ?vx40 ?z0 ?z1 ?z2 ?z3 ?z4 ?z5 ?z6 ?z7 ?z8 ?z9 ?z10 ?z11 ?z12 ?z13 ?z14 ?z15 ?z16 ?z17 ?z18 ?z19
    (case a21 => k_is)
    (case l21 => k_is)
    (case e21 => k_is)
    (case k21 => k_is)
    (case a22 => k_is)
    (case l22 => k_is)
    (case e22 => k_is)
    (case k22 => k_is)
    (case a23 => k_is)
    (case l23 => k_is)
    (case e23 => k_is)
    (case k23 => k_is)
    (case a24 => k_is)
    (case l24 => k_is)
    (case e24 => k_is)
    (case k24 => k_is)
    (case a25 => k_is)
    (case l25 => k_is)
    (case e25 => k_is)
    (case k25 => k_is)
    (case a26 => k_is)
    (case l26 => k_is)
    (case e26 => k_is)
    (case k26 => k_is)
    (case a27 => k_is)
    (case l27 => k_is)
    (case e27 => k_is)
    (case k27 => k_is)
    (case a28 => k_is)
    (case l28 => k_is)
    (case e28 => k_is)
    (case k28 => k_is)
    (case a29 => k_is)
    (case l29 => k_is)
    (case e29 => k_is)
    (case k29 => k_is)
    (case a30 => k_is)
    (case l30 => k_is)
    (case e30 => k_is)
    (case k30 => k_is)
    (case a31 => k_is)
    (case l31 => k_is)
    (case e31 => k_is)
    (case k31 => k_is)
    (case a32 => k_is)
    (case l32 => k_is)
    (case e32 => k_is)
    (case k32 => k_is)
    (case a33 => k_is)
    (case l33 => k_is)
    (case e33 => k_is)
    (case k33 => k_is)
    (case a34 => k_is)
    (case l34 => k_is)
    (case e34 => k_is)
    (case k34 => k_is)
    (case a35 => k_is)
    (case l35 => k_is)
    (case e35 => k_is)
    (case k35 => k_is)
    (case a36 => k_is)
    (case l36 => k_is)
    (case e36 => k_is)
    (case k36 => k_is)
    (case q20 => k_is)
    (case u37 => k_is)
    (case u38 => k_is)
    (case u39 => k_is)
    (case u40 => k_is)
    (case vn37 => kernel_rfl)
    (case vg37 => kernel_rfl)
    (case vo37 => kernel_rfl)
    (case vc37 => kernel_rfl)
    (case vb37 => kernel_rfl)
    (case vj37 => kernel_rfl)
    (case vi37 => kernel_rfl)
    (case vx37 => kernel_rfl)
    (case vn38 => kernel_rfl)
    (case vg38 => kernel_rfl)
    (case vo38 => kernel_rfl)
    (case vc38 => kernel_rfl)
    (case vb38 => kernel_rfl)
    (case vj38 => kernel_rfl)
    (case vi38 => kernel_rfl)
    (case vx38 => kernel_rfl)
    (case vn39 => kernel_rfl)
    (case vg39 => kernel_rfl)
    (case vo39 => kernel_rfl)
    (case vc39 => kernel_rfl)
    (case vb39 => kernel_rfl)
    (case vj39 => kernel_rfl)
    (case vi39 => kernel_rfl)
    (case vx39 => kernel_rfl)
    (case vn40 => kernel_rfl)
    (case vg40 => kernel_rfl)
    (case vo40 => kernel_rfl)
    (case vc40 => kernel_rfl)
    (case vb40 => kernel_rfl)
    (case vj40 => kernel_rfl)
    (case vi40 => kernel_rfl)
    (case vx40 => kernel_rfl)
    (case z0 => k_is)
    (case z1 => k_is)
    (case z2 => k_is)
    (case z3 => k_is)
    (case z4 => k_is)
    (case z5 => k_is)
    (case z6 => k_is)
    (case z7 => k_is)
    (case z8 => k_is)
    (case z9 => k_is)
    (case z10 => k_is)
    (case z11 => k_is)
    (case z12 => k_is)
    (case z13 => k_is)
    (case z14 => k_is)
    (case z15 => k_is)
    (case z16 => k_is)
    (case z17 => k_is)
    (case z18 => k_is)
    (case z19 => k_is)
#print axioms PySem.Challenge.cw_flagroll_k11_whole_comes_back_holds
