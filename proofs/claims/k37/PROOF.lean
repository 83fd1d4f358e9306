import PyProof.Rows.All
import Wide.All
import OpenK.AllK
import Wide.FinOn
import Lean
import PyProof.EqAt
import PyProof.EqKinds
import PyProof.TupleCall
import PyProof.NeKinds
import KE.KRevIter
import KE.KSortTup
import Wide.Txt2
import PyProof.FString4
import KE.KIntText
import PyProof.ZipIter
import PyProof.TupleIter
import PyProof.WalksMore
import PyProof.Rows.SortShell
import KE.KDictSum
import PyProof.Rows.SortStr
import PyProof.Rows.SetFrom
import PyProof.FactsAll.subtypes_4
import PyProof.DictUpdate
import KE.KDictOf
import PyProof.AttrMissSeq
import KE.KDictList
import KE.KDictIter
import PyProof.Rows.SortWalk
import PyProof.EnumMake
import PyProof.EnumFor
import PyProof.Rows.EnumRows
import PyProof.MeetsSeq
import KE.KIsAll
import PyProof.ExcArgsOwn
import PyProof.ExcAttrAll.ValueError
import OpenK.KDescr
import PyProof.ExcInit
import PyProof.ExcClass2
import PyProof.InstStoreFacts
import PyProof.StationsW
import OpenK.KMake
import OpenK.KOwn
import KE.KTryMore
import OpenK.KRaise
import PyProof.RulesDel
import PyProof.RulesAs
import PyProof.Rows.Catch
import PySem.Challenge.RW_flagroll_k37_rings
namespace L2
theorem zE:type_of% @PySem.Expr.casesOn.{0}:=@PySem.Expr.casesOn.{0}
theorem zS:type_of% @PySem.Stmt.casesOn.{0}:=@PySem.Stmt.casesOn.{0}
end L2
set_option maxHeartbeats 8000000
set_option Elab.async false
set_option linter.all false
set_option maxRecDepth 100000
namespace L2
open PySem PySem.Spec PyProof.Rows
abbrev Key:=Sum Int Str
noncomputable def ig:Key->Value->Bool
 | .inl k,v=>Value.isInt k v
 | .inr x,v=>Value.isStrOf x v
noncomputable def AA (w:World):Key->Int
 | .inl k=>hashInt k
 | .inr x=>hashStr w x
theorem cn:∀ {k:Key}{v:Value},ig k v=true->(∃ i t,k=Sum.inl i/\v=Value.int i t)∨(∃ x t,k=Sum.inr x/\v=Value.str x t)
 | .inl i,v,h=>by
  obtain⟨t,e⟩:=Value.isInt_shape (k:=i) (v:=v) h
  exact .inl ⟨i,t,rfl,e⟩
 | .inr x,v,h=>by
  obtain⟨t,e⟩:=Value.isStrOf_shape (x:=x) (v:=v) h
  exact .inr ⟨x,t,rfl,e⟩
theorem mM (i:Int)(t:Tok):ig (.inl i) (.int i t)=true:=by simp[ig,Value.isInt]
theorem mN (x:Str)(t:Tok):ig (.inr x) (.str x t)=true:=by simp[ig,Value.isStrOf]
theorem uV (a b:Int):decide ((Sum.inl a:Key)=Sum.inl b)=(a == b):=by
 by_cases e:a=b
 ·subst e;simp
 ·have h:¬ (Sum.inl a:Key)=Sum.inl b:=fun q=>e (Sum.inl.inj q)
  rw[decide_eq_false h]
  exact(beq_eq_false_iff_ne.mpr e).symm
theorem uW (a b:Str):decide ((Sum.inr a:Key)=Sum.inr b)=decide (a=b):=by
 by_cases e:a=b
 ·subst e;simp
 ·have h:¬ (Sum.inr a:Key)=Sum.inr b:=fun q=>e (Sum.inr.inj q)
  rw[decide_eq_false h,decide_eq_false e]
theorem uX (a:Int)(b:Str):decide ((Sum.inl a:Key)=Sum.inr b)=false:=decide_eq_false (fun q=>nomatch q)
theorem uY (a:Str)(b:Int):decide ((Sum.inr a:Key)=Sum.inl b)=false:=decide_eq_false (fun q=>nomatch q)
noncomputable def cD (prog:Program)(w:World):PySem.KeyKind prog w Key where
 is:=ig
 hash:=AA w
 inj:=fun v a b ha hb=>by
  rcases cn ha with ⟨i,t,rfl,rfl⟩|⟨x,t,rfl,rfl⟩
  ·rcases cn hb with ⟨j,u,rfl,e⟩|⟨y,u,rfl,e⟩
   ·injection e with e1 _;rw[e1]
   ·exact nomatch e
  ·rcases cn hb with ⟨j,u,rfl,e⟩|⟨y,u,rfl,e⟩
   ·exact nomatch e
   ·injection e with e1 _;rw[e1]
 byValue:=fun k v h=>by
  rcases cn h with ⟨i,t,rfl,rfl⟩|⟨x,t,rfl,rfl⟩<;>rfl
 pyHash:=fun hv h=>by
  rcases cn hv with ⟨i,t,rfl,rfl⟩|⟨x,t,rfl,rfl⟩
  ·exact wpAny_pyHash_int h
  ·exact wpAny_pyHash_str h
 eqBool:=fun hu hv h=>by
  rcases cn hu with ⟨i,t,rfl,rfl⟩|⟨x,t,rfl,rfl⟩
  ·rcases cn hv with ⟨j,u,rfl,rfl⟩|⟨y,u,rfl,rfl⟩
   ·rw[uV] at h;exact wpAny_eqBool_int h
   ·rw[uX] at h;exact SeqAt.EqAt.int_str i t y u _ _ _ _ h
  ·rcases cn hv with ⟨j,u,rfl,rfl⟩|⟨y,u,rfl,rfl⟩
   ·rw[uY] at h;exact SeqAt.EqAt.str_int x t j u _ _ _ _ h
   ·rw[uW] at h;exact wpAny_eqBool_str h
 «strs»:=fun k x t v h=>by
  rcases cn h with ⟨i,u,rfl,e⟩|⟨y,u,rfl,e⟩
  ·exact nomatch e
  ·injection e with e1 _
   subst e1
   cases v<;>rfl
theorem jw (prog:Program)(w:World)(i:Int)(t:Tok):(cD prog w).is (.inl i) (.int i t)=true:=mM i t
theorem jx (prog:Program)(w:World)(x:Str)(t:Tok):(cD prog w).is (.inr x) (.str x t)=true:=mN x t
inductive V where
 | non|bl (b:Bool)|int (i:Int)|str (x:Str)|byt (b:Array UInt8)|flt (b:UInt64)|ref (a:Addr)|ty (n:String)
 deriving DecidableEq
def RelV:V->Value->Prop
 | .non,u=>u=Value.none
 | .bl b,u=>u=Value.bool b
 | .int i,u=>∃ t,u=Value.int i t
 | .str x,u=>∃ t,u=Value.str x t
 | .byt b,u=>∃ t,u=Value.bytes b t
 | .flt b,u=>∃ t,u=Value.float b t
 | .ref a,u=>u=Value.ref a
 | .ty n,u=>u=Value.type n
abbrev Vals:List V->List Value->Prop:=Paired RelV
theorem Vals.length {xs:List V}{us:List Value}(r:Vals xs us):xs.length=us.length:=Paired.length r
theorem Vals.get:∀ {xs:List V}{us:List Value}{i:Nat}{x:V},Vals xs us->xs[i]? = some x->∃ u,us[i]? = some u/\RelV x u
 | _,_,_,_,.nil,e=>by simp at e
 | _,_,0,_,.cons r _,e=>by simp at e;subst e;exact⟨_,rfl,r⟩
 | _,_,i+1,x,.cons _ t,e=>by
  obtain⟨u,h1,h2⟩:=Vals.get (i:=i) (x:=x) t (by simpa using e)
  exact⟨u,by simpa using h1,h2⟩
theorem Vals.append:∀ {xs ys:List V}{us ws:List Value},Vals xs us->Vals ys ws->Vals (xs++ys) (us++ws)
 | _,_,_,_,.nil,s=>s
 | _,_,_,_,.cons r t,s=>.cons r (Vals.append t s)
theorem Vals.take:∀ {xs:List V}{us:List Value} (n:Nat),Vals xs us->Vals (xs.take n) (us.take n)
 | _,_,0,_=>.nil
 | _,_,_+1,.nil=>.nil
 | _,_,n+1,.cons r t=>.cons r (Vals.take n t)
theorem Vals.drop:∀ {xs:List V}{us:List Value} (n:Nat),Vals xs us->Vals (xs.drop n) (us.drop n)
 | _,_,0,r=>r
 | _,_,_+1,.nil=>.nil
 | _,_,n+1,.cons _ t=>Vals.drop n t
def hJ:Option V->Option Value->Prop
 | some v,some u=>RelV v u
 | none,none=>True
 | _,_=>False
def KV {κ:Type}:List (κ×V)->List (κ×Value)->Prop:=Paired fun (p:κ×V) (q:κ×Value)=>p.1=q.1/\RelV p.2 q.2
noncomputable def kV:Key->V
 | .inl i=>.int i
 | .inr x=>.str x
inductive HO where
 | lst (xs:List V)
 | tup (xs:List V)
 | dK (kvs:List (Key×V))|dT (kvs:List (List Key×V))
 | set (S:Int->Bool) (n:Nat)
 | ins (C dx:Addr) (fs:List (Str×V))
 | own (x:Addr)
 | xd (fs:List (Str×V))
 | met (f x:Addr)
 | rng (lo hi:Int)
 | frz (o:Obj) (u:HO)
 | tbl (ps:Array Value)
 | ext (φ:Heap->Prop)
abbrev Hp:=Addr->Option HO
noncomputable def upd (H:Hp)(a:Addr)(o:HO):Hp:=fun b=>if b=a then some o else H b
theorem bN {H:Hp}{a:Addr}{o:HO}:upd H a o a=some o:=by unfold upd;rw[if_pos rfl]
theorem aD {H:Hp}{a b:Addr}{o:HO}(h:b≠a):upd H a o b=H b:=by unfold upd;rw[if_neg h]
theorem xH {H:Hp}{a b:Addr}{o u:HO}(h:H a=some o)(h':H b=some u)(d:o≠u):a≠b:=by
 intro e;subst e;rw[h] at h';exact d (Option.some.inj h')
theorem bS {H:Hp}{a b:Addr}{o:HO}(h:H a=some o)(h':H b=none):a≠b:=by
 intro e;subst e;rw[h] at h';cases h'
section
variable (P:Program)(w:World)
def cu (H:Hp)(h:Heap)(a:Addr):HO->Prop
 | .lst xs=>xs.length<=sizeLine/\∃ (its:List Value) (n:Nat),Vals xs its/\h.get? a=some {cls:=.type "list",data:=.seq its.toArray n}
 | .tup xs=>xs.length<=sizeLine/\∃ its:List Value,Vals xs its/\IsTup h a its.toArray
 | .dK kvs=>kvs.length<=sizeLine/\(a == sysModules)=false/\∃ vs,KV kvs vs/\h.DictOf (cD P w) a vs
 | .dT kvs=>kvs.length<=sizeLine/\(a == sysModules)=false/\∃ xs:List (List Key×Addr×Value),
   Paired (fun (p:List Key×V) (q:List Key×Addr×Value)=>p.1=q.1/\H q.2.1=some (.tup (p.1.map kV))/\RelV p.2 q.2.2) kvs xs/\
   ∃ o es ep,h.get? a=some o/\o.ExactDict/\o.data=.dict es ep/\es.toList=xs.map (entryOfKey (tupleKind (cD P w)))/\(xs.map (·.1)).Nodup
 | .set S n=>h.SetOf (intKind P w) a S n
 | .ins C dx fs=>H dx=some (.own a)/\fs.length<=1000/\dx≠a/\h.get? a=some (PySem.W.instObj C dx)/\
   ∃ mA,h.Ns1 dx mA/\(∀ f,hJ (fs.lookup f) (mA f))/\PySem.Within mA (fs.map (·.1))
 | .own _=>∃ o,h.get? a=some o
 | .xd fs=>∃ mA,h.Ns1 a mA/\∀ f,hJ (fs.lookup f) (mA f)
 | .rng lo hi=>∃ t u v,h.get? a=some {cls:=.type "range",data:=.fields #[.int lo t,.int hi u,.int 1 v]}
 | .frz o u=>h.get? a=some o/\cu H h a u
 | .tbl ps=>h.get? a=some {cls:=.none,data:=.fields ps}
 | .met f x=>h.get? a=some (PySem.W.methodObj (.ref f) (.ref x))
 | .ext φ=>φ h/\(∃ o,h.get? a=some o)/\∀ h1 h2:Heap,φ h1->(∀ o,h1.get? a=some o->h2.get? a=some o)->φ h2
def HOk (H:Hp)(h:Heap):Prop:=∀ a o,H a=some o->cu P w H h a o
end
section
variable {P:Program}{w:World}{H H':Hp}{h h':Heap}{a:Addr}{o:HO}
theorem cu.lt (x:cu P w H h a o):a < h.objs.size:=by
 cases o with
 | lst xs=>obtain⟨_,_,_,_,e⟩:=x;exact Heap.lt_size e
 | tup xs=>obtain⟨_,_,_,p⟩:=x;exact p.lt
 | dK kvs=>obtain⟨_,_,_,_,o,_,_,e,_⟩:=x;exact Heap.lt_size e
 | dT kvs=>obtain⟨_,_,_,_,o,_,_,e,_⟩:=x;exact Heap.lt_size e
 | set S n=>obtain⟨o,_,_,_,e,_⟩:=x;exact Heap.lt_size e
 | ins C dx fs=>obtain⟨_,_,_,e,_⟩:=x;exact Heap.lt_size e
 | own y=>obtain⟨_,e⟩:=x;exact Heap.lt_size e
 | xd fs=>obtain⟨_,⟨_,_,_,e,_⟩,_⟩:=x;exact Heap.lt_size e
 | rng lo hi=>obtain⟨_,_,_,e⟩:=x;exact Heap.lt_size e
 | frz ob u=>obtain⟨e,_⟩:=x;exact Heap.lt_size e
 | tbl ps=>exact Heap.lt_size (show h.get? a=some _ from x)
 | met f y=>exact Heap.lt_size (show h.get? a=some _ from x)
 | ext φ=>obtain⟨_,⟨_,e⟩,_⟩:=x;exact Heap.lt_size e
theorem Paired.mapP {α β:Type}{F G:α->β->Prop}:∀ {l₁:List α}{l₂:List β},Paired F l₁ l₂->(∀ a b,F a b->G a b)->Paired G l₁ l₂
 | _,_,.nil,_=>.nil
 | _,_,.cons r t,f=>.cons (f _ _ r) (Paired.mapP t f)
theorem cu.stay (x:cu P w H h a o)(k:∀ b u,(b=a∨H b=some (.own a))->h.get? b=some u->h'.get? b=some u)
  (ho:∀ b,H b=some (.own a)->H' b=some (.own a)) (ht:∀ b xs,H b=some (.tup xs)->H' b=some (.tup xs)):cu P w H' h' a o:=by
 induction o with
 | lst xs=>obtain⟨z,its,n,r,e⟩:=x;exact⟨z,its,n,r,k _ _ (.inl rfl) e⟩
 | tup xs=>obtain⟨z,its,r,ob,e,c⟩:=x;exact⟨z,its,r,ob,k _ _ (.inl rfl) e,c⟩
 | dK kvs=>obtain⟨z,y,vs,r,ob,es,ep,e,c⟩:=x;exact⟨z,y,vs,r,ob,es,ep,k _ _ (.inl rfl) e,c⟩
 | dT kvs=>
  obtain⟨z,y,xs,r,ob,es,ep,e,c⟩:=x
  exact⟨z,y,xs,Paired.mapP r fun p q z=>⟨z.1,ht _ _ z.2.1,z.2.2⟩,ob,es,ep,k _ _ (.inl rfl) e,c⟩
 | set S n=>obtain⟨ob,es,ep,t,e,c⟩:=x;exact⟨ob,es,ep,t,k _ _ (.inl rfl) e,c⟩
 | ins C dx fs=>
  obtain⟨d,z,ne,e,mA,⟨od,es,ep,e2,c⟩,r⟩:=x
  exact⟨ho _ d,z,ne,k _ _ (.inl rfl) e,mA,⟨od,es,ep,k _ _ (.inr d) e2,c⟩,r⟩
 | own y=>obtain⟨ob,e⟩:=x;exact⟨ob,k _ _ (.inl rfl) e⟩
 | xd fs=>obtain⟨mA,⟨od,es,ep,e,c⟩,r⟩:=x;exact⟨mA,⟨od,es,ep,k _ _ (.inl rfl) e,c⟩,r⟩
 | rng lo hi=>obtain⟨t,u,v,e⟩:=x;exact⟨t,u,v,k _ _ (.inl rfl) e⟩
 | frz ob u ih=>obtain⟨e,q⟩:=x;exact⟨k _ _ (.inl rfl) e,ih q⟩
 | tbl ps=>
  have e:h.get? a=some {cls:=.none,data:=.fields ps}:=x
  show h'.get? a=some {cls:=.none,data:=.fields ps}
  exact k a _ (.inl rfl) e
 | met f y=>
  have e:h.get? a=some (PySem.W.methodObj (.ref f) (.ref y)):=x
  show h'.get? a=some (PySem.W.methodObj (.ref f) (.ref y))
  exact k a _ (.inl rfl) e
 | ext φ=>obtain⟨p,⟨o,e⟩,st⟩:=x;exact⟨st _ _ p fun o q=>k _ _ (.inl rfl) q,⟨o,k _ _ (.inl rfl) e⟩,st⟩
theorem HOk.lt (x:HOk P w H h)(e:H a=some o):a < h.objs.size:=(x a o e).lt
theorem HOk.fresh (x:HOk P w H h)(e:h.objs.size<=a):H a=none:=by
 cases q:H a with
 | none=>rfl
 | some u=>exact absurd (Nat.lt_of_lt_of_le (x.lt q) e) (Nat.lt_irrefl _)
theorem HOk.kept (x:HOk P w H h)(k:∀ b u,h.get? b=some u->h'.get? b=some u):HOk P w H h':=fun a o e=>
 (x a o e).stay (fun b u _ q=>k b u q) (fun _ q=>q) fun _ _ q=>q
theorem HOk.laid (x:HOk P w H h)(k:∀ b u,h.get? b=some u->h'.get? b=some u)(hp:h.objs.size<=a)(new:cu P w (upd H a o) h' a o):HOk P w (upd H a o) h':=fun b u e=>by
 have hn:=x.fresh hp
 by_cases hb:b=a
 ·subst hb;rw[bN] at e;cases e;exact new
 ·rw[aD hb] at e
  exact(x b u e).stay (fun c v _ q=>k c v q) (fun c q=>by rw[aD (bS q hn)];exact q) fun c xs q=>by rw[aD (bS q hn)];exact q
end
def Rd (H:Hp)(a:Addr)(u:HO):Prop:=H a=some u∨∃ o,H a=some (.frz o u)
theorem Rd.ok {P:Program}{w:World}{H:Hp}{h:Heap}{a:Addr}{u:HO}(r:Rd H a u)(x:HOk P w H h):cu P w H h a u:=by
 rcases r with r|⟨o,r⟩
 ·exact x a u r
 ·obtain⟨_,q⟩:=x a _ r
  exact q
def Mut:Option HO->Prop
 | some (.lst _)=>True
 | some (.dK _)=>True
 | some (.dT _)=>True
 | some (.set _ _)=>True
 | some (.ins _ _ _)=>True
 | some (.ext _)=>True
 | _=>False
section
variable {P:Program}{w:World}{H:Hp}{h h':Heap}{x e:Addr}{o':HO}
theorem HOk.write (ok:HOk P w H h)(mu:Mut (H x))(he:e=x∨H e=some (.own x))(k:∀ b u,b≠e->h.get? b=some u->h'.get? b=some u)(heo:∃ u,h'.get? e=some u)
  (new:cu P w (upd H x o') h' x o'):HOk P w (upd H x o') h':=fun b u q=>by
 have nk:∀ c y,H c=some (.own y)->c≠x:=fun c y r z=>by subst z;rw[r] at mu;exact mu
 have ntup:∀ c xs,H c=some (.tup xs)->c≠x:=fun c xs r z=>by subst z;rw[r] at mu;exact mu
 by_cases hb:b=x
 ·subst hb;rw[bN] at q;cases q;exact new
 ·rw[aD hb] at q
  by_cases hbe:b=e
  ·have q':H b=some (.own x):=by
    rcases he with z|z
    ·exact absurd (hbe.trans z) hb
    ·rw[hbe];exact z
   rw[q] at q';cases q'
   obtain⟨v,hv⟩:=heo
   exact⟨v,by rw[hbe];exact hv⟩
  ·refine(ok b u q).stay (fun c v hc r=>k c v ?_ r) (fun c r=>by rw[aD (nk c b r)];exact r) fun c xs r=>by rw[aD (ntup c xs r)];exact r
   rcases hc with rfl|hc
   ·exact hbe
   ·rintro rfl
    rcases he with z|z
    ·exact nk c b hc z
    ·rw[hc] at z;cases z;exact hb rfl
end
structure Un (fs ex:List Addr)(H H':Hp)(h h':Heap):Prop where
 keep:∀ b o,h.get? b=some o->H b=none->b∉fs->b∉ex->h'.get? b=some o
 slot:∀ b o,h.get? b=some o->H b=none->b∈fs->b∉ex->∃ sl,h'.get? b=some {o with slots:=sl}
 free:∀ b o,h.get? b=some o->H b=none->b∉ex->H' b=none
 there:∀ b o,h.get? b=some o->b∉ex->∃ o',h'.get? b=some o'
 tups:∀ b xs,H b=some (.tup xs)->H' b=some (.tup xs)
 frzs:∀ b o u,H b=some (.frz o u)->H' b=some (.frz o u)
 tbls:∀ b ps,H b=some (.tbl ps)->∃ more,H' b=some (.tbl (ps++more))
section
variable {fs fs' ex ex':List Addr}{H H1 H2:Hp}{h h1 h2 h':Heap}{a x e:Addr}{o:HO}
theorem Un.any (u:Un fs ex H H1 h h1){b:Addr}{ob:Obj}(q:h.get? b=some ob)(n:H b=none)(hx:b∉ex):∃ sl,h1.get? b=some {ob with slots:=sl}:=by
 by_cases hb:b∈fs
 ·exact u.slot b ob q n hb hx
 ·exact⟨ob.slots,u.keep b ob q n hb hx⟩
theorem Un.kept (k:∀ b u,h.get? b=some u->h'.get? b=some u):Un fs ex H H h h':=
 ⟨fun b ob q _ _ _=>k b ob q,fun b ob q _ _ _=>⟨ob.slots,k b ob q⟩,fun _ _ _ n _=>n,fun b ob q _=>⟨ob,k b ob q⟩,fun _ _ q=>q,fun _ _ _ q=>q,fun _ ps q=>⟨#[],by rw[q];simp⟩⟩
theorem Un.refl:Un fs ex H H h h:=Un.kept fun _ _ q=>q
theorem Un.laid (k:∀ b u,h.get? b=some u->h'.get? b=some u)(hp:h.objs.size<=a)(hn:H a=none):Un fs ex H (upd H a o) h h' where
 keep:=fun b u q _ _ _=>k b u q
 slot:=fun b u q _ _ _=>⟨u.slots,k b u q⟩
 free:=fun b u q n _=>by rw[aD (Nat.ne_of_lt (Nat.lt_of_lt_of_le (Heap.lt_size q) hp))];exact n
 there:=fun b u q _=>⟨u,k b u q⟩
 tups:=fun b xs q=>by rw[aD (bS q hn)];exact q
 frzs:=fun b u xs q=>by rw[aD (bS q hn)];exact q
 tbls:=fun b ps q=>⟨#[],by rw[aD (bS q hn),q];simp⟩
theorem Un.write (mu:Mut (H x))(he:e=x∨H e=some (.own x))(k:∀ b u,b≠e->h.get? b=some u->h'.get? b=some u)(heo:∃ u,h'.get? e=some u):Un fs ex H (upd H x o) h h':=by
 have hx:∀ b,H b=none->b≠x:=fun b n z=>by subst z;rw[n] at mu;exact mu
 have hb:∀ b,H b=none->b≠e:=fun b n z=>by
  subst z
  rcases he with r|r
  ·exact hx b n r
  ·rw[n] at r;cases r
 have hm:∀ b u,H b=some u->¬ Mut (some u)->b≠x:=fun b u q nm z=>by subst z;rw[q] at mu;exact nm mu
 refine⟨fun b u q n _ _=>k b u (hb b n) q,fun b u q n _ _=>⟨u.slots,k b u (hb b n) q⟩,fun b u q n _=>by rw[aD (hx b n)];exact n,fun b u q _=>?_,
  fun b xs q=>by rw[aD (hm b _ q fun z=>z)];exact q,fun b u xs q=>by rw[aD (hm b _ q fun z=>z)];exact q,fun b ps q=>⟨#[],by rw[aD (hm b _ q fun z=>z),q];simp⟩⟩
 by_cases hbe:b=e
 ·subst hbe;exact heo
 ·exact⟨u,k b u hbe q⟩
end
noncomputable def trk (h:Heap)(H:Hp):List Addr:=(List.range h.objs.size).filter fun a=>(H a).isSome
noncomputable def iS (h:Heap)(H:Hp):Heap:=PySem.W.hideAll h (trk h H)
theorem mO (h:Heap)(H:Hp):(iS h H).objs.size=h.objs.size:=PySem.W.hideAll_size _ _
theorem nU {h:Heap}{H:Hp}{b:Addr}{o:Obj}(e:h.get? b=some o)(n:H b=none):(iS h H).get? b=some o:=
 PySem.W.hideAll_get _ e fun hm=>by
  have q:(H b).isSome=true:=(List.mem_filter.mp hm).2
  rw[n] at q;simp at q
theorem rl {h:Heap}{H:Hp}{b:Addr}{o:Obj}(e:(iS h H).get? b=some o):h.get? b=some o/\H b=none:=by
 have e':h.get? b=some o:=PySem.W.of_hideAll (trk h H) e
 refine⟨e',?_⟩
 cases q:H b with
 | none=>rfl
 | some x=>
  have hm:b∈trk h H:=List.mem_filter.mpr ⟨List.mem_range.mpr (Heap.lt_size e'),by simp[q]⟩
  have z:(iS h H).get? b=none:=PySem.W.hideAll_none (trk h H) hm
  rw[z] at e;cases e
structure Mod (K:PySem.W.Frag)(mg:Str->Option Value)(base:Heap):Prop where
 kin:K.In base
 glob:base.Ns mainGlobals mg
 blt:∃ mb,base.Ns builtinsNs mb/\∀ x:Str,x≠"__name__"->mb x=bootBuiltins x
 nolimit:base.NoLimit
structure Cx where
 prog:Program
 w:World
 K:PySem.W.Frag
 mg:Str->Option Value
 base:Heap
 A:Around
 N:List Str
 s₀:Shared
 H₀:Hp
 env:Env
 outer:List Env
 stack:List Env
 ex:List Addr
 fn:Str->Bool
 calm:Bool
 pn:List (Addr×Obj)
 xe:Value->Shared->Prop
noncomputable def frs (l:List Env):List Addr:=l.filterMap (·.frame)
noncomputable abbrev Cx.fs (X:Cx):List Addr:=frs X.outer
def Vis (sc:Scope)(x:Str):Prop:=sc.names.lookup x=some .local∨sc.names.lookup x=some .cell∨sc.names.lookup x=some .free
def Loc (sc:Scope)(x:Str):Prop:=sc.names.lookup x=some .local∨sc.names.lookup x=some .cell
def Look (env:Env)(h:Heap)(m:Str->Option Value)(x:Str)(u:Value):Prop:=
 (env.kindOf x=some .local/\m x=some u)∨((env.kindOf x=some .cell∨env.kindOf x=some .free)/\∃ c,env.cells.lookup x=some c/\h.IsCell c (some u))
structure Cx.Ok (X:Cx):Prop where
 mod:Mod X.K X.mg X.base
 kind:X.env.scope.kind=.function
 glob:X.env.globals=mainGlobals
 blt:X.env.builtins=builtinsNs
 above:X.s₀.heap.objs.size<=X.env.locals
 inj:∀ x y c,X.env.cells.lookup x=some c->X.env.cells.lookup y=some c->x=y
 has:∀ x,(X.env.kindOf x=some .cell∨X.env.kindOf x=some .free)->∃ c,X.env.cells.lookup x=some c
 cab:∀ x c,X.fn x=true->X.env.cells.lookup x=some c->X.s₀.heap.objs.size<=c
 hd:X.calm=true->X.A.handled=none
 frames:X.A.frames=some X.stack
 stk:X.stack=X.outer∨(X.stack=X.env::X.outer/\X.env.frame=some X.env.locals)
 exf:∀ b∈X.ex,b≠X.env.locals/\∀ x c,X.env.cells.lookup x=some c->c≠b
 bs:∀ b o,X.base.get? b=some o->X.s₀.heap.get? b=some o/\X.H₀ b=none
 bsz:X.base.objs.size<=X.s₀.heap.objs.size
 noex:∀ b o,X.base.get? b=some o->b∉X.ex
 exfs:∀ b∈X.ex,b∉X.fs
 funs:X.s₀.heap.FunFrames X.base X.outer
 frf:∀ b∈X.fs,X.H₀ b=none
structure Inv (X:Cx)(pins:List (Addr×Obj))(σ:List (Option V))(H:Hp)(s:Shared):Prop where
 ok:X.Ok
 os:s.os=X.s₀.os
 bare:AllBare s.gens
 base:Un X.fs X.ex X.H₀ H X.s₀.heap s.heap
 loc:∃ m,s.heap.Ns X.env.locals m/\∀ (i:Nat) (x:Str) (v:V),X.N[i]? = some x->σ[i]? = some (some v)->Vis X.env.scope x->∃ u,RelV v u/\Look X.env s.heap m x u
 cell:∀ x c,X.env.cells.lookup x=some c->∃ v,s.heap.IsCell c v
 free:H X.env.locals=none
 freeC:∀ x c,X.env.cells.lookup x=some c->H c=none
 pin:∀ p∈X.pn++pins,s.heap.get? p.1=some p.2/\H p.1=none/\p.1≠X.env.locals/\p.1∉X.fs/\∀ v,p.2.data≠.cell v
 hok:HOk X.prog X.w H s.heap
 len:σ.length=X.N.length
section
variable {X:Cx}{pins:List (Addr×Obj)}{σ:List (Option V)}{H H':Hp}{s:Shared}{h':Heap}
theorem Cx.Ok.nofr (ok:X.Ok){b:Addr}{o:Obj}(e:X.base.get? b=some o):b∉X.fs:=fun hb=>by
 have:=(ok.funs.mem hb).1
 rw[e] at this;cases this
theorem Inv.bs (I:Inv X pins σ H s):∀ b o,X.base.get? b=some o->s.heap.get? b=some o/\H b=none:=fun b o e=>
 ⟨I.base.keep b o (I.ok.bs b o e).1 (I.ok.bs b o e).2 (I.ok.nofr e) (I.ok.noex b o e),I.base.free b o (I.ok.bs b o e).1 (I.ok.bs b o e).2 (I.ok.noex b o e)⟩
theorem Inv.bk (I:Inv X pins σ H s):∀ b o,X.base.get? b=some o->s.heap.get? b=some o:=fun b o e=>(I.bs b o e).1
theorem Inv.mod (I:Inv X pins σ H s):Mod X.K X.mg X.base:=I.ok.mod
theorem Inv.kIn (I:Inv X pins σ H s):X.K.In s.heap:=I.ok.mod.kin.keeps I.bk
theorem Inv.lt (I:Inv X pins σ H s):X.env.locals < s.heap.objs.size:=let ⟨_,hn,_⟩:=I.loc;hn.lt
theorem Inv.sz (I:Inv X pins σ H s):X.s₀.heap.objs.size<=s.heap.objs.size:=Nat.le_trans I.ok.above (Nat.le_of_lt I.lt)
theorem Inv.nofs (I:Inv X pins σ H s){a:Addr}(h:s.heap.objs.size<=a):a∉X.fs:=fun hb=>by
 obtain⟨_,o,ho,_⟩:=I.ok.funs.mem hb
 exact absurd (Nat.lt_of_lt_of_le (Heap.lt_size ho) (Nat.le_trans I.sz h)) (Nat.lt_irrefl _)
theorem Inv.cne (I:Inv X pins σ H s):∀ x c,X.env.cells.lookup x=some c->c≠X.env.locals:=fun x c e z=>by
 obtain⟨v,o,ho,hd⟩:=I.cell x c e
 obtain⟨m,⟨o',es,ep,ho',hd',_⟩,_⟩:=I.loc
 rw[z,ho'] at ho;cases ho;rw[hd'] at hd;cases hd
theorem Inv.funs (I:Inv X pins σ H s):s.heap.FunFrames X.base X.outer:=by
 have all:∀ (l:List Env),(∀ b∈frs l,b∈X.fs)->X.s₀.heap.FunFrames X.base l->s.heap.FunFrames X.base l:=by
  intro l
  induction l with
  | nil=>intro _ _;trivial
  | cons env r ih=>
   intro hs hl
   obtain⟨hk,⟨L,o,hf,hn,ho,hd⟩,hr⟩:=hl
   have hL:L∈X.fs:=hs L (by unfold frs;rw[List.filterMap_cons,hf];exact List.mem_cons_self)
   obtain⟨sl,e⟩:=I.base.slot L o ho (I.ok.frf L hL) hL fun z=>I.ok.exfs L z hL
   exact⟨hk,⟨L,_,hf,hn,e,hd⟩,ih (fun b hb=>hs b (by unfold frs;rw[List.filterMap_cons,hf];exact List.mem_cons_of_mem _ hb)) hr⟩
 exact all X.outer (fun _ hb=>hb) I.ok.funs
theorem Inv.stack (I:Inv X pins σ H s):s.heap.FunFrames X.base X.stack:=by
 rcases I.ok.stk with e|⟨e,hf⟩
 ·rw[e];exact I.funs
 ·rw[e]
  obtain⟨m,hn,_⟩:=I.loc
  refine .cons (by rw[I.ok.kind];decide) hf hn ?_ I.funs
  exact Heap.get?_none_of_le (Nat.le_trans I.ok.bsz I.ok.above)
theorem Inv.stkSub (I:Inv X pins σ H s):∀ b∈frs X.stack,b∈X.env.locals::X.fs:=fun b hb=>by
 rcases I.ok.stk with e|⟨e,hf⟩
 ·rw[e] at hb;exact List.mem_cons_of_mem _ hb
 ·rw[e] at hb
  unfold frs at hb
  rw[List.filterMap_cons,hf] at hb
  exact hb
theorem Inv.stkFree (I:Inv X pins σ H s):∀ b∈frs X.stack,H b=none:=fun b hb=>by
 rcases List.mem_cons.mp (I.stkSub b hb) with e|hb
 ·rw[e];exact I.free
 ·obtain⟨_,o,ho,_⟩:=I.ok.funs.mem hb
  exact I.base.free b o ho (I.ok.frf b hb) fun z=>I.ok.exfs b z hb
theorem Inv.step {g':Array GenState}{t':Nat}{d':Drawn}{ch:List Addr}(I:Inv X pins σ H s)
  (hch:∀ b∈ch,(b∈X.ex∨X.s₀.heap.objs.size<=b)/\b≠X.env.locals/\(∀ x c,X.env.cells.lookup x=some c->c≠b)/\∀ p∈X.pn++pins,p.1≠b)
  (keep:∀ b o,b≠X.env.locals->b∉X.fs->b∉ch->s.heap.get? b=some o->H b=none->h'.get? b=some o)
  (slot:∀ b o,b≠X.env.locals->b∈X.fs->b∉ch->s.heap.get? b=some o->H b=none->∃ sl,h'.get? b=some {o with slots:=sl}) (free:∀ b o,b∉ch->s.heap.get? b=some o->H b=none->H' b=none)
  (there:∀ b o,b∉ch->s.heap.get? b=some o->∃ o',h'.get? b=some o')
  (tups:∀ b xs,H b=some (.tup xs)->H' b=some (.tup xs)) (frzs:∀ b o u,H b=some (.frz o u)->H' b=some (.frz o u)) (tbls:∀ b ps,H b=some (.tbl ps)->∃ more,H' b=some (.tbl (ps++more)))
  (ns:∀ m,s.heap.Ns X.env.locals m->h'.Ns X.env.locals m) (hok:HOk X.prog X.w H' h') (hg:AllBare g') :
  Inv X pins σ H' {s with heap:=h',gens:=g',drawn:=d',toks:=t'}:=by
 have neL:∀ b o,X.s₀.heap.get? b=some o->b≠X.env.locals:=fun b o e=>Nat.ne_of_lt (Nat.lt_of_lt_of_le (Heap.lt_size e) I.ok.above)
 have neC:∀ b o,X.s₀.heap.get? b=some o->b∉X.ex->b∉ch:=fun b o e hx hb=>by
  rcases (hch b hb).1 with z|z
  ·exact hx z
  ·exact absurd (Nat.lt_of_lt_of_le (Heap.lt_size e) z) (Nat.lt_irrefl _)
 have cellK:∀ x c,X.env.cells.lookup x=some c->∀ v,s.heap.IsCell c v->h'.IsCell c v:=fun x c e v ⟨o,ho,hd⟩=>by
  have nch:c∉ch:=fun z=>(hch c z).2.2.1 x c e rfl
  by_cases hc:c∈X.fs
  ·obtain⟨sl,q⟩:=slot c o (I.cne x c e) hc nch ho (I.freeC x c e)
   exact⟨_,q,hd⟩
  ·exact⟨o,keep c o (I.cne x c e) hc nch ho (I.freeC x c e),hd⟩
 refine⟨I.ok,I.os,hg,⟨fun b o e n hb hx=>?_,fun b o e n hb hx=>?_,fun b o e n hx=>?_,fun b o e hx=>?_,fun b xs e=>tups b xs (I.base.tups b xs e),fun b o xs e=>frzs b o xs (I.base.frzs b o xs e),fun b ps e=>?_⟩,?_,fun x c e=>?_,?_,fun x c e=>?_,fun p hp=>?_,hok,I.len⟩
 ·exact keep b o (neL b o e) hb (neC b o e hx) (I.base.keep b o e n hb hx) (I.base.free b o e n hx)
 ·obtain⟨sl,e1⟩:=I.base.slot b o e n hb hx
  obtain⟨sl',e2⟩:=slot b _ (neL b o e) hb (neC b o e hx) e1 (I.base.free b o e n hx)
  exact⟨sl',e2⟩
 ·obtain⟨o',e1⟩:=I.base.there b o e hx
  exact free b o' (neC b o e hx) e1 (I.base.free b o e n hx)
 ·obtain⟨o',e1⟩:=I.base.there b o e hx
  exact there b o' (neC b o e hx) e1
 ·obtain⟨m1,e1⟩:=I.base.tbls b ps e
  obtain⟨m2,e2⟩:=tbls b _ e1
  exact⟨m1++m2,by rw[e2,Array.append_assoc]⟩
 ·obtain⟨m,hn,hl⟩:=I.loc
  refine⟨m,ns m hn,fun i x v e1 e2 e3=>?_⟩
  obtain⟨u,r,l⟩:=hl i x v e1 e2 e3
  refine⟨u,r,?_⟩
  rcases l with l|⟨k,c,e,z⟩
  ·exact .inl l
  ·exact .inr ⟨k,c,e,cellK x c e _ z⟩
 ·obtain⟨v,z⟩:=I.cell x c e
  exact⟨v,cellK x c e v z⟩
 ·obtain⟨m,⟨o,_,_,ho,_⟩,_⟩:=I.loc
  exact free _ o (fun z=>(hch _ z).2.1 rfl) ho I.free
 ·obtain⟨v,o,ho,hd⟩:=I.cell x c e
  exact free c o (fun z=>(hch c z).2.2.1 x c e rfl) ho (I.freeC x c e)
 ·obtain⟨e,n,ne,nf,d⟩:=I.pin p hp
  have nch:p.1∉ch:=fun z=>(hch p.1 z).2.2.2 p hp rfl
  exact⟨keep p.1 p.2 ne nf nch e n,free p.1 p.2 nch e n,ne,nf,d⟩
theorem Inv.un {t':Nat}(I:Inv X pins σ H s)(u:Un X.fs [] H H' s.heap h')(hok:HOk X.prog X.w H' h'):Inv X pins σ H' {s with heap:=h',toks:=t'}:=by
 obtain⟨m,⟨o,es,ep,ho,r⟩,_⟩:=id I.loc
 obtain⟨sl,hL⟩:=u.any ho I.free (by simp)
 exact I.step (g':=s.gens) (d':=s.drawn) (ch:=[]) (fun _ z=>nomatch z) (fun b o _ hb _ e n=>u.keep b o e n hb (by simp)) (fun b o _ hb _ e n=>u.slot b o e n hb (by simp)) (fun b o _ e n=>u.free b o e n (by simp)) (fun b o _ e=>u.there b o e (by simp)) u.tups u.frzs u.tbls (fun m' hm=>by
  obtain⟨o',es',ep',ho',r'⟩:=hm
  rw[ho] at ho';cases ho'
  exact⟨_,es',ep',hL,r'⟩) hok I.bare
theorem Inv.call {g':Array GenState}{t':Nat}{d':Drawn}{ch:List Addr}(I:Inv X pins σ H s)(u:Un (frs X.stack) ch H H' s.heap h')(hok:HOk X.prog X.w H' h')(hg:AllBare g')
  (hch:∀ b∈ch,(b∈X.ex∨X.s₀.heap.objs.size<=b)/\b≠X.env.locals/\(∀ x c,X.env.cells.lookup x=some c->c≠b)/\∀ p∈X.pn++pins,p.1≠b) :
  Inv X pins σ H' {s with heap:=h',gens:=g',drawn:=d',toks:=t'}:=by
 obtain⟨m,⟨o,es,ep,ho,r⟩,_⟩:=id I.loc
 obtain⟨sl,hL⟩:=u.any ho I.free fun z=>(hch _ z).2.1 rfl
 exact I.step (ch:=ch) hch (fun b o hL hb hc e n=>u.keep b o e n (fun z=>(List.mem_cons.mp (I.stkSub b z)).elim hL hb) hc) (fun b o _ _ hc e n=>u.any e n hc) (fun b o hc e n=>u.free b o e n hc) (fun b o hc e=>u.there b o e hc) u.tups u.frzs u.tbls (fun m' hm=>by
  obtain⟨o',es',ep',ho',r'⟩:=hm
  rw[ho] at ho';cases ho'
  exact⟨_,es',ep',hL,r'⟩) hok hg
theorem Inv.turned {t':Nat}{it:Addr}(I:Inv X pins σ H s)(k:∀ b o,b≠it->s.heap.get? b=some o->h'.get? b=some o)(hn:H it=none)(hL:it≠X.env.locals)
  (h1:it∈X.ex∨X.s₀.heap.objs.size<=it) (h2:∀ x c,X.env.cells.lookup x=some c->c≠it) (h3:∀ p∈X.pn++pins,p.1≠it):Inv X pins σ H {s with heap:=h',toks:=t'}:=by
 have nit:∀ b u,H b=some u->b≠it:=fun b u e z=>by rw[z,hn] at e;cases e
 refine I.step (g':=s.gens) (d':=s.drawn) (ch:=[it]) (fun b hb=>?_) (fun b o _ _ hc e _=>k b o (fun z=>hc (by simp[z])) e) (fun b o _ _ hc e _=>⟨o.slots,k b o (fun z=>hc (by simp[z])) e⟩) (fun _ _ _ _ n=>n)
  (fun b o hc e=>⟨o,k b o (fun z=>hc (by simp[z])) e⟩) (fun _ _ e=>e) (fun _ _ _ e=>e) (fun b ps e=>⟨#[],by rw[e];simp⟩) (fun m hm=>?_) (fun b u e=>?_) I.bare
 ·have e:b=it:=by simpa using hb
  subst e
  exact⟨h1,hL,h2,h3⟩
 ·obtain⟨o,es,ep,ho,r⟩:=hm
  exact⟨o,es,ep,k _ o (Ne.symm hL) ho,r⟩
 ·refine(I.hok b u e).stay (fun c v hc q=>k c v ?_ q) (fun _ q=>q) fun _ _ q=>q
  rcases hc with z|z
  ·rw[z];exact nit b u e
  ·exact nit c _ z
theorem Inv.tok (I:Inv X pins σ H s)(t:Nat):Inv X pins σ H {s with toks:=t}:=I.un (h':=s.heap) (t':=t) Un.refl I.hok
theorem Inv.kept {t':Nat}(I:Inv X pins σ H s)(k:∀ b u,s.heap.get? b=some u->h'.get? b=some u):Inv X pins σ H {s with heap:=h',toks:=t'}:=I.un (Un.kept k) (I.hok.kept k)
theorem Inv.laid {a:Addr}{o:HO}{t':Nat}(I:Inv X pins σ H s)(k:∀ b u,s.heap.get? b=some u->h'.get? b=some u)(hp:s.heap.objs.size<=a)(new:cu X.prog X.w (upd H a o) h' a o) :
  Inv X pins σ (upd H a o) {s with heap:=h',toks:=t'}:=I.un (Un.laid k hp (I.hok.fresh hp)) (I.hok.laid k hp new)
theorem Inv.write {x e:Addr}{o:HO}{t':Nat}(I:Inv X pins σ H s)(mu:Mut (H x))(he:e=x∨H e=some (.own x))(k:∀ b u,b≠e->s.heap.get? b=some u->h'.get? b=some u)(heo:∃ u,h'.get? e=some u)
  (new:cu X.prog X.w (upd H x o) h' x o):Inv X pins σ (upd H x o) {s with heap:=h',toks:=t'}:=I.un (Un.write mu he k heo) (I.hok.write mu he k heo new)
theorem Inv.pins_of {pins':List (Addr×Obj)}(I:Inv X pins σ H s)(h:∀ p∈pins',s.heap.get? p.1=some p.2/\H p.1=none/\p.1≠X.env.locals/\p.1∉X.fs/\∀ v,p.2.data≠.cell v):Inv X pins' σ H s:=
 ⟨I.ok,I.os,I.bare,I.base,I.loc,I.cell,I.free,I.freeC,fun p hp=>(List.mem_append.mp hp).elim (fun z=>I.pin p (List.mem_append_left _ z)) (h p),I.hok,I.len⟩
theorem gj {N:List Str}(hN:N.Nodup){i j:Nat}{x:Str}(a:N[i]? = some x)(b:N[j]? = some x):i=j:=by
 obtain⟨h1,e1⟩:=List.getElem?_eq_some_iff.mp a
 obtain⟨h2,e2⟩:=List.getElem?_eq_some_iff.mp b
 exact(List.getElem_inj hN).mp (e1.trans e2.symm)
theorem ij {M:Model}{A:Around}{E:Value->Shared->Prop}{i:Nat}{x:Str}{v:V}{u:Value}{Q:Unit->Shared->Prop}(I:Inv X pins σ H s)(hN:X.N.Nodup)(hi:X.N[i]? = some x)(hx:Loc X.env.scope x)(r:RelV v u)
  (h:∀ s',Inv X pins (σ.set i (some v)) H s'->(∃ a,Heap.SameBut a s.heap s'.heap/\(a=X.env.locals∨X.env.cells.lookup x=some a))->Q () s') (hf:X.fn x=true∨X.env.scope.names.lookup x=some .local:=by first|exact .inl rfl|exact .inr rfl|assumption):wpAny M A (storeName X.env x u) Q E s:=by
 obtain⟨m,hn,hl⟩:=id I.loc
 have hcls:(X.env.scope.kind == .class||(X.env.scope.kind == .module&&X.env.locals != X.env.globals))=false:=by rw[I.ok.kind];rfl
 have hiσ:i < σ.length:=by rw[I.len];exact(List.getElem?_eq_some_iff.mp hi).1
 have cne:=I.cne
 have tracked:∀ {a:Addr}{h':Heap},(∃ o,s.heap.get? a=some o/\H a=none)->Heap.SameBut a s.heap h'->HOk X.prog X.w H h':=fun {a h'} ha hs b ob e=>by
  obtain⟨_,_,hfree⟩:=ha
  refine(I.hok b ob e).stay (fun c w' hc q=>(hs.2 c ?_).trans q) (fun _ q=>q) fun _ _ q=>q
  rintro rfl
  rcases hc with rfl|hc
  ·rw[hfree] at e;cases e
  ·rw[hfree] at hc;cases hc
 rcases hx with hk|hk
 ·refine wpAny_storeName_local hk hn (fun h' hn' hs=>?_) hcls
  obtain⟨oL,_,_,hoL,_⟩:=id hn
  refine h _ ⟨I.ok,I.os,I.bare,⟨fun b o e n hb hx=>?_,fun b o e n hb hx=>?_,I.base.free,fun b o e hx=>?_,I.base.tups,I.base.frzs,I.base.tbls⟩,⟨_,hn',fun j y v' e1 e2 e3=>?_⟩,fun y c e=>?_,I.free,I.freeC,fun p hp=>?_,tracked ⟨oL,hoL,I.free⟩ hs,by simpa using I.len⟩ ⟨_,hs,.inl rfl⟩
  ·exact(hs.2 b (Nat.ne_of_lt (Nat.lt_of_lt_of_le (Heap.lt_size e) I.ok.above))).trans (I.base.keep b o e n hb hx)
  ·obtain⟨sl,e1⟩:=I.base.slot b o e n hb hx
   exact⟨sl,(hs.2 b (Nat.ne_of_lt (Nat.lt_of_lt_of_le (Heap.lt_size e) I.ok.above))).trans e1⟩
  ·obtain⟨o',e1⟩:=I.base.there b o e hx
   exact⟨o',(hs.2 b (Nat.ne_of_lt (Nat.lt_of_lt_of_le (Heap.lt_size e) I.ok.above))).trans e1⟩
  ·by_cases hj:j=i
   ·subst hj
    rw[hi] at e1;cases e1
    rw[List.getElem?_set_self hiσ] at e2
    cases e2
    exact⟨u,r,.inl ⟨hk,by simp⟩⟩
   ·rw[List.getElem?_set_ne (Ne.symm hj)] at e2
    obtain⟨u',r',q⟩:=hl j y v' e1 e2 e3
    refine⟨u',r',?_⟩
    rcases q with ⟨k,e⟩|⟨k,c,e,z⟩
    ·refine .inl ⟨k,?_⟩
     have:y≠x:=fun e=>hj (gj hN e1 (e ▸ hi))
     simp[this,e]
    ·exact .inr ⟨k,c,e,z.sameBut hs (cne y c e)⟩
  ·obtain⟨w',z⟩:=I.cell y c e
   exact⟨w',z.sameBut hs (cne y c e)⟩
  ·obtain⟨e,n,ne,nf,d⟩:=I.pin p hp
   exact⟨(hs.2 p.1 ne).trans e,n,ne,nf,d⟩
 ·have hfn:X.fn x=true:=by
   rcases hf with z|z
   ·exact z
   ·rw[z] at hk;cases hk
  obtain⟨c,hc⟩:=I.ok.has x (.inl hk)
  obtain⟨w',z⟩:=I.cell x c hc
  refine wpAny_storeName_cell I.ok.kind hk hc z (fun h' hc' hs=>?_)
  obtain⟨oc,hoc,hocd⟩:=id z
  refine h {s with heap:=h'} ⟨I.ok,I.os,I.bare,⟨fun b o e n hb hx=>?_,fun b o e n hb hx=>?_,I.base.free,fun b o e hx=>?_,I.base.tups,I.base.frzs,I.base.tbls⟩,⟨m,hn.sameBut hs (Ne.symm (cne x c hc)),fun j y v' e1 e2 e3=>?_⟩,fun y c' e=>?_,I.free,I.freeC,fun p hp=>?_,tracked ⟨oc,hoc,I.freeC x c hc⟩ hs,by simpa using I.len⟩ ⟨c,hs,.inr hc⟩
  ·exact(hs.2 b (Nat.ne_of_lt (Nat.lt_of_lt_of_le (Heap.lt_size e) (I.ok.cab x c hfn hc)))).trans (I.base.keep b o e n hb hx)
  ·obtain⟨sl,e1⟩:=I.base.slot b o e n hb hx
   exact⟨sl,(hs.2 b (Nat.ne_of_lt (Nat.lt_of_lt_of_le (Heap.lt_size e) (I.ok.cab x c hfn hc)))).trans e1⟩
  ·obtain⟨o',e1⟩:=I.base.there b o e hx
   exact⟨o',(hs.2 b (Nat.ne_of_lt (Nat.lt_of_lt_of_le (Heap.lt_size e) (I.ok.cab x c hfn hc)))).trans e1⟩
  ·by_cases hj:j=i
   ·subst hj
    rw[hi] at e1;cases e1
    rw[List.getElem?_set_self hiσ] at e2
    cases e2
    exact⟨u,r,.inr ⟨.inl hk,c,hc,hc'⟩⟩
   ·rw[List.getElem?_set_ne (Ne.symm hj)] at e2
    obtain⟨u',r',q⟩:=hl j y v' e1 e2 e3
    refine⟨u',r',?_⟩
    rcases q with q|⟨k,c',e,z'⟩
    ·exact .inl q
    ·refine .inr ⟨k,c',e,z'.sameBut hs ?_⟩
     rintro rfl
     exact hj (gj hN e1 (I.ok.inj _ _ _ e hc ▸ hi))
  ·by_cases hcc:c'=c
   ·subst hcc;exact⟨_,hc'⟩
   ·obtain⟨w2,z2⟩:=I.cell y c' e
    exact⟨w2,z2.sameBut hs hcc⟩
  ·obtain⟨e,n,ne,nf,d⟩:=I.pin p hp
   refine⟨(hs.2 p.1 ?_).trans e,n,ne,nf,d⟩
   intro q
   rw[q,hoc] at e
   have q':oc=p.2:=Option.some.inj e
   exact d w' (by rw[<- q'];exact hocd)
theorem ef {M:Model}{A:Around}{E:Value->Shared->Prop}{i:Nat}{x:Str}{v:V}{u:Value}{Q:Unit->Shared->Prop}(I:Inv X pins σ H s)(hN:X.N.Nodup)(hi:X.N[i]? = some x)(hx:Loc X.env.scope x)(r:RelV v u)
  (h:∀ s',Inv X pins (σ.set i (some v)) H s'->Q () s') (hf:X.fn x=true∨X.env.scope.names.lookup x=some .local:=by first|exact .inl rfl|exact .inr rfl|assumption):wpAny M A (storeName X.env x u) Q E s:=
 ij I hN hi hx r (fun s' I' _=>h s' I') hf
theorem Inv.call' {s':Shared}{ch:List Addr}(I:Inv X pins σ H s)(ho:s'.os=s.os)(u:Un (frs X.stack) ch H H' s.heap s'.heap)(hok:HOk X.prog X.w H' s'.heap)(hg:AllBare s'.gens)
  (hch:∀ b∈ch,(b∈X.ex∨X.s₀.heap.objs.size<=b)/\b≠X.env.locals/\(∀ x c,X.env.cells.lookup x=some c->c≠b)/\∀ p∈X.pn++pins,p.1≠b):Inv X pins σ H' s':=by
 obtain⟨h',g',d',t',o'⟩:=s'
 have e:o'=s.os:=ho
 subst e
 exact I.call (g':=g') (t':=t') (d':=d') u hok hg hch
end
abbrev XK:=Value->Option Addr->Hp->Prop
abbrev St:=List (Option V)
abbrev VK:=V->Hp->Prop
abbrev TE:=St->Hp->VK->Prop
abbrev TT:=St->Hp->(Bool->Hp->Prop)->Prop
abbrev TA:=St->Hp->(List V->Hp->Prop)->Prop
structure Ends where
 nx:St->Hp->Prop
 rt:VK
 bk:St->Hp->Prop:=fun _ _=>False
 ct:St->Hp->Prop:=fun _ _=>False
abbrev TS:=Ends->St->Hp->Prop
def EP (X:Cx)(pins:List (Addr×Obj))(σ:St)(Q:VK)(u:Value)(s':Shared):Prop:=∃ v H',Inv X pins σ H' s'/\RelV v u/\Q v H'
def TP (X:Cx)(pins:List (Addr×Obj))(σ:St)(Q:Bool->Hp->Prop)(b:Bool)(s':Shared):Prop:=∃ H',Inv X pins σ H' s'/\Q b H'
def AP (X:Cx)(pins:List (Addr×Obj))(σ:St)(Q:List V->Hp->Prop)(us:List Value)(s':Shared):Prop:=∃ vs H',Inv X pins σ H' s'/\Vals vs us/\Q vs H'
def SP (X:Cx)(pins:List (Addr×Obj))(D:Ends)(f:Flow)(s':Shared):Prop:=
 match f with
 | .next=>∃ σ' H',Inv X pins σ' H' s'/\D.nx σ' H'
 | .brk=>∃ σ' H',Inv X pins σ' H' s'/\D.bk σ' H'
 | .cont=>∃ σ' H',Inv X pins σ' H' s'/\D.ct σ' H'
 | .ret u=>∃ v σ' H',Inv X pins σ' H' s'/\RelV v u/\D.rt v H'
def PE (X:Cx)(e:Expr)(t:TE):Prop:=
 ∀ (pins:List (Addr×Obj)) (s:Shared) (σ:St) (H:Hp) (Q:VK),Inv X pins σ H s->t σ H Q->wpAny (model X.prog X.w) X.A (eval e X.env) (EP X pins σ Q) X.xe s
def PT (X:Cx)(e:Expr)(t:TT):Prop:=
 ∀ (pins:List (Addr×Obj)) (s:Shared) (σ:St) (H:Hp) (Q:Bool->Hp->Prop),Inv X pins σ H s->t σ H Q->wpAny (model X.prog X.w) X.A (isTrue e X.env (eval e X.env)) (TP X pins σ Q) X.xe s
def PW (X:Cx)(e:Expr)(t:TT):Prop:=
 ∀ (whole:Sem Value) (pins:List (Addr×Obj)) (s:Shared) (σ:St) (H:Hp) (Q:Bool->Hp->Prop),Inv X pins σ H s->t σ H Q->wpAny (model X.prog X.w) X.A (isTrue e X.env whole) (TP X pins σ Q) X.xe s
theorem PW.pt {X:Cx}{e:Expr}{t:TT}(h:PW X e t):PT X e t:=h _
def PA (X:Cx)(es:List Expr)(t:TA):Prop:=
 ∀ (pos:Pos) (pins:List (Addr×Obj)) (s:Shared) (σ:St) (H:Hp) (Q:List V->Hp->Prop),Inv X pins σ H s->t σ H Q->wpAny (model X.prog X.w) X.A (spliced (backTo pos (starEach es X.env))) (AP X pins σ Q) X.xe s
def PS (X:Cx)(st:Stmt)(t:TS):Prop:=
 ∀ (pins:List (Addr×Obj)) (s:Shared) (σ:St) (H:Hp) (D:Ends),Inv X pins σ H s->t D σ H->wpAny (model X.prog X.w) X.A (exec st X.env) (SP X pins D) X.xe s
def PSs (X:Cx)(st:List Stmt)(t:TS):Prop:=
 ∀ (pins:List (Addr×Obj)) (s:Shared) (σ:St) (H:Hp) (D:Ends),Inv X pins σ H s->t D σ H->wpAny (model X.prog X.w) X.A (execs st X.env) (SP X pins D) X.xe s
theorem thn {α:Type}{t:Sem α}{Q Q':α->Shared->Prop}{M:Model}{A:Around}{E:Value->Shared->Prop}{s:Shared}(h:wpAny M A t Q E s)(hQ:∀ a s,Q a s->Q' a s):wpAny M A t Q' E s:=wpAny_mono h hQ fun _ _ x=>x
section
variable {X:Cx}
def nV (i:Nat):TE:=fun σ H Q=>∃ v,σ[i]? = some (some v)/\Q v H
def tC (v:V):TE:=fun _ H Q=>Q v H
theorem iT {i:Nat}{x:Str}{pos:Pos}(hN:X.N[i]? = some x)(hv:Vis X.env.scope x)(hd:(x == ("__debug__" : Str))=false:=by decide) (hcd:(x == ("__classdict__" : Str))=false:=by decide):PE X (.Name x pos) (nV i):=by
 intro pins s σ H Q I h
 obtain⟨v,e,h⟩:=h
 obtain⟨m,hn,hl⟩:=I.loc
 obtain⟨u,r,l⟩:=hl i x v hN e hv
 have fin:EP X pins σ Q u s:=⟨v,H,I,r,h⟩
 rcases l with ⟨hk,hm⟩|⟨hk,c,hc,hcell⟩
 ·exact wpAny_Name (wpAny_loadName_local I.ok.kind hk hn hm fin) hd
 ·rcases hk with hk|hk
  ·exact wpAny_Name (wpAny_loadName_cell I.ok.kind hk hc hcell fin) hd
  ·exact wpAny_Name (wpAny_loadName_free I.ok.kind hk hc hcell fin hcd) hd
theorem uZ {i j pos}:PE X (.Constant (.int i) j pos) (tC (.int i)):=fun _ _ _ H _ I h=>wpAny_Constant_int ⟨.int i,H,I.tok _,⟨_,rfl⟩,h⟩
theorem xI {b j pos}:PE X (.Constant (.bool b) j pos) (tC (.bl b)):=fun _ _ _ H _ I h=>Constant_bool ⟨.bl b,H,I,rfl,h⟩
theorem u3 {j pos}:PE X (.Constant .none j pos) (tC .non):=fun _ _ _ H _ I h=>Constant_none ⟨.non,H,I,rfl,h⟩
theorem u4 {x j pos}:PE X (.Constant (.str x) j pos) (tC (.str x)):=fun _ _ _ H _ I h=>Calls.Constant_str ⟨.str x,H,I.tok _,⟨_,rfl⟩,h⟩
def Gl (X:Cx)(x:Str):Prop:=X.env.kindOf x=some .globalImplicit
theorem eG {E:Value->Shared->Prop}{pins:List (Addr×Obj)}{s:Shared}{σ:St}{H:Hp}{x:Str}{u:Value}{pos:Pos}{Q:Value->Shared->Prop}(I:Inv X pins σ H s)(hg:Gl X x)(hm:X.mg x=some u)(h:Q u s)
  (hd:(x == ("__debug__" : Str))=false:=by decide):wpAny (model X.prog X.w) X.A (eval (.Name x pos) X.env) Q E s:=
 Calls.Name_function_global I.ok.kind hg (Calls.loadGlobal_global (by rw[I.ok.glob];exact I.mod.glob.keeps I.bk) hm h) hd
theorem eT {E:Value->Shared->Prop}{pins:List (Addr×Obj)}{s:Shared}{σ:St}{H:Hp}{x:Str}{u:Value}{pos:Pos}{Q:Value->Shared->Prop}(I:Inv X pins σ H s)(hg:Gl X x)(hm:X.mg x=none)(hv:bootBuiltins x=some u)(h:Q u s)
  (hn:x≠"__name__":=by decide) (hd:(x == ("__debug__" : Str))=false:=by decide):wpAny (model X.prog X.w) X.A (eval (.Name x pos) X.env) Q E s:=by
 obtain⟨mb,h1,h2⟩:=I.mod.blt
 exact Calls.Name_function_global I.ok.kind hg (Calls.loadGlobal_builtin (by rw[I.ok.glob];exact I.mod.glob.keeps I.bk) hm (by rw[I.ok.blt];exact h1.keeps I.bk) ((h2 x hn).trans hv) h) hd
theorem lD {x:Str}{v:V}{u:Value}{pos:Pos}(hg:Gl X x)(hm:X.mg x=some u)(r:RelV v u)(hd:(x == ("__debug__" : Str))=false:=by decide):PE X (.Name x pos) (tC v):=
 fun _ _ _ H _ I h=>eG I hg hm ⟨v,H,I,r,h⟩ hd
theorem lE {x:Str}{v:V}{u:Value}{pos:Pos}(hg:Gl X x)(hm:X.mg x=none)(hv:bootBuiltins x=some u)(r:RelV v u)(hn:x≠"__name__":=by decide) (hd:(x == ("__debug__" : Str))=false:=by decide):PE X (.Name x pos) (tC v):=
 fun _ _ _ H _ I h=>eT I hg hm hv ⟨v,H,I,r,h⟩ hn hd
variable {a b:Expr}{ta tb:TE}{pos:Pos}
variable {tA tB':TT}{rest:List Expr}
def xJ (t u:TT):TT:=fun σ H Q=>t σ H fun c H1=>if c=true then u σ H1 Q else Q false H1
def tOr (t u:TT):TT:=fun σ H Q=>t σ H fun c H1=>if c=true then Q true H1 else u σ H1 Q
def AB (t:TT):TT:=fun σ H Q=>t σ H fun c H1=>Q (!c) H1
theorem rn (ha:PT X a tA):PW X (.BoolOp .And [a] pos) tA:=by
 intro wh pins s σ H Q I h
 refine isTrue_and (thn (ha pins s σ H Q I h) fun c s1 e=>?_)
 cases c with
 | true=>exact isTrue_and_nil e
 | false=>exact e
theorem u5 (ha:PT X a tA):PW X (.BoolOp .Or [a] pos) tA:=by
 intro wh pins s σ H Q I h
 refine isTrue_or (thn (ha pins s σ H Q I h) fun c s1 e=>?_)
 cases c with
 | false=>exact isTrue_or_nil e
 | true=>exact e
theorem u6 (ha:PT X a tA)(hb:PW X (.BoolOp .And (b::rest) pos) tB'):PW X (.BoolOp .And (a::b::rest) pos) (xJ tA tB'):=by
 intro wh pins s σ H Q I h
 refine isTrue_and (thn (ha pins s σ H _ I h) fun c s1 ⟨H1,I1,q1⟩=>?_)
 cases c with
 | true=>exact hb wh pins s1 σ H1 Q I1 q1
 | false=>exact⟨H1,I1,q1⟩
theorem xK (ha:PT X a tA)(hb:PW X (.BoolOp .Or (b::rest) pos) tB'):PW X (.BoolOp .Or (a::b::rest) pos) (tOr tA tB'):=by
 intro wh pins s σ H Q I h
 refine isTrue_or (thn (ha pins s σ H _ I h) fun c s1 ⟨H1,I1,q1⟩=>?_)
 cases c with
 | true=>exact⟨H1,I1,q1⟩
 | false=>exact hb wh pins s1 σ H1 Q I1 q1
theorem u7 (ha:PT X a tA):PT X (.UnaryOp .Not a pos) (AB tA):=by
 intro pins s σ H Q I h
 exact isTrue_not (ha pins s σ H (fun c H1=>Q (!c) H1) I h)
theorem nW {op}{t:TE}(h:PE X a t):PE X (.BoolOp op [a] pos) t:=fun pins s σ H Q I hw=>BoolOp_one (h pins s σ H Q I hw)
end
def SqL (K:PySem.W.Frag)(H:Hp)(a:Addr)(xs:List V):Prop:=
 Rd H a (.lst xs)∨
  ∃ (o:Obj) (its:Array Value) (n:Nat),K.lookup a=some o/\o.cls=.type "list"/\o.dict=none/\o.data=.seq its n/\its.size<=sizeLine/\Vals xs its.toList
def SqT (K:PySem.W.Frag)(H:Hp)(a:Addr)(xs:List V):Prop:=
 Rd H a (.tup xs)∨
  ∃ (o:Obj) (its:Array Value) (n:Nat),K.lookup a=some o/\o.cls=.type "tuple"/\o.data=.seq its n/\its.size<=sizeLine/\Vals xs its.toList
noncomputable def AD:Value->Option V
 | .none=>some .non
 | .bool b=>some (.bl b)
 | .int i _=>some (.int i)
 | .str x _=>some (.str x)
 | .bytes b _=>some (.byt b)
 | .float b _=>some (.flt b)
 | .ref a=>some (.ref a)
 | .type n=>some (.ty n)
 | _=>none
theorem RelV.abs {x:V}{u:Value}(r:RelV x u):AD u=some x:=by
 cases x with
 | non=>cases r;rfl
 | bl _=>cases r;rfl
 | int _=>obtain⟨t,rfl⟩:=r;rfl
 | str _=>obtain⟨t,rfl⟩:=r;rfl
 | byt _=>obtain⟨t,rfl⟩:=r;rfl
 | flt _=>obtain⟨t,rfl⟩:=r;rfl
 | ref _=>cases r;rfl
 | ty _=>cases r;rfl
theorem RelV.inj {x y:V}{u:Value}(r:RelV x u)(q:RelV y u):x=y:=Option.some.inj (r.abs.symm.trans q.abs)
theorem Vals.inj:∀ {xs ys:List V}{us:List Value},Vals xs us->Vals ys us->xs=ys
 | _,_,_,.nil,.nil=>rfl
 | _,_,_,.cons r t,.cons r' t'=>by rw[r.inj r',Vals.inj t t']
section
variable {X:Cx}{pins:List (Addr×Obj)}{σ:St}{H:Hp}{s:Shared}{a:Addr}{xs ys:List V}
theorem SqT.of {K:PySem.W.Frag}(h:H a=some (.tup xs)):SqT K H a xs:=.inl (.inl h)
theorem Inv.list (I:Inv X pins σ H s)(h:SqL X.K H a xs):∃ its:List Value,Vals xs its/\PlainL s.heap a its.toArray/\xs.length<=sizeLine:=by
 rcases h with h|⟨o,its,n,hk,hc,hd,hs,hz,r⟩
 ·obtain⟨z,its,n,r,e⟩:=h.ok I.hok
  exact⟨its,r,⟨_,n,e,rfl,rfl,rfl⟩,z⟩
 ·refine⟨its.toList,r,⟨o,n,I.kIn a o hk,hc,hd,by simpa using hs⟩,?_⟩
  have e:=r.length
  simp only[Array.length_toList] at e
  omega
theorem Inv.tuple (I:Inv X pins σ H s)(h:SqT X.K H a xs):∃ its:List Value,Vals xs its/\IsTup s.heap a its.toArray/\xs.length<=sizeLine:=by
 rcases h with h|⟨o,its,n,hk,hc,hs,hz,r⟩
 ·obtain⟨z,its,r,p⟩:=h.ok I.hok
  exact⟨its,r,p,z⟩
 ·refine⟨its.toList,r,⟨o,I.kIn a o hk,hc,n,by simpa using hs⟩,?_⟩
  have e:=r.length
  simp only[Array.length_toList] at e
  omega
theorem Inv.list_inj (I:Inv X pins σ H s)(h:SqL X.K H a xs)(h':SqL X.K H a ys):xs=ys:=by
 obtain⟨its,r,⟨o,n,e,_,_,d⟩,_⟩:=I.list h
 obtain⟨its',r',⟨o',n',e',_,_,d'⟩,_⟩:=I.list h'
 rw[e] at e';cases e'
 rw[d] at d'
 injection d' with d1 _
 have:its=its':=by simpa using congrArg Array.toList d1
 subst this
 exact r.inj r'
theorem Inv.tuple_inj (I:Inv X pins σ H s)(h:SqT X.K H a xs)(h':SqT X.K H a ys):xs=ys:=by
 obtain⟨its,r,⟨o,e,_,n,d⟩,_⟩:=I.tuple h
 obtain⟨its',r',⟨o',e',_,n',d'⟩,_⟩:=I.tuple h'
 rw[e] at e';cases e'
 rw[d] at d'
 injection d' with d1 _
 have:its=its':=by simpa using congrArg Array.toList d1
 subst this
 exact r.inj r'
end
noncomputable abbrev Cx.wish (X:Cx)(E:Value->Shared->Prop):Cx:={X with xe:=E}
noncomputable abbrev Cx.nox (X:Cx):Cx:=X.wish fun _ _=>False
theorem Cx.Ok.wish {X:Cx}(ok:X.Ok)(E:Value->Shared->Prop):(X.wish E).Ok:=
 ⟨ok.mod,ok.kind,ok.glob,ok.blt,ok.above,ok.inj,ok.has,ok.cab,ok.hd,ok.frames,ok.stk,ok.exf,ok.bs,ok.bsz,ok.noex,ok.exfs,ok.funs,ok.frf⟩
theorem Cx.Ok.unwish {X:Cx}{E:Value->Shared->Prop}(ok:(X.wish E).Ok):X.Ok:=
 ⟨ok.mod,ok.kind,ok.glob,ok.blt,ok.above,ok.inj,ok.has,ok.cab,ok.hd,ok.frames,ok.stk,ok.exf,ok.bs,ok.bsz,ok.noex,ok.exfs,ok.funs,ok.frf⟩
section
variable {X:Cx}{pins:List (Addr×Obj)}{σ:St}{H:Hp}{s:Shared}{E:Value->Shared->Prop}
theorem Inv.wish (I:Inv X pins σ H s)(E:Value->Shared->Prop):Inv (X.wish E) pins σ H s:=⟨I.ok.wish E,I.os,I.bare,I.base,I.loc,I.cell,I.free,I.freeC,I.pin,I.hok,I.len⟩
theorem Inv.unwish (I:Inv (X.wish E) pins σ H s):Inv X pins σ H s:=⟨I.ok.unwish,I.os,I.bare,I.base,I.loc,I.cell,I.free,I.freeC,I.pin,I.hok,I.len⟩
end
section
variable {X:Cx}{st:Stmt}{rest:List Stmt}{t u:TS}{e:Expr}{te:TE}{pos:Pos}
def xM:TS:=fun D σ H=>D.nx σ H
def AE (t u:TS):TS:=fun D σ H=>t {D with nx:=u D} σ H
theorem iU:PSs X [] xM:=fun _ _ σ H _ I h=>wpAny_execs_nil ⟨σ,H,I,h⟩
theorem gk (h1:PS X st t)(h2:PSs X rest u):PSs X (st::rest) (AE t u):=by
 intro pins s σ H D I h
 refine wpAny_execs_cons (thn (h1 pins s σ H {D with nx:=u D} I h) fun f s1 q=>?_)
 cases f with
 | next=>
  obtain⟨σ',H',I',q⟩:=q
  exact h2 pins s1 σ' H' D I' q
 | ret v=>exact q
 | brk=>exact q
 | cont=>exact q
theorem Inv.quiet {pins:List (Addr×Obj)}{σ:St}{H:Hp}{s:Shared}(I:Inv X pins σ H s):interactive X.env=false:=by simp[interactive,I.ok.kind]
def xN (te:TE):TS:=fun D σ H=>te σ H fun _ H1=>D.nx σ H1
theorem iV (he:PE X e te)(hs:swapsWith e none pos.line X.env=pure false:=by rfl):PS X (.Expr e pos) (xN te):=by
 intro pins s σ H D I h
 exact wpAny_Expr_any (thn (he pins s σ H _ I h) fun v s1 ⟨x,H1,I1,r1,q1⟩=>⟨σ,H1,I1,q1⟩) I.quiet hs
def AF (te:TE):TS:=fun D σ H=>te σ H D.rt
theorem u9 (he:PE X e te):PS X (.Return (some e) pos) (AF te):=by
 intro pins s σ H D I h
 exact wpAny_Return_some (thn (he pins s σ H _ I h) fun v s1 ⟨x,H1,I1,r1,q1⟩=>⟨x,σ,H1,I1,r1,q1⟩)
def AG (c:TT)(t u:TS):TS:=fun D σ H=>c σ H fun b H1=>if b=true then t D σ H1 else u D σ H1
theorem xO {c:Expr}{a b:List Stmt}{tc:TT}(hc:PT X c tc)(ha:PSs X a t)(hb:PSs X b u):PS X (.If c a b pos) (AG tc t u):=by
 intro pins s σ H D I h
 refine wpAny_If (thn (hc pins s σ H _ I h) fun d s1 ⟨H1,I1,q1⟩=>?_)
 cases d with
 | true=>exact ha pins s1 σ H1 D I1 q1
 | false=>exact hb pins s1 σ H1 D I1 q1
def vd:TS:=fun _ _ _=>False
theorem nX:PS X st vd:=fun _ _ _ _ _ _ h=>h.elim
end
abbrev TG:=V->St->Hp->(St->Hp->Prop)->Prop
abbrev TGs:=List V->St->Hp->(St->Hp->Prop)->Prop
def PG (X:Cx)(target:Expr)(t:TG):Prop:=
 ∀ (pins:List (Addr×Obj)) (s:Shared) (σ:St) (H:Hp) (v:V) (u:Value) (Q:St->Hp->Prop),Inv X pins σ H s->RelV v u->t v σ H Q->
  wpAny (model X.prog X.w) X.A (assign target X.env u) (fun _ s'=>∃ σ' H',Inv X pins σ' H' s'/\Q σ' H') X.xe s
def PGs (X:Cx)(ts:List Expr)(t:TGs):Prop:=
 ∀ (pins:List (Addr×Obj)) (s:Shared) (σ:St) (H:Hp) (vs:List V) (us:List Value) (Q:St->Hp->Prop),Inv X pins σ H s->Vals vs us->t vs σ H Q->
  wpAny (model X.prog X.w) X.A (assignInOrder ((assignEach ts X.env).map (·.2)) us) (fun _ s'=>∃ σ' H',Inv X pins σ' H' s'/\Q σ' H') X.xe s
section
variable {X:Cx}{pos:Pos}
def nY (i:Nat):TG:=fun v σ H Q=>Q (σ.set i (some v)) H
theorem rq {i:Nat}{x:Str}(hN:X.N.Nodup)(hi:X.N[i]? = some x)(hx:Loc X.env.scope x)(hf:X.fn x=true∨X.env.scope.names.lookup x=some .local:=by first|exact .inl rfl|exact .inr rfl|assumption):PG X (.Name x pos) (nY i):=by
 intro pins s σ H v u Q I r h
 exact wpAny_assign_Name (ef I hN hi hx r (fun s' I'=>⟨_,H,I',h⟩) hf)
def xP:TGs:=fun vs σ H Q=>vs=[]/\Q σ H
def tH (t:TG)(u:TGs):TGs:=fun vs σ H Q=>∃ v r,vs=v::r/\t v σ H fun σ' H'=>u r σ' H' Q
theorem rz:PGs X [] xP:=by
 intro pins s σ H vs us Q I r h
 obtain⟨e,h⟩:=h
 subst e
 cases r
 exact assignInOrder_nil ⟨σ,H,I,h⟩
theorem nZ {e:Expr}{es:List Expr}{t:TG}{u:TGs}(h1:PG X e t)(h2:PGs X es u)
  (hs:(assignEach (e::es) X.env).map (·.2)=assign e X.env::(assignEach es X.env).map (·.2):=by rfl):PGs X (e::es) (tH t u):=by
 intro pins s σ H vs us Q I r h
 obtain⟨v,vr,e1,h⟩:=h
 subst e1
 cases r with
 | cons r rr=>
  rw[hs]
  refine assignInOrder_cons (thn (h1 pins s σ H _ _ _ I r h) fun _ s1 ⟨σ1,H1,I1,q1⟩=>?_)
  exact h2 pins s1 σ1 H1 _ _ Q I1 rr q1
def ve (te:TE)(g:TG):TS:=fun D σ H=>te σ H fun x H1=>g x σ H1 D.nx
theorem vf {tg e:Expr}{te:TE}{g:TG}(he:PE X e te)(hg:PG X tg g)(hs:swapsWithSole [tg] e pos.line X.env=pure false:=by rfl)(hw:swappedStores [tg] e X.env=pure none:=by rfl)
  (h1:(assignEach [tg] X.env).map (·.2)=[assign tg X.env]:=by rfl):PS X (.Assign [tg] e pos) (ve te g):=by
 intro pins s σ H D I h
 refine wpAny_Assign_stores (thn (he pins s σ H _ I h) fun v s1 ⟨x,H1,I1,r1,q1⟩=>?_) hs hw
 rw[h1]
 exact thn (hg pins s1 σ H1 x v _ I1 r1 q1) fun _ s2 q=>q
theorem vg {i:Nat}{x:Str}{e:Expr}{te:TE}{pos':Pos}(hN:X.N.Nodup)(hi:X.N[i]? = some x)(hx:Loc X.env.scope x)(he:PE X e te)(hs:swapsWith e (some (.Name x pos')) pos.line X.env=pure false:=by rfl)(hf:X.fn x=true∨X.env.scope.names.lookup x=some .local:=by first|exact .inl rfl|exact .inr rfl|assumption) :
  PS X (.Assign [.Name x pos'] e pos) (ve te (nY i)):=by
 intro pins s σ H D I h
 refine wpAny_Assign_Name (thn (he pins s σ H _ I h) fun v s1 ⟨y,H1,I1,r1,q1⟩=>?_) hs
 exact ef I1 hN hi hx r1 (fun s2 I2=>⟨_,H1,I2,q1⟩) hf
end
section
variable {X:Cx}{pos:Pos}
def vi (c:TT)(tb:TS):TS:=fun D σ H=>∃ W:Nat->St->Hp->Prop,(∃ m,W m σ H)/\∀ m σ H,W m σ H->
 c σ H fun b H1=>if b=true then ∃ N:St->Hp->Prop,(∀ σ' H',N σ' H'->∃ m',m' < m/\W m' σ' H')/\tb {D with nx:=N,ct:=N,bk:=D.nx} σ H1 else D.nx σ H1
theorem n6 {c:Expr}{body:List Stmt}{tc:TT}{tb:TS}(hp:PassesOwn (model X.prog X.w) X.A X.env X.xe)(hc:PT X c tc)(hb:PSs X body tb):PS X (.While c body [] pos) (vi tc tb):=by
 intro pins s σ H D I h
 obtain⟨W,⟨m0,w0⟩,turn⟩:=h
 refine wpAny_While (codeAny_whileLoop (fun n s'=>∃ σ' H',Inv X pins σ' H' s'/\W n σ' H') ?_ m0 ⟨σ,H,I,w0⟩)
 rintro n s1 ⟨σ1,H1,I1,w1⟩
 refine wpAny_passesOwn hp (thn (hc pins s1 σ1 H1 _ I1 (turn n σ1 H1 w1)) fun b s2 ⟨H2,I2,q2⟩=>?_)
 cases b with
 | true=>
  obtain⟨N,hN,q2⟩:=q2
  rw[if_pos rfl]
  refine wpAny_passesOwn hp (thn (hb pins s2 σ1 H2 _ I2 q2) fun f s3 q3=>?_)
  cases f with
  | next=>
   obtain⟨σ3,H3,I3,n3⟩:=q3
   obtain⟨m',hm,w3⟩:=hN σ3 H3 n3
   exact⟨m',hm,σ3,H3,I3,w3⟩
  | cont=>
   obtain⟨σ3,H3,I3,n3⟩:=q3
   obtain⟨m',hm,w3⟩:=hN σ3 H3 n3
   exact⟨m',hm,σ3,H3,I3,w3⟩
  | brk=>exact q3
  | ret v=>exact q3
 | false=>
  rw[if_neg Bool.false_ne_true]
  exact wpAny_execs_nil ⟨σ1,H2,I2,q2⟩
end
structure It where
 go:Nat->Hp->Prop
 yld:Nat->Hp->V->Hp->Prop
 stop:Nat->Hp->Prop
def eK (X:Cx)(pins:List (Addr×Obj))(H:Hp)(b:Addr):Prop:=
 H b=none/\b≠X.env.locals/\b∉X.fs/\(b∈X.ex∨X.s₀.heap.objs.size<=b)/\(∀ x c,X.env.cells.lookup x=some c->c≠b)/\∀ p∈X.pn++pins,p.1≠b
theorem Inv.fpOk {X:Cx}{pins:List (Addr×Obj)}{σ:St}{H H':Hp}{s:Shared}{b:Addr}(I:Inv X pins σ H s)(hb:s.heap.objs.size<=b)(hn:H' b=none):eK X pins H' b:=by
 refine⟨hn,Nat.ne_of_gt (Nat.lt_of_lt_of_le I.lt hb),I.nofs hb,.inr (Nat.le_trans I.sz hb),fun x c e z=>?_,fun p hp z=>?_⟩
 ·obtain⟨v,q⟩:=I.cell x c e
  exact absurd (Nat.lt_of_lt_of_le q.lt (by rw[z];exact hb)) (Nat.lt_irrefl _)
 ·exact absurd (Nat.lt_of_lt_of_le (Heap.lt_size (I.pin p hp).1) (by rw[z];exact hb)) (Nat.lt_irrefl _)
structure Turn (P:Program)(w:World)(K:PySem.W.Frag)(tg:Expr)(J:It)(fp:List Addr)(it:Addr)(tn:Nat->Heap->Prop):Prop where
 mem:it∈fp
 obj:∀ i h,tn i h->∀ b∈fp,∃ o,h.get? b=some o/\∀ v,o.data≠.cell v
 keep:∀ i h h',tn i h->(∀ b∈fp,∀ o,h.get? b=some o->h'.get? b=some o)->tn i h'
 item:∀ (X:Cx),X.prog=P->X.w=w->X.K=K->X.calm=true->∀ (i:Nat) (pins:List (Addr×Obj)) (s:Shared) (σ:St) (H:Hp) (E:Value->Shared->Prop),Inv X pins σ H s->(∀ b∈fp,eK X pins H b)->tn i s.heap->J.go i H->
  wpAny (model P w) X.A (pyNext (.ref it)) (fun r s1=>∃ u,r=some u/\
   wpAny (model P w) X.A (letOwnedTupleGo tg (.ref it) u) (fun _ s2=>∃ x H',Inv X pins σ H' s2/\RelV x u/\J.yld i H x H'/\tn (i+1) s2.heap/\∀ b∈fp,H' b=none) E s1) E s
 done:∀ (X:Cx),X.prog=P->X.w=w->X.K=K->X.calm=true->∀ (i:Nat) (pins:List (Addr×Obj)) (s:Shared) (σ:St) (H:Hp) (E:Value->Shared->Prop),Inv X pins σ H s->(∀ b∈fp,eK X pins H b)->tn i s.heap->J.stop i H->
  wpAny (model P w) X.A (pyNext (.ref it)) (fun r s1=>r=none/\Inv X pins σ H s1) E s
 self:∀ (A:Around) (i:Nat) (s:Shared) (Q:Value->Shared->Prop) (E:Value->Shared->Prop),tn i s.heap->Q (.ref it) s->wpAny (model P w) A (pyIter (.ref it)) Q E s
abbrev TI:=St->Hp->(It->Hp->Prop)->Prop
def PIE (X:Cx)(pins:List (Addr×Obj))(σ:St)(tg:Expr)(R:It->Hp->Prop)(itv:Value)(s2:Shared):Prop:=
 ∃ (it:Addr) (fp:List Addr) (tn:Nat->Heap->Prop) (J:It) (H':Hp),itv=.ref it/\Inv X pins σ H' s2/\Turn X.prog X.w X.K tg J fp it tn/\tn 0 s2.heap/\(∀ b∈fp,eK X pins H' b)/\R J H'
def PI (X:Cx)(tg iter:Expr)(wi:TI):Prop:=
 ∀ (pins:List (Addr×Obj)) (s:Shared) (σ:St) (H:Hp) (R:It->Hp->Prop),Inv X pins σ H s->wi σ H R->
  wpAny (model X.prog X.w) X.A (eval iter X.env) (fun v s1=>wpAny (model X.prog X.w) X.A (pyIter v) (PIE X pins σ tg R) X.xe s1) X.xe s
theorem lF {M : Model}{A : Around}{E : Value -> Shared -> Prop}{s : Shared}{tg : Expr}{it : Addr}{u : Value}{o : Obj}{n : String}{vs : Array Value}{Q : Unit -> Shared -> Prop}(ho : s.heap.get? it = some o)(hc : o.cls = .type n)(hd : o.data = .fields vs)
    (hn : ["enumerate", "zip", "dict_itemiterator", "dict_reverseitemiterator", "odict_iterator", "itertools.zip_longest", "itertools.pairwise"].contains n = false) (hQ : Q () s) : wpAny M A (letOwnedTupleGo tg (.ref it) u) Q E s := by
  unfold letOwnedTupleGo
  cases tg <;> first
    | exact wpAny_pure hQ
    | (cases u <;> first
        | exact wpAny_pure hQ
        | (refine wpAny_bind (wpAny_load ho ?_)
           rw [hc, hd]
           show wpAny M A (if (["enumerate", "zip", "dict_itemiterator", "dict_reverseitemiterator", "odict_iterator", "itertools.zip_longest", "itertools.pairwise"].contains n&&vs[0]? == some (rawInt _)) = true then _ else _) Q E s
           rw [if_neg (by intro h; rw [hn, Bool.false_and] at h; cases h)]
           exact wpAny_pure hQ))
noncomputable def Itl (K:PySem.W.Frag)(a:Addr):It:=
 ⟨fun i H=>∃ xs x,SqL K H a xs/\xs[i]? = some x,fun i H x H'=>H'=H/\∀ xs,SqL K H a xs->xs[i]? = some x,fun i H=>∃ xs,SqL K H a xs/\xs.length<=i⟩
noncomputable def Itt (K:PySem.W.Frag)(a:Addr):It:=
 ⟨fun i H=>∃ xs x,SqT K H a xs/\xs[i]? = some x,fun i H x H'=>H'=H/\∀ xs,SqT K H a xs->xs[i]? = some x,fun i H=>∃ xs,SqT K H a xs/\xs.length<=i⟩
noncomputable def Itr (lo:Int)(n:Nat):It:=⟨fun i _=>i < n,fun i H x H'=>H'=H/\x=.int (lo+i),fun i _=>n<=i⟩
theorem mP {P:Program}{w:World}{K:PySem.W.Frag}{tg:Expr}(a it:Addr):Turn P w K tg (Itl K a) [it] it (fun i h=>h.IsListIter it a i) where
 mem:=by simp
 obj:=fun i h st b hb=>by
  have e:b=it:=by simpa using hb
  subst e
  obtain⟨o,e,c,d⟩:=st
  exact⟨o,e,fun v z=>by rw[d] at z;cases z⟩
 keep:=fun i h h' st k=>st.at fun o e=>k it (by simp) o e
 item:=by
  intro X hP hw hK hc i pins s σ H E I hf st hg
  subst hP hw hK
  obtain⟨xs,x,hq,hx⟩:=hg
  obtain⟨its,rv,p,hz⟩:=I.list hq
  obtain⟨u,hu,ru⟩:=rv.get hx
  obtain⟨f0,f1,f2,f3,f4,f5⟩:=hf it (by simp)
  refine wpAny_pyNext_list_item st p.isList (x:=u) (by simpa using hu) fun h' st' sb=>?_
  have I1:Inv X pins σ H {s with heap:=h'}:=I.turned (t':=s.toks) (fun b o hb e=>(sb.2 b hb).trans e) f0 f1 f3 f4 f5
  obtain⟨o,e,c,d⟩:=id st'
  exact⟨u,rfl,lF (s:={s with heap:=h'}) e c d (by decide) ⟨x,H,I1,ru,⟨rfl,fun ys hy=>by rw[I.list_inj hy hq];exact hx⟩,st',fun b hb=>(hf b hb).1⟩⟩
 done:=by
  intro X hP hw hK hc i pins s σ H E I hf st hg
  subst hP hw hK
  obtain⟨xs,hq,hx⟩:=hg
  obtain⟨its,rv,p,hz⟩:=I.list hq
  obtain⟨f0,f1,f2,f3,f4,f5⟩:=hf it (by simp)
  have hl:=rv.length
  exact wpAny_pyNext_list_end (I.ok.hd hc) st p.isList (by simp;omega) fun h' eb=>⟨rfl,I.turned (t':=s.toks) (fun b o hb e=>eb b o hb e) f0 f1 f3 f4 f5⟩
 self:=fun _ _ _ _ _ st h=>wpAny_pyIter_listiter st h
theorem kE {P:Program}{w:World}{K:PySem.W.Frag}{tg:Expr}(a it:Addr):Turn P w K tg (Itt K a) [it] it (fun i h=>h.IsTupleIter it a i) where
 mem:=by simp
 obj:=fun i h st b hb=>by
  have e:b=it:=by simpa using hb
  subst e
  obtain⟨o,e,c,d⟩:=st
  exact⟨o,e,fun v z=>by rw[d] at z;cases z⟩
 keep:=fun i h h' st k=>st.at fun o e=>k it (by simp) o e
 item:=by
  intro X hP hw hK hc i pins s σ H E I hf st hg
  subst hP hw hK
  obtain⟨xs,x,hq,hx⟩:=hg
  obtain⟨its,rv,p,hz⟩:=I.tuple hq
  obtain⟨u,hu,ru⟩:=rv.get hx
  obtain⟨f0,f1,f2,f3,f4,f5⟩:=hf it (by simp)
  refine wpAny_pyNext_tuple_item st (show s.heap.IsTuple a its.toArray from p) (x:=u) (by simpa using hu) fun h' st' sb=>?_
  have I1:Inv X pins σ H {s with heap:=h'}:=I.turned (t':=s.toks) (fun b o hb e=>(sb.2 b hb).trans e) f0 f1 f3 f4 f5
  obtain⟨o,e,c,d⟩:=id st'
  exact⟨u,rfl,lF (s:={s with heap:=h'}) e c d (by decide) ⟨x,H,I1,ru,⟨rfl,fun ys hy=>by rw[I.tuple_inj hy hq];exact hx⟩,st',fun b hb=>(hf b hb).1⟩⟩
 done:=by
  intro X hP hw hK hc i pins s σ H E I hf st hg
  subst hP hw hK
  obtain⟨xs,hq,hx⟩:=hg
  obtain⟨its,rv,p,hz⟩:=I.tuple hq
  obtain⟨f0,f1,f2,f3,f4,f5⟩:=hf it (by simp)
  have hl:=rv.length
  exact wpAny_pyNext_tuple_end (I.ok.hd hc) st (show s.heap.IsTuple a its.toArray from p) (by simp;omega) fun h' eb=>⟨rfl,I.turned (t':=s.toks) (fun b o hb e=>eb b o hb e) f0 f1 f3 f4 f5⟩
 self:=fun _ _ _ _ _ st h=>wpAny_pyIter_tupleiter st h
theorem kF {P:Program}{w:World}{K:PySem.W.Frag}{tg:Expr}(it:Addr)(lo:Int)(n:Nat):Turn P w K tg (Itr lo n) [it] it (fun i h=>IsRangeIter h it (lo+(i:Nat)*1) ((n:Int) - (i:Nat)) 1) where
 mem:=by simp
 obj:=fun i h st b hb=>by
  have e:b=it:=by simpa using hb
  subst e
  exact⟨_,st,fun v z=>by
   have z':Data.fields _=Data.cell v:=z
   cases z'⟩
 keep:=fun i h h' st k=>k it (by simp) _ st
 item:=by
  intro X hP hw hK hc i pins s σ H E I hf st hg
  subst hP hw hK
  obtain⟨f0,f1,f2,f3,f4,f5⟩:=hf it (by simp)
  have W:=Walks.range (prog:=X.prog) (w:=X.w) (I.ok.hd hc) it lo 1 n
  refine W.item i s _ _ hg st fun v h' tk hv st' kk=>?_
  obtain⟨t,rfl⟩:=hv
  have I1:Inv X pins σ H {s with heap:=h',toks:=tk}:=I.turned (fun b o hb e=>kk b o (by simpa using hb) e) f0 f1 f3 f4 f5
  refine⟨_,rfl,lF (s:={s with heap:=h',toks:=tk}) (n:="range_iterator") st' rfl rfl (by decide) ⟨.int (lo+i),H,I1,⟨t,?_⟩,⟨rfl,rfl⟩,st',fun b hb=>(hf b hb).1⟩⟩
  rw[Int.mul_one]
 done:=by
  intro X hP hw hK hc i pins s σ H E I hf st hg
  subst hP hw hK
  obtain⟨f0,f1,f2,f3,f4,f5⟩:=hf it (by simp)
  exact wpAny_pyNext_range_end (I.ok.hd hc) st (by have:n<=i:=hg;omega) fun h' eb=>⟨rfl,I.turned (t':=s.toks) (fun b o hb e=>eb b o hb e) f0 f1 f3 f4 f5⟩
 self:=fun _ _ _ _ _ st h=>wpAny_pyIter_rangeiter st h
section
variable {X:Cx}{tg:Expr}
theorem n8 {pins:List (Addr×Obj)}{σ:St}{H:Hp}{s:Shared}{R:It->Hp->Prop}{E:Value->Shared->Prop}{lo hi:Int}{t u v:Tok}{tk:Nat}(I:Inv X pins σ H s)(h1 : -(2 ^ 62)<=lo)(h2:lo < 2 ^ 62)(h3 : -(2 ^ 62)<=hi)(h4:hi < 2 ^ 62)
  (q:R (Itr lo (hi - lo).toNat) H):wpAny (model X.prog X.w) X.A (pyIter (.ref s.heap.objs.size)) (PIE X pins σ tg R) E {s with heap:=s.heap.push {cls:=.type "range",data:=.fields #[.int lo t,.int hi u,.int 1 v]},toks:=tk}:=by
 refine wpAny_pyIter_range (IsRange.new ..) (small_one h1 h2 h3 h4) ?_
 have I1:Inv X pins σ H {s with heap:=s.heap.push {cls:=.type "range",data:=.fields #[.int lo t,.int hi u,.int 1 v]},toks:=tk}:=I.kept fun b o e=>Heap.get?_push_of_some _ e
 refine⟨(s.heap.push {cls:=.type "range",data:=.fields #[.int lo t,.int hi u,.int 1 v]}).objs.size,[(s.heap.push {cls:=.type "range",data:=.fields #[.int lo t,.int hi u,.int 1 v]}).objs.size],_,_,H,rfl,
  I1.kept (t':=tk) fun b o e=>Heap.get?_push_of_some _ e,kF _ lo (hi - lo).toNat,?_,fun b hb=>?_,q⟩
 ·have e1:lo+((0:Nat):Int)*1=lo:=by simp
  have e2:(((hi - lo).toNat:Nat):Int) - ((0:Nat):Int)=Builtin.Range.rangeSize lo hi 1:=by rw[rangeSize_one];split<;>omega
  show IsRangeIter _ _ (lo+((0:Nat):Int)*1) ((((hi - lo).toNat:Nat):Int) - ((0:Nat):Int)) 1
  rw[e1,e2]
  exact Heap.get?_push_size _ rfl
 ·have e:b=(s.heap.push {cls:=.type "range",data:=.fields #[.int lo t,.int hi u,.int 1 v]}).objs.size:=by simpa using hb
  subst e
  exact I1.fpOk (Nat.le_refl _) (I1.hok.fresh (Nat.le_refl _))
def xQ (ta:TA):TI:=fun σ H R=>ta σ H fun vs H1=>∃ j:Int,vs=[.int j]/\-(2 ^ 62)<=j/\j < 2 ^ 62/\R (Itr 0 j.toNat) H1
theorem ik {a:Expr}{ta:TA}{p pos:Pos}(hg:Gl X "range") (hm:X.mg "range" = none) (ha:PA X [a] ta) (hs:starEach [a] X.env=[(false,eval a X.env)]:=by rfl):PI X tg (.Call (.Name "range" p) [a] [] pos) (xQ ta):=by
 intro pins s σ H R I h
 refine Call_ (eT I hg hm boot_range (PyProof.Rows.callWith_type1 (thn (ha pos pins s σ H _ I h) fun us s1 ⟨vs,H1,I1,r1,q1⟩=>?_) hs rfl))
 obtain⟨j,e,q1,q2,q⟩:=q1
 subst e
 cases r1 with
 | cons r rr=>
  cases rr
  obtain⟨t,rfl⟩:=r
  exact call_range_1 (n8 I1 (by omega) (by omega) q1 q2 (by simpa using q))
def AH (wi:TI)(g:TG)(tb:TS):TS:=fun D σ H=>wi σ H fun J H1=>∃ W:Nat->Nat->St->Hp->Prop,(∃ m,W 0 m σ H1)/\∀ i m σ H,W i m σ H->
 (J.stop i H/\D.nx σ H)∨(J.go i H/\∃ N:St->Hp->Prop,(∀ σ' H',N σ' H'->∃ m',m' < m/\W (i+1) m' σ' H')/\∀ x H',J.yld i H x H'->g x σ H' fun σ2 H2=>tb {D with nx:=N,ct:=N,bk:=D.nx} σ2 H2)
noncomputable def fH (fp:List Addr)(h:Heap):List (Addr×Obj):=fp.filterMap fun b=>(h.get? b).map fun o=>(b,o)
theorem dR {fp:List Addr}{h:Heap}{b:Addr}{o:Obj}(hb:b∈fp)(e:h.get? b=some o):(b,o)∈fH fp h:=List.mem_filterMap.mpr ⟨b,hb,by rw[e];rfl⟩
theorem mQ {fp:List Addr}{h:Heap}{p:Addr×Obj}(hp:p∈fH fp h):p.1∈fp/\h.get? p.1=some p.2:=by
 obtain⟨b,hb,e⟩:=List.mem_filterMap.mp hp
 cases q:h.get? b with
 | none=>rw[q] at e;cases e
 | some o=>
  rw[q] at e
  have e':(b,o)=p:=Option.some.inj e
  subst e'
  exact⟨hb,q⟩
theorem Inv.pinned {pins:List (Addr×Obj)}{σ:St}{H:Hp}{s:Shared}{fp:List Addr}(I:Inv X pins σ H s)(hf:∀ b∈fp,eK X pins H b)(ho:∀ b∈fp,∃ o,s.heap.get? b=some o/\∀ v,o.data≠.cell v):Inv X (pins++fH fp s.heap) σ H s:=
 I.pins_of fun p hp=>(List.mem_append.mp hp).elim (fun z=>I.pin p (List.mem_append_right _ z)) fun z=>by
  obtain⟨hb,e⟩:=mQ z
  obtain⟨f0,f1,f2,_⟩:=hf p.1 hb
  obtain⟨o,e',d⟩:=ho p.1 hb
  rw[e] at e';cases e'
  exact⟨e,f0,f1,f2,d⟩
theorem Inv.unpinned {pins pl:List (Addr×Obj)}{σ:St}{H:Hp}{s:Shared}(I:Inv X (pins++pl) σ H s):Inv X pins σ H s:=I.pins_of fun p hp=>I.pin p (List.mem_append_right _ (List.mem_append_left _ hp))
theorem og {iter:Expr}{body:List Stmt}{wi:TI}{g:TG}{tb:TS}{pos:Pos}(hp:PassesOwn (model X.prog X.w) X.A X.env X.xe)(hc:X.calm=true)(hi:PI X tg iter wi)(hg:PG X tg g)(hb:PSs X body tb)
  (hs:∀ x,foldedSetIterable iter X.env x=pure x:=by intro _;rfl):PS X (.For tg iter body [] pos) (AH wi g tb):=by
 intro pins s σ H D I h
 refine wpAny_For (thn (hi pins s σ H _ I h) fun v s1 h1=>thn h1 fun itv s2 h2=>?_) hs
 obtain⟨it,fp,tn,J,H2,e,I2,T,st2,f2,W,⟨m0,w0⟩,turn⟩:=h2
 subst e
 -- what stays true of the iterator's objects through the loop
 have stat:∀ {H':Hp},(∀ b∈fp,H' b=none)->∀ b∈fp,eK X pins H' b:=fun hn b hb=>⟨hn b hb,(f2 b hb).2⟩
 refine codeAny_forLoop_any (fun n s'=>∃ i σ' H',Inv X pins σ' H' s'/\tn i s'.heap/\(∀ b∈fp,H' b=none)/\W i n σ' H') ?_ m0 ⟨0,σ,H2,I2,st2,fun b hb=>(f2 b hb).1,w0⟩
 rintro n s3 ⟨i,σ3,H3,I3,st3,fr3,w3⟩
 rcases turn i n σ3 H3 w3 with ⟨stop,qn⟩|⟨go,N,hN,step⟩
 ·refine wpAny_passesOwn hp (thn (T.done X rfl rfl rfl hc i pins s3 σ3 H3 X.xe I3 (stat fr3) st3 stop) fun r s4 ⟨hr,I4⟩=>?_)
  subst hr
  exact wpAny_execs_nil ⟨σ3,H3,I4,qn⟩
 ·refine wpAny_passesOwn hp (thn (T.item X rfl rfl rfl hc i pins s3 σ3 H3 X.xe I3 (stat fr3) st3 go) fun r s4 ⟨u,hr,h4⟩=>?_)
  subst hr
  refine wpAny_passesOwn hp (thn h4 fun _ s5 ⟨x,H5,I5,r5,y5,st5,fr5⟩=>?_)
  have I5':=I5.pinned (stat fr5) (T.obj _ _ st5)
  refine wpAny_passesOwn hp (thn (hg _ s5 σ3 H5 x u _ I5' r5 (step x H5 y5)) fun _ s6 ⟨σ6,H6,I6,q6⟩=>?_)
  refine wpAny_passesOwn hp (thn (hb _ s6 σ6 H6 _ I6 q6) fun f s7 q7=>?_)
  have again:∀ {σ7:St}{H7:Hp},Inv X (pins++fH fp s5.heap) σ7 H7 s7->N σ7 H7->∃ m,m < n/\∃ i σ' H',Inv X pins σ' H' s7/\tn i s7.heap/\(∀ b∈fp,H' b=none)/\W i m σ' H':=fun {σ7 H7} I7 n7=>by
   obtain⟨m',hm,w7⟩:=hN σ7 H7 n7
   refine⟨m',hm,i+1,σ7,H7,I7.unpinned,T.keep _ _ _ st5 fun b hb o e=>(I7.pin (b,o) (List.mem_append_right _ (List.mem_append_right _ (dR hb e)))).1,fun b hb=>?_,w7⟩
   obtain⟨o,e,d⟩:=T.obj _ _ st5 b hb
   exact(I7.pin (b,o) (List.mem_append_right _ (List.mem_append_right _ (dR hb e)))).2.1
  cases f with
  | next=>obtain⟨σ7,H7,I7,n7⟩:=q7;exact again I7 n7
  | cont=>obtain⟨σ7,H7,I7,n7⟩:=q7;exact again I7 n7
  | brk=>obtain⟨σ7,H7,I7,q7⟩:=q7;exact⟨σ7,H7,I7.unpinned,q7⟩
  | ret v=>obtain⟨x7,σ7,H7,I7,r7,q7⟩:=q7;exact⟨x7,σ7,H7,I7.unpinned,r7,q7⟩
end
abbrev R2:=V->V->Hp->VK->Prop
def OpR (X:Cx)(f:Value->Value->Sem Value)(r:R2):Prop:=
 ∀ (pins:List (Addr×Obj)) (s:Shared) (σ:St) (H:Hp) (x y:V) (v u:Value) (Q:VK),Inv X pins σ H s->RelV x v->RelV y u->r x y H Q->
  wpAny (model X.prog X.w) X.A (f v u) (EP X pins σ Q) X.xe s
def c8 (X:Cx)(f:Value)(r:List V->Hp->VK->Prop):Prop:=
 ∀ (pins:List (Addr×Obj)) (s:Shared) (σ:St) (H:Hp) (xs:List V) (us:List Value) (Q:VK),Inv X pins σ H s->Vals xs us->r xs H Q->
  wpAny (model X.prog X.w) X.A (call f us) (EP X pins σ Q) X.xe s
def AJ (X:Cx)(r:V->Hp->(Bool->Hp->Prop)->Prop):Prop:=
 ∀ (pins:List (Addr×Obj)) (s:Shared) (σ:St) (H:Hp) (x:V) (v:Value) (Q:Bool->Hp->Prop),Inv X pins σ H s->RelV x v->r x H Q->
  wpAny (model X.prog X.w) X.A (truthy v) (TP X pins σ Q) X.xe s
def tOp (r:R2)(ta tb:TE):TE:=fun σ H Q=>ta σ H fun x H1=>tb σ H1 fun y H2=>r x y H2 Q
def rI (C:Int->Int->Prop)(g:Int->Int->V):R2:=fun x y H Q=>∃ i j,x=.int i/\y=.int j/\C i j/\Q (g i j) H
def rI0 (g:Int->Int->V):R2:=fun x y H Q=>∃ i j,x=.int i/\y=.int j/\Q (g i j) H
section
variable {X:Cx}{a b c:Expr}{ta tb tc:TE}{pos:Pos}
theorem vj (ha:PE X a ta)(hb:PE X b tb){pins:List (Addr×Obj)}{s:Shared}{σ:St}{H:Hp}{R:V->V->Hp->Prop}(I:Inv X pins σ H s)
  (h:ta σ H fun x H1=>tb σ H1 fun y H2=>R x y H2) {Q:Value->Shared->Prop}{f:Value->Value->Sem Value}
  (hf:∀ v u s2 x y H2,Inv X pins σ H2 s2->RelV x v->RelV y u->R x y H2->wpAny (model X.prog X.w) X.A (f v u) Q X.xe s2) :
  wpAny (model X.prog X.w) X.A (eval a X.env) (fun v s₁=>wpAny (model X.prog X.w) X.A (eval b X.env) (fun u s₂=>wpAny (model X.prog X.w) X.A (f v u) Q X.xe s₂) X.xe s₁) X.xe s:=by
 refine thn (ha pins s σ H _ I h) fun v s1 ⟨x,H1,I1,r1,q1⟩=>?_
 refine thn (hb pins s1 σ H1 _ I1 q1) fun u s2 ⟨y,H2,I2,r2,q2⟩=>?_
 exact hf v u s2 x y H2 I2 r1 r2 q2
theorem oh {op:Operator}{r:R2}(ho:OpR X (binaryOp op) r)(ha:PE X a ta)(hb:PE X b tb):PE X (.BinOp a op b pos) (tOp r ta tb):=by
 intro pins s σ H Q I h
 exact wpAny_BinOp (vj ha hb I h fun v u s2 x y H2 I2 rx ry q=>ho pins s2 σ H2 x y v u Q I2 rx ry q)
theorem opI {f:Value->Value->Sem Value}{C:Int->Int->Prop}{g:Int->Int->Int}
  (rule:∀ (i j:Int) (t u:Tok) (s:Shared) (Q:Value->Shared->Prop) (E:Value->Shared->Prop),C i j->Q (.int (g i j) s.toks) {s with toks:=s.toks+1}->wpAny (model X.prog X.w) X.A (f (.int i t) (.int j u)) Q E s) :
  OpR X f (rI C fun i j=>.int (g i j)):=by
 intro pins s σ H x y v u Q I rx ry h
 obtain⟨i,j,rfl,rfl,hc,q⟩:=h
 obtain⟨t,rfl⟩:=rx
 obtain⟨t',rfl⟩:=ry
 exact rule i j t t' s _ _ hc ⟨.int (g i j),H,I.tok _,⟨_,rfl⟩,q⟩
theorem xR {f:Value->Value->Sem Value}{g:Int->Int->Int}
  (rule:∀ (i j:Int) (t u:Tok) (s:Shared) (Q:Value->Shared->Prop) (E:Value->Shared->Prop),Q (.int (g i j) s.toks) {s with toks:=s.toks+1}->wpAny (model X.prog X.w) X.A (f (.int i t) (.int j u)) Q E s) :
  OpR X f (rI0 fun i j=>.int (g i j)):=by
 intro pins s σ H x y v u Q I rx ry h
 obtain⟨i,j,rfl,rfl,q⟩:=h
 obtain⟨t,rfl⟩:=rx
 obtain⟨t',rfl⟩:=ry
 exact rule i j t t' s _ _ ⟨.int (g i j),H,I.tok _,⟨_,rfl⟩,q⟩
def AK (i j:Int):Prop:=0 < j/\j < 1073741824
def AL (i j:Int):Prop:=0<=j/\j<=1000000/\i.natAbs < 2 ^ 64
def vk (i j:Int):Prop:=(-(2 ^ 64) < i/\i < 2 ^ 64)∨(-(2 ^ 64) < j/\j < 2 ^ 64)
theorem vk.ok {i j:Int}(h:vk i j):IntMulOk i j:=by
 rcases h with ⟨h1,h2⟩|⟨h1,h2⟩
 ·exact .of_left (intBits_le_64 h1 h2)
 ·exact .of_right (intBits_le_64 h1 h2)
theorem vm:OpR X (binaryOp .Add) (rI0 fun i j=>.int (i+j)):=xR fun _ _ _ _ _ _ _ q=>add_int q
theorem vn:OpR X (binaryOp .Sub) (rI0 fun i j=>.int (i - j)):=xR fun _ _ _ _ _ _ _ q=>sub_int q
theorem vo:OpR X (binaryOp .Mult) (rI vk fun i j=>.int (i*j)):=opI fun _ _ _ _ _ _ _ hc q=>mul_int q hc.ok
theorem rA:OpR X (binaryOp .FloorDiv) (rI AK fun i j=>.int (i / j)):=opI fun i j _ _ _ _ _ hc q=>by
 have h1:(0:Int) < j:=hc.1
 have h2:j < 1073741824:=hc.2
 exact floordiv_int (by omega) (by rw[Int.fdiv_eq_ediv_of_nonneg i (by omega)];exact q) (.inl (PyProof.noPylong_small (by omega)))
theorem vp:OpR X (binaryOp .Mod) (rI (fun _ j=>0 < j) fun i j=>.int (i % j)):=opI fun i j _ _ _ _ _ hc q=>by
 have h1:(0:Int) < j:=hc
 exact mod_int' (by omega) (by rw[Int.fmod_eq_emod_of_nonneg i (by omega)];exact q)
theorem vq:OpR X (binaryOp .Pow) (rI AL fun i j=>.int (i ^ j.toNat)):=opI fun _ _ _ _ _ _ _ hc q=>pow_int_small hc.1 hc.2.1 hc.2.2 q
end
section
variable {X:Cx}{a b c:Expr}{ta tb tc:TE}{pos:Pos}
theorem rB {op:CmpOp}{r:R2}(ho:OpR X (compareOp op) r)(ha:PE X a ta)(hb:PE X b tb)(hm:behindInMarks op b=false):PE X (.Compare a [op] [b] pos) (tOp r ta tb):=by
 intro pins s σ H Q I h
 exact wpAny_Compare1 (vj ha hb I h fun v u s2 x y H2 I2 rx ry q=>ho pins s2 σ H2 x y v u Q I2 rx ry q) hm
def tI (t:TE):TT:=fun σ H Q=>t σ H fun x H'=>∃ k,x=.bl k/\Q k H'
theorem rC {op:CmpOp}{r:R2}(ho:OpR X (compareOp op) r)(ha:PE X a ta)(hb:PE X b tb)(hm:behindInMarks op b=false):PT X (.Compare a [op] [b] pos) (tI (tOp r ta tb)):=by
 intro pins s σ H Q I h
 refine wpAny_isTrue_Compare1 (thn (ha pins s σ H _ I h) fun v s1 ⟨x,H1,I1,r1,q1⟩=>thn (hb pins s1 σ H1 _ I1 q1) fun u s2 ⟨y,H2,I2,r2,q2⟩=>
  thn (ho pins s2 σ H2 x y v u _ I2 r1 r2 q2) fun c s3 ⟨z,H3,I3,r3,k,e,q3⟩=>?_) hm
 subst e
 cases r3
 exact wpAny_truthy_bool ⟨H3,I3,q3⟩
def oj (r r':R2)(ta tb tc:TE):TE:=fun σ H Q=>ta σ H fun x H1=>tb σ H1 fun y H2=>r x y H2 fun z H3=>∃ k,z=.bl k/\
 (if k=true then tc σ H3 fun w' H4=>r' y w' H4 Q else Q (.bl false) H3)
theorem om {op op':CmpOp}{r r':R2}(ho:OpR X (compareOp op) r)(ho':OpR X (compareOp op') r')(ha:PE X a ta)(hb:PE X b tb)(hc:PE X c tc)
  (hm:lastMarks [op,op'] [b,c]=false:=by with_unfolding_all rfl):PE X (.Compare a [op,op'] [b,c] pos) (oj r r' ta tb tc):=by
 intro pins s σ H Q I h
 refine Compare_chain (thn (ha pins s σ H _ I h) fun v s1 ⟨x,H1,I1,r1,q1⟩=>chain_link (thn (hb pins s1 σ H1 _ I1 q1) fun u s2 ⟨y,H2,I2,r2,q2⟩=>
  thn (ho pins s2 σ H2 x y v u _ I2 r1 r2 q2) fun d s3 ⟨z,H3,I3,r3,k,e,q3⟩=>?_)) hm
 subst e
 cases r3
 refine wpAny_truthy_bool ?_
 cases k with
 | false=>exact ite_ff ⟨.bl false,H3,I3,rfl,q3⟩
 | true=>exact ite_tt (chain_last (thn (hc pins s3 σ H3 _ I3 q3) fun w' s4 ⟨z',H4,I4,r4,q4⟩=>ho' pins s4 σ H4 y z' u w' Q I4 r2 r4 q4))
theorem oo {op op':CmpOp}{r r':R2}(ho:OpR X (compareOp op) r)(ho':OpR X (compareOp op') r')(ha:PE X a ta)(hb:PE X b tb)(hc:PE X c tc)
  (hm:lastMarks [op,op'] [b,c]=false:=by with_unfolding_all rfl):PT X (.Compare a [op,op'] [b,c] pos) (tI (oj r r' ta tb tc)):=by
 intro pins s σ H Q I h
 refine isTrue_chain (thn (ha pins s σ H _ I h) fun v s1 ⟨x,H1,I1,r1,q1⟩=>test_link (thn (hb pins s1 σ H1 _ I1 q1) fun u s2 ⟨y,H2,I2,r2,q2⟩=>
  thn (ho pins s2 σ H2 x y v u _ I2 r1 r2 q2) fun d s3 ⟨z,H3,I3,r3,k,e,q3⟩=>?_)) hm
 subst e
 cases r3
 refine wpAny_truthy_bool ?_
 cases k with
 | false=>
  obtain⟨k',e',q'⟩:=q3
  cases e'
  exact ite_ff ⟨H3,I3,q'⟩
 | true=>
  refine ite_tt (test_last (thn (hc pins s3 σ H3 _ I3 q3) fun w' s4 ⟨z',H4,I4,r4,q4⟩=>thn (ho' pins s4 σ H4 y z' u w' _ I4 r2 r4 q4) fun d' s5 ⟨z2,H5,I5,r5,k2,e2,q5⟩=>?_))
  subst e2
  cases r5
  exact wpAny_truthy_bool ⟨H5,I5,q5⟩
def AM (K:PySem.W.Frag)(x:V)(H:Hp)(k:Bool):Prop:=
 match x with
 | .non=>k=false
 | .bl b=>k=b
 | .int i=>k=(i != 0)
 | .str y=>y.length<=sizeLine/\k=((y.length:Int) != 0)
 | .byt y=>y.size<=sizeLine/\k=((y.size:Int) != 0)
 | .ref p=>(∃ xs,SqL K H p xs/\k = !xs.isEmpty)∨(∃ xs,SqT K H p xs/\k = !xs.isEmpty)∨∃ kvs,H p=some (.dK kvs)/\k = !kvs.isEmpty
 | _=>False
theorem kG {κ:Type}{kvs:List (κ×V)}{vs:List (κ×Value)}(r:KV kvs vs):(!vs.isEmpty) = !kvs.isEmpty:=by
 cases r<;>rfl
theorem gm {xs:List V}{its:List Value}(r:Vals xs its):(!its.toArray.isEmpty) = !xs.isEmpty:=by
 cases r<;>simp
theorem gp:(sizeLine:Nat) < 2 ^ 63:=by rw[sizeLine_eq];decide
theorem vt:AJ X (fun x H Q=>∃ k,AM X.K x H k/\Q k H):=by
 intro pins s σ H x v Q I rx h
 obtain⟨k,e,q⟩:=h
 have hl:=gp
 have hs:sizeLine=16777216:=sizeLine_eq
 cases x with
 | non=>
  cases rx
  have e':k=false:=e
  subst e'
  exact truthy_none ⟨H,I,q⟩
 | bl b=>
  cases rx
  have e':k=b:=e
  subst e'
  exact wpAny_truthy_bool ⟨H,I,q⟩
 | int i=>
  obtain⟨t,rfl⟩:=rx
  have e':k=(i != 0):=e
  subst e'
  exact PySem.P.truthy_int ⟨H,I,q⟩
 | str y=>
  obtain⟨t,rfl⟩:=rx
  obtain⟨hy,e'⟩:y.length<=sizeLine/\k=((y.length:Int) != 0):=e
  subst e'
  exact PySem.P.truthy_str (by omega) ⟨H,I.tok _,q⟩
 | byt y=>
  obtain⟨t,rfl⟩:=rx
  obtain⟨hy,e'⟩:y.size<=sizeLine/\k=((y.size:Int) != 0):=e
  subst e'
  exact PySem.W.truthy_bytes (by omega) ⟨H,I.tok _,q⟩
 | ref p=>
  cases rx
  have e':(∃ xs,SqL X.K H p xs/\k = !xs.isEmpty)∨(∃ xs,SqT X.K H p xs/\k = !xs.isEmpty)∨∃ kvs,H p=some (.dK kvs)/\k = !kvs.isEmpty:=e
  rcases e' with ⟨xs,hx,e'⟩|⟨xs,hx,e'⟩|⟨kvs,hx,e'⟩
  ·subst e'
   obtain⟨its,r,pl,hz⟩:=I.list hx
   have hlen:=r.length
   exact wpAny_truthy_list pl.isList (by simp only[List.size_toArray];omega) ⟨H,I.tok _,by rw[gm r];exact q⟩
  ·subst e'
   obtain⟨its,r,pl,hz⟩:=I.tuple hx
   have hlen:=r.length
   exact truthy_tuple pl (by simp only[List.size_toArray];omega) ⟨H,I.tok _,by rw[gm r];exact q⟩
  ·subst e'
   obtain⟨hz,hS,vs,r,m⟩:kvs.length<=sizeLine/\(p == sysModules)=false/\∃ vs,KV kvs vs/\s.heap.DictOf (cD X.prog X.w) p vs:=I.hok p _ hx
   have hlen:kvs.length=vs.length:=Paired.length r
   exact wpAny_truthy_dict hS m (by omega) ⟨H,I.tok _,by rw[kG r];exact q⟩
 | _=>exact(show False from e).elim
theorem kH:OpR X (binaryOp .Add) (fun x y H Q=>∃ i j,x=.str i/\y=.str j/\i.length+j.length<=sizeLine/\Q (.str (i++j)) H):=by
 intro pins s σ H x y v u Q I rx ry h
 obtain⟨i,j,rfl,rfl,hz,q⟩:=h
 obtain⟨t,rfl⟩:=rx
 obtain⟨t',rfl⟩:=ry
 exact add_str (fun t' tk=>⟨.str (i++j),H,I.tok _,⟨_,rfl⟩,q⟩) hz
theorem vals1 {x:V}{us:List Value}(r:Vals [x] us):∃ u,us=[u]/\RelV x u:=by
 cases r with
 | cons r1 r2=>cases r2;exact⟨_,rfl,r1⟩
theorem vals2 {x y:V}{us:List Value}(r:Vals [x,y] us):∃ u w',us=[u,w']/\RelV x u/\RelV y w':=by
 cases r with
 | cons r1 r2=>
  cases r2 with
  | cons r3 r4=>cases r4;exact⟨_,_,rfl,r1,r3⟩
theorem mR (hc:X.calm=true):c8 X (.builtin "max") (fun xs H Q=>∃ i j,xs=[.int i,.int j]/\Q (.int (if j > i then j else i)) H):=by
 intro pins s σ H xs us Q I r h
 obtain⟨i,j,rfl,q⟩:=h
 obtain⟨u,w',rfl,⟨t,rfl⟩,⟨t',rfl⟩⟩:=vals2 r
 refine max_two_ints (I.ok.hd hc) fun h' tk k=>⟨_,H,I.kept k,?_,q⟩
 by_cases hj:j > i
 ·rw[if_pos hj,if_pos hj];exact⟨_,rfl⟩
 ·rw[if_neg hj,if_neg hj];exact⟨_,rfl⟩
theorem mS (hc:X.calm=true):c8 X (.builtin "min") (fun xs H Q=>∃ i j,xs=[.int i,.int j]/\Q (.int (if j < i then j else i)) H):=by
 intro pins s σ H xs us Q I r h
 obtain⟨i,j,rfl,q⟩:=h
 obtain⟨u,w',rfl,⟨t,rfl⟩,⟨t',rfl⟩⟩:=vals2 r
 refine min_two_ints (I.ok.hd hc) fun h' tk k=>⟨_,H,I.kept k,?_,q⟩
 by_cases hj:j < i
 ·rw[if_pos hj,if_pos hj];exact⟨_,rfl⟩
 ·rw[if_neg hj,if_neg hj];exact⟨_,rfl⟩
theorem il:c8 X (.type "int") (fun xs H Q=>(∃ i,xs=[.int i]/\Q (.int i) H)∨∃ k,xs=[.bl k]/\Q (.int (if k then 1 else 0)) H):=by
 intro pins s σ H xs us Q I r h
 rcases h with ⟨i,rfl,q⟩|⟨k,rfl,q⟩
 ·obtain⟨u,rfl,t,rfl⟩:=vals1 r
  exact call_int_int ⟨.int i,H,I,⟨_,rfl⟩,q⟩
 ·obtain⟨u,rfl,r1⟩:=vals1 r
  cases r1
  exact call_int_bool ⟨.int (if k then 1 else 0),H,I.tok _,⟨_,rfl⟩,q⟩
def AN (K:PySem.W.Frag)(x:V)(H:Hp)(n:Nat):Prop:=
 match x with
 | .str y=>y.length<=sizeLine/\n=y.length
 | .byt y=>y.size<=sizeLine/\n=y.size
 | .ref p=>(∃ xs,SqL K H p xs/\n=xs.length)∨∃ xs,SqT K H p xs/\n=xs.length
 | _=>False
theorem call_len:c8 X (.builtin "len") (fun xs H Q=>∃ x n,xs=[x]/\AN X.K x H n/\Q (.int n) H):=by
 intro pins s σ H xs us Q I r h
 obtain⟨x,n,rfl,e,q⟩:=h
 obtain⟨u,rfl,rx⟩:=vals1 r
 have hl:=gp
 have hs:sizeLine=16777216:=sizeLine_eq
 cases x with
 | str y=>
  obtain⟨t,rfl⟩:=rx
  obtain⟨hy,e'⟩:y.length<=sizeLine/\n=y.length:=e
  subst e'
  exact len_str (by omega) ⟨.int _,H,I.tok _,⟨_,rfl⟩,q⟩
 | byt y=>
  obtain⟨t,rfl⟩:=rx
  obtain⟨hy,e'⟩:y.size<=sizeLine/\n=y.size:=e
  subst e'
  exact PySem.W.len_bytes (by omega) ⟨.int _,H,I.tok _,⟨_,rfl⟩,q⟩
 | ref p=>
  cases rx
  have e':(∃ xs,SqL X.K H p xs/\n=xs.length)∨∃ xs,SqT X.K H p xs/\n=xs.length:=e
  rcases e' with ⟨xs,hx,e'⟩|⟨xs,hx,e'⟩
  ·subst e'
   obtain⟨its,r',pl,hz⟩:=I.list hx
   have hlen:=r'.length
   exact Calls.call_len_list pl.isList (by simp only[List.size_toArray];omega) ⟨.int xs.length,H,I.tok _,⟨_,by simp only[List.size_toArray];rw[hlen]⟩,q⟩
  ·subst e'
   obtain⟨its,r',pl,hz⟩:=I.tuple hx
   have hlen:=r'.length
   exact len_tuple pl (by simp only[List.size_toArray];omega) ⟨.int xs.length,H,I.tok _,⟨_,by simp only[List.size_toArray];rw[hlen]⟩,q⟩
 | _=>exact(show False from e).elim
end
theorem mT {h:Heap}{dx:Addr}{mA:Str->Option Value}(n:h.Ns1 dx mA):∃ od,h.get? dx=some od/\∀ name,PySem.W.lookIn name od=some (mA name):=by
 obtain⟨o,es,ep,ho,hd,hk,_,hm⟩:=n
 refine⟨o,ho,fun name=>?_⟩
 have e:=hm name
 unfold nsFind findBy at e
 rw[<- Array.find?_toList] at e
 unfold PySem.W.lookIn
 rw[hd]
 dsimp only
 split
 ·rename_i y q
  rw[q] at e
  exact congrArg some e
 ·rename_i q
  rw[q] at e
  have a:es.toList.any (·.refKey)=false:=by
   rw[List.any_eq_false]
   intro y hy
   obtain⟨z,t,hkey⟩:=hk y (Array.mem_toList_iff.mp hy)
   simp[DictEntry.refKey,hkey]
  have a':¬ es.toList.any (·.refKey)=true:=by rw[a];exact Bool.false_ne_true
  rw[if_neg a']
  exact congrArg some e
theorem hJ.some_of {v:V}{o:Option Value}(r:hJ (some v) o):∃ u,o=some u/\RelV v u:=by
 cases o with
 | none=>exact(show False from r).elim
 | some u=>exact⟨u,rfl,r⟩
section
variable {X:Cx}{pins:List (Addr×Obj)}{σ:St}{H:Hp}{s:Shared}{a C dx:Addr}{fs:List (Str×V)}{f:Str}{v:V}{A:Around}{E:Value->Shared->Prop}
theorem rD {prog:Program}{w:World}{env:Env}{e:Expr}{f:Str}{pos:Pos}{s:Shared}{Q:Value->Shared->Prop}(hb:attributeBase e f env (eval e env)=eval e env)
  (h:wpAny (model prog w) A (eval e env) (fun o s₁=>wpAny (model prog w) A (getAttr o f true) Q E s₁) E s):wpAny (model prog w) A (eval (.Attribute e f pos) env) Q E s:=
 Attribute_any_ h (by rw[arm_eval_Attribute,hb])
end
structure Room (k:Nat)(A:Around):Prop where
 hd:k < 1000->A.handled=none
 dp:A.depth+3*(k % 1000)+5 < recursionLimit
 un:A.units+16*(k % 1000)+200 < cLine
theorem Room.deeper {k:Nat}{A:Around}(r:Room (k+1) A)(env:Env)(hk:k % 1000≠999):Room k (A.deeper env):=
 ⟨fun z=>r.hd (by omega),by have:=r.dp;show A.depth+1+3*(k % 1000)+5 < _;omega,by have:=r.un;show A.units+3+16*(k % 1000)+200 < _;omega⟩
theorem Room.depth {k:Nat}{A:Around}(r:Room k A):A.depth < recursionLimit:=by have:=r.dp;omega
def mU:TA:=fun _ H Q=>Q [] H
def eX (ta:TE)(tr:TA):TA:=fun σ H Q=>ta σ H fun x H1=>tr σ H1 fun xs H2=>Q (x::xs) H2
section
variable {X:Cx}{e:Expr}{es:List Expr}{te:TE}{t:TA}{pos:Pos}
theorem dw:PA X [] mU:=fun _ _ _ _ H Q I h=>Calls.spliced_nil ⟨[],H,I,.nil,h⟩
theorem cq (ha:PE X e te)(hr:PA X es t)(hs:starEach (e::es) X.env=(false,eval e X.env)::starEach es X.env:=by rfl):PA X (e::es) (eX te t):=by
 intro pos pins s σ H Q I h
 rw[hs]
 show wpAny _ _ (spliced ((false,eval e X.env)::backTo pos (starEach es X.env))) _ _ s
 refine Calls.spliced_cons (thn (ha pins s σ H _ I h) fun u s1 ⟨x,H1,I1,r1,q1⟩=>?_)
 exact thn (hr pos pins s1 σ H1 _ I1 q1) fun us s2 ⟨xs,H2,I2,r2,q2⟩=>⟨x::xs,H2,I2,.cons r1 r2,q2⟩
def AO (t:TA):TE:=fun σ H Q=>t σ H fun xs H1=>xs.length<=sizeLine/\∀ p,H1 p=none->Q (.ref p) (upd H1 p (.tup xs))
def AQ (t:TA):TE:=fun σ H Q=>t σ H fun xs H1=>xs.length<=sizeLine/\∀ p,H1 p=none->Q (.ref p) (upd H1 p (.lst xs))
theorem kI {x1}(h:PA X es t):PE X (.Tuple es x1 pos) (AO t):=by
 intro pins s σ H Q I hq
 refine wpAny_Tuple_spliced (thn (h pos pins s σ H _ I hq) fun us s1 ⟨xs,H1,I1,r,z,q⟩=>⟨by rw[<- r.length];exact z,?_⟩)
 have hf:H1 s1.heap.objs.size=none:=I1.hok.fresh (Nat.le_refl _)
 refine⟨.ref s1.heap.objs.size,upd H1 s1.heap.objs.size (.tup xs),I1.laid (t':=s1.toks) (fun b u e=>Heap.get?_push_of_some _ e) (Nat.le_refl _) ?_,rfl,q _ hf⟩
 exact⟨z,us,r,⟨_,Heap.get?_push_size _ rfl,rfl,_,rfl⟩⟩
theorem oq (h:PA X es t):PE X (.List es pos) (AQ t):=by
 intro pins s σ H Q I hq
 refine wpAny_List_spliced (thn (h pos pins s σ H _ I hq) fun us s1 ⟨xs,H1,I1,r,z,q⟩=>⟨by rw[<- r.length];exact z,?_⟩)
 have hf:H1 s1.heap.objs.size=none:=I1.hok.fresh (Nat.le_refl _)
 refine⟨.ref s1.heap.objs.size,upd H1 s1.heap.objs.size (.lst xs),I1.laid (t':=s1.toks) (fun b u e=>Heap.get?_push_of_some _ e) (Nat.le_refl _) ?_,rfl,q _ hf⟩
 exact⟨z,us,0,r,Heap.get?_push_size _ rfl⟩
end
abbrev Sp:=List V->Hp->VK->XK->Prop
abbrev CXT:=List Env->Hp->Shared->XK->Value->Shared->Prop
structure Env0 (P:Program)(w:World)(K:PySem.W.Frag)(mg:Str->Option Value)(base:Heap)(A:Around)(outer:List Env)(s:Shared)(H:Hp):Prop where
 frames:A.frames=some outer
 mod:Mod K mg base
 bs:∀ b o,base.get? b=some o->s.heap.get? b=some o/\H b=none
 bsz:base.objs.size<=s.heap.objs.size
 funs:s.heap.FunFrames base outer
 frf:∀ b∈frs outer,H b=none
 hok:HOk P w H s.heap
 bare:AllBare s.gens
def CE (outer:List Env)(P:Program)(w:World)(H:Hp)(s:Shared)(Q:VK)(u:Value)(s':Shared):Prop:=
 ∃ v H',s'.os=s.os/\AllBare s'.gens/\Un (frs outer) [] H H' s.heap s'.heap/\HOk P w H' s'.heap/\RelV v u/\Q v H'
def CR (CX:CXT)(outer:List Env)(P:Program)(w:World)(H:Hp)(s:Shared)(Q:VK)(E:XK)(r:Result)(s':Shared):Prop:=
 match r with
 | .ok (.ret u)=>CE outer P w H s Q u s'
 | .ok _=>False
 | .error e=>CX outer H s E e s'
structure FnOk (P:Program)(w:World)(K:PySem.W.Frag)(mg:Str->Option Value)(base:Heap)(CX:CXT)(k:Nat)(f:Addr)(fd:FuncData)(ps:List Str)(sp:Sp):Prop where
 len:∀ vs H Q E,sp vs H Q E->vs.length=ps.length
 run:∀ (A:Around) (outer:List Env) (s:Shared) (H:Hp) (args:Args) (us:List Value) (vs:List V) (Q:VK) (E:XK),Room k A->Env0 P w K mg base A outer s H->BindsTo s fd args (ps.zip us)->Vals vs us->sp vs H Q E->
  codeAny (model P w) A (.call (.ref f) args) (CR CX outer P w H s Q E) s
theorem Env0.make {P:Program}{w:World}{K:PySem.W.Frag}{mg:Str->Option Value}{base:Heap}{A:Around}{outer:List Env}{s:Shared}{H:Hp}(e:Env0 P w K mg base A outer s H)(C:Addr)(us:List Value)(kw:List (Str×Value)) :
  Env0 P w K mg base (A.under (.builtin "type.__call__" ⟨.ref C::us,kw⟩)) outer s H:=⟨by first|exact e.frames|(simpa[Around.under,Code.envs,Code.isFrame,pushEnvs] using e.frames),e.mod,e.bs,e.bsz,e.funs,e.frf,e.hok,e.bare⟩
section
variable {X:Cx}{pins:List (Addr×Obj)}{σ:St}{H:Hp}{s s':Shared}
theorem Inv.env0 (I:Inv X pins σ H s):Env0 X.prog X.w X.K X.mg X.base X.A X.stack s H:=
 ⟨I.ok.frames,I.ok.mod,I.bs,Nat.le_trans I.ok.bsz I.sz,I.stack,I.stkFree,I.hok,I.bare⟩
theorem Inv.after {Q:VK}{u:Value}(I:Inv X pins σ H s)(h:CE X.stack X.prog X.w H s Q u s'):EP X pins σ Q u s':=by
 obtain⟨v,H',os,bare,un,hok,r,q⟩:=h
 obtain⟨hh,g,d,t,os'⟩:=s'
 obtain rfl:os'=s.os:=os
 exact⟨v,H',I.call (h':=hh) (g':=g) (d':=d) (t':=t) (ch:=[]) un hok bare (fun b z=>absurd z (by simp)),r,q⟩
end
def Binds (K:PySem.W.Frag)(fd:FuncData)(ps:List Str)(ds:List Value):Prop:=
 ∀ (s:Shared) (us:List Value),K.In s.heap->(us++ds).length=ps.length->BindsTo s fd ⟨us,[]⟩ (ps.zip (us++ds))
theorem Binds.all {K:PySem.W.Frag}{fd:FuncData}{ps:List Str}(h:∀ us:List Value,us.length=ps.length->bindArgs fd ⟨us,[]⟩=pure (ps.zip us)):Binds K fd ps []:=fun s us _ hl=>by
 rw[List.append_nil] at hl ⊢
 exact .of_eq (h us hl)
def Passes (CX:CXT)(X:Cx)(E:XK):Prop:=∀ (pins:List (Addr×Obj)) (σ:St) (H:Hp) (s:Shared) (e:Value) (s':Shared),Inv X pins σ H s->CX X.stack H s E e s'->X.xe e s'
structure FnScope (N P:List Str)(sc:Scope):Prop where
 kind:sc.kind=.function
 co:sc.isCoroutine=false
 gen:sc.isGenerator=false
 nd:N.Nodup
 pre:N.take P.length=P
 par:∀ x∈P,sc.names.lookup x=some .local∨sc.names.lookup x=some .cell
 nofree:∀ y∈sc.names,y.2≠.free
theorem ip {kindOf:Str->Option NameKind}{x:Str}:∀ {binds:List (Str×Value)}{m:Str->Option Value},(∀ v,(x,v)∉binds)->bindL kindOf binds m x=m x
 | [],_,_=>rfl
 | (n,v)::r,m,h=>by
  unfold bindL
  rw[ip fun w hw=>h w (List.mem_cons_of_mem _ hw)]
  split
  ·have:x≠n:=by rintro rfl;exact h v List.mem_cons_self
   simp[this]
  ·rfl
theorem iq {kindOf:Str->Option NameKind}{x:Str}:∀ {binds:List (Str×Value)}{m:Str->Option Value},(∀ v,(x,v)∉binds)->bindC kindOf binds m x=m x
 | [],_,_=>rfl
 | (n,v)::r,m,h=>by
  unfold bindC
  rw[iq fun w hw=>h w (List.mem_cons_of_mem _ hw)]
  split
  ·rfl
  ·have:x≠n:=by rintro rfl;exact h v List.mem_cons_self
   simp[this]
theorem ir {kindOf:Str->Option NameKind}{x:Str}{v:Value}:∀ {P:List Str}{vs:List Value}{i:Nat}{m:Str->Option Value},P.Nodup->P[i]? = some x->vs[i]? = some v->kindOf x=some .local->
  bindL kindOf (P.zip vs) m x=some v
 | [],_,_,_,_,h,_,_=>by simp at h
 | _::_,[],_,_,_,_,h,_=>by simp at h
 | p::P,w::vs,0,m,nd,h1,h2,hk=>by
  simp at h1 h2;subst h1;subst h2
  show bindL kindOf ((p,w)::P.zip vs) m p=_
  unfold bindL
  rw[ip fun v hv=>(List.nodup_cons.mp nd).1 (List.of_mem_zip hv).1,if_pos hk]
  simp
 | p::P,w::vs,i+1,m,nd,h1,h2,hk=>by
  show bindL kindOf ((p,w)::P.zip vs) m x=_
  unfold bindL
  exact ir (i:=i) (List.nodup_cons.mp nd).2 (by simpa using h1) (by simpa using h2) hk
theorem iu {kindOf:Str->Option NameKind}{x:Str}{v:Value}:∀ {P:List Str}{vs:List Value}{i:Nat}{m:Str->Option Value},P.Nodup->P[i]? = some x->vs[i]? = some v->kindOf x≠some .local->
  bindC kindOf (P.zip vs) m x=some v
 | [],_,_,_,_,h,_,_=>by simp at h
 | _::_,[],_,_,_,_,h,_=>by simp at h
 | p::P,w::vs,0,m,nd,h1,h2,hk=>by
  simp at h1 h2;subst h1;subst h2
  show bindC kindOf ((p,w)::P.zip vs) m p=_
  unfold bindC
  rw[iq fun v hv=>(List.nodup_cons.mp nd).1 (List.of_mem_zip hv).1,if_neg hk]
  simp
 | p::P,w::vs,i+1,m,nd,h1,h2,hk=>by
  show bindC kindOf ((p,w)::P.zip vs) m x=_
  unfold bindC
  exact iu (i:=i) (List.nodup_cons.mp nd).2 (by simpa using h1) (by simpa using h2) hk
noncomputable def start (N:List Str)(vs:List V):St:=vs.map some++List.replicate (N.length - vs.length) none
noncomputable def dF (CX:CXT)(P:Program)(w:World)(K:PySem.W.Frag)(mg:Str->Option Value)(base:Heap)(N:List Str)(qual:Str)(scope:Scope)(f:Addr)(cd:Value)(A:Around)(outer:List Env)(s:Shared)(H:Hp)(E:XK):Cx where
 prog:=P
 w:=w
 K:=K
 mg:=mg
 base:=base
 A:=A.deeper (envOfC qual scope s.heap.objs.size f cd)
 N:=N
 s₀:=s
 H₀:=H
 env:=envOfC qual scope s.heap.objs.size f cd
 outer:=outer
 stack:=envOfC qual scope s.heap.objs.size f cd::outer
 ex:=[]
 calm:=A.handled.isNone
 fn:=fun _=>true
 pn:=[]
 xe:=fun e s'=>wpAny (model P w) (A.deeper (envOfC qual scope s.heap.objs.size f cd)) (leaving (envOfC qual scope s.heap.objs.size f cd) e) (fun _ s''=>CX outer H s E e s'') (fun e' s''=>CX outer H s E e' s'') s'
theorem jy {sc:Scope}{n:Nat}{x:Str}(h:sc.names.lookup x=some .cell):∃ c,(cellsFrom n sc.names []).lookup x=some c:=by
 have q:=PySem.W.cellsFrom_some sc.names n [] (.inl h)
 exact Option.isSome_iff_exists.mp q
theorem mV {CX:CXT}{P:Program}{w:World}{K:PySem.W.Frag}{mg:Str->Option Value}{base:Heap}{N ps:List Str}{qual:Str}{scope:Scope}{f:Addr}{cd:Value}{A:Around}{outer:List Env}{s s1:Shared}{H:Hp}{E:XK}{us:List Value}{vs:List V}
  (S:FnScope N ps scope) (e0:Env0 P w K mg base A outer s H) (hl:vs.length=ps.length) (r:Vals vs us)
  (x:InCallC s s.heap.objs.size (bindL (envOfC qual scope s.heap.objs.size f cd).kindOf (ps.zip us) fun _=>none) (cellsFrom (s.heap.objs.size+1) scope.names []) (bindC (envOfC qual scope s.heap.objs.size f cd).kindOf (ps.zip us) fun _=>none) s1) :
  Inv (dF CX P w K mg base N qual scope f cd A outer s H E) [] (start N vs) H s1:=by
 have hpl:ps.length<=N.length:=by have:=congrArg List.length S.pre;rw[List.length_take] at this;omega
 obtain⟨h1,tk,rfl,hk⟩:=x.done
 have noA:∀ b:Addr,b∉(dF CX P w K mg base N qual scope f cd A outer s H E).ex:=fun b z=>absurd (show b∈([]:List Addr) from z) (by simp)
 refine⟨⟨e0.mod,S.kind,rfl,rfl,Nat.le_refl _,fun y z c h1 h2=>?_,fun y hy=>?_,fun y c _ h=>?_,fun h=>Option.isNone_iff_eq_none.mp h,Around.frames_deeper e0.frames,.inr ⟨rfl,rfl⟩,fun b z=>absurd z (noA b),e0.bs,e0.bsz,fun b _ _=>noA b,fun b z=>absurd z (noA b),e0.funs,e0.frf⟩,
  rfl,e0.bare,Un.kept hk,⟨_,x.toInCall.ns,fun i y v h1 h2 h3=>?_⟩,fun y c h=>⟨_,x.cell y c h⟩,e0.hok.fresh (Nat.le_refl _),fun y c h=>?_,fun p hp=>absurd (show p∈([]:List (Addr×Obj)) from hp) (by simp),e0.hok.kept hk,?_⟩
 ·exact name_of_addr x.apart (PySem.mem_of_lookup h1) (PySem.mem_of_lookup h2)
 ·have hy:scope.names.lookup y=some .cell∨scope.names.lookup y=some .free:=hy
  rcases hy with hy|hy
  ·exact jy hy
  ·exact absurd rfl (S.nofree _ (PySem.mem_of_lookup hy))
 ·exact Nat.le_of_lt (x.above y c (PySem.mem_of_lookup h))
 ·have hi:i < vs.length:=by
   unfold start at h2
   by_cases hi:i < vs.length
   ·exact hi
   ·rw[List.getElem?_append_right (by simpa using hi)] at h2
    rw[List.getElem?_replicate] at h2
    split at h2<;>cases h2
  have ha:vs[i]? = some v:=by
   unfold start at h2
   rw[List.getElem?_append_left (by simpa using hi),List.getElem?_map] at h2
   cases e:vs[i]? with
   | none=>rw[e] at h2;cases h2
   | some a=>rw[e] at h2;cases h2;rfl
  obtain⟨u,hu,rv⟩:=r.get ha
  have hp:ps[i]? = some y:=by
   rw[<- S.pre,List.getElem?_take_of_lt (by omega)];exact h1
  have ndP:ps.Nodup:=by rw[<- S.pre];exact S.nd.sublist (List.take_sublist _ _)
  refine⟨u,rv,?_⟩
  rcases S.par y (List.mem_of_getElem? hp) with k|k
  ·exact .inl ⟨k,ir ndP hp hu k⟩
  ·obtain⟨c,e⟩:=jy (n:=s.heap.objs.size+1) k
   refine .inr ⟨.inl k,c,e,?_⟩
   have q:=x.cell y c e
   rw[iu ndP hp hu (by show scope.names.lookup y≠_;rw[k];decide)] at q
   exact q
 ·exact e0.hok.fresh (Nat.le_of_lt (x.above y c (PySem.mem_of_lookup h)))
 ·unfold start
  show _=N.length
  rw[List.length_append,List.length_map,List.length_replicate]
  omega
theorem ou {CX:CXT}{P:Program}{w:World}{K:PySem.W.Frag}{mg:Str->Option Value}{base:Heap}{k:Nat}{f:Addr}{name qual:Str}{params:Arguments}{body:List Stmt}{scope:Scope}{dV kV doc pm cdv ct oc:Value}{an od:Option Addr}
  {osl:Array (Option Value)}{N ps:List Str}{sp:Sp} (lk:K.lookup f=some ⟨oc,od,.func (PySem.W.fnOf name qual params body scope dV kV doc pm an cdv ct),osl⟩) (hcd:PySem.W.codeIn K cdv qual=true) (S:FnScope N ps scope)
  (hk9:k % 1000≠999) (len:∀ vs H Q E,sp vs H Q E->vs.length=ps.length)
  (hbody:∀ (A:Around) (outer:List Env) (s:Shared) (H:Hp) (vs:List V) (Q:VK) (E:XK),Room k (A.deeper (envOfC qual scope s.heap.objs.size f cdv))->sp vs H Q E->
   ∃ t,PSs (dF CX P w K mg base N qual scope f cdv A outer s H E) body t/\t {nx:=fun _ H'=>Q .non H',rt:=Q} (start N vs) H) :
  FnOk P w K mg base CX (k+1) f (PySem.W.fnOf name qual params body scope dV kV doc pm an cdv ct) ps sp:=by
 refine⟨len,fun A outer s H args us vs Q E hr e0 hb r hsp=>?_⟩
 have hl:=len _ _ _ _ hsp
 have KX:K.In s.heap:=e0.mod.kin.keeps fun b o e=>(e0.bs b o e).1
 have lim:s.heap.NoLimit:=e0.mod.nolimit.keeps fun b o e=>(e0.bs b o e).1
 have hkind:∀ y∈ps.zip us,scope.names.lookup y.1=some .local∨(scope.names.lookup y.1=some .cell/\((cellsFrom (s.heap.objs.size+1) scope.names []).lookup y.1).isSome=true):=fun ⟨n,v⟩ hy=>by
  rcases S.par n (List.of_mem_zip hy).1 with q|q
  ·exact .inl q
  ·exact .inr ⟨q,PySem.W.cellsFrom_some _ _ _ (.inl q)⟩
 refine codeAny_call_function hr.depth (KX _ _ lk) rfl S.co S.gen rfl (PySem.W.codeRec_of KX hcd) (hb _ _ _ _ ?_)
 refine wpAny_newFunctionEnv_cells S.kind hkind fun env he s1 x=>?_
 subst he
 refine⟨lim.keeps x.toInCall.keep,codeAny_func ?_⟩
 obtain⟨t,ht,hq⟩:=hbody A outer s H vs Q E (hr.deeper _ hk9) hsp
 have I:Inv (dF CX P w K mg base N qual scope f cdv A outer s H E) [] (start N vs) H s1:=mV S e0 hl r x
 refine wpAny_mono (ht [] s1 (start N vs) H _ I hq) (fun fl s' hs=>?_) fun e s' hs=>hs
 have fin:∀ {σ':St}{H':Hp}{v:V}{u:Value},Inv (dF CX P w K mg base N qual scope f cdv A outer s H E) [] σ' H' s'->RelV v u->Q v H'->CE outer P w H s Q u s':=
  fun {σ' H' v u} J rv q=>⟨v,H',J.os,J.bare,J.base,J.hok,rv,q⟩
 cases fl with
 | ret u=>
  obtain⟨v,σ',H',J,rv,q⟩:=hs
  exact fin J rv q
 | next=>
  obtain⟨σ',H',J,q⟩:=hs
  exact fin (v:=V.non) (u:=Value.none) J rfl q
 | brk=>
  obtain⟨_,_,_,q⟩:=hs
  exact False.elim q
 | cont=>
  obtain⟨_,_,_,q⟩:=hs
  exact False.elim q
section
variable {X:Cx}{x:Str}{p pos:Pos}{e:Expr}{es:List Expr}{t:TA}{id T:String}{r:List V->Hp->VK->Prop}
def tCB (r:List V->Hp->VK->Prop)(t:TA):TE:=fun σ H Q=>t σ H fun vs H1=>r vs H1 Q
theorem eY (hc:c8 X (.builtin id) r)(hg:Gl X x)(hm:X.mg x=none)(hv:bootBuiltins x=some (.builtin id))(ha:PA X (e::es) t)(hn:x≠"__name__":=by decide) (hdb:(x == ("__debug__" : Str))=false:=by decide)
  (he:starEach (e::es) X.env=(false,eval e X.env)::starEach es X.env:=by rfl) (hpl:(backTo pos (starEach es X.env)).any (·.1)=false:=by rfl):PE X (.Call (.Name x p) (e::es) [] pos) (tCB r t):=by
 intro pins s σ H Q I h
 refine wpAny_Call_Name_kw (eT I hg hm hv ?_ hn hdb)
 exact PyProof.Rows.callWith_builtin1 (thn (ha pos pins s σ H _ I h) fun us s1 ⟨vs,H1,I1,r1,q1⟩=>hc pins s1 σ H1 vs us Q I1 r1 q1) he hpl
theorem iw (hc:c8 X (.type T) r)(hg:Gl X x)(hm:X.mg x=none)(hv:bootBuiltins x=some (.type T))(ha:PA X (e::es) t)(hn:x≠"__name__":=by decide) (hdb:(x == ("__debug__" : Str))=false:=by decide)
  (he:starEach (e::es) X.env=(false,eval e X.env)::starEach es X.env:=by rfl) (hpl:(backTo pos (starEach es X.env)).any (·.1)=false:=by rfl):PE X (.Call (.Name x p) (e::es) [] pos) (tCB r t):=by
 intro pins s σ H Q I h
 refine wpAny_Call_Name_kw (eT I hg hm hv ?_ hn hdb)
 exact PyProof.Rows.callWith_type1 (thn (ha pos pins s σ H _ I h) fun us s1 ⟨vs,H1,I1,r1,q1⟩=>hc pins s1 σ H1 vs us Q I1 r1 q1) he hpl
end
end L2
namespace HT
open PySem PyProof.Rows
section
variable {prog:Program}{w:World}{A:Around}{E:Value->Shared->Prop}{s:Shared}
noncomputable def sIx (n d:Nat):Option Int->Nat
 | none=>d
 | some v=>if v < 0 then (v+(n:Int)).toNat else min v.toNat n
end
end HT
namespace L2
open PySem PySem.Spec PyProof.Rows
abbrev TO:=St->Hp->(Option Int->Hp->Prop)->Prop
def PO (X:Cx)(e:Option Expr)(t:TO):Prop:=
 ∀ (pins:List (Addr×Obj)) (s:Shared) (σ:St) (H:Hp) (Q:Option Int->Hp->Prop),Inv X pins σ H s->t σ H Q->
  wpAny (model X.prog X.w) X.A (evalPart e X.env) (fun u s'=>∃ o H',Inv X pins σ H' s'/\IsPart u o/\Q o H') X.xe s
def rE:TO:=fun _ H Q=>Q none H
def xS (t:TE):TO:=fun σ H Q=>t σ H fun x H1=>∃ i,x=.int i/\Q (some i) H1
section
variable {X:Cx}{e:Expr}{te:TE}{lo hi:Option Expr}{tl th:TO}{pos p2:Pos}
theorem rF:PO X none rE:=by
 intro pins s σ H Q I h
 rw[evalPart_none]
 exact wpAny_pure ⟨none,H,I,.none,h⟩
theorem rG (h:PE X e te):PO X (some e) (xS te):=by
 intro pins s σ H Q I hw
 rw[evalPart_some]
 refine thn (h pins s σ H _ I hw) fun u s1 ⟨x,H1,I1,r1,q1⟩=>?_
 obtain⟨i,rfl,q⟩:=q1
 obtain⟨t,rfl⟩:=r1
 exact⟨some i,H1,I1,.int i t,q⟩
def SlR (X:Cx)(r:V->Option Int->Option Int->Hp->VK->Prop):Prop:=
 ∀ (pins:List (Addr×Obj)) (s:Shared) (σ:St) (H:Hp) (x:V) (v vl vu:Value) (lo hi:Option Int) (sl:Addr) (Q:VK),Inv X pins σ H s->RelV x v->s.heap.IsSliceOf sl vl vu .none->IsPart vl lo->IsPart vu hi->r x lo hi H Q->
  ∃ T id,typeLookup (.type T) "__getitem__" = pure (some (.builtin id))/\s.TypeIs v T/\wpAny (model X.prog X.w) X.A (getItem v (.ref sl)) (EP X pins σ Q) X.xe s
def tSl (r:V->Option Int->Option Int->Hp->VK->Prop)(te:TE)(tl th:TO):TE:=fun σ H Q=>te σ H fun x H1=>tl σ H1 fun l H2=>th σ H2 fun u H3=>r x l u H3 Q
theorem jz {r:V->Option Int->Option Int->Hp->VK->Prop}(hr:SlR X r)(he:PE X e te)(hl:PO X lo tl)(hu:PO X hi th):PE X (.Subscript e (.Slice lo hi none p2) pos) (tSl r te tl th):=by
 intro pins s σ H Q I h
 refine Subscript_ (thn (he pins s σ H _ I h) fun v s1 ⟨x,H1,I1,r1,q1⟩=>?_)
 refine wpAny_Slice (thn (hl pins s1 σ H1 _ I1 q1) fun vl s2 ⟨l,H2,I2,pl,q2⟩=>thn (hu pins s2 σ H2 _ I2 q2) fun vu s3 ⟨u,H3,I3,pu,q3⟩=>?_)
 rw[evalPart_none]
 refine wpAny_pure ?_
 have I4:Inv X pins σ H3 {s3 with heap:=s3.heap.push {cls:=.type "slice",data:=.fields #[vl,vu,.none]}}:=I3.kept (t':=s3.toks) fun b ob q=>Heap.get?_push_of_some _ q
 obtain⟨T,id,hT,ht,hg⟩:=hr pins {s3 with heap:=s3.heap.push {cls:=.type "slice",data:=.fields #[vl,vu,.none]}} σ H3 x v vl vu l u s3.heap.objs.size Q I4 r1 (Heap.IsSliceOf.new ..) pl pu q3
 show wpAny (model X.prog X.w) X.A (subscriptTail e (.Slice lo hi none p2) v (.ref s3.heap.objs.size)) (EP X pins σ Q) X.xe {s3 with heap:=s3.heap.push {cls:=.type "slice",data:=.fields #[vl,vu,.none]}}
 exact tail_any (ops:=[.ref s3.heap.objs.size,v]) ht hT hg (by with_unfolding_all rfl)
noncomputable def mW (xs:List V)(lo hi:Option Int):List V:=(xs.drop (HT.sIx xs.length 0 lo)).take (HT.sIx xs.length xs.length hi - HT.sIx xs.length 0 lo)
theorem jA (xs:List V)(lo hi:Option Int):(mW xs lo hi).length<=xs.length:=by
 unfold mW
 rw[List.length_take,List.length_drop]
 omega
end
noncomputable def ixN (n:Nat)(i:Int):Option Nat:=if 0<=i then (if i < n then some i.toNat else none) else if -(n:Int)<=i then some (i+n).toNat else none
noncomputable def atI {α:Type}(xs:List α)(i:Int):Option α:=(ixN xs.length i).bind fun j=>xs[j]?
theorem rH {n:Nat}{i:Int}{j:Nat}(h:ixN n i=some j):seqIndex? i n=some j/\j < n/\-(n:Int)<=i/\i < n:=by
 unfold ixN at h
 by_cases h0:0<=i
 ·rw[if_pos h0] at h
  by_cases h1:i < n
  ·rw[if_pos h1] at h
   have e:i.toNat=j:=Option.some.inj h
   exact⟨by rw[seqIndex_of h0 h1,e],by omega,by omega,h1⟩
  ·rw[if_neg h1] at h;cases h
 ·rw[if_neg h0] at h
  by_cases h1 : -(n:Int)<=i
  ·rw[if_pos h1] at h
   have e:(i+n).toNat=j:=Option.some.inj h
   exact⟨by rw[seqIndex_neg (by omega) h1,e],by omega,h1,by omega⟩
  ·rw[if_neg h1] at h;cases h
theorem iW {α:Type}{xs:List α}{i:Int}{v:α}(h:atI xs i=some v):∃ j,seqIndex? i xs.length=some j/\xs[j]? = some v/\j < xs.length/\-(xs.length:Int)<=i/\i < xs.length:=by
 unfold atI at h
 cases e:ixN xs.length i with
 | none=>rw[e] at h;cases h
 | some j=>
  rw[e] at h
  obtain⟨h1,h2,h3,h4⟩:=rH e
  exact⟨j,h1,h,h2,h3,h4⟩
def rJ (b:Expr):Prop:=∀ o i,subscripted b false o i=operate [o,i] (getItem o i)
def IxR (X:Cx)(r:R2):Prop:=
 ∀ (value slice:Expr) (pins:List (Addr×Obj)) (s:Shared) (σ:St) (H:Hp) (x y:V) (v u:Value) (Q:VK),Inv X pins σ H s->RelV x v->RelV y u->r x y H Q->
  subscripted slice false v u=operate [v,u] (getItem v u)->wpAny (model X.prog X.w) X.A (subscriptTail value slice v u) (EP X pins σ Q) X.xe s
def MtR (X:Cx)(id:String)(r:V->List V->Hp->VK->Prop):Prop:=
 ∀ (pins:List (Addr×Obj)) (s:Shared) (σ:St) (H:Hp) (x:V) (xs:List V) (v:Value) (us:List Value) (Q:VK),Inv X pins σ H s->RelV x v->Vals xs us->r x xs H Q->
  wpAny (model X.prog X.w) X.A (call (.builtin id) (v::us)) (EP X pins σ Q) X.xe s
section
variable {X:Cx}{a b:Expr}{ta tb:TE}{pos:Pos}
theorem IxR.or {r r':R2}(h:IxR X r)(h':IxR X r'):IxR X (fun x y H Q=>r x y H Q∨r' x y H Q):=by
 intro value slice pins s σ H x y v u Q I rx ry q hs
 rcases q with q|q
 ·exact h value slice pins s σ H x y v u Q I rx ry q hs
 ·exact h' value slice pins s σ H x y v u Q I rx ry q hs
theorem xT {r:R2}(hr:IxR X r)(ha:PE X a ta)(hb:PE X b tb)(hs:rJ b):PE X (.Subscript a b pos) (tOp r ta tb):=by
 intro pins s σ H Q I h
 exact Subscript_ (vj ha hb I h fun v u s2 x y H2 I2 rx ry q=>hr a b pins s2 σ H2 x y v u Q I2 rx ry q (hs _ _))
def xU (K:PySem.W.Frag):R2:=fun x y H Q=>∃ p xs i v,x=.ref p/\y=.int i/\SqL K H p xs/\atI xs i=some v/\Q v H
def xV (K:PySem.W.Frag):R2:=fun x y H Q=>∃ p xs i v,x=.ref p/\y=.int i/\SqT K H p xs/\atI xs i=some v/\Q v H
def xW:R2:=fun x y H Q=>∃ z i c,x=.str z/\y=.int i/\z.length<=sizeLine/\atI z.cps.toList i=some c/\Q (.str ⟨#[c]⟩) H
theorem rK:IxR X (xU X.K):=by
 intro value slice pins s σ H x y v u Q I rx ry h hs
 obtain⟨p,xs,i,z,rfl,rfl,hq,he,q⟩:=h
 cases rx
 obtain⟨t,rfl⟩:=ry
 obtain⟨its,r,pl,hz⟩:=I.list hq
 obtain⟨j,h1,h2,h3,h4,h5⟩:=iW he
 obtain⟨w,ew,rw'⟩:=r.get h2
 have hl:=r.length
 have hn:=gp
 have fin:EP X pins σ Q w s:=⟨z,H,I,rw',q⟩
 by_cases h0:0<=i
 ·have hj:i.toNat=j:=by
   rw[seqIndex_of h0 h5] at h1
   exact Option.some.inj h1
  exact item_listR pl.isList h0 (by omega) (by rw[hj];simpa using ew) fin hs
 ·have hj:(i+(its.toArray.size:Int)).toNat=j:=by
   rw[seqIndex_neg (by omega) h4] at h1
   rw[List.size_toArray,<- hl]
   exact Option.some.inj h1
  exact subscriptTail_builtinR (x:=w) pl.isList.typeIs slot_list_getitem.lookup
   (wpAny_getItem_list_neg (Q:=fun r s'=>r=w/\EP X pins σ Q r s') pl.isList (by omega) (by rw[List.size_toArray]<;>omega) (by omega) (by rw[hj];simpa using ew) ⟨rfl,fin⟩) hs
theorem vw:IxR X (xV X.K):=by
 intro value slice pins s σ H x y v u Q I rx ry h hs
 obtain⟨p,xs,i,z,rfl,rfl,hq,he,q⟩:=h
 cases rx
 obtain⟨t,rfl⟩:=ry
 obtain⟨its,r,pl,hz⟩:=I.tuple hq
 obtain⟨j,h1,h2,h3,h4,h5⟩:=iW he
 obtain⟨w,ew,rw'⟩:=r.get h2
 have hl:=r.length
 have hn:=gp
 have fin:EP X pins σ Q w s:=⟨z,H,I,rw',q⟩
 exact subscriptTail_builtinR (x:=w) pl.typeIs slot_tuple_getitem.lookup
  (getItem_tuple (j:=j) (Q:=fun r s'=>r=w/\EP X pins σ Q r s') pl (by omega) (by omega) (by rw[List.size_toArray,<- hl];exact h1) (by simpa using ew) ⟨rfl,fin⟩) hs
theorem vx:IxR X xW:=by
 intro value slice pins s σ H x y v u Q I rx ry h hs
 obtain⟨z,i,c,rfl,rfl,hz,he,q⟩:=h
 obtain⟨t,rfl⟩:=rx
 obtain⟨t',rfl⟩:=ry
 obtain⟨j,h1,h2,h3,h4,h5⟩:=iW he
 have hl:z.cps.toList.length=z.length:=by simp[Str.length]
 rw[hl] at h1 h4 h5
 have hn:=gp
 exact tail_any (typeIs_str s z t) slot_str_getitem.lookup (getItem_str (c:=c) (by
  have e1:decide (i < -(2 ^ 63:Int))=false:=decide_eq_false (by omega)
  have e2:decide (i >= 2 ^ 63)=false:=decide_eq_false (by omega)
  rw[e1,e2,Bool.or_false]) (by rw[h1];simpa using h2) ⟨.str ⟨#[c]⟩,H,I.tok _,⟨_,rfl⟩,q⟩) hs
def rIx (K:PySem.W.Frag):R2:=fun x y H Q=>xU K x y H Q∨xV K x y H Q∨xW x y H Q
theorem vy:IxR X (rIx X.K):=rK.or (vw.or vx)
theorem iX (lo hi:Option Int)(n:Nat):(sliceBounds lo hi none n).1=((HT.sIx n 0 lo:Nat):Int)/\(sliceBounds lo hi none n).2.1=((HT.sIx n n hi:Nat):Int)/\(sliceBounds lo hi none n).2.2=1:=by
 refine⟨?_,?_,rfl⟩
 ·cases lo with
  | none=>simp[sliceBounds,HT.sIx]
  | some i=>
   simp only[sliceBounds,HT.sIx,Option.getD_none,show (1:Int) > 0 by decide,if_true]
   by_cases h:i < 0
   ·simp only[h,if_true]<;>omega
   ·simp only[h,if_false]<;>omega
 ·cases hi with
  | none=>simp[sliceBounds,HT.sIx]
  | some i=>
   simp only[sliceBounds,HT.sIx,Option.getD_none,show (1:Int) > 0 by decide,if_true]
   by_cases h:i < 0
   ·simp only[h,if_true]<;>omega
   ·simp only[h,if_false]<;>omega
theorem hU (its:List Value)(lo hi:Option Int):slicePick its.toArray lo hi none=((its.drop (HT.sIx its.length 0 lo)).take (HT.sIx its.length its.length hi - HT.sIx its.length 0 lo)).toArray:=by
 obtain⟨h1,h2,h3⟩:=iX lo hi its.toArray.size
 unfold slicePick
 rw[h1,h2,h3]
 simp only[sliceRange_one,pick_run,List.size_toArray]<;>rfl
def AR (K:PySem.W.Frag):V->Option Int->Option Int->Hp->VK->Prop:=fun x lo hi H Q=>∃ a xs,x=.ref a/\SqL K H a xs/\∀ p,H p=none->Q (.ref p) (upd H p (.lst (mW xs lo hi)))
theorem lG:SlR X (AR X.K):=by
 intro pins s σ H x v vl vu lo hi sl Q I rx hs pl pu h
 obtain⟨a,xs,rfl,hx,q⟩:=h
 cases rx
 obtain⟨its,r,ht,hz⟩:=I.list hx
 have hlen:=r.length
 refine⟨"list",_,slot_list_getitem.lookup,ht.isList.typeIs,?_⟩
 refine wpAny_getItem_list_slice ht.isList hs pl pu .none (by simp) ?_ (by rw[List.size_toArray]<;>omega)
 rw[hU,<- hlen]
 refine⟨.ref s.heap.objs.size,_,I.laid (t':=s.toks) (o:=.lst (mW xs lo hi)) (fun b ob q=>Heap.get?_push_of_some _ q) (Nat.le_refl _) ?_,rfl,q _ (I.hok.fresh (Nat.le_refl _))⟩
 exact⟨Nat.le_trans (jA xs lo hi) hz,_,0,(r.drop (HT.sIx xs.length 0 lo)).take (HT.sIx xs.length xs.length hi - HT.sIx xs.length 0 lo),Heap.get?_push_size _ rfl⟩
theorem dS:c8 X (.type "list") (fun xs H Q=>∃ p ys,xs=[.ref p]/\(SqL X.K H p ys∨SqT X.K H p ys)/\∀ l,H l=none->Q (.ref l) (upd H l (.lst ys))):=by
 intro pins s σ H xs us Q I r h
 obtain⟨p,ys,rfl,hq,q⟩:=h
 obtain⟨u,rfl,rx⟩:=vals1 r
 cases rx
 have fin:∀ (its:List Value),Vals ys its->ys.length<=sizeLine->∀ (h':Heap) (c':Nat),(∀ b o',s.heap.get? b=some o'->h'.get? b=some o')->
   h'.get? s.heap.objs.size=some {cls:=.type "list",dict:=none,data:=.seq its.toArray c',slots:=#[]}->EP X pins σ Q (.ref s.heap.objs.size) {s with heap:=h'}:=fun its r' hz h' c' kp e=>
  ⟨.ref s.heap.objs.size,_,I.laid (t':=s.toks) kp (Nat.le_refl _) (show cu X.prog X.w _ h' _ (.lst ys) from ⟨hz,its,c',r',e⟩),rfl,q _ (I.hok.fresh (Nat.le_refl _))⟩
 rcases hq with hq|hq
 ·obtain⟨its,r',pl,hz⟩:=I.list hq
  have hlen:=r'.length
  obtain⟨o,ho,hc,n,hd⟩:=pl.isList
  exact call_list_seq p (.inl rfl) ho hc hd (fun h' c' kp e=>fin its r' hz h' c' kp e) (by simp only[List.size_toArray]<;>omega)
 ·obtain⟨its,r',pl,hz⟩:=I.tuple hq
  have hlen:=r'.length
  obtain⟨o,ho,hc,n,hd⟩:=pl
  exact call_list_seq p (.inr rfl) ho hc hd (fun h' c' kp e=>fin its r' hz h' c' kp e) (by simp only[List.size_toArray]<;>omega)
theorem hW:c8 X (.type "tuple") (fun xs H Q=>∃ p ys,xs=[.ref p]/\((SqL X.K H p ys/\∀ l,H l=none->Q (.ref l) (upd H l (.tup ys)))∨(SqT X.K H p ys/\Q (.ref p) H))):=by
 intro pins s σ H xs us Q I r h
 obtain⟨p,ys,rfl,h⟩:=h
 obtain⟨u,rfl,rx⟩:=vals1 r
 cases rx
 rcases h with ⟨hq,q⟩|⟨hq,q⟩
 ·obtain⟨its,r',pl,hz⟩:=I.list hq
  have hlen:=r'.length
  refine call_tuple_list pl.isList (fun h' kp=>?_) (by simp only[List.size_toArray]<;>omega)
  have I1:Inv X pins σ H {s with heap:=h'}:=I.kept (t':=s.toks) kp
  have I2:Inv X pins σ (upd H h'.objs.size (.tup ys)) {s with heap:=h'.push {cls:=.type "tuple",data:=.seq its.toArray}}:=
   I1.laid (t':=s.toks) (fun b o e=>Heap.get?_push_of_some _ e) (Nat.le_refl _) (show cu X.prog X.w _ _ _ (.tup ys) from ⟨hz,its,r',IsTup.new _ _⟩)
  exact⟨.ref h'.objs.size,_,I2,rfl,q _ (I1.hok.fresh (Nat.le_refl _))⟩
 ·obtain⟨its,r',pl,hz⟩:=I.tuple hq
  exact call_tuple_same pl ⟨.ref p,H,I,rfl,q⟩
def tyV (K:PySem.W.Frag)(T:String)(x:V)(H:Hp):Prop:=match x with
 | .str _=>T = "str"
 | .int _=>T = "int"
 | .ref p=>(T = "list"/\∃ xs,SqL K H p xs)∨(T = "tuple"/\∃ o,K.lookup p=some o/\o.cls=.type "tuple"/\o.dict=none)∨
   (T = "dict"/\((∃ kvs,H p=some (.dK kvs))∨∃ kvs,H p=some (.dT kvs)))∨(T = "set"/\∃ S n,H p=some (.set S n))
 | _=>False
theorem vz {pins:List (Addr×Obj)}{σ:St}{H:Hp}{s:Shared}{T:String}{x:V}{v:Value}(I:Inv X pins σ H s)(r:RelV x v)(ty:tyV X.K T x H) :
  s.TypeIs v T/\∀ a,v=.ref a->∃ ob,s.heap.get? a=some ob/\ob.dict=none:=by
 cases x with
 | str z=>
  obtain⟨t,rfl⟩:=r
  cases (show T = "str" from ty)
  exact⟨typeIs_str s z t,fun _ e=>nomatch e⟩
 | int i=>
  obtain⟨t,rfl⟩:=r
  cases (show T = "int" from ty)
  exact⟨typeIs_int s i t,fun _ e=>nomatch e⟩
 | ref p=>
  cases r
  rcases ty with ⟨rfl,xs,hq⟩|⟨rfl,o,hk,hc,hd⟩|⟨rfl,hk⟩|⟨rfl,S,n,hk⟩
  ·obtain⟨its,_,pl,_⟩:=I.list hq
   refine⟨pl.isList.typeIs,fun a e=>?_⟩
   cases e
   obtain⟨o,n,e,c,hd,_⟩:=pl
   exact⟨o,e,hd⟩
  ·refine⟨⟨o,I.kIn p o hk,hc⟩,fun a e=>?_⟩
   cases e
   exact⟨o,I.kIn _ o hk,hd⟩
  ·have z:∃ o,s.heap.get? p=some o/\o.ExactDict:=by
    rcases hk with ⟨kvs,hk⟩|⟨kvs,hk⟩
    ·obtain⟨_,_,_,_,o,_,_,e,ex,_⟩:=I.hok p _ hk
     exact⟨o,e,ex⟩
    ·obtain⟨_,_,_,_,o,_,_,e,ex,_⟩:=I.hok p _ hk
     exact⟨o,e,ex⟩
   obtain⟨o,e,ex⟩:=z
   refine⟨⟨o,e,ex.1⟩,fun a e2=>?_⟩
   cases e2
   exact⟨o,e,ex.2.1⟩
  ·obtain⟨o,_,_,_,e,ex,_⟩:=I.hok p _ hk
   refine⟨⟨o,e,ex.1⟩,fun a e2=>?_⟩
   cases e2
   exact⟨o,e,ex.2.1⟩
 | _=>exact False.elim ty
def tBM (K:PySem.W.Frag)(T:String)(r:V->List V->Hp->VK->Prop)(to:TE)(t:TA):TE:=fun σ H Q=>to σ H fun x H1=>tyV K T x H1/\t σ H1 fun xs H2=>r x xs H2 Q
variable {o e:Expr}{es:List Expr}{to:TE}{t:TA}{name:Str}{apos cpos:Pos}{T id:String}{r:V->List V->Hp->VK->Prop}
theorem oy (pa:PlainAttrs T)(slot:Slot T name id)(hty:typeOf (.builtin id)=pure (.type "method_descriptor")) (hm:MtR X id r) (ho:PE X o to) (ha:PA X (e::es) t)
  (hbase:attributeBase o name X.env (eval o X.env)=eval o X.env:=by rfl)
  (hfew:((backTo cpos (starEach (e::es) X.env)).all (fun x=>!x.1)&&(backToKw cpos (keywordEach [] X.env)).all (fun x=>x.1.isSome)
  &&decide ((e::es).length+([]:List Keyword).length+(if ([]:List Keyword).isEmpty then 0 else 1) < 30))=true:=by rfl)
  (hline:(apos.endLine == cpos.line)=true:=by rfl) (hs:starEach (e::es) X.env=(false,eval e X.env)::starEach es X.env:=by rfl) (hplain:(backTo cpos (starEach es X.env)).any (·.1)=false:=by rfl) :
  PE X (.Call (.Attribute o name apos) (e::es) [] cpos) (tBM X.K T r to t):=by
 intro pins s σ H Q I h
 refine wpAny_Call_method_late hbase hfew hline rfl (thn (ho pins s σ H _ I h) fun v s1 ⟨x,H1,I1,r1,ty,q1⟩=>?_)
 obtain⟨h1,h2⟩:=vz I1 r1 ty
 refine⟨T,id,pa,slot,hty,h1,h2,?_⟩
 have hA:=ha cpos pins s1 σ H1 _ I1 q1
 rw[hs] at hA ⊢
 refine Calls.callWith_builtin (by show (false||(backTo cpos (starEach es X.env)).any (·.1))=false;rw[hplain]<;>rfl) (Calls.evalArgs_plain ?_)
 exact thn hA fun us s2 ⟨vs,H2,I2,r2,q2⟩=>hm pins s2 σ H2 x vs v us Q I2 r1 r2 q2
end
def MtM (X:Cx)(id:String)(r:V->List V->Hp->VK->Prop):Prop:=
 ∀ (pins:List (Addr×Obj)) (s:Shared) (σ:St) (H:Hp) (x:V) (xs:List V) (v:Value) (us:List Value) (Q:VK),Inv X pins σ H s->RelV x v->Vals xs us->r x xs H Q->
  wpAny (model X.prog X.w) X.A (call (.builtin id) (v::us)) (EP X pins σ Q) X.xe s
theorem Vals.one:∀ {x:V}{us:List Value},Vals [x] us->∃ u,us=[u]/\RelV x u
 | _,_,.cons r .nil=>⟨_,rfl,r⟩
theorem Vals.rep {xs:List V}{us:List Value}(h:Vals xs us):∀ k:Nat,Vals (List.replicate k xs).flatten (List.replicate k us).flatten
 | 0=>.nil
 | k+1=>by
  rw[List.replicate_succ,List.replicate_succ,List.flatten_cons,List.flatten_cons]
  exact Vals.append h (Vals.rep h k)
theorem foldl_rep (its:List Value):∀ (k:Nat) (acc:List Value),
  List.foldl (fun x1 x2=>x1++x2) acc.toArray (List.replicate k its.toArray)=(acc++(List.replicate k its).flatten).toArray
 | 0,acc=>by simp
 | k+1,acc=>by
  have e:acc.toArray++its.toArray=(acc++its).toArray:=by simp
  have e2:(acc++its)++(List.replicate k its).flatten=acc++(List.replicate (k+1) its).flatten:=by
   rw[List.replicate_succ,List.flatten_cons,List.append_assoc]
  rw[<- e2,<- foldl_rep its k (acc++its),<- e,List.replicate_succ,List.foldl_cons]
section
variable {X:Cx}{pins:List (Addr×Obj)}{σ:St}{H:Hp}{s:Shared}{l b:Addr}{xs ys zs:List V}
theorem Inv.lset {its its':List Value}{n:Nat}{f:Array Value->Array Value}{t':Nat}(I:Inv X pins σ H s)(hH:H l=some (.lst xs))
  (e:s.heap.get? l=some {cls:=.type "list",data:=.seq its.toArray n}) (hf:f its.toArray=its'.toArray) (hv:Vals ys its') (hz:ys.length<=sizeLine) :
  Inv X pins σ (upd H l (.lst ys)) {s with heap:=s.heap.update l (Obj.mapSeq f),toks:=t'}:=by
 have q:=PySem.IsL.update e f
 rw[hf] at q
 refine I.write (x:=l) (e:=l) (by rw[hH];exact trivial) (.inl rfl) (fun b' u hb hu=>(Heap.get?_update_other s.heap (Obj.mapSeq f) (Ne.symm hb)).trans hu) ⟨_,q⟩ ?_
 exact⟨hz,its',_,hv,q⟩
theorem Inv.lnew {its:List Value}{t':Nat}(I:Inv X pins σ H s)(hv:Vals ys its)(hz:ys.length<=sizeLine) :
  Inv X pins σ (upd H s.heap.objs.size (.lst ys)) {s with heap:=s.heap.push {cls:=.type "list",data:=.seq its.toArray},toks:=t'}:=
 I.laid (fun _ _ q=>Heap.get?_push_of_some _ q) (Nat.le_refl _) ⟨hz,its,0,hv,Heap.get?_push_size _ rfl⟩
theorem Inv.fresh (I:Inv X pins σ H s):H s.heap.objs.size=none:=I.hok.fresh (Nat.le_refl _)
theorem Inv.lstM (I:Inv X pins σ H s)(hH:H l=some (.lst xs)):xs.length<=sizeLine/\∃ (its:List Value) (n:Nat),Vals xs its/\xs.length=its.length/\s.heap.get? l=some {cls:=.type "list",data:=.seq its.toArray n}:=by
 obtain⟨z,its,n,r,e⟩:=I.hok l _ hH
 exact⟨z,its,n,r,r.length,e⟩
theorem oz {n:Nat}(h:n<=sizeLine):Builtin.List.listTooLong n=false:=by
 unfold Builtin.List.listTooLong
 exact decide_eq_false (by omega)
end
section
variable {X:Cx}
def rL:V->List V->Hp->VK->Prop:=fun x vs H Q=>∃ l xs y,x=.ref l/\vs=[y]/\H l=some (.lst xs)/\xs.length < sizeLine/\Q .non (upd H l (.lst (xs++[y])))
theorem iy:MtM X "list.append" rL:=by
 intro pins s σ H x vs v us Q I rx rv h
 obtain⟨l,xs,y,rfl,rfl,hH,hz,q⟩:=h
 cases rx
 obtain⟨u,rfl,ru⟩:=rv.one
 obtain⟨z,its,n,r,hl,e⟩:=I.lstM hH
 refine call_meets F.slot_list_append ⟨_,e,rfl⟩ F.entry_list_append (F.args_list_append_2 _ _) (PySem.list_append l its.toArray n u (by rw[List.size_toArray];omega)) ⟨e,?_⟩
 refine⟨.non,_,I.lset (its':=its++[u]) hH e (by simp) (r.append (.cons ru .nil)) ?_,rfl,q⟩
 rw[List.length_append,List.length_singleton]
 omega
theorem len_rep {α:Type}(xs:List α)(k:Nat):(List.replicate k xs).flatten.length=k*xs.length:=by
 induction k with
 | zero=>simp
 | succ k ih=>rw[List.replicate_succ,List.flatten_cons,List.length_append,ih,Nat.succ_mul,Nat.add_comm]
end
end L2
namespace Att
open PySem PySem.W PySem.Calls PyProof.Rows
theorem f6 {P:Params}{h:Heap}:∀ (ns:List Int) (vs:List Value),WellAll P h vs (ns.map WData.int)->IntsAre vs ns:=by
 intro ns
 induction ns with
 | nil=>
  intro vs w
  rw[List.map_nil] at w
  cases w
  exact .nil
 | cons n ns ih=>
  intro vs w
  rw[List.map_cons] at w
  cases w with
  | cons a b=>
   cases a
   exact .cons _ _ (ih _ b)
theorem mX {l:OpenLaw}{n:Nat}(hn:l.most=some n){P:Params}{h:Heap}{args:List WData}{vals:List Value}
  (hpre:l.row.toRowW.claim.pre args=true) (hwl:WellAll P h vals args) :
  ∃ a vs ns,vals=[Value.ref a]/\args=[WData.list (ns.map WData.int)]/\h.get? a=some {cls:=.type "list",data:=.seq vs.toArray}/\IntsAre vs ns/\ns.length<=n:=by
 have hsh:WShape.hasAll [] args [.list .int]=true:=(pre_splitW hpre).1
 have hc:l.pre.holds [] {args:=args} = true:=(pre_splitW hpre).2
 obtain⟨d,r,rfl,h1,h2⟩:=hasAllW_cons hsh
 obtain rfl:=hasAllW_nil h2
 obtain⟨xs,rfl,h3⟩:=hasW_list h1
 obtain⟨ns,rfl⟩:=items_int h3
 have hlen:ns.length<=n:=by
  unfold OpenLaw.pre at hc
  have h4:(WTm.not (.lt (.lit (.int (n:Int))) (.len (.arg 0)))).holds [] {args:=[.list (ns.map .int)]} = true:=by
   have h4:=(holds_andW hc).1
   rw[hn] at h4
   exact h4
  have h5:=condW_of h4 (w_not (w_lt w_lit (w_len_list (w_arg rfl))))
  rw[List.length_map] at h5
  refine Nat.le_of_not_lt fun q=>?_
  have q':(n:Int) < ((ns.length:Nat):Int):=by omega
  first
   | (rw[decide_eq_true q'] at h5;exact absurd h5 (by decide))
   | (simp at h5;omega)
 cases hwl with
 | cons w1 w2=>
  cases w2
  cases w1 with
  | list ho hall=>exact⟨_,_,ns,rfl,rfl,ho,f6 ns _ hall,hlen⟩
theorem mY (l:OpenLaw)(args:List WData):l.row.toRowW.claim.post args (.bool true) args=true:=
 postW_of (r:=l.row.toRowW) (X:=(true == true))
  (show WShape.has [] (.bool true) .bool=true by first|rfl|decide|simp[WShape.has,WShape.arms,WShape.armsAll])
  (show (WTm.eq .res (.lit (.bool true))).value [] {args:=args,res:=some (.bool true),after:=args} = some (.bool (true == true)) from w_eq_bool (w_res rfl) w_lit) rfl
theorem attach_call {l:OpenLaw}{n:Nat}{q:Program}{loose:List Str}{XP:(Str->Option Value)->Heap->Prop}{YP:World->Heap->Prop}{d:DefRec}
  (hn:l.most=some n) (hdf:d.params.defaults=[])
  (call:∀ (w:World) (s₀ s₁:Shared) (mg mb:Str->Option Value) (fa:Addr) (o:Obj) (pm cd doc:Value) (a:Addr) (vs:List Value) (ns:List Int),
   Ground q loose [] XP w s₀ mg mb s₁.heap->YP w s₁.heap->
   s₁.heap.get? fa=some o->o.data=.func (docDef d.name d.params d.body d.scope pm cd doc)->s₁.heap.CodeRec cd d.name->mg d.name=some (.ref fa)->
   s₁.heap.get? a=some {cls:=.type "list",data:=.seq vs.toArray}->IntsAre vs ns->ns.length<=n->s₁.gens = #[]->
   codeAny (model l.prog w) callerA (.call (.ref fa) ⟨[.ref a],[]⟩) (fun r s'=>r=.ok (.ret (.bool true))/\OldK s₁.heap s'.heap/\s'.os=s₁.os/\AllBare s'.gens) s₁) :
  WalkO q loose XP YP l.row.toRowW d [] (fun f vs=>PySem.call f vs):=by
 intro w s₀ s₁ mg mb G Y fa o pm cd doc dV kV ho hd hcd hD hmg hg args vals as hpre hlay hrd hwl hlo
 obtain rfl:dV=.none:=Dflts.none hD hdf
 obtain rfl:kV=.none:=Dflts.noKw hD
 obtain⟨a,vs,ns,rfl,rfl,hobj,hints,hlen⟩:=mX hn hpre hwl
 refine enter_call (codeAny_mono (call w s₀ s₁ mg mb fa o pm cd doc a vs ns G Y ho (fd_plain hd) hcd hmg hobj hints hlen hg) fun r s' hq=>?_)
 obtain⟨rfl,h2,h3,h4⟩:=hq
 exact⟨.inl ⟨.bool true,.bool true,[],rfl,fun _=>rfl,.bool true,mY l _,fun _=>⟨List.Pairwise.nil,fun _ hm=>(nomatch hm)⟩⟩,h2,h3,h4⟩
end Att
namespace L2
open PySem PySem.Spec PyProof.Rows
def KL (K:PySem.W.Frag)(a:Addr)(xs:List V):Prop:=
 ∃ (its:List Value) (n:Nat),K.lookup a=some {cls:=.type "list",data:=.seq its.toArray n}/\its.length<=sizeLine/\Vals xs its
def Ls (K:PySem.W.Frag)(H:Hp)(a:Addr)(xs:List V):Prop:=Rd H a (.lst xs)∨KL K a xs
theorem iz:∀ {vs:List Value}{ns:List Int},IntsAre vs ns->Vals (ns.map V.int) vs
 | _,_,.nil=>.nil
 | _,_,.cons n t h=>.cons ⟨t,rfl⟩ (iz h)
def vA (H:Hp):Prop:=∀ b,H b=none∨∃ o xs,H b=some (.frz o (.lst xs))
theorem oA {P:Program}{w:World}{K:PySem.W.Frag}{mg mb:Str->Option Value}{CX:CXT}{k:Nat}{fa a:Addr}{fd:FuncData}{x:Str}{sp:Sp}{s₁:Shared}{vs:List Value}{ns:List Int}
  (KX:K.In s₁.heap) (hns:s₁.heap.Ns mainGlobals mg) (hb:s₁.heap.Ns builtinsNs mb) (hbb:∀ x:Str,x≠"__name__"->mb x=bootBuiltins x) (hlim:s₁.heap.NoLimit) (hg:s₁.gens = #[])
  (ha:s₁.heap.get? a=some {cls:=.type "list",data:=.seq vs.toArray}) (hi:IntsAre vs ns) (hl:ns.length<=sizeLine) (hr:Room k callerA)
  (F:∀ base:Heap,K.In base->base.Ns mainGlobals mg->FnOk P w K mg base CX k fa fd [x] sp) (hbind:∀ (s:Shared) (u:Value),BindsTo s fd ⟨[u],[]⟩ [(x,u)])
  (hsp:∀ H:Hp,vA H->Ls K H a (ns.map V.int)->sp [.ref a] H (fun v _=>v=.bl true) fun _ _ _=>False)
  (hCX:∀ H e s',CX [] H s₁ (fun _ _ _=>False) e s'->False) :
  codeAny (model P w) callerA (.call (.ref fa) ⟨[.ref a],[]⟩) (fun r s'=>r=.ok (.ret (.bool true))/\OldK s₁.heap s'.heap/\s'.os=s₁.os/\AllBare s'.gens) s₁:=by
 have rv:=iz hi
 have lenV:=hi.length
 -- from an abstract heap in which nothing but the script may be tracked
 have core:∀ H:Hp,vA H->Ls K H a (ns.map V.int)->HOk P w H s₁.heap->(∀ b,H b≠none->b=a)->(H a≠none->K.lookup a=none)->
   codeAny (model P w) callerA (.call (.ref fa) ⟨[.ref a],[]⟩) (fun r s'=>r=.ok (.ret (.bool true))/\OldK s₁.heap s'.heap/\s'.os=s₁.os/\AllBare s'.gens) s₁:=by
  intro H hO hS hok hA hK
  have base_of:∀ {b:Addr}{o:Obj},s₁.heap.get? b=some o->H b=none->(iS s₁.heap H).get? b=some o:=fun e n=>nU e n
  have noA:∀ {b:Addr}{o:Obj}{es:Array DictEntry}{ep:Nat},s₁.heap.get? b=some o->o.data=.dict es ep->H b=none:=fun {b o es ep} e d=>by
   cases q:H b with
   | none=>rfl
   | some u=>
    have e':b=a:=hA b (by rw[q];simp)
    subst e'
    rw[ha] at e;cases e
    have d':Data.seq vs.toArray _=Data.dict es ep:=d
    cases d'
  have nsK:∀ {b:Addr}{m:Str->Option Value},s₁.heap.Ns b m->(iS s₁.heap H).Ns b m:=fun {b m} ⟨o,es,ep,e,d,r⟩=>⟨o,es,ep,base_of e (noA e d),d,r⟩
  have hKb:K.In (iS s₁.heap H):=fun b o e=>base_of (KX b o e) (by
   cases q:H b with
   | none=>rfl
   | some u=>
    have e':b=a:=hA b (by rw[q];simp)
    subst e'
    rw[hK (by rw[q];simp)] at e;cases e)
  have hM:Mod K mg (iS s₁.heap H):=⟨hKb,nsK hns,⟨mb,nsK hb,hbb⟩,let ⟨mc,h1,h2⟩:=hlim;⟨mc,nsK h1,h2⟩⟩
  have e0:Env0 P w K mg (iS s₁.heap H) callerA [] s₁ H:=⟨rfl,hM,fun b o e=>rl e,Nat.le_of_eq (mO _ _),trivial,fun b hb=>absurd (show b∈([]:List Addr) from hb) (by simp),hok,.of_eq hg⟩
  refine codeAny_mono ((F _ hKb (nsK hns)).run callerA [] s₁ H ⟨[.ref a],[]⟩ [.ref a] [.ref a] _ _ hr e0 (hbind s₁ (.ref a)) (.cons rfl .nil) (hsp H hO hS)) fun r s' h=>?_
  cases r with
  | error e=>exact(hCX H e s' h).elim
  | ok fl=>
   cases fl with
   | next=>exact False.elim h
   | brk=>exact False.elim h
   | cont=>exact False.elim h
   | ret u=>
    obtain⟨v,H',os,bare,un,hok',r',q⟩:=h
    have q':v=.bl true:=q
    subst q'
    obtain rfl:u=Value.bool true:=r'
    refine⟨rfl,OldK.of_keep fun b o e=>?_,os,bare⟩
    cases q:H b with
    | none=>exact un.keep b o e q (by intro z;exact absurd (show b∈([]:List Addr) from z) (by simp)) (by simp)
    | some u=>
     rcases hO b with z|⟨ob,xs,z⟩
     ·rw[q] at z;cases z
     ·have z2:=un.frzs b ob _ z
      obtain⟨e1,_⟩:=hok b _ z
      obtain⟨e2,_⟩:=hok' b _ z2
      rw[e] at e1;cases e1
      exact e2
 cases hk:K.lookup a with
 | some o=>
  -- the script is one of the module's own objects
  have e:=KX a o hk
  rw[ha] at e
  cases e
  refine core (fun _=>none) (fun _=>.inl rfl) (.inr ⟨vs,_,hk,by rw[lenV];exact hl,rv⟩) (fun b u z=>by have z':(none:Option HO)=some u:=z;cases z') (fun b z=>absurd rfl z) fun z=>absurd rfl z
 | none=>
  refine core (fun b=>if b=a then some (.frz {cls:=.type "list",data:=.seq vs.toArray} (.lst (ns.map V.int))) else none) (fun b=>?_) (.inl (.inr ⟨{cls:=.type "list",data:=.seq vs.toArray},if_pos rfl⟩)) (fun b u z=>?_) (fun b z=>?_) fun _=>hk
  ·by_cases hb:b=a
   ·exact .inr ⟨_,_,if_pos hb⟩
   ·exact .inl (if_neg hb)
  ·by_cases hb:b=a
   ·have z':=(if_pos hb).symm.trans z
    cases z'
    subst hb
    exact⟨ha,by rw[List.length_map];exact hl,vs,_,rv,ha⟩
   ·have z':=(if_neg hb).symm.trans z
    cases z'
  ·by_cases hb:b=a
   ·exact hb
   ·exact absurd (if_neg hb) z
theorem rM {l:PySem.W.OpenLaw}{n k:Nat}{q:Program}{loose:List Str}{XP:(Str->Option Value)->Heap->Prop}{YP:World->Heap->Prop}{d:DefRec}{K:Params->PySem.W.Frag}{CX:World->CXT}{sp:World->Sp}{x:Str}
  (hn:l.most=some n) (hn2:n<=sizeLine) (hdf:d.params.defaults=[]) (hr:Room k callerA)
  (hY:∀ (w:World) (h:Heap),YP w h->(K w.params).In h)
  (F:∀ (w:World) (mg:Str->Option Value) (fa:Addr) (h:Heap),(K w.params).In h->h.Ns mainGlobals mg->mg d.name=some (.ref fa)->
   ∃ fd:FuncData,(∀ (s:Shared) (u:Value),BindsTo s fd ⟨[u],[]⟩ [(x,u)])/\
    ∀ base:Heap,(K w.params).In base->base.Ns mainGlobals mg->FnOk l.prog w (K w.params) mg base (CX w) k fa fd [x] (sp w))
  (hsp:∀ (w:World) (H:Hp) (a:Addr) (ns:List Int),ns.length<=n->vA H->Ls (K w.params) H a (ns.map V.int)->sp w [.ref a] H (fun v _=>v=.bl true) fun _ _ _=>False)
  (hCX:∀ (w:World) (H:Hp) (s:Shared) (e:Value) (s':Shared),CX w [] H s (fun _ _ _=>False) e s'->False) :
  PySem.W.WalkO q loose XP YP l.row.toRowW d [] (fun f vs=>PySem.call f vs):=by
 refine Att.attach_call hn hdf fun w s₀ s₁ mg mb fa o pm cd doc a vs ns G Y ho hd hcd hmg hobj hints hlen hg=>?_
 have KX:=hY w _ Y
 obtain⟨fd,hb,hF⟩:=F w mg fa _ KX G.T.g hmg
 exact oA KX G.T.g G.T.b G.T.builtins G.T.nolimit hg hobj hints (Nat.le_trans hlen hn2) hr hF hb (fun H hO hS=>hsp w H a ns hlen hO hS) fun H e s'=>hCX w H s₁ e s'
noncomputable def dA (s:Stmt):Arguments:=match s with
 | .FunctionDef _ a _ _ _ _ _ _ _ _=>a
 | _=>{posonlyargs:=[],args:=[],vararg:=none,kwonlyargs:=[],kw_defaults:=[],kwarg:=none,defaults:=[]}
noncomputable def cE (s:Stmt):List Stmt:=match s with
 | .FunctionDef _ _ b _ _ _ _ _ _ _=>b
 | _=>[]
noncomputable def bP (s:Stmt):Scope:=match s with
 | .FunctionDef _ _ _ _ _ _ sc _ _ _=>sc
 | _=>{kind:=.function,names:=[],isGenerator:=false,isCoroutine:=false}
structure Fun (K:PySem.W.Frag)(x qual:Str)(st:Stmt)(f:Addr)(fd:FuncData):Prop where
 ex:∃ (oc:Value) (od:Option Addr) (kV doc pm:Value) (an:Option Addr) (cdv ct:Value) (osl:Array (Option Value)),
  fd=PySem.W.fnOf x qual (dA st) (cE st) (bP st) .none kV doc pm an cdv ct/\K.lookup f=some ⟨oc,od,.func fd,osl⟩/\PySem.W.codeIn K cdv qual=true
 kp:PySem.W.keepIn K (.ref f)=true
section
variable {P:Program}{w:World}{K:PySem.W.Frag}{mg:Str->Option Value}{base:Heap}
theorem Fun.binds {x qual:Str}{st:Stmt}{f:Addr}{fd:FuncData}{ps:List Str}(F:Fun K x qual st f fd)
  (h:∀ (kV doc pm:Value) (an:Option Addr) (cdv ct:Value) (us:List Value),us.length=ps.length->bindArgs (PySem.W.fnOf x qual (dA st) (cE st) (bP st) .none kV doc pm an cdv ct) ⟨us,[]⟩=pure (ps.zip us)):Binds K fd ps []:=by
 obtain⟨oc,od,kV,doc,pm,an,cdv,ct,osl,rfl,lk,hcd⟩:=F.ex
 exact .all (h kV doc pm an cdv ct)
theorem gq {x qual:Str}{st:Stmt}{f:Addr}{oc:Value}{od an:Option Addr}{osl:Array (Option Value)}{kV doc pm cdv ct:Value}(l:K.lookup f=some ⟨oc,od,.func (PySem.W.fnOf x qual (dA st) (cE st) (bP st) .none kV doc pm an cdv ct),osl⟩)
  (c:PySem.W.codeIn K cdv qual=true) (k:PySem.W.keepIn K (.ref f)=true):Fun K x qual st f (PySem.W.fnOf x qual (dA st) (cE st) (bP st) .none kV doc pm an cdv ct):=⟨⟨oc,od,kV,doc,pm,an,cdv,ct,osl,rfl,l,c⟩,k⟩
end
def bO (H H':Hp):Prop:=∀ b o,H b=some o->H' b=some o
theorem bO.refl (H:Hp):bO H H:=fun _ _ h=>h
theorem bO.trans {H H1 H2:Hp}(a:bO H H1)(b:bO H1 H2):bO H H2:=fun c o h=>b c o (a c o h)
theorem bO.free {H H':Hp}(e:bO H H'){l:Addr}(h:H' l=Option.none):H l=Option.none:=by
 cases q:H l with
 | none=>rfl
 | some o=>
  rw[e l o q] at h
  cases h
theorem bO.seq {K:PySem.W.Frag}{H H':Hp}{a:Addr}{xs:List V}(e:bO H H')(h:SqL K H a xs):SqL K H' a xs:=by
 rcases h with (h|⟨o,h⟩)|h
 ·exact .inl (.inl (e _ _ h))
 ·exact .inl (.inr ⟨o,e _ _ h⟩)
 ·exact .inr h
theorem b8 {X:Cx}{e:Expr}{t t':TE}(h:PE X e t)(m:∀ σ H Q,t' σ H Q->t σ H Q):PE X e t':=fun pins s σ H Q I q=>h pins s σ H Q I (m σ H Q q)
theorem gr {X:Cx}{e:Expr}{t t':TT}(h:PT X e t)(m:∀ σ H Q,t' σ H Q->t σ H Q):PT X e t':=fun pins s σ H Q I q=>h pins s σ H Q I (m σ H Q q)
theorem iY {X:Cx}{e:List Expr}{t t':TA}(h:PA X e t)(m:∀ σ H Q,t' σ H Q->t σ H Q):PA X e t':=fun pos pins s σ H Q I q=>h pos pins s σ H Q I (m σ H Q q)
theorem de {X:Cx}{e:Stmt}{t t':TS}(h:PS X e t)(m:∀ D σ H,t' D σ H->t D σ H):PS X e t':=fun pins s σ H D I q=>h pins s σ H D I (m D σ H q)
theorem eZ {X:Cx}{e:List Stmt}{t t':TS}(h:PSs X e t)(m:∀ D σ H,t' D σ H->t D σ H):PSs X e t':=fun pins s σ H D I q=>h pins s σ H D I (m D σ H q)
theorem kJ {X:Cx}{tg e:Expr}{t t':TI}(h:PI X tg e t)(m:∀ σ H Q,t' σ H Q->t σ H Q):PI X tg e t':=fun pins s σ H Q I q=>h pins s σ H Q I (m σ H Q q)
def cxC (X:Cx)(scope:Scope)(cl:List (Str×Addr))(N:List Str)(C:Addr)(s3:Shared)(H3:Hp)(fp:List Addr)(xe:Value->Shared->Prop:=fun _ _=>False):Cx:=
 {X with N:=N,s₀:=s3,H₀:=H3,env:=compEnvC scope cl C X.env,outer:=X.stack,ex:=fp,fn:=fun _=>false,pn:=[],xe:=xe}
structure CompSc (X:Cx)(scope:Scope)(cl:List (Str×Addr))(Fr:List (Str×Nat))(Tg:List Str):Prop where
 clos:closureFor scope X.env=pure cl
 kind:scope.kind=.function
 nocell:∀ y∈scope.names,y.2≠.cell
 loc:∀ y∈scope.names,y.2=.local->scope.names.lookup y.1=some .local
 sub:∀ x c,cl.lookup x=some c->X.env.cells.lookup x=some c
 has:∀ x,((relabel scope X.env).names.lookup x=some .cell∨(relabel scope X.env).names.lookup x=some .free)->∃ c,cl.lookup x=some c
 out:∀ p∈Fr,X.N[p.2]? = some p.1/\(X.env.kindOf p.1=some .cell∨X.env.kindOf p.1=some .free)/\((relabel scope X.env).names.lookup p.1=some .cell∨(relabel scope X.env).names.lookup p.1=some .free)
noncomputable def stC (Fr:List (Str×Nat))(Tg:List Str)(σ:St):St:=Fr.map (fun p=>(σ[p.2]?).join)++List.replicate Tg.length none
section
variable {X:Cx}{scope:Scope}{cl:List (Str×Addr)}{Fr:List (Str×Nat)}{Tg:List Str}{pins:List (Addr×Obj)}{σ:St}{H3:Hp}{s3:Shared}{fp:List Addr}
theorem vB (S:CompSc X scope cl Fr Tg)(I:Inv X pins σ H3 s3)(hf:∀ b∈fp,eK X pins H3 b)(hfs:∀ b∈fp,b < s3.heap.objs.size)(N:List Str)(xe:Value->Shared->Prop):(cxC X scope cl N s3.heap.objs.size s3 H3 fp xe).Ok where
 mod:=I.ok.mod
 kind:=S.kind
 glob:=I.ok.glob
 blt:=I.ok.blt
 above:=Nat.le_refl _
 inj:=fun x y c h1 h2=>I.ok.inj x y c (S.sub x c h1) (S.sub y c h2)
 has:=fun x h=>S.has x h
 cab:=fun x c h _=>absurd (show false=true from h) (by decide)
 hd:=I.ok.hd
 frames:=I.ok.frames
 stk:=.inl rfl
 exf:=fun b hb=>⟨Nat.ne_of_lt (hfs b hb),fun x c e z=>(hf b hb).2.2.2.2.1 x c (S.sub x c e) z⟩
 bs:=I.bs
 bsz:=Nat.le_trans I.ok.bsz I.sz
 noex:=fun b o e hb=>by
  rcases (hf b hb).2.2.2.1 with z|z
  ·exact I.ok.noex b o e z
  ·exact absurd (Nat.lt_of_lt_of_le (Heap.lt_size e) (Nat.le_trans I.ok.bsz z)) (Nat.lt_irrefl _)
 exfs:=fun b hb z=>by
  rcases List.mem_cons.mp (I.stkSub b z) with z|z
  ·exact(hf b hb).2.1 z
  ·exact(hf b hb).2.2.1 z
 funs:=I.stack
 frf:=I.stkFree
theorem mZ (S:CompSc X scope cl Fr Tg)(I:Inv X pins σ H3 s3)(hf:∀ b∈fp,eK X pins H3 b)(hfs:∀ b∈fp,b < s3.heap.objs.size){h':Heap}{tk:Nat}
  (hns:h'.Ns s3.heap.objs.size (fun _=>none)) (hk:∀ b o,s3.heap.get? b=some o->h'.get? b=some o) (xe:Value->Shared->Prop) :
  Inv (cxC X scope cl (Fr.map (·.1)++Tg) s3.heap.objs.size s3 H3 fp xe) [] (stC Fr Tg σ) H3 {s3 with heap:=h',toks:=tk} where
 ok:=vB S I hf hfs _ _
 os:=rfl
 bare:=I.bare
 base:=Un.kept hk
 loc:=by
  refine⟨_,hns,fun i x v e1 e2 e3=>?_⟩
  have hi:i < Fr.length:=by
   by_cases hi:i < Fr.length
   ·exact hi
   ·unfold stC at e2
    rw[List.getElem?_append_right (by simpa using hi),List.getElem?_replicate] at e2
    split at e2<;>cases e2
  have e1':(Fr.map (·.1))[i]? = some x:=by
   rw[<- e1]
   exact(List.getElem?_append_left (by simpa using hi)).symm
  have e2':(Fr.map (fun p=>(σ[p.2]?).join))[i]? = some (some v):=by
   rw[<- e2]
   exact(List.getElem?_append_left (by simpa using hi)).symm
  rw[List.getElem?_map] at e1' e2'
  obtain⟨p,hp,rfl⟩:=Option.map_eq_some_iff.mp e1'
  rw[hp] at e2'
  have e2'':(σ[p.2]?).join=some v:=Option.some.inj e2'
  have e4:σ[p.2]? = some (some v):=by
   cases q:σ[p.2]? with
   | none=>rw[q] at e2'';cases e2''
   | some y=>rw[q] at e2'';rw[show y=some v from e2'']
  obtain⟨o1,o2,o3⟩:=S.out p (List.mem_of_getElem? hp)
  obtain⟨m,hn,hl⟩:=I.loc
  have hv:Vis X.env.scope p.1:=by
   rcases o2 with o2|o2
   ·exact .inr (.inl o2)
   ·exact .inr (.inr o2)
  obtain⟨u,r,l⟩:=hl p.2 p.1 v o1 e4 hv
  refine⟨u,r,.inr ⟨o3,?_⟩⟩
  obtain⟨c,hc⟩:=S.has p.1 o3
  refine⟨c,hc,?_⟩
  have hc':=S.sub _ _ hc
  rcases l with ⟨k,_⟩|⟨_,c2,h2,z⟩
  ·rcases o2 with o2|o2<;>(rw[k] at o2;cases o2)
  ·rw[hc'] at h2;cases h2
   obtain⟨o,ho,hd⟩:=z
   exact⟨o,hk _ _ ho,hd⟩
 cell:=fun x c e=>by
  obtain⟨v,o,ho,hd⟩:=I.cell x c (S.sub x c e)
  exact⟨v,o,hk _ _ ho,hd⟩
 free:=I.hok.fresh (Nat.le_refl _)
 freeC:=fun x c e=>I.freeC x c (S.sub x c e)
 pin:=fun p hp=>absurd (show p∈([]:List (Addr×Obj)) from hp) (by simp)
 hok:=I.hok.kept hk
 len:=by
  unfold stC
  show _=(Fr.map (·.1)++Tg).length
  simp
end
def PTs (X:Cx)(ifs:List Expr)(t:TT):Prop:=
 ∀ (pins:List (Addr×Obj)) (s:Shared) (σ:St) (H:Hp) (Q:Bool->Hp->Prop),Inv X pins σ H s->t σ H Q->
  wpAny (model X.prog X.w) X.A (forIn ifs true fun c r=>if r=true then do let ok <- isTrue c X.env (eval c X.env);pure (ForInStep.yield ok) else pure (ForInStep.yield r)) (TP X pins σ Q) X.xe s
theorem fW {M:Model}{A:Around}{E:Value->Shared->Prop}{s:Shared}{env:Env}{Q:Bool->Shared->Prop}(h:Q false s):∀ ifs:List Expr,
  wpAny M A (forIn ifs false fun c r=>if r=true then do let ok <- isTrue c env (eval c env);pure (ForInStep.yield ok) else pure (ForInStep.yield r)) Q E s
 | []=>by
  rw[List.forIn_nil]
  exact wpAny_pure h
 | c::cs=>by
  rw[List.forIn_cons]
  rw[if_neg Bool.false_ne_true]
  exact wpAny_bind (wpAny_pure (fW h cs))
theorem rN {X:Cx}:PTs X [] (fun _ H Q=>Q true H):=fun pins s σ H Q I q=>by
 rw[List.forIn_nil]
 exact wpAny_pure ⟨H,I,q⟩
theorem oB {X:Cx}{c:Expr}{cs:List Expr}{t u:TT}(hc:PT X c t)(hr:PTs X cs u):PTs X (c::cs) (xJ t u):=fun pins s σ H Q I q=>by
 rw[List.forIn_cons,if_pos rfl]
 refine wpAny_bind (wpAny_bind (thn (hc pins s σ H _ I q) fun b s1 ⟨H1,I1,q1⟩=>wpAny_pure ?_))
 cases b with
 | true=>exact hr pins s1 σ H1 Q I1 q1
 | false=>exact fW ⟨H1,I1,q1⟩ cs
def oC (wi:TI)(start:St->St)(g:TG)(tt:TT)(te:TE):TE:=fun σ H Q=>wi σ H fun J H1=>∀ D,H1 D=none->∃ W:Nat->Nat->St->Hp->Prop,(∃ m,W 0 m (start σ) (upd H1 D (.lst [])))/\
 ∀ i m σ' H',W i m σ' H'->(J.stop i H'/\Q (.ref D) H')∨(J.go i H'/\∀ x H2,J.yld i H' x H2->g x σ' H2 fun σ2 H3=>tt σ2 H3 fun b H4=>
  if b=true then te σ2 H4 fun v H5=>∃ ys,H5 D=some (.lst ys)/\ys.length < sizeLine/\∃ m',m' < m/\W (i+1) m' σ2 (upd H5 D (.lst (ys++[v])))
  else ∃ m',m' < m/\W (i+1) m' σ2 H4)
section
variable {X:Cx}{scope:Scope}{cl:List (Str×Addr)}{Fr:List (Str×Nat)}{Tg:List Str}{elt tg iter:Expr}{ifs:List Expr}{wi:TI}{g:TG}{tt:TT}{te:TE}{pos:Pos}
theorem iZ (scope:Scope)(pos:Pos)(it acc:Value)(env:Env) :
  compTurn (.ListComp elt [⟨tg,iter,ifs,0⟩] scope pos) 0 it acc env=(do
   standAt iter.pos
   match <- pyNext it with
   | none=>pure (.done .next)
   | some v=>
    letOwnedTupleGo tg it v
    assign tg env v
    let ok <- forIn ifs true fun c r=>if r=true then do let ok <- isTrue c env (eval c env);pure (ForInStep.yield ok) else pure (ForInStep.yield r)
    if ok=true then
     (do let _ <- call (.builtin "list.append") [acc,<- eval elt env])
    again (.compLoop (.ListComp elt [⟨tg,iter,ifs,0⟩] scope pos) 0 it acc env)):=by rfl
theorem gu {XE:Addr->Shared->Hp->List Addr->Value->Shared->Prop}(hc:X.calm=true)(S:CompSc X scope cl Fr Tg)
  (hg:∀ C s H fp,PG (cxC X scope cl (Fr.map (·.1)++Tg) C s H fp (XE C s H fp)) tg g) (ht:∀ C s H fp,PTs (cxC X scope cl (Fr.map (·.1)++Tg) C s H fp (XE C s H fp)) ifs tt)
  (he:∀ C s H fp,PE (cxC X scope cl (Fr.map (·.1)++Tg) C s H fp (XE C s H fp)) elt te)
  {pins:List (Addr×Obj)}{σ:St}{H2:Hp}{s2:Shared}{it:Addr}{fp:List Addr}{tn:Nat->Heap->Prop}{J:It}{Q:VK} (I2:Inv X pins σ H2 s2) (T:Turn X.prog X.w X.K tg J fp it tn) (st2:tn 0 s2.heap)
  (f2:∀ b∈fp,eK X pins H2 b)
  (q:∀ D,H2 D=none->∃ W:Nat->Nat->St->Hp->Prop,(∃ m,W 0 m (stC Fr Tg σ) (upd H2 D (.lst [])))/\
   ∀ i m σ' H',W i m σ' H'->(J.stop i H'/\Q (.ref D) H')∨(J.go i H'/\∀ x H2,J.yld i H' x H2->g x σ' H2 fun σ2 H3=>tt σ2 H3 fun b H4=>
    if b=true then te σ2 H4 fun v H5=>∃ ys,H5 D=some (.lst ys)/\ys.length < sizeLine/\∃ m',m' < m/\W (i+1) m' σ2 (upd H5 D (.lst (ys++[v])))
    else ∃ m',m' < m/\W (i+1) m' σ2 H4))
  {E:Value->Shared->Prop}{RR:Value->Env->Result->Shared->Prop}
  (hR:∀ D C s' H',(∃ m,s'.heap.Ns C m)->Inv X pins σ H' s'->eK X pins H' C->Q (.ref D) H'->∀ V:Env,V.locals=C->V.frame=X.env.frame->RR (.ref D) V (.ok .next) s')
  (hX:∀ D C s3 H3,(∀ s5 σ5 H5,Inv (cxC X scope cl (Fr.map (·.1)++Tg) C s3 H3 fp (XE C s3 H3 fp)) [] σ5 H5 s5->(∃ m,s5.heap.Ns C m)/\Inv X pins σ H5 s5/\eK X pins H5 C)->∀ e s',XE C s3 H3 fp e s'->
   notedBy (model X.prog X.w) X.A (compEnvC scope cl C X.env) (fun x s''=>∀ V:Env,V.locals=C->V.frame=X.env.frame->RR (.ref D) V (.error x) s'') e s') :
  wpAny (model X.prog X.w) X.A (newList []) (fun acc s₃=>wpAny (model X.prog X.w) X.A (newFunctionEnv scope X.env.globals cl [] X.env.qual none .none (some X.env)) (fun cenv s₄=>
   codeAny (model X.prog X.w) X.A (.compStart (.ListComp elt [⟨tg,iter,ifs,0⟩] scope pos) 0 (.ref it) acc {cenv with scope:=relabel scope X.env}) (RR acc cenv) s₄) E s₃) E s2:=by
 have fsz:∀ b∈fp,b < s2.heap.objs.size:=fun b hb=>by
  obtain⟨o,e,_⟩:=T.obj _ _ st2 b hb
  exact Heap.lt_size e
 -- the accumulator
 refine wpAny_newObj_type ?_
 have I3:Inv X pins σ (upd H2 s2.heap.objs.size (.lst [])) {s2 with heap:=s2.heap.push {cls:=.type "list",data:=.seq ([]:List Value).toArray},toks:=s2.toks}:=I2.lnew (ys:=[]) (its:=[]) .nil (Nat.zero_le _)
 generalize hD:s2.heap.objs.size=D at I3 ⊢
 have hDn:H2 D=none:=by rw[<- hD];exact I2.fresh
 generalize hs3:({s2 with heap:=s2.heap.push {cls:=.type "list",data:=.seq ([]:List Value).toArray},toks:=s2.toks}:Shared)=s3 at I3
 have k3:∀ b o,s2.heap.get? b=some o->s3.heap.get? b=some o:=fun b o e=>by rw[<- hs3];exact Heap.get?_push_of_some _ e
 have sz3:s3.heap.objs.size=D+1:=by rw[<- hs3,<- hD];exact Heap.size_push ..
 have fszD:∀ b∈fp,b < D:=fun b hb=>by rw[<- hD];exact fsz b hb
 have fsz3:∀ b∈fp,b < s3.heap.objs.size:=fun b hb=>by rw[sz3];exact Nat.lt_succ_of_lt (fszD b hb)
 have f3:∀ b∈fp,eK X pins (upd H2 D (.lst [])) b:=fun b hb=>by
  obtain⟨a1,a2⟩:=f2 b hb
  refine⟨?_,a2⟩
  rw[aD (Nat.ne_of_lt (fszD b hb))]
  exact a1
 obtain⟨W,⟨m0,w0⟩,turn⟩:=q D hDn
 refine wpAny_newFunctionEnv S.nocell (by intro y hy;simp at hy) (fun h4 hns hsb=>codeAny_mono (R:=fun r s'=>∀ V:Env,V.locals=s3.heap.objs.size->V.frame=X.env.frame->RR (.ref D) V r s') ?_ fun r s' z=>z _ rfl rfl) S.kind
 have k4:∀ b o,s3.heap.get? b=some o->h4.get? b=some o:=fun b o e=>
  hsb.extBut b o (Nat.ne_of_lt (Heap.lt_size e)) (Heap.get?_push_of_some _ e)
 have st4:tn 0 h4:=T.keep _ _ _ st2 fun b hb o e=>k4 b o (k3 b o e)
 have I4:=mZ (fp:=fp) (h':=h4) (tk:=s3.toks+([]:List (Str×Value)).length) S I3 f3 fsz3 (by simpa using hns) k4 (XE s3.heap.objs.size s3 (upd H2 D (.lst [])) fp)
 generalize hC:s3.heap.objs.size=C at I4 hns hsb ⊢
 have hX':=hX D C s3 (upd H2 D (.lst []))
 generalize hZ:XE C s3 (upd H2 D (.lst [])) fp=Z at I4 hX'
 generalize hY:cxC X scope cl (Fr.map (·.1)++Tg) C s3 (upd H2 D (.lst [])) fp Z=Y at I4 hX'
 have yP:Y.prog=X.prog:=by rw[<- hY];rfl
 have yw:Y.w=X.w:=by rw[<- hY];rfl
 have yK:Y.K=X.K:=by rw[<- hY];rfl
 have yA:Y.A=X.A:=by rw[<- hY];rfl
 have yc:Y.calm=true:=by rw[<- hY];exact hc
 have yx:Y.xe=Z:=by rw[<- hY];rfl
 have ye:Y.env=compEnvC scope cl C X.env:=by rw[<- hY];rfl
 have yex:Y.ex=fp:=by rw[<- hY];rfl
 have ypn:Y.pn=[]:=by rw[<- hY];rfl
 have yfs:Y.fs=frs X.stack:=by rw[<- hY];rfl
 have yH:Y.H₀=upd H2 D (.lst []):=by rw[<- hY];rfl
 have ys₀:Y.s₀=s3:=by rw[<- hY];rfl
 have hg':PG Y tg g:=by rw[<- hY,<- hZ];exact hg _ _ _ _
 have ht':PTs Y ifs tt:=by rw[<- hY,<- hZ];exact ht _ _ _ _
 have he':PE Y elt te:=by rw[<- hY,<- hZ];exact he _ _ _ _
 have stat:∀ {H':Hp},(∀ b∈fp,H' b=none)->∀ b∈fp,eK Y [] H' b:=fun hn b hb=>by
  have okY:=I4.ok
  refine⟨hn b hb,(okY.exf b (by rw[yex];exact hb)).1,okY.exfs b (by rw[yex];exact hb),.inl (by rw[yex];exact hb),(okY.exf b (by rw[yex];exact hb)).2,fun p hp=>absurd hp (by rw[ypn];simp)⟩
 have fr0:∀ b∈fp,(upd H2 D (.lst [])) b=none:=fun b hb=>(f3 b hb).1
 -- back to the frame
 have back:∀ (s5:Shared) (σ5:St) (H5:Hp),Inv Y [] σ5 H5 s5->(∃ m,s5.heap.Ns C m)/\Inv X pins σ H5 s5/\eK X pins H5 C:=by
  intro s5 σ5 H5 I5
  have hns5:∃ m,s5.heap.Ns C m:=by
   obtain⟨m,hn,_⟩:=I5.loc
   rw[ye] at hn
   exact⟨m,hn⟩
  have un5:Un (frs X.stack) fp (upd H2 D (.lst [])) H5 s3.heap s5.heap:=by
   have u:=I5.base
   rw[yfs,yex,yH,ys₀] at u
   exact u
  have os5:s5.os=s3.os:=by have:=I5.os;rw[ys₀] at this;exact this
  have hok5:HOk X.prog X.w H5 s5.heap:=by have:=I5.hok;rw[yP,yw] at this;exact this
  have hch:∀ b∈fp,(b∈X.ex∨X.s₀.heap.objs.size<=b)/\b≠X.env.locals/\(∀ x c,X.env.cells.lookup x=some c->c≠b)/\∀ p∈X.pn++pins,p.1≠b:=fun b hb=>by
   obtain⟨_,a1,_,a3,a4,a5⟩:=f3 b hb
   exact⟨a3,a1,a4,a5⟩
  have free5:H5 C=none:=by
   have:=I5.free
   rw[ye] at this
   exact this
  exact⟨hns5,I3.call' os5 un5 hok5 I5.bare hch,I3.fpOk (Nat.le_of_eq hC) free5⟩
 have nz:∀ {α:Type}{t:Sem α}{Q:α->Shared->Prop}{s:Shared},wpAny (model X.prog X.w) X.A t Q Z s->wpAny (model X.prog X.w) X.A t Q (notedBy (model X.prog X.w) X.A (compEnvC scope cl C X.env) fun x s''=>∀ V:Env,V.locals=C->V.frame=X.env.frame->RR (.ref D) V (.error x) s'') s:=fun h=>wpAny_mono h (fun _ _ z=>z) fun e s' z=>hX' back e s' z
 have loop:∀ (s5:Shared) (σ5:St) (H5:Hp) (i m:Nat),Inv Y [] σ5 H5 s5->tn i s5.heap->(∀ b∈fp,H5 b=none)->W i m σ5 H5->
   codeAny (model X.prog X.w) X.A (.compLoop (.ListComp elt [⟨tg,iter,ifs,0⟩] scope pos) 0 (.ref it) (.ref D) (compEnvC scope cl C X.env)) (fun r s'=>∀ V:Env,V.locals=C->V.frame=X.env.frame->RR (.ref D) V r s') s5:=by
  intro s5 σ5 H5 i m I5 st5 fr5 w5
  refine codeAny_loop rfl (fun n s'=>∃ i σ' H',Inv Y [] σ' H' s'/\tn i s'.heap/\(∀ b∈fp,H' b=none)/\W i n σ' H') ?_ m ⟨i,σ5,H5,I5,st5,fr5,w5⟩
  rintro n s6 ⟨i,σ6,H6,I6,st6,fr6,w6⟩
  show wpAny _ X.A ((compTurn (.ListComp elt [⟨tg,iter,ifs,0⟩] scope pos) 0 (.ref it) (.ref D) (compEnvC scope cl C X.env)).onRaise (fun x=>do noteFrame x (compEnvC scope cl C X.env);theTreesLotGoes x)) _ _ s6
  refine wpAny_noted ?_
  rw[iZ]
  refine wpAny_bind (wpAny_standAt (wpAny_bind ?_))
  have nx:∀ {α:Type}{t:Sem α}{Q:α->Shared->Prop}{E':Value->Shared->Prop}{s:Shared},wpAny (model X.prog X.w) X.A t Q (fun _ _=>False) s->wpAny (model X.prog X.w) X.A t Q E' s:=fun h=>wpAny_mono h (fun _ _ z=>z) fun _ _ z=>z.elim
  rcases turn i n σ6 H6 w6 with ⟨stop,qn⟩|⟨go,step⟩
  ·have h:=T.done Y yP yw yK yc i [] s6 σ6 H6 (fun _ _=>False) I6 (stat fr6) st6 stop
   rw[yA] at h
   refine nx (thn h fun r s7 ⟨hr,I7⟩=>?_)
   subst hr
   refine wpAny_pure ?_
   obtain⟨b1,b2,b3⟩:=back s7 σ6 H6 I7
   exact hR D C s7 H6 b1 b2 b3 qn
  ·have h:=T.item Y yP yw yK yc i [] s6 σ6 H6 (fun _ _=>False) I6 (stat fr6) st6 go
   rw[yA] at h
   refine nx (thn h fun r s7 ⟨u,hr,h7⟩=>?_)
   subst hr
   refine wpAny_bind (nx (thn h7 fun _ s8 ⟨x,H8,I8,r8,y8,st8,fr8⟩=>?_))
   have I8':=I8.pinned (stat fr8) (T.obj _ _ st8)
   have h9:=hg' _ s8 σ6 H8 x u _ I8' r8 (step x H8 y8)
   rw[yP,yw,yA,yx,ye] at h9
   refine wpAny_bind (nz (thn h9 fun _ s9 ⟨σ9,H9,I9,q9⟩=>?_))
   have h10:=ht' _ s9 σ9 H9 _ I9 q9
   rw[yP,yw,yA,yx,ye] at h10
   refine wpAny_bind (nz (thn h10 fun ok s10 ⟨H10,I10,q10⟩=>?_))
   have again:∀ {σ':St}{H':Hp}{s':Shared},Inv Y ([]++fH fp s8.heap) σ' H' s'->(∃ m',m' < n/\W (i+1) m' σ' H')->∃ m,m < n/\∃ i σ' H',Inv Y [] σ' H' s'/\tn i s'.heap/\(∀ b∈fp,H' b=none)/\W i m σ' H':=fun {σ' H' s'} I' ⟨m',hm,w'⟩=>by
    refine⟨m',hm,i+1,σ',H',I'.unpinned,T.keep _ _ _ st8 fun b hb o e=>(I'.pin (b,o) (List.mem_append_right _ (List.mem_append_right _ (dR hb e)))).1,fun b hb=>?_,w'⟩
    obtain⟨o,e,d⟩:=T.obj _ _ st8 b hb
    exact(I'.pin (b,o) (List.mem_append_right _ (List.mem_append_right _ (dR hb e)))).2.1
   cases ok with
   | false=>
    rw[if_neg Bool.false_ne_true] at q10
    refine wpAny_bind (wpAny_pure (wpAny_pure ⟨rfl,again I10 q10⟩))
   | true=>
    rw[if_pos rfl] at q10
    have h11:=he' _ s10 σ9 H10 _ I10 q10
    rw[yP,yw,yA,yx,ye] at h11
    refine wpAny_bind (wpAny_bind (nz (thn h11 fun y s11 ⟨v,H11,I11,r11,ys,ey,zy,q11⟩=>?_)))
    have h12:=iy (X:=Y) ([]++fH fp s8.heap) s11 σ9 H11 (.ref D) [v] (.ref D) [y] (fun v' H'=>v'=.non/\H'=upd H11 D (.lst (ys++[v]))) I11 rfl (.cons r11 .nil) ⟨D,ys,v,rfl,rfl,ey,zy,rfl,rfl⟩
    rw[yP,yw,yA,yx] at h12
    refine wpAny_bind (nz (thn h12 fun z s12 ⟨v12,H12,I12,r12,e12,e12'⟩=>?_))
    subst e12'
    exact wpAny_pure (wpAny_pure ⟨rfl,again I12 q11⟩)
 have start:=loop {s3 with heap:=h4,toks:=s3.toks+([]:List (Str×Value)).length} (stC Fr Tg σ) (upd H2 D (.lst [])) 0 m0 I4 st4 fr0 w0
 have e5:∀ (s':Shared),s' = {s3 with heap:=h4,toks:=s3.toks+([]:List (Str×Value)).length}->codeAny (model X.prog X.w) X.A (.compLoop (.ListComp elt [⟨tg,iter,ifs,0⟩] scope pos) 0 (.ref it) (.ref D) (compEnvC scope cl C X.env)) (fun r s'=>∀ V:Env,V.locals=C->V.frame=X.env.frame->RR (.ref D) V r s') s':=by
  rintro _ rfl
  exact start
 exact codeAny_compStart_list (e5 _ rfl) (T.self _ _ _ _ _ st4 (e5 _ rfl))
theorem lH (hc:X.calm=true)(S:CompSc X scope cl Fr Tg)(hi:PI X tg iter wi)
  (hg:∀ C s H fp,PG (cxC X scope cl (Fr.map (·.1)++Tg) C s H fp) tg g) (ht:∀ C s H fp,PTs (cxC X scope cl (Fr.map (·.1)++Tg) C s H fp) ifs tt)
  (he:∀ C s H fp,PE (cxC X scope cl (Fr.map (·.1)++Tg) C s H fp) elt te) (hs:∀ x,foldedSetIterable iter X.env x=pure x:=by intro _;rfl) :
  PE X (.ListComp elt [⟨tg,iter,ifs,0⟩] scope pos) (oC wi (stC Fr Tg) g tt te):=by
 intro pins s σ H Q I h
 rw[eval_ListComp]
 refine wpAny_comprehension_free (use:=none) rfl hs S.clos S.kind S.loc (thn (hi pins s σ H _ I h) fun xv s1 h1=>thn h1 fun itv s2 h2=>?_)
 obtain⟨it,fp,tn,J,H2,rfl,I2,T,st2,f2,q⟩:=h2
 refine gu (XE:=fun _ _ _ _ _ _=>False) (RR:=fun acc V=>compPost (model X.prog X.w) X.A X.xe none (EP X pins σ Q) acc V.locals) hc S hg ht he I2 T st2 f2 q ?_ fun _ _ _ _ _ _ _ z=>z.elim
 intro D C s' H' ⟨m,hn⟩ I' F' q' V hV _
 subst hV
 obtain⟨f0,f1,f2,f3,f4,f5⟩:=F'
 exact⟨m,hn,fun h' sb=>⟨.ref D,H',I'.turned (t':=s'.toks) (fun b o hb e=>(sb.2 b hb).trans e) f0 f1 f3 f4 f5,rfl,q'⟩⟩
theorem rO {y:Str}{py spos:Pos}{i:Nat}(hc:X.calm=true)(hN:X.N.Nodup)(hiN:X.N[i]? = some y)(hy:X.env.kindOf y=some .local)(S:CompSc X scope cl Fr Tg)(hi:PI X tg iter wi)
  (hg:∀ C s H fp,PG (cxC X scope cl (Fr.map (·.1)++Tg) C s H fp) tg g) (ht:∀ C s H fp,PTs (cxC X scope cl (Fr.map (·.1)++Tg) C s H fp) ifs tt)
  (he:∀ C s H fp,PE (cxC X scope cl (Fr.map (·.1)++Tg) C s H fp) elt te)
  (hsw:swapsWith (.ListComp elt [⟨tg,iter,ifs,0⟩] scope pos) (some (.Name y py)) spos.line X.env=pure true) (hs:∀ x,foldedSetIterable iter X.env x=pure x:=by intro _;rfl) :
  PS X (.Assign [.Name y py] (.ListComp elt [⟨tg,iter,ifs,0⟩] scope pos) spos) (fun D σ H=>oC wi (stC Fr Tg) g tt te σ H fun v H'=>D.nx (σ.set i (some v)) H'):=by
 intro pins s σ H D I h
 rw[exec_Assign_Name_used _ _ _ _ hsw]
 refine wpAny_bind (wpAny_standAt (wpAny_bind ?_))
 show wpAny _ X.A (do let _ <- comprehension (.ListComp elt [⟨tg,iter,ifs,0⟩] scope pos) scope X.env _ (newList []) false (eval iter X.env) (some (assign (.Name y py) X.env))) _ _ s
 refine wpAny_bind (thn (wpAny_comprehension_free (use:=some (assign (.Name y py) X.env)) (Q:=fun _ s'=>SP X pins D .next s') rfl hs S.clos S.kind S.loc
  (thn (hi pins s σ H _ I h) fun xv s1 h1=>thn h1 fun itv s2 h2=>?_)) fun _ s' hq=>wpAny_pure (wpAny_pure hq))
 obtain⟨it,fp,tn,J,H2,rfl,I2,T,st2,f2,q⟩:=h2
 refine gu (Q:=fun v H'=>D.nx (σ.set i (some v)) H') (XE:=fun _ _ _ _ _ _=>False) (RR:=fun acc V=>compPost (model X.prog X.w) X.A X.xe (some (assign (.Name y py) X.env)) (fun _ s'=>SP X pins D .next s') acc V.locals) hc S hg ht he I2 T st2 f2 q ?_ fun _ _ _ _ _ _ _ z=>z.elim
 intro D' C s' H' ⟨m,hn⟩ I' F' q' V hV _
 subst hV
 obtain⟨f0,f1,f2,f3,f4,f5⟩:=F'
 show wpAny _ X.A (assign (.Name y py) X.env (.ref D')) _ _ _
 refine wpAny_assign_Name (ij I' hN hiN (.inl hy) (show RelV (.ref D') (.ref D') from rfl) (fun s'' I'' ⟨a,sb,ha⟩=>?_) (.inr hy))
 have hCa:V.locals≠a:=by
  rcases ha with rfl|ha
  ·exact f1
  ·exact fun z=>f4 y a ha z.symm
 refine⟨m,hn.sameBut sb hCa,fun h' sb'=>⟨_,H',I''.turned (t':=s''.toks) (fun b o hb e=>(sb'.2 b hb).trans e) f0 f1 f3 f4 f5,q'⟩⟩
end
open PySem.SeqAt
section
variable {X:Cx}
theorem jB {x:Str}{n:Int}(h0 : -16000<=n)(h1:n<=16000)(hx:x.length<=1000):MulOk x n:=by
 refine⟨?_,fun hn _=>?_,fun hn _=>?_⟩
 ·rw[Bool.or_eq_false_iff]
  exact⟨decide_eq_false (by omega),decide_eq_false (by omega)⟩
 ·have:(1000:Int)<=(2 ^ 63 - 1) / n:=Int.le_ediv_of_mul_le (by omega) (by omega)
  omega
 ·have:x.length*n.toNat<=1000*16000:=Nat.mul_le_mul hx (by omega)
  unfold Builtin.Str.tooLong
  exact decide_eq_false (by rw[sizeLine_eq];omega)
theorem kK:OpR X (binaryOp .Mult) (fun x y H Q=>∃ i j,x=.str i/\y=.int j/\-16000<=j/\j<=16000/\i.length<=1000/\Q (.str (Txt.mul i j)) H):=by
 intro pins s σ H x y v u Q I rx ry h
 obtain⟨i,j,rfl,rfl,h0,h1,hz,q⟩:=h
 obtain⟨t,rfl⟩:=rx
 obtain⟨t',rfl⟩:=ry
 exact SB.mul (jB h0 h1 hz) fun t' tk=>⟨.str (Txt.mul i j),H,I.tok _,⟨_,rfl⟩,q⟩
noncomputable def fJ (z:Str):List V:=z.cps.toList.map fun c=>.str ⟨#[c]⟩
theorem kL {z:Str}{acc':Array Value}(hacc:ItemsOf (SignAt z) acc' z.cps.size):Vals (fJ z) acc'.toList:=by
 have hl:acc'.toList.length=z.cps.toList.length:=by rw[Array.length_toList,Array.length_toList,hacc.1]
 have key:∀ (cs:List Nat) (vs:List Value),vs.length=cs.length->(∀ (i:Nat) (v:Value),vs[i]? = some v->∃ c u,cs[i]? = some c/\v=Value.str ⟨#[c]⟩ u)->Vals (cs.map fun c=>V.str ⟨#[c]⟩) vs:=by
  intro cs
  induction cs with
  | nil=>
   intro vs hl _
   cases vs with
   | nil=>exact .nil
   | cons _ _=>cases hl
  | cons c cs ih=>
   intro vs hl hv
   cases vs with
   | nil=>cases hl
   | cons v vs=>
    obtain⟨c',u,e1,e2⟩:=hv 0 v rfl
    have e1':c=c':=by simpa using e1
    subst e1' e2
    exact .cons ⟨u,rfl⟩ (ih vs (by simpa using hl) fun i w hw=>by simpa using hv (i+1) w (by simpa using hw))
 refine key _ _ hl fun i v hv=>?_
 obtain⟨c,u,e1,e2⟩:=hacc.2 i v (by rw[<- Array.getElem?_toList];exact hv)
 exact⟨c,u,by rw[Array.getElem?_toList];exact e1,e2⟩
theorem gv (hc:X.calm=true):c8 X (.type "tuple") (fun xs H Q=>∃ z:Str,xs=[.str z]/\z.length<=sizeLine/\∀ l,H l=none->Q (.ref l) (upd H l (.tup (fJ z)))):=by
 intro pins s σ H xs us Q I r h
 obtain⟨z,rfl,hz,q⟩:=h
 obtain⟨u,rfl,t,rfl⟩:=vals1 r
 refine call_tuple_str (hsz:=hz) (show X.A.handled=none from I.ok.hd hc) z t (fun h' tk acc kp hacc=>?_)
 have rv:=kL hacc
 have I1:Inv X pins σ H {s with heap:=h',toks:=tk}:=I.kept (t':=tk) kp
 exact⟨.ref _,_,I1.laid (t':=tk) (fun b o e=>Heap.get?_push_of_some _ e) (Nat.le_refl _) (show cu X.prog X.w _ _ _ (.tup (fJ z)) from ⟨by unfold fJ;simpa[Str.length] using hz,acc.toList,rv,by simpa using IsTup.new h' acc⟩),rfl,q _ (I1.hok.fresh (Nat.le_refl _))⟩
end
open PySem.W
section
variable {κ:Type} [DecidableEq κ]
noncomputable def fK (kvs:List (κ×V))(k:κ):Option V:=(kvs.find? fun kv=>decide (kv.1=k)).map (·.2)
noncomputable def putK (kvs:List (κ×V))(k:κ)(v:V):List (κ×V):=
 if (kvs.any fun kv=>decide (kv.1=k))=true then kvs.map (fun kv=>if kv.1=k then (kv.1,v) else kv) else kvs++[(k,v)]
theorem gw {p:κ×V}{r:List (κ×V)}{k:κ}(e:p.1=k):fK (p::r) k=some p.2:=by simp[fK,List.find?_cons,e]
theorem gy {p:κ×V}{r:List (κ×V)}{k:κ}(e:¬ p.1=k):fK (p::r) k=fK r k:=by simp[fK,List.find?_cons,e]
theorem jC (k:κ):∀ kvs:List (κ×V),(kvs.any fun kv=>decide (kv.1=k))=(fK kvs k).isSome
 | []=>rfl
 | p::r=>by
  rw[List.any_cons]
  by_cases e:p.1=k
  ·simp only[gw e,decide_eq_true e,Bool.true_or,Option.isSome_some]
  ·rw[gy e,decide_eq_false e,Bool.false_or];exact jC k r
theorem fX (kvs:List (κ×V))(k:κ)(v:V):(putK kvs k v).length<=kvs.length+1:=by
 unfold putK
 split
 ·rw[List.length_map];omega
 ·rw[List.length_append,List.length_cons,List.length_nil];omega
theorem hJ.isSome_eq {o:Option V}{u:Option Value}(r:hJ o u):o.isSome=u.isSome:=by
 cases o with
 | none=>cases u with
  | none=>rfl
  | some _=>exact(show False from r).elim
 | some _=>cases u with
  | none=>exact(show False from r).elim
  | some _=>rfl
theorem KV.val {kvs:List (κ×V)}{vs:List (κ×Value)}(r:KV kvs vs)(k:κ):hJ (fK kvs k) (valueAt vs k):=by
 unfold KV at r
 induction r with
 | nil=>exact True.intro
 | @cons p q ps qs h t ih=>
  obtain⟨h1,h2⟩:=h
  by_cases e:p.1=k
  ·have e':q.1=k:=h1.symm.trans e
   have b:valueAt (q::qs) k=some q.2:=by simp[valueAt,List.find?_cons,e']
   rw[gw e,b];exact h2
  ·have e':¬ q.1=k:=fun z=>e (h1.trans z)
   have b:valueAt (q::qs) k=valueAt qs k:=by simp[valueAt,List.find?_cons,e']
   rw[gy e,b];exact ih
theorem KV.any {kvs:List (κ×V)}{vs:List (κ×Value)}(r:KV kvs vs)(k:κ):(kvs.any fun kv=>decide (kv.1=k))=vs.any fun kv=>decide (kv.1=k):=by
 unfold KV at r
 induction r with
 | nil=>rfl
 | cons h t ih=>rw[List.any_cons,List.any_cons,ih,h.1]
theorem KV.repl {kvs:List (κ×V)}{vs:List (κ×Value)}(r:KV kvs vs)(k:κ){y:V}{u:Value}(ry:RelV y u) :
  KV (kvs.map fun kv=>if kv.1=k then (kv.1,y) else kv) (vs.map fun kv=>if kv.1=k then (kv.1,u) else kv):=by
 unfold KV at r ⊢
 induction r with
 | nil=>exact .nil
 | @cons p q ps qs h t ih=>
  rw[List.map_cons,List.map_cons]
  refine .cons ?_ ih
  obtain⟨h1,h2⟩:=h
  by_cases e:p.1=k
  ·rw[if_pos e,if_pos (h1.symm.trans e)];exact⟨h1,ry⟩
  ·rw[if_neg e,if_neg (fun z=>e (h1.trans z))];exact⟨h1,h2⟩
theorem KV.put {kvs:List (κ×V)}{vs:List (κ×Value)}(r:KV kvs vs)(k:κ){y:V}{u:Value}(ry:RelV y u):KV (putK kvs k y) (stored vs k u):=by
 unfold putK stored
 rw[r.any k]
 by_cases e:(vs.any fun kv=>decide (kv.1=k))=true
 ·rw[if_pos e,if_pos e];exact r.repl k ry
 ·rw[if_neg e,if_neg e];exact Paired.snoc r ⟨rfl,ry⟩
theorem KV.length {kvs:List (κ×V)}{vs:List (κ×Value)}(r:KV kvs vs):kvs.length=vs.length:=Paired.length r
end
theorem oE {P:Program}{w:World}{k:Key}{u:Value}(r:RelV (kV k) u):(cD P w).is k u=true:=by
 cases k with
 | inl i=>obtain⟨t,e⟩:=(show ∃ t,u=Value.int i t from r);subst e;exact jw P w i t
 | inr x=>obtain⟨t,e⟩:=(show ∃ t,u=Value.str x t from r);subst e;exact jx P w x t
theorem iA {P:Program}{w:World}:∀ {ks:List Key}{us:List Value},Vals (ks.map kV) us->ItemsAre (cD P w) ks us
 | [],_,r=>by rw[List.map_nil] at r;cases r;exact .nil
 | k::ks,_,r=>by
  rw[List.map_cons] at r
  cases r with
  | cons h t=>exact .cons (oE h) (iA t)
abbrev KT (H:Hp):List (List Key×V)->List (List Key×Addr×Value)->Prop:=Paired fun p q=>p.1=q.1/\H q.2.1=some (.tup (p.1.map kV))/\RelV p.2 q.2.2
theorem KT.val {H:Hp}{kvs:List (List Key×V)}{xs:List (List Key×Addr×Value)}(r:KT H kvs xs)(k:List Key):hJ (fK kvs k) ((atKey xs k).map (·.2)):=by
 induction r with
 | nil=>exact True.intro
 | @cons p q ps qs h t ih=>
  obtain⟨h1,_,h2⟩:=h
  by_cases e:p.1=k
  ·have e':q.1=k:=h1.symm.trans e
   have b:atKey (q::qs) k=some q.2:=by simp[atKey,List.find?_cons,e']
   rw[gw e,b];exact h2
  ·have e':¬ q.1=k:=fun z=>e (h1.trans z)
   have b:atKey (q::qs) k=atKey qs k:=by simp[atKey,List.find?_cons,e']
   rw[gy e,b];exact ih
theorem KT.repl {H:Hp}{kvs:List (List Key×V)}{xs:List (List Key×Addr×Value)}(r:KT H kvs xs)(k:List Key){y:V}{u:Value}(ry:RelV y u) :
  KT H (kvs.map fun kv=>if kv.1=k then (kv.1,y) else kv) (xs.map (putAt k u)):=by
 induction r with
 | nil=>exact .nil
 | @cons p q ps qs h t ih=>
  rw[List.map_cons,List.map_cons]
  refine .cons ?_ ih
  obtain⟨h1,h2,h3⟩:=h
  unfold putAt
  by_cases e:p.1=k
  ·rw[if_pos e,if_pos (h1.symm.trans e)];exact⟨h1,h2,ry⟩
  ·rw[if_neg e,if_neg (fun z=>e (h1.trans z))];exact⟨h1,h2,h3⟩
theorem KT.put {H:Hp}{kvs:List (List Key×V)}{xs:List (List Key×Addr×Value)}(r:KT H kvs xs)(k:List Key){b:Addr}{y:V}{u:Value}(hb:H b=some (.tup (k.map kV)))(ry:RelV y u) :
  KT H (putK kvs k y) (storedH xs k b u):=by
 have e:(kvs.any fun kv=>decide (kv.1=k))=(atKey xs k).isSome:=by
  rw[jC,(r.val k).isSome_eq,Option.isSome_map]
 unfold putK storedH
 rw[e]
 by_cases q:(atKey xs k).isSome=true
 ·rw[if_pos q,if_pos q];exact r.repl k ry
 ·rw[if_neg q,if_neg q];exact Paired.snoc r ⟨rfl,hb,ry⟩
theorem KT.keeps {H H':Hp}{kvs:List (List Key×V)}{xs:List (List Key×Addr×Value)}(r:KT H kvs xs)(ht:∀ b ys,H b=some (.tup ys)->H' b=some (.tup ys)):KT H' kvs xs:=
 Paired.mapP r fun _ _ z=>⟨z.1,ht _ _ z.2.1,z.2.2⟩
section
variable {P:Program}{w:World}{H:Hp}{h:Heap}{a:Addr}
theorem tK {u:HO}(ok:HOk P w H h)(e:Rd H a u):cu P w H h a u:=e.ok ok
theorem oF {kvs:List (Key×V)}(ok:HOk P w H h)(e:Rd H a (.dK kvs)):kvs.length<=sizeLine/\(a == sysModules)=false/\∃ vs,KV kvs vs/\h.DictOf (cD P w) a vs:=
 show cu P w H h a (.dK kvs) from tK ok e
theorem xX {kvs:List (Key×V)}(ok:HOk P w H h)(e:H a=some (.dK kvs)):kvs.length<=sizeLine/\(a == sysModules)=false/\∃ vs,KV kvs vs/\h.DictOf (cD P w) a vs:=oF ok (.inl e)
theorem kM {ks:List Key}(ok:HOk P w H h)(e:H a=some (.tup (ks.map kV))):(tupleKind (cD P w)).is h ks a:=by
 obtain⟨_,its,r,o,h1,h2,n,h3⟩:=(show cu P w H h a (.tup (ks.map kV)) from ok a _ e)
 exact⟨o,its.toArray,n,h1,h2,h3,by simpa using iA r⟩
theorem oG {kvs:List (List Key×V)}(ok:HOk P w H h)(e:Rd H a (.dT kvs)):kvs.length<=sizeLine/\(a == sysModules)=false/\
  ∃ xs,KT H kvs xs/\h.DictOfH (tupleKind (cD P w)) a xs:=by
 obtain⟨z,y,xs,r,o,es,ep,h1,h2,h3,h4,h5⟩:=(show cu P w H h a (.dT kvs) from tK ok e)
 refine⟨z,y,xs,r,o,es,ep,h1,h2,h3,h4,fun x hx=>?_,h5⟩
 have all:∀ {l:List (List Key×V)}{m:List (List Key×Addr×Value)},KT H l m->∀ x∈m,(tupleKind (cD P w)).is h x.1 x.2.1:=by
  intro l m q
  induction q with
  | nil=>intro x hx;exact nomatch hx
  | @cons p q ps qs hq t ih=>
   intro x hx
   rcases List.mem_cons.mp hx with e|hx
   ·subst e
    exact kM ok (by rw[<- hq.1];exact hq.2.1)
   ·exact ih x hx
 exact all r x hx
theorem xY {kvs:List (List Key×V)}(ok:HOk P w H h)(e:H a=some (.dT kvs)):kvs.length<=sizeLine/\(a == sysModules)=false/\
  ∃ xs,KT H kvs xs/\h.DictOfH (tupleKind (cD P w)) a xs:=oG ok (.inl e)
end
def vC (H:Hp)(a:Addr)(y:V)(r:Option V):Prop:=
 (∃ kvs k,Rd H a (.dK kvs)/\y=kV k/\r=fK kvs k)∨∃ kvs k b,Rd H a (.dT kvs)/\y=.ref b/\H b=some (.tup (k.map kV))/\r=fK kvs k
def xZ (H:Hp)(a:Addr)(y v:V)(H':Hp):Prop:=
 (∃ kvs k,H a=some (.dK kvs)/\y=kV k/\kvs.length < sizeLine/\H'=upd H a (.dK (putK kvs k v)))∨
 ∃ kvs k b,H a=some (.dT kvs)/\y=.ref b/\H b=some (.tup (k.map kV))/\kvs.length < sizeLine/\H'=upd H a (.dT (putK kvs k v))
section
variable {X:Cx}{pins:List (Addr×Obj)}{σ:St}{H:Hp}{s:Shared}{a:Addr}{y v:V}{u r:Value}{o:Option V}{A:Around}{E:Value->Shared->Prop}
theorem Inv.big (I:Inv X pins σ H s):sysModules < s.heap.objs.size:=by
 have h:mainGlobals < s.heap.objs.size:=(I.mod.glob.keeps I.bk).lt
 exact Nat.lt_trans (by decide) h
theorem m4 {Q:Value->Shared->Prop}(hu:A.units+1 < cLine)(I:Inv X pins σ H s)(g:vC H a y (some v))(ry:RelV y u)(h:∀ w' s',Inv X pins σ H s'->RelV v w'->Q w' s') :
  wpAny (model X.prog X.w) A (getItem (.ref a) u) Q E s:=by
 rcases g with ⟨kvs,k,e,ey,l⟩|⟨kvs,k,b,e,ey,eb,l⟩
 ·subst ey
  obtain⟨z,hd,vs,rel,dd⟩:=oF I.hok e
  obtain⟨w',hw,rw'⟩:=hJ.some_of (v:=v) (o:=valueAt vs k) (by rw[l];exact rel.val k)
  exact wpAny_getItem_of (oE ry) dd.mapOf hw (h w' _ (I.tok _) rw')
 ·subst ey
  cases (show u=Value.ref b from ry)
  obtain⟨z,hd,xs,rel,dd⟩:=oG I.hok e
  obtain⟨w',hw,rw'⟩:=hJ.some_of (v:=v) (o:=(atKey xs k).map (·.2)) (by rw[l];exact rel.val k)
  obtain⟨p,hp,hp2⟩:=Option.map_eq_some_iff.mp hw
  refine wpAny_getItem_heap (tupleKind_room_in1 hu) (kM I.hok eb) dd hp ?_
  rw[hp2]
  exact h w' _ (I.tok _) rw'
theorem lI {h':Heap}{t':Nat}{ob:HO}(I:Inv X pins σ H s)(mu:Mut (H a))(hs:Heap.SameBut a s.heap h')(he:∃ q,h'.get? a=some q)(new:cu X.prog X.w (upd H a ob) h' a ob) :
  Inv X pins σ (upd H a ob) {s with heap:=h',toks:=t'}:=
 I.write (x:=a) (e:=a) mu (.inl rfl) (fun b q hb z=>(hs.2 b hb).trans z) he new
theorem vD {P:Program}{w:World}{H':Hp}{h':Heap}{kvs:List (Key×V)}{vs:List (Key×Value)}(z:kvs.length<=sizeLine)(hd:(a == sysModules)=false)(rel:KV kvs vs)(dd:h'.DictOf (cD P w) a vs) :
  cu P w H' h' a (.dK kvs):=⟨z,hd,vs,rel,dd⟩
theorem m7 {H':Hp}{Q:Unit->Shared->Prop}(hu:A.units+1 < cLine)(I:Inv X pins σ H s)(g:xZ H a y v H')(ry:RelV y u)(rv:RelV v r)(h:∀ s',Inv X pins σ H' s'->Q () s') :
  wpAny (model X.prog X.w) A (setItem (.ref a) u r) Q E s:=by
 rcases g with ⟨kvs,k,e,ey,l,eH⟩|⟨kvs,k,b,e,ey,eb,l,eH⟩
 ·subst ey eH
  obtain⟨z,hd,vs,rel,dd⟩:=xX I.hok e
  have hz:vs.length<=sizeLine:=by rw[<- rel.length];exact z
  have hl:(putK kvs k v).length<=sizeLine:=by have:=fX kvs k v;omega
  refine wpAny_setItem_pairs (hsz:=hz) (oE ry) dd fun h' dd' hs=>h _ ?_
  have he:∃ q,h'.get? a=some q:=let ⟨q,_,_,hq,_⟩:=dd';⟨q,hq⟩
  exact lI I (by rw[e];exact True.intro) hs he (vD hl hd (rel.put k rv) dd')
 ·subst ey eH
  cases (show u=Value.ref b from ry)
  obtain⟨z,hd,xs,rel,dd⟩:=xY I.hok e
  have hz:xs.length<=sizeLine:=by rw[<- Paired.length rel];exact z
  have hl:(putK kvs k v).length<=sizeLine:=by have:=fX kvs k v;omega
  refine wpAny_setItem_heap (hsz:=hz) (tupleKind_room_in1 hu) (kM I.hok eb) dd fun h' dd' hs=>h _ ?_
  obtain⟨q,es,ep,hq,h2,h3,h4,_,h5⟩:=dd'
  refine lI I (by rw[e];exact True.intro) hs ⟨q,hq⟩ ⟨hl,hd,_,(rel.put k eb rv).keeps fun c ys ec=>?_,q,es,ep,hq,h2,h3,h4,h5⟩
  rw[aD (xH ec e (fun z=>nomatch z))]
  exact ec
end
def x8 (i:Expr):Prop:=∀ ov iv,subscripted i false ov iv=operate [ov,iv] (getItem ov iv)
theorem rP {prog:Program}{w:World}{A:Around}{E:Value->Shared->Prop}{s:Shared}{env:Env}{value slice:Expr}{pos:Pos}{T id:String}{Q:Value->Shared->Prop}
  (hl:typeLookup (.type T) "__getitem__" = pure (some (.builtin id))) (hs:x8 slice)
  (h:wpAny (model prog w) A (eval value env) (fun o s₁=>wpAny (model prog w) A (eval slice env) (fun i s₂=>s₂.TypeIs o T/\wpAny (model prog w) A (getItem o i) Q E s₂) E s₁) E s) :
  wpAny (model prog w) A (eval (.Subscript value slice pos) env) Q E s:=by
 refine Subscript_ (wpAny_mono h (fun o s₁ h₁=>wpAny_mono h₁ (fun i s₂ h₂=>?_) fun _ _ x=>x) fun _ _ x=>x)
 obtain⟨hT,h₂⟩:=h₂
 unfold subscriptTail
 refine wpAny_bind ?_
 rw[getitemInPython_of_ne hT.not_modules]
 refine wpAny_bind (wpAny_specialOf hT hl ?_)
 have fin:wpAny (model prog w) A (subscripted slice false o i) (fun r s₃=>wpAny (model prog w) A (letTemporaryGo value o r >>= fun _=>pure r) Q E s₃) E s₂:=by
  rw[hs o i]
  exact wpAny_operating (wpAny_mono h₂ (fun r s₃ h₃=>wpAny_bind (wpAny_letTemporaryGo (wpAny_pure h₃))) fun _ _ x=>x)
 first
  | exact wpAny_pure (wpAny_bind fin)
  | exact wpAny_bind (wpAny_pure (wpAny_bind fin))
  | exact wpAny_bind fin
theorem jD {X:Cx}{pins:List (Addr×Obj)}{σ:St}{H:Hp}{s:Shared}{a:Addr}{y:V}{o:Option V}(I:Inv X pins σ H s)(g:vC H a y o):s.TypeIs (.ref a) "dict":=by
 rcases g with ⟨kvs,k,e,_,_⟩|⟨kvs,k,b,e,_,_,_⟩
 ·obtain⟨_,_,vs,_,dd⟩:=oF I.hok e
  exact dd.typeIs
 ·obtain⟨_,_,xs,_,dd⟩:=oG I.hok e
  exact dd.typeIs
def x9 (td ty:TE):TE:=fun σ H Q=>td σ H fun x H1=>ty σ H1 fun y H2=>∃ a v,x=.ref a/\vC H2 a y (some v)/\Q v H2
def ya (td ty tv:TE):TS:=fun D σ H=>tv σ H fun v H1=>td σ H1 fun x H2=>ty σ H2 fun y H3=>∃ a H4,x=.ref a/\xZ H3 a y v H4/\D.nx σ H4
section
variable {X:Cx}{o i e value:Expr}{pos pos' tpos:Pos}{td ty tv:TE}
theorem rQ (hu:X.A.units+1 < cLine)(ho:PE X o td)(hi:PE X i ty)(hs:x8 i):PE X (.Subscript o i pos) (x9 td ty):=by
 intro pins s σ H Q I h
 refine rP PySem.F.slot_dict_getitem.lookup hs (thn (ho pins s σ H _ I h) fun u s1 ⟨x,H1,I1,rx,q1⟩=>thn (hi pins s1 σ H1 _ I1 q1) fun iv s2 ⟨y,H2,I2,ry,a,v,ex,g,q2⟩=>?_)
 subst ex
 obtain rfl:u=Value.ref a:=rx
 exact⟨jD I2 g,m4 hu I2 g ry fun w' s3 I3 rw'=>⟨v,H2,I3,rw',q2⟩⟩
theorem rR (hu:X.A.units+1 < cLine)(ho:PE X o td)(hi:PE X i ty)(hv:PE X value tv)(hs:swapsWith value (some (.Subscript o i pos')) pos.line X.env=pure false) :
  PS X (.Assign [.Subscript o i pos'] value pos) (ya td ty tv):=by
 intro pins s σ H D I h
 refine wpAny_Assign_Subscript (thn (hv pins s σ H _ I h) fun r s1 ⟨v,H1,I1,rv,q1⟩=>thn (ho pins s1 σ H1 _ I1 q1) fun u s2 ⟨x,H2,I2,rx,q2⟩=>thn (hi pins s2 σ H2 _ I2 q2) fun iv s3 ⟨y,H3,I3,ry,a,H4,ex,g,q3⟩=>?_) hs
 subst ex
 obtain rfl:u=Value.ref a:=rx
 exact m7 hu I3 g ry rv fun s4 I4=>⟨σ,H4,I4,q3⟩
end
theorem oH {P:Program}{w:World}{H:Hp}(h:Heap)(hb:sysModules < h.objs.size):cu P w H (h.push {cls:=.type "dict",data:=.dict #[]}) h.objs.size (.dK []):=
 ⟨Nat.zero_le _,beq_eq_false_iff_ne.mpr (Ne.symm (Nat.ne_of_lt hb)),[],.nil,Heap.DictOf.new h⟩
def vE:TE:=fun _ H Q=>∀ p,H p=none->Q (.ref p) (upd H p (.dK []))
section
variable {X:Cx}{pos:Pos}
theorem jE:PE X (.Dict [] [] pos) vE:=fun pins s σ H Q I h=>
 wpAny_Dict_empty ⟨.ref s.heap.objs.size,_,I.laid (a:=s.heap.objs.size) (o:=.dK []) (t':=s.toks) (fun _ _ q=>Heap.get?_push_of_some _ q) (Nat.le_refl _) (oH s.heap I.big),rfl,h _ (I.hok.fresh (Nat.le_refl _))⟩
end
open PySem.Builtin PySem.Builtin.Str
end L2
namespace L2.Zp
open PySem
inductive Kq where
 | l|t
def Sq (k:Kq)(h:Heap)(a:Addr)(xs:Array Value):Prop:=match k with
 | .l=>h.IsList a xs
 | .t=>h.IsTuple a xs
def It (k:Kq)(h:Heap)(i a:Addr)(n:Nat):Prop:=match k with
 | .l=>h.IsListIter i a n
 | .t=>h.IsTupleIter i a n
theorem Sq.to {k:Kq}{h h':Heap}{a:Addr}{xs:Array Value}(q:Sq k h a xs)(e:∀ o,h.get? a=some o->h'.get? a=some o):Sq k h' a xs:=by
 cases k with
 | l=>obtain⟨o,ho,r⟩:=q;exact⟨o,e o ho,r⟩
 | t=>obtain⟨o,ho,r⟩:=q;exact⟨o,e o ho,r⟩
theorem It.to {k:Kq}{h h':Heap}{i a:Addr}{n:Nat}(q:It k h i a n)(e:∀ o,h.get? i=some o->h'.get? i=some o):It k h' i a n:=by
 cases k with
 | l=>obtain⟨o,ho,r⟩:=q;exact⟨o,e o ho,r⟩
 | t=>obtain⟨o,ho,r⟩:=q;exact⟨o,e o ho,r⟩
theorem It.lt {k:Kq}{h:Heap}{i a:Addr}{n:Nat}(q:It k h i a n):i < h.objs.size:=by
 cases k with
 | l=>obtain⟨o,ho,_⟩:=q;exact Heap.lt_size ho
 | t=>obtain⟨o,ho,_⟩:=q;exact Heap.lt_size ho
section
variable {prog:Program}{w:World}{A:Around}{E:Value->Shared->Prop}{s:Shared}
theorem oI {i a:Addr}{n:Nat}{xs:Array Value}{x:Value}{Q:Value->Shared->Prop}(c:s.heap.IsTupleIter i a n)(q:s.heap.IsTuple a xs)(hx:xs[n]? = some x)
  (k:∀ h',h'.IsTupleIter i a (n+1)->Heap.SameBut i s.heap h'->Q x {s with heap:=h'}):wpAny (model prog w) A (Builtin.SmallTypes.nextOf (.ref i)) Q E s:=by
 have ty:=c.typeIs
 obtain⟨oi,gi,ci,di⟩:=c
 obtain⟨oa,ga,_,na,da⟩:=q
 unfold Builtin.SmallTypes.nextOf
 refine wpAny_bind (wpAny_callSpecial?_slot (name:=Str.ofString "__next__") ty F.slot_tuple_iterator_next (wpAny_call_entry F.slot_tuple_iterator_next ty F.entry_tuple_iterator_next ?_ (F.args_tuple_iterator_next_1 _)))
 show wpAny _ _ (field (.ref i) 0 >>= _) _ _ s
 refine wpAny_bind (wpAny_field gi di (x:=.ref a) rfl ?_)
 show wpAny _ _ (if (Value.ref a == Value.none)=true then _ else _) _ _ s
 rw[if_neg (by intro z;cases z)]
 show wpAny _ _ (field (.ref i) 1 >>= _) _ _ s
 refine wpAny_bind (wpAny_field gi di (x:=.int n 0) rfl ?_)
 show wpAny _ _ (seqItems? (.ref a) >>= _) _ _ s
 refine wpAny_bind (wpAny_seqItems ga da ?_)
 simp only[Int.toNat_natCast,hx]
 refine wpAny_bind (wpAny_setField gi di (by simp) (wpAny_pure ⟨x,rfl,wpAny_pure (k _ ⟨_,Heap.get?_update_self _ gi (Obj.isFreed_of_fields (Obj.data_mapFields di _)),(Obj.cls_mapFields ..).trans ci,?_⟩ (Heap.SameBut.update ..))⟩))
 rw[Obj.data_mapFields di]
 simp[rawInt]
theorem rS {i a:Addr}{n:Nat}{xs:Array Value}{Q:Value->Shared->Prop}(hh:A.handled=none)(c:s.heap.IsTupleIter i a n)(q:s.heap.IsTuple a xs)(hx:xs[n]? = none)
  (k:∀ h' e,Heap.ExtBut i s.heap h'->(∃ o,h'.get? e=some o/\o.cls=.type "StopIteration")->E (.ref e) {s with heap:=h'}):wpAny (model prog w) A (Builtin.SmallTypes.nextOf (.ref i)) Q E s:=by
 have ty:=c.typeIs
 obtain⟨oi,gi,ci,di⟩:=c
 obtain⟨oa,ga,_,na,da⟩:=q
 unfold Builtin.SmallTypes.nextOf
 refine wpAny_bind (wpAny_callSpecial?_slot (name:=Str.ofString "__next__") ty F.slot_tuple_iterator_next (wpAny_call_entry F.slot_tuple_iterator_next ty F.entry_tuple_iterator_next ?_ (F.args_tuple_iterator_next_1 _)))
 show wpAny _ _ (field (.ref i) 0 >>= _) _ _ s
 refine wpAny_bind (wpAny_field gi di (x:=.ref a) rfl ?_)
 show wpAny _ _ (if (Value.ref a == Value.none)=true then _ else _) _ _ s
 rw[if_neg (by intro z;cases z)]
 show wpAny _ _ (field (.ref i) 1 >>= _) _ _ s
 refine wpAny_bind (wpAny_field gi di (x:=.int n 0) rfl ?_)
 show wpAny _ _ (seqItems? (.ref a) >>= _) _ _ s
 refine wpAny_bind (wpAny_seqItems ga da ?_)
 simp only[Int.toNat_natCast,hx]
 refine wpAny_bind (wpAny_rule (wpAny_bind (wpAny_setField gi di (by simp) (wpAny_bind ?_))))
 simp only[newExc,newTuple]
 refine wpAny_bind (wpAny_newObj_type (wpAny_bind (m:=firstArgMember _ _) (wpAny_of_eq (a:=Value.none) (by first|rfl|(simp only[firstArgMember];rfl)) (wpAny_newObj_type ?_ (by size_fits)))) (by size_fits))
 simp only[raiseNew]
 refine wpAny_bind (wpAny_handled ?_)
 first|rw[show A.in1.handled=none from hh]|rw[hh]
 exact wpAny_bind (wpAny_pure (wpAny_throw (k _ _ (((Heap.SameBut.update ..).extBut.push _).push _) ⟨_,Heap.get?_push_size _ rfl,rfl⟩)))
theorem i3 {k:Kq}{i a:Addr}{n:Nat}{xs:Array Value}{x:Value}{Q:Value->Shared->Prop}(c:It k s.heap i a n)(q:Sq k s.heap a xs)(hx:xs[n]? = some x)
  (f:∀ h',It k h' i a (n+1)->Heap.SameBut i s.heap h'->Q x {s with heap:=h'}):wpAny (model prog w) A (Builtin.SmallTypes.nextOf (.ref i)) Q E s:=by
 cases k with
 | l=>exact wpAny_nextOf_list_item c q hx f
 | t=>exact oI c q hx f
theorem oJ {k:Kq}{i a:Addr}{n:Nat}{xs:Array Value}{Q:Value->Shared->Prop}(hh:A.handled=none)(c:It k s.heap i a n)(q:Sq k s.heap a xs)(hx:xs[n]? = none)
  (f:∀ h' e,Heap.ExtBut i s.heap h'->(∃ o,h'.get? e=some o/\o.cls=.type "StopIteration")->E (.ref e) {s with heap:=h'}):wpAny (model prog w) A (Builtin.SmallTypes.nextOf (.ref i)) Q E s:=by
 cases k with
 | l=>exact wpAny_nextOf_list_end hh c q hx f
 | t=>exact rS hh c q hx f
end
section
variable {prog:Program}{w:World}{A:Around}{E:Value->Shared->Prop}{s:Shared}
def Kept (z TO i j:Addr)(h h':Heap):Prop:=∀ c o,c≠z->c≠TO->c≠i->c≠j->h.get? c=some o->h'.get? c=some o
theorem ng {p q:Kq}{z TI TO i j l m:Addr}{n n':Nat}{xs ys:Array Value}{x y a b:Value}{Q:Value->Shared->Prop}(D:ZipApart z TI TO i j l m)(hz:IsZip s.heap z TI TO .none)(hI:IsPair s.heap TI (.ref i) (.ref j))(hO:IsPair s.heap TO a b)
  (ci:It p s.heap i l n) (cj:It q s.heap j m n') (sl:Sq p s.heap l xs) (sm:Sq q s.heap m ys) (hx:xs[n]? = some x) (hy:ys[n']? = some y)
  (k:∀ h',IsZip h' z TI TO (rawInt s.heap.objs.size)->IsPair h' TO x y->It p h' i l (n+1)->It q h' j m (n' + 1)->IsPair h' s.heap.objs.size x y->h'.objs.size=s.heap.objs.size+1->Kept z TO i j s.heap h'->Q (.ref s.heap.objs.size) {s with heap:=h'}) :
  wpAny (model prog w) A (Builtin.«zip.__next__» ⟨[.ref z],[]⟩) (fun fin s'=>∃ v,fin=.done (.ret v)/\Q v s') E s:=by
 show wpAny _ _ (field (.ref z) 2 >>= _) _ _ _
 refine wpAny_bind (wpAny_field hz rfl (x:=.bool false) rfl ?_)
 show wpAny _ _ (field (.ref z) 3 >>= _) _ _ _
 refine wpAny_bind (wpAny_field hz rfl (x:=.ref TI) rfl (wpAny_bind (wpAny_seqItems hI rfl ?_)))
 show wpAny _ _ (Builtin.SmallTypes.ownedTupleIsFree (.ref z) >>= _) _ _ _
 refine wpAny_bind ?_
 unfold Builtin.SmallTypes.ownedTupleIsFree
 refine wpAny_bind (wpAny_field hz rfl (x:=.none) rfl (wpAny_pure ?_))
 simp only[if_true]
 refine wpAny_bind (wpAny_rule (wpAny_bind (wpAny_field hz rfl (x:=.ref TO) rfl (wpAny_bind (wpAny_setField_rec hz (by simp) fun h1 z1 e1=>?_)))))
 have z1':IsZip h1 z TI TO .ellipsis:=z1
 refine wpAny_bind ?_
 simp only[List.zipIdx_cons,List.zipIdx_nil,List.forIn_cons,List.forIn_nil]
 refine wpAny_bind (wpAny_bind (wpAny_onRaise ?_))
 show wpAny _ _ (Builtin.SmallTypes.nextOf (.ref i) >>= _) _ _ _
 refine wpAny_bind (i3 (ci.to fun o e=>e1.extBut _ _ D.i1z e) (sl.to fun o e=>e1.extBut _ _ D.l1z e) hx fun h2 ci2 e2=>wpAny_pure ?_)
 have O2:IsPair h2 TO a b:=e2.extBut _ _ D.TOi1 (e1.extBut _ _ D.TOz hO)
 refine wpAny_bind (wpAny_seqItems O2 rfl (wpAny_bind (wpAny_updateSeq_pair O2 fun h3 O3 e3=>?_)))
 have O3':IsPair h3 TO x b:=O3
 refine wpAny_bind (wpAny_letGo (wpAny_pure (wpAny_bind (wpAny_bind (wpAny_onRaise ?_)))))
 show wpAny _ _ (Builtin.SmallTypes.nextOf (.ref j) >>= _) _ _ _
 refine wpAny_bind (i3 (cj.to fun o e=>e3.extBut _ _ D.TOi2.symm (e2.extBut _ _ D.i12.symm (e1.extBut _ _ D.i2z e))) (sm.to fun o e=>e3.extBut _ _ D.l2TO (e2.extBut _ _ D.l2i1 (e1.extBut _ _ D.l2z e))) hy fun h4 cj4 e4=>wpAny_pure ?_)
 have O4:IsPair h4 TO x b:=e4.extBut _ _ D.TOi2 O3'
 refine wpAny_bind (wpAny_seqItems O4 rfl (wpAny_bind (wpAny_updateSeq_pair O4 fun h5 O5 e5=>?_)))
 have O5':IsPair h5 TO x y:=O5
 refine wpAny_bind (wpAny_letGo (wpAny_pure (wpAny_pure (wpAny_bind (wpAny_seqItems O5' rfl (wpAny_bind (wpAny_newTuple ?_)))))))
 have sz:h5.objs.size=s.heap.objs.size:=by rw[e5.1,e4.1,e3.1,e2.1,e1.1]
 have z5:IsZip h5 z TI TO .ellipsis:=e5.extBut _ _ D.TOz.symm (e4.extBut _ _ D.i2z.symm (e3.extBut _ _ D.TOz.symm (e2.extBut _ _ D.i1z.symm z1')))
 have k5:Kept z TO i j s.heap h5:=fun c o c1 c2 c3 c4 e=>e5.extBut _ _ c2 (e4.extBut _ _ c4 (e3.extBut _ _ c2 (e2.extBut _ _ c3 (e1.extBut _ _ c1 e))))
 have ci5:It p h5 i l (n+1):=ci2.to fun o e=>e5.extBut _ _ D.TOi1.symm (e4.extBut _ _ D.i12 (e3.extBut _ _ D.TOi1.symm e))
 have cj5:It q h5 j m (n' + 1):=cj4.to fun o e=>e5.extBut _ _ D.TOi2.symm e
 have lz:z < h5.objs.size:=Heap.lt_size z5
 show wpAny _ _ (Builtin.SmallTypes.ownedTupleHandOut (.ref z) (.ref h5.objs.size) >>= _) _ _ _
 refine wpAny_bind ?_
 unfold Builtin.SmallTypes.ownedTupleHandOut
 have z6:IsZip (h5.push {cls:=.type "tuple",data:=.seq #[x,y]}) z TI TO .ellipsis:=Heap.get?_push_of_some _ z5
 refine wpAny_bind (wpAny_setField_rec z6 (by simp) fun h7 z7 e7=>wpAny_setField_rec (show IsZip h7 z TI TO (rawInt h5.objs.size) from z7) (by simp) fun h8 z8 e8=>?_)
 have z8':IsZip h8 z TI TO (rawInt h5.objs.size):=z8
 have up:∀ c o,c≠z->h5.get? c=some o->h8.get? c=some o:=fun c o c1 e=>e8.extBut _ _ c1 (e7.extBut _ _ c1 (Heap.get?_push_of_some _ e))
 have t8:IsPair h8 h5.objs.size x y:=e8.extBut _ _ (Nat.ne_of_gt lz) (e7.extBut _ _ (Nat.ne_of_gt lz) (Heap.get?_push_size _ rfl))
 have s8:h8.objs.size=h5.objs.size+1:=by rw[e8.1,e7.1,Heap.size_push]
 rw[sz] at z8' t8 s8
 refine wpAny_pure ⟨_,rfl,?_⟩
 show Q (.ref h5.objs.size) _
 rw[sz]
 exact k h8 z8' (up _ _ D.TOz O5') (ci5.to fun o e=>up _ o D.i1z e) (cj5.to fun o e=>up _ o D.i2z e) t8 s8 fun c o c1 c2 c3 c4 e=>up c o c1 (k5 c o c1 c2 c3 c4 e)
theorem nh {p q:Kq}{z TI TO i j l m:Addr}{n n':Nat}{xs ys:Array Value}{a b:Value}{Q:PySem.Fin->Shared->Prop}(hh:A.handled=none)(D:ZipApart z TI TO i j l m)(hz:IsZip s.heap z TI TO .none)(hI:IsPair s.heap TI (.ref i) (.ref j))(hO:IsPair s.heap TO a b)
  (ci:It p s.heap i l n) (cj:It q s.heap j m n') (sl:Sq p s.heap l xs) (sm:Sq q s.heap m ys) (hend:xs[n]? = none∨ys[n']? = none)
  (k:∀ h' e,Kept z TO i j s.heap h'->(∃ o,h'.get? e=some o/\o.cls=.type "StopIteration")->E (.ref e) {s with heap:=h'}) :
  wpAny (model prog w) A (Builtin.«zip.__next__» ⟨[.ref z],[]⟩) Q E s:=by
 show wpAny _ _ (field (.ref z) 2 >>= _) _ _ _
 refine wpAny_bind (wpAny_field hz rfl (x:=.bool false) rfl ?_)
 show wpAny _ _ (field (.ref z) 3 >>= _) _ _ _
 refine wpAny_bind (wpAny_field hz rfl (x:=.ref TI) rfl (wpAny_bind (wpAny_seqItems hI rfl ?_)))
 show wpAny _ _ (Builtin.SmallTypes.ownedTupleIsFree (.ref z) >>= _) _ _ _
 refine wpAny_bind ?_
 unfold Builtin.SmallTypes.ownedTupleIsFree
 refine wpAny_bind (wpAny_field hz rfl (x:=.none) rfl (wpAny_pure ?_))
 simp only[if_true]
 refine wpAny_bind (wpAny_rule (wpAny_bind (wpAny_field hz rfl (x:=.ref TO) rfl (wpAny_bind (wpAny_setField_rec hz (by simp) fun h1 z1 e1=>?_)))))
 have z1':IsZip h1 z TI TO .ellipsis:=z1
 refine wpAny_bind ?_
 simp only[List.zipIdx_cons,List.zipIdx_nil,List.forIn_cons,List.forIn_nil]
 refine wpAny_bind (wpAny_bind (wpAny_onRaise ?_))
 show wpAny _ _ (Builtin.SmallTypes.nextOf (.ref i) >>= _) _ _ _
 cases hx:xs[n]? with
 | none=>
  refine wpAny_bind (oJ hh (ci.to fun o e=>e1.extBut _ _ D.i1z e) (sl.to fun o e=>e1.extBut _ _ D.l1z e) hx fun h2 e e2 he=>?_)
  obtain⟨oe,g,c⟩:=he
  have z2:IsZip h2 z TI TO .ellipsis:=e2 _ _ D.i1z.symm z1'
  have ne:e≠z:=fun v=>by rw[v,z2] at g;cases g;simp at c
  exact wpAny_setField_rec z2 (by simp) fun h3 _ e3=>k h3 e (fun d o c1 _ c3 _ v=>e3.extBut _ _ c1 (e2 _ _ c3 (e1.extBut _ _ c1 v))) ⟨oe,e3.extBut _ _ ne g,c⟩
 | some x=>
  have hy:ys[n']? = none:=by
   rcases hend with v|v
   ·rw[hx] at v;cases v
   ·exact v
  refine wpAny_bind (i3 (ci.to fun o e=>e1.extBut _ _ D.i1z e) (sl.to fun o e=>e1.extBut _ _ D.l1z e) hx fun h2 ci2 e2=>wpAny_pure ?_)
  have O2:IsPair h2 TO a b:=e2.extBut _ _ D.TOi1 (e1.extBut _ _ D.TOz hO)
  refine wpAny_bind (wpAny_seqItems O2 rfl (wpAny_bind (wpAny_updateSeq_pair O2 fun h3 O3 e3=>wpAny_bind (wpAny_letGo (wpAny_pure (wpAny_bind (wpAny_bind (wpAny_onRaise ?_))))))))
  show wpAny _ _ (Builtin.SmallTypes.nextOf (.ref j) >>= _) _ _ _
  refine wpAny_bind (oJ hh (cj.to fun o e=>e3.extBut _ _ D.TOi2.symm (e2.extBut _ _ D.i12.symm (e1.extBut _ _ D.i2z e))) (sm.to fun o e=>e3.extBut _ _ D.l2TO (e2.extBut _ _ D.l2i1 (e1.extBut _ _ D.l2z e))) hy fun h4 e e4 he=>?_)
  obtain⟨oe,g,c⟩:=he
  have z4:IsZip h4 z TI TO .ellipsis:=e4 _ _ D.i2z.symm (e3.extBut _ _ D.TOz.symm (e2.extBut _ _ D.i1z.symm z1'))
  have ne:e≠z:=fun v=>by rw[v,z4] at g;cases g;simp at c
  exact wpAny_setField_rec z4 (by simp) fun h5 _ e5=>k h5 e (fun d o c1 c2 c3 c4 v=>e5.extBut _ _ c1 (e4 _ _ c4 (e3.extBut _ _ c2 (e2.extBut _ _ c3 (e1.extBut _ _ c1 v))))) ⟨oe,e5.extBut _ _ ne g,c⟩
end
noncomputable def itO:Kq->Addr->Obj
 | .l,a=>{cls:=.type "list_iterator",data:=.fields #[.ref a,.int 0 0]}
 | .t,a=>{cls:=.type "tuple_iterator",data:=.fields #[.ref a,.int 0 0]}
noncomputable def Hi (p:Kq)(h:Heap)(l:Addr):Heap:=h.push (itO p l)
noncomputable def Hj (p q:Kq)(h:Heap)(l m:Addr):Heap:=(Hi p h l).push (itO q m)
noncomputable def HI (p q:Kq)(h:Heap)(l m:Addr):Heap:=(Hj p q h l m).push {cls:=.type "tuple",data:=.seq #[.ref h.objs.size,.ref (Hi p h l).objs.size]}
noncomputable def HO (p q:Kq)(h:Heap)(l m:Addr):Heap:=(HI p q h l m).push {cls:=.type "tuple",data:=.seq #[.none,.none]}
noncomputable def HZ (p q:Kq)(h:Heap)(l m:Addr):Heap:=(HO p q h l m).push {cls:=.type "zip",data:=.fields #[.none,.bool false,.bool false,.ref (Hj p q h l m).objs.size,.ref (HI p q h l m).objs.size]}
theorem vF (l m:Addr)(xs ys:Array Value):Meets (Builtin.«zip.__new__» ⟨[.type "zip",.ref l,.ref m],[]⟩) (fun _ R s=>Sq .l s.heap l xs/\Sq .l s.heap m ys/\R (.ok (.ret (.ref (HO .l .l s.heap l m).objs.size))) {s with heap:=HZ .l .l s.heap l m}):=
 .of_wp fun prog w A R s h=>by
  obtain⟨hp,g,d,tk,os⟩:=s
  obtain⟨q1,q2,h⟩:=h
  have sub:=sub_zip
  have a1:Heap.IsList (Shared.heap ⟨hp,g,d,tk,os⟩) l xs:=q1
  have a2:Heap.IsList (Shared.heap ⟨hp.push {cls:=.type "list_iterator",data:=.fields #[.ref l,.int 0 0]},g,d,tk,os⟩) m ys:=Heap.IsList.push (show hp.IsList m ys from q2) _
  wp_walk using wpAny_pyIter_list a1,wpAny_pyIter_list a2
  exact⟨_,rfl,h⟩
theorem vG (l m:Addr)(xs ys:Array Value):Meets (Builtin.«zip.__new__» ⟨[.type "zip",.ref l,.ref m],[]⟩) (fun _ R s=>Sq .l s.heap l xs/\Sq .t s.heap m ys/\R (.ok (.ret (.ref (HO .l .t s.heap l m).objs.size))) {s with heap:=HZ .l .t s.heap l m}):=
 .of_wp fun prog w A R s h=>by
  obtain⟨hp,g,d,tk,os⟩:=s
  obtain⟨q1,q2,h⟩:=h
  have sub:=sub_zip
  have a1:Heap.IsList (Shared.heap ⟨hp,g,d,tk,os⟩) l xs:=q1
  have a2:Heap.IsTuple (Shared.heap ⟨hp.push {cls:=.type "list_iterator",data:=.fields #[.ref l,.int 0 0]},g,d,tk,os⟩) m ys:=Heap.IsTuple.push (show hp.IsTuple m ys from q2) _
  wp_walk using wpAny_pyIter_list a1,wpAny_pyIter_tuple a2
  exact⟨_,rfl,h⟩
theorem vH (l m:Addr)(xs ys:Array Value):Meets (Builtin.«zip.__new__» ⟨[.type "zip",.ref l,.ref m],[]⟩) (fun _ R s=>Sq .t s.heap l xs/\Sq .l s.heap m ys/\R (.ok (.ret (.ref (HO .t .l s.heap l m).objs.size))) {s with heap:=HZ .t .l s.heap l m}):=
 .of_wp fun prog w A R s h=>by
  obtain⟨hp,g,d,tk,os⟩:=s
  obtain⟨q1,q2,h⟩:=h
  have sub:=sub_zip
  have a1:Heap.IsTuple (Shared.heap ⟨hp,g,d,tk,os⟩) l xs:=q1
  have a2:Heap.IsList (Shared.heap ⟨hp.push {cls:=.type "tuple_iterator",data:=.fields #[.ref l,.int 0 0]},g,d,tk,os⟩) m ys:=Heap.IsList.push (show hp.IsList m ys from q2) _
  wp_walk using wpAny_pyIter_tuple a1,wpAny_pyIter_list a2
  exact⟨_,rfl,h⟩
theorem vI (l m:Addr)(xs ys:Array Value):Meets (Builtin.«zip.__new__» ⟨[.type "zip",.ref l,.ref m],[]⟩) (fun _ R s=>Sq .t s.heap l xs/\Sq .t s.heap m ys/\R (.ok (.ret (.ref (HO .t .t s.heap l m).objs.size))) {s with heap:=HZ .t .t s.heap l m}):=
 .of_wp fun prog w A R s h=>by
  obtain⟨hp,g,d,tk,os⟩:=s
  obtain⟨q1,q2,h⟩:=h
  have sub:=sub_zip
  have a1:Heap.IsTuple (Shared.heap ⟨hp,g,d,tk,os⟩) l xs:=q1
  have a2:Heap.IsTuple (Shared.heap ⟨hp.push {cls:=.type "tuple_iterator",data:=.fields #[.ref l,.int 0 0]},g,d,tk,os⟩) m ys:=Heap.IsTuple.push (show hp.IsTuple m ys from q2) _
  wp_walk using wpAny_pyIter_tuple a1,wpAny_pyIter_tuple a2
  exact⟨_,rfl,h⟩
theorem vJ (p q:Kq)(l m:Addr)(xs ys:Array Value):Meets (Builtin.«zip.__new__» ⟨[.type "zip",.ref l,.ref m],[]⟩) (fun _ R s=>Sq p s.heap l xs/\Sq q s.heap m ys/\R (.ok (.ret (.ref (HO p q s.heap l m).objs.size))) {s with heap:=HZ p q s.heap l m}):=by
 cases p<;>cases q
 ·exact vF l m xs ys
 ·exact vG l m xs ys
 ·exact vH l m xs ys
 ·exact vI l m xs ys
theorem oK {k:Kq}{h h':Heap}{i a:Addr}(e:h'.get? i=some (itO k a)):It k h' i a 0:=by
 cases k with
 | l=>exact⟨_,e,rfl,rfl⟩
 | t=>exact⟨_,e,rfl,rfl⟩
theorem jF (k:Kq)(a:Addr):(itO k a).isFreed=false:=by cases k<;>rfl
section
variable {prog:Program}{w:World}{A:Around}{E:Value->Shared->Prop}{s:Shared}
theorem call_zip {p q:Kq}{l m:Addr}{xs ys:Array Value}{Q:Value->Shared->Prop}(h1:Sq p s.heap l xs)(h2:Sq q s.heap m ys)
  (k:∀ h',IsZip h' (s.heap.objs.size+4) (s.heap.objs.size+2) (s.heap.objs.size+3) .none->IsPair h' (s.heap.objs.size+2) (.ref s.heap.objs.size) (.ref (s.heap.objs.size+1))->IsPair h' (s.heap.objs.size+3) .none .none->
   It p h' s.heap.objs.size l 0->It q h' (s.heap.objs.size+1) m 0->h'.objs.size=s.heap.objs.size+5->(∀ c o,s.heap.get? c=some o->h'.get? c=some o)->Q (.ref (s.heap.objs.size+4)) {s with heap:=h'}) :
  wpAny (model prog w) A (call (.type "zip") [.ref l,.ref m]) Q E s:=by
 refine callType_new F.called_zip (by decide) (F.typeCall_zip_2 _ _) (F.newCall_zip_2 _ _) (fun obj=>F.args_object_init_3 obj _ _) F.entry_zip_new (vJ p q l m xs ys) ⟨h1,h2,?_⟩
 have n1:(Hi p s.heap l).objs.size=s.heap.objs.size+1:=Heap.size_push ..
 have n2:(Hj p q s.heap l m).objs.size=s.heap.objs.size+2:=(Heap.size_push ..).trans (by rw[n1])
 have n3:(HI p q s.heap l m).objs.size=s.heap.objs.size+3:=(Heap.size_push ..).trans (by rw[n2])
 have n4:(HO p q s.heap l m).objs.size=s.heap.objs.size+4:=(Heap.size_push ..).trans (by rw[n3])
 have n5:(HZ p q s.heap l m).objs.size=s.heap.objs.size+5:=(Heap.size_push ..).trans (by rw[n4])
 have upZ:∀ c o,(HO p q s.heap l m).get? c=some o->(HZ p q s.heap l m).get? c=some o:=fun c o e=>Heap.get?_push_of_some _ e
 have upO:∀ c o,(HI p q s.heap l m).get? c=some o->(HZ p q s.heap l m).get? c=some o:=fun c o e=>upZ c o (Heap.get?_push_of_some _ e)
 have upI:∀ c o,(Hj p q s.heap l m).get? c=some o->(HZ p q s.heap l m).get? c=some o:=fun c o e=>upO c o (Heap.get?_push_of_some _ e)
 have upJ:∀ c o,(Hi p s.heap l).get? c=some o->(HZ p q s.heap l m).get? c=some o:=fun c o e=>upI c o (Heap.get?_push_of_some _ e)
 have g5:(HZ p q s.heap l m).get? (HO p q s.heap l m).objs.size=some _:=Heap.get?_push_size _ rfl
 have g4:(HZ p q s.heap l m).get? (HI p q s.heap l m).objs.size=some {cls:=.type "tuple",data:=.seq #[.none,.none]}:=upZ _ _ (Heap.get?_push_size _ rfl)
 have g3:(HZ p q s.heap l m).get? (Hj p q s.heap l m).objs.size=some {cls:=.type "tuple",data:=.seq #[.ref s.heap.objs.size,.ref (Hi p s.heap l).objs.size]}:=upO _ _ (Heap.get?_push_size _ rfl)
 have g2:(HZ p q s.heap l m).get? (Hi p s.heap l).objs.size=some (itO q m):=upI _ _ (Heap.get?_push_size _ (jF q m))
 have g1:(HZ p q s.heap l m).get? s.heap.objs.size=some (itO p l):=upJ _ _ (Heap.get?_push_size _ (jF p l))
 rw[n2,n3,n4] at g5
 rw[n3] at g4
 rw[n1,n2] at g3
 rw[n1] at g2
 show _/\_
 rw[n4]
 exact⟨⟨_,g5,rfl⟩,k _ g5 g3 g4 (oK (h:=s.heap) g1) (oK (h:=s.heap) g2) n5 fun c o e=>upJ c o (Heap.get?_push_of_some _ e)⟩
end
section
variable {prog:Program}{w:World}{A:Around}{E:Value->Shared->Prop}{s:Shared}
theorem py_some {p q:Kq}{z TI TO i j l m:Addr}{n n':Nat}{xs ys:Array Value}{x y a b:Value}{Q:Option Value->Shared->Prop}(D:ZipApart z TI TO i j l m)(hz:IsZip s.heap z TI TO .none)(hI:IsPair s.heap TI (.ref i) (.ref j))(hO:IsPair s.heap TO a b)
  (ci:It p s.heap i l n) (cj:It q s.heap j m n') (sl:Sq p s.heap l xs) (sm:Sq q s.heap m ys) (hx:xs[n]? = some x) (hy:ys[n']? = some y)
  (k:∀ h',IsZip h' z TI TO (rawInt s.heap.objs.size)->IsPair h' TO x y->It p h' i l (n+1)->It q h' j m (n' + 1)->IsPair h' s.heap.objs.size x y->h'.objs.size=s.heap.objs.size+1->Kept z TO i j s.heap h'->Q (some (.ref s.heap.objs.size)) {s with heap:=h'}) :
  wpAny (model prog w) A (pyNext (.ref z)) Q E s:=by
 have ty:s.TypeIs (.ref z) "zip":=⟨_,hz,rfl⟩
 unfold pyNext
 refine wpAny_bind (wpAny_attempt (wpAny_callSpecial?_slot (name:=Str.ofString "__next__") ty F.slot_zip_next (wpAny_call_entry F.slot_zip_next ty F.entry_zip_next ?_ (F.args_zip_next_1 _))))
 exact ng D hz hI hO ci cj sl sm hx hy fun h' a1 a2 a3 a4 a5 a6 a7=>wpAny_pure (k h' a1 a2 a3 a4 a5 a6 a7)
theorem py_none {p q:Kq}{z TI TO i j l m:Addr}{n n':Nat}{xs ys:Array Value}{a b:Value}{Q:Option Value->Shared->Prop}(hh:A.handled=none)(D:ZipApart z TI TO i j l m)(hz:IsZip s.heap z TI TO .none)(hI:IsPair s.heap TI (.ref i) (.ref j))(hO:IsPair s.heap TO a b)
  (ci:It p s.heap i l n) (cj:It q s.heap j m n') (sl:Sq p s.heap l xs) (sm:Sq q s.heap m ys) (hend:xs[n]? = none∨ys[n']? = none)
  (k:∀ h',Kept z TO i j s.heap h'->Q none {s with heap:=h'}):wpAny (model prog w) A (pyNext (.ref z)) Q E s:=by
 have ty:s.TypeIs (.ref z) "zip":=⟨_,hz,rfl⟩
 unfold pyNext
 refine wpAny_bind (wpAny_attempt (wpAny_callSpecial?_slot (name:=Str.ofString "__next__") ty F.slot_zip_next (wpAny_call_entry F.slot_zip_next ty F.entry_zip_next (nh hh D hz hI hO ci cj sl sm hend fun h' e hk he=>?_) (F.args_zip_next_1 _))))
 obtain⟨o,g,c⟩:=he
 exact wpAny_bind (wpAny_isInstance (T:="StopIteration") (b:=true) ⟨o,g,c⟩ isSubtype_stop (wpAny_pure (k _ hk)))
end
end L2.Zp
namespace L2
open PySem PySem.Spec PyProof.Rows
def SqK (K:PySem.W.Frag)(H:Hp)(k:Zp.Kq)(a:Addr)(xs:List V):Prop:=match k with
 | .l=>SqL K H a xs
 | .t=>SqT K H a xs
section
variable {X:Cx}{pins:List (Addr×Obj)}{σ:St}{H:Hp}{s:Shared}{h':Heap}{k:Zp.Kq}{a:Addr}{xs ys:List V}
theorem Inv.sqk (I:Inv X pins σ H s)(h:SqK X.K H k a xs):∃ its:List Value,Vals xs its/\Zp.Sq k s.heap a its.toArray:=by
 cases k with
 | l=>obtain⟨its,rv,p,hz⟩:=I.list h;exact⟨its,rv,p.isList⟩
 | t=>obtain⟨its,rv,p,hz⟩:=I.tuple h;exact⟨its,rv,p⟩
theorem Inv.sqk_inj (I:Inv X pins σ H s)(h:SqK X.K H k a xs)(h':SqK X.K H k a ys):xs=ys:=by
 cases k with
 | l=>exact I.list_inj h h'
 | t=>exact I.tuple_inj h h'
theorem Inv.turns {t':Nat}{ch:List Addr}(I:Inv X pins σ H s)(k:∀ b o,b∉ch->s.heap.get? b=some o->h'.get? b=some o)(hf:∀ b∈ch,eK X pins H b):Inv X pins σ H {s with heap:=h',toks:=t'}:=by
 have nit:∀ b u,H b=some u->b∉ch:=fun b u e z=>by rw[(hf b z).1] at e;cases e
 refine I.step (g':=s.gens) (d':=s.drawn) (ch:=ch) (fun b hb=>?_) (fun b o _ _ hc e _=>k b o hc e) (fun b o _ _ hc e _=>⟨o.slots,k b o hc e⟩) (fun _ _ _ _ n=>n)
  (fun b o hc e=>⟨o,k b o hc e⟩) (fun _ _ e=>e) (fun _ _ _ e=>e) (fun b ps e=>⟨#[],by rw[e];simp⟩) (fun m hm=>?_) (fun b u e=>?_) I.bare
 ·obtain⟨f0,f1,f2,f3,f4,f5⟩:=hf b hb
  exact⟨f3,f1,f4,f5⟩
 ·obtain⟨o,es,ep,ho,r⟩:=hm
  exact⟨o,es,ep,k _ o (fun z=>(hf _ z).2.1 rfl) ho,r⟩
 ·refine(I.hok b u e).stay (fun c v hc q=>k c v ?_ q) (fun _ q=>q) fun _ _ q=>q
  rcases hc with z|z
  ·rw[z];exact nit b u e
  ·exact nit c _ z
theorem Inv.turnsN {t':Nat}{ch:List Addr}{T:Addr}{ho:HO}(I:Inv X pins σ H s)(k:∀ b o,b∉ch->s.heap.get? b=some o->h'.get? b=some o)(hf:∀ b∈ch,eK X pins H b)(hp:s.heap.objs.size<=T)(new:cu X.prog X.w (upd H T ho) h' T ho):Inv X pins σ (upd H T ho) {s with heap:=h',toks:=t'}:=by
 have nit:∀ b u,H b=some u->b∉ch:=fun b u e z=>by rw[(hf b z).1] at e;cases e
 have hn:H T=none:=I.hok.fresh hp
 refine I.step (g':=s.gens) (d':=s.drawn) (ch:=ch) (fun b hb=>?_) (fun b o _ _ hc e _=>k b o hc e) (fun b o _ _ hc e _=>⟨o.slots,k b o hc e⟩) (fun b o _ e n=>by rw[aD (Nat.ne_of_lt (Nat.lt_of_lt_of_le (Heap.lt_size e) hp))];exact n)
  (fun b o hc e=>⟨o,k b o hc e⟩) (fun b xs q=>by rw[aD (bS q hn)];exact q) (fun b u xs q=>by rw[aD (bS q hn)];exact q) (fun b ps q=>⟨#[],by rw[aD (bS q hn),q];simp⟩) (fun m hm=>?_) (fun b u e=>?_) I.bare
 ·obtain⟨f0,f1,f2,f3,f4,f5⟩:=hf b hb
  exact⟨f3,f1,f4,f5⟩
 ·obtain⟨o,es,ep,ho,r⟩:=hm
  exact⟨o,es,ep,k _ o (fun z=>(hf _ z).2.1 rfl) ho,r⟩
 ·by_cases hb:b=T
  ·subst hb;rw[bN] at e;cases e;exact new
  ·rw[aD hb] at e
   refine(I.hok b u e).stay (fun c v hc q=>k c v ?_ q) (fun c q=>by rw[aD (bS q hn)];exact q) fun c xs q=>by rw[aD (bS q hn)];exact q
   rcases hc with z|z
   ·rw[z];exact nit b u e
   ·exact nit c _ z
end
noncomputable def Itz (K:PySem.W.Frag)(p q:Zp.Kq)(l m:Addr):It:=
 ⟨fun i H=>∃ xs ys x y,SqK K H p l xs/\SqK K H q m ys/\xs[i]? = some x/\ys[i]? = some y,
  fun i H v H'=>∃ T a b,v=.ref T/\H T=none/\H'=upd H T (.tup [a,b])/\∀ xs ys,SqK K H p l xs->SqK K H q m ys->xs[i]? = some a/\ys[i]? = some b,
  fun i H=>∃ xs ys,SqK K H p l xs/\SqK K H q m ys/\(xs.length<=i∨ys.length<=i)⟩
theorem Zp.It.obj {k:Zp.Kq}{h:Heap}{i a:Addr}{n:Nat}(c:Zp.It k h i a n):∃ o,h.get? i=some o/\∀ v,o.data≠.cell v:=by
 cases k with
 | l=>obtain⟨o,e,c,d⟩:=c;exact⟨o,e,fun v z=>by rw[d] at z;cases z⟩
 | t=>obtain⟨o,e,c,d⟩:=c;exact⟨o,e,fun v z=>by rw[d] at z;cases z⟩
theorem oM {P:Program}{w:World}{K:PySem.W.Frag}{es:List Expr}{c:Nat}{pos:Pos}(p q:Zp.Kq)(z TI TO i j l m:Addr)(D:ZipApart z TI TO i j l m) :
  Turn P w K (.Tuple es c pos) (Itz K p q l m) [z,TI,TO,i,j] z (fun n h=>IsZip h z TI TO .none/\IsPair h TI (.ref i) (.ref j)/\(∃ a b,IsPair h TO a b)/\Zp.It p h i l n/\Zp.It q h j m n) where
 mem:=by simp
 obj:=fun n h st b hb=>by
  obtain⟨hz,hI,⟨a,b',hO⟩,ci,cj⟩:=st
  simp only[List.mem_cons,List.not_mem_nil,or_false] at hb
  rcases hb with rfl|rfl|rfl|rfl|rfl
  ·exact⟨_,hz,fun v z=>by cases z⟩
  ·exact⟨_,hI,fun v z=>by cases z⟩
  ·exact⟨_,hO,fun v z=>by cases z⟩
  ·exact ci.obj
  ·exact cj.obj
 keep:=fun n h h' st k=>by
  obtain⟨hz,hI,⟨a,b',hO⟩,ci,cj⟩:=st
  exact⟨k z (by simp) _ hz,k TI (by simp) _ hI,⟨a,b',k TO (by simp) _ hO⟩,ci.to fun o e=>k i (by simp) o e,cj.to fun o e=>k j (by simp) o e⟩
 item:=by
  intro X hP hw hK hc n pins s σ H E I hf st hg
  subst hP hw hK
  obtain⟨hz,hI,⟨a,b',hO⟩,ci,cj⟩:=st
  obtain⟨xs,ys,x,y,hq1,hq2,hx,hy⟩:=hg
  obtain⟨its1,rv1,p1⟩:=I.sqk hq1
  obtain⟨its2,rv2,p2⟩:=I.sqk hq2
  obtain⟨u1,hu1,ru1⟩:=rv1.get hx
  obtain⟨u2,hu2,ru2⟩:=rv2.get hy
  refine Zp.py_some D hz hI hO ci cj p1 p2 (x:=u1) (y:=u2) (by simpa using hu1) (by simpa using hu2) fun h1 a1 a2 a3 a4 a5 a6 hk=>?_
  refine⟨_,rfl,?_⟩
  have lz:z < s.heap.objs.size:=Heap.lt_size hz
  have hTz:s.heap.objs.size≠z:=Nat.ne_of_gt lz
  refine wpAny_letOwnedTupleGo_zip (s:={s with heap:=h1}) a1 fun h2 hz2 hs2=>?_
  have kk:∀ b o,b∉[z,TI,TO,i,j]->s.heap.get? b=some o->h2.get? b=some o:=fun b o hb e=>by
   simp only[List.mem_cons,List.not_mem_nil,or_false,not_or] at hb
   exact hs2.extBut _ _ hb.1 (hk b o hb.1 hb.2.2.1 hb.2.2.2.1 hb.2.2.2.2 e)
  have hT:IsPair h2 s.heap.objs.size u1 u2:=hs2.extBut _ _ hTz a5
  have I2:Inv X pins σ (upd H s.heap.objs.size (.tup [x,y])) {s with heap:=h2}:=I.turnsN (t':=s.toks) kk hf (Nat.le_refl _) ⟨by show 2<=sizeLine;decide,[u1,u2],.cons ru1 (.cons ru2 .nil),⟨_,hT,rfl,_,rfl⟩⟩
  refine⟨.ref s.heap.objs.size,_,I2,rfl,⟨_,x,y,rfl,I.hok.fresh (Nat.le_refl _),rfl,fun xs' ys' g1 g2=>by rw[I.sqk_inj g1 hq1,I.sqk_inj g2 hq2];exact⟨hx,hy⟩⟩,⟨hz2,hs2.extBut _ _ D.TIz (hk _ _ D.TIz D.TITO D.TIi1 D.TIi2 hI),⟨_,_,hs2.extBut _ _ D.TOz a2⟩,a3.to fun o e=>hs2.extBut _ _ D.i1z e,a4.to fun o e=>hs2.extBut _ _ D.i2z e⟩,fun b hb=>?_⟩
  have hb':b < s.heap.objs.size:=by
   simp only[List.mem_cons,List.not_mem_nil,or_false] at hb
   rcases hb with rfl|rfl|rfl|rfl|rfl
   ·exact lz
   ·exact Heap.lt_size hI
   ·exact Heap.lt_size hO
   ·exact ci.lt
   ·exact cj.lt
  rw[aD (Nat.ne_of_lt hb')]
  exact(hf b hb).1
 done:=by
  intro X hP hw hK hc n pins s σ H E I hf st hg
  subst hP hw hK
  obtain⟨hz,hI,⟨a,b',hO⟩,ci,cj⟩:=st
  obtain⟨xs,ys,hq1,hq2,hx⟩:=hg
  obtain⟨its1,rv1,p1⟩:=I.sqk hq1
  obtain⟨its2,rv2,p2⟩:=I.sqk hq2
  have l1:=rv1.length
  have l2:=rv2.length
  refine Zp.py_none (I.ok.hd hc) D hz hI hO ci cj p1 p2 (by
   rcases hx with hx|hx
   ·exact .inl (Array.getElem?_eq_none (by simp;omega))
   ·exact .inr (Array.getElem?_eq_none (by simp;omega))) fun h1 hk=>⟨rfl,I.turns (t':=s.toks) (ch:=[z,TI,TO,i,j]) (fun b o hb e=>?_) hf⟩
  simp only[List.mem_cons,List.not_mem_nil,or_false,not_or] at hb
  exact hk b o hb.1 hb.2.2.1 hb.2.2.2.1 hb.2.2.2.2 e
 self:=fun _ _ _ _ _ st h=>wpAny_pyIter_zip st.1 h
def AS (K:PySem.W.Frag)(ta:TA):TI:=fun σ H R=>ta σ H fun vs H1=>∃ p q l m xs ys,vs=[.ref l,.ref m]/\SqK K H1 p l xs/\SqK K H1 q m ys/\R (Itz K p q l m) H1
theorem Zp.Sq.lt {k:Zp.Kq}{h:Heap}{a:Addr}{xs:Array Value}(q:Zp.Sq k h a xs):a < h.objs.size:=by
 cases k with
 | l=>obtain⟨o,e,_⟩:=q;exact Heap.lt_size e
 | t=>obtain⟨o,e,_⟩:=q;exact Heap.lt_size e
theorem oO (N l m:Nat)(hl:l < N)(hm:m < N):ZipApart (N+4) (N+2) (N+3) N (N+1) l m:=by
 constructor<;>(intro e;have e':(_:Nat)=(_:Nat):=e;omega)
theorem vK {X:Cx}{a b:Expr}{ta:TA}{es:List Expr}{c:Nat}{p tp pos:Pos}(hg:Gl X "zip") (hm:X.mg "zip" = none) (ha:PA X [a,b] ta) (hs:starEach [a,b] X.env=[(false,eval a X.env),(false,eval b X.env)]) (hs2:starEach [b] X.env=[(false,eval b X.env)]) :
  PI X (.Tuple es c tp) (.Call (.Name "zip" p) [a,b] [] pos) (AS X.K ta):=by
 intro pins s σ H R I h
 refine Call_ (eT I hg hm boot_zip (PyProof.Rows.callWith_type1 (thn (ha pos pins s σ H _ I h) fun us s1 ⟨vs,H1,I1,r1,q1⟩=>?_) (by rw[hs,hs2]) (by rw[hs2];rfl)))
 obtain⟨k1,k2,l,m,xs,ys,e,g1,g2,q⟩:=q1
 subst e
 cases r1 with
 | cons r rr=>
  cases rr with
  | cons r' rr=>
   cases rr
   cases r
   cases r'
   obtain⟨its1,rv1,p1⟩:=I1.sqk g1
   obtain⟨its2,rv2,p2⟩:=I1.sqk g2
   have l1:=p1.lt
   have l2:=p2.lt
   refine Zp.call_zip p1 p2 fun h2 b1 b2 b3 b4 b5 b6 b7=>?_
   refine wpAny_pyIter_zip (s:={s1 with heap:=h2}) b1 ?_
   refine⟨s1.heap.objs.size+4,[s1.heap.objs.size+4,s1.heap.objs.size+2,s1.heap.objs.size+3,s1.heap.objs.size,s1.heap.objs.size+1],_,_,H1,rfl,I1.kept (t':=s1.toks) b7,oM k1 k2 _ _ _ _ _ l m (oO _ l m l1 l2),⟨b1,b2,⟨_,_,b3⟩,b4,b5⟩,fun b hb=>?_,q⟩
   have hb':s1.heap.objs.size<=b:=by
    simp only[List.mem_cons,List.not_mem_nil,or_false] at hb
    rcases hb with rfl|rfl|rfl|rfl|rfl
    ·exact Nat.le_add_right _ _
    ·exact Nat.le_add_right _ _
    ·exact Nat.le_add_right _ _
    ·exact Nat.le_refl _
    ·exact Nat.le_add_right _ _
   exact I1.fpOk hb' (I1.hok.fresh hb')
end L2
namespace L2.Zp
open PySem
end L2.Zp
namespace L2
open PySem PySem.Spec PyProof.Rows
end L2
namespace L2.Se
open PySem
open PyProof.Rows
section
variable {prog:Program}{w:World}{A:Around}{E:Value->Shared->Prop}{s:Shared}
instance:Inhabited Str:=⟨⟨#[]⟩⟩
end
end L2.Se
namespace L2.Sv
open PySem PyProof.Rows
end L2.Sv
namespace L2
open PySem PySem.Spec PyProof.Rows PySem.SeqAt
section
variable {X:Cx}
def AU:V->List V->Hp->VK->Prop:=fun x vs H Q=>∃ l xs i y,x=.ref l/\vs=[.int i,y]/\H l=some (.lst xs)/\0<=i/\i.toNat<=xs.length/\xs.length < sizeLine/\Q .non (upd H l (.lst (xs.take i.toNat++y::xs.drop i.toNat)))
theorem vL:MtM X "list.insert" AU:=by
 intro pins s σ H x vs v us Q I rx rv h
 obtain⟨l,xs,i,y,rfl,rfl,hH,h0,hi,hz,q⟩:=h
 cases rx
 have hs:sizeLine=16777216:=sizeLine_eq
 cases rv with
 | cons r1 rv'=>
  obtain⟨t,rfl⟩:=r1
  obtain⟨u,rfl,ru⟩:=Vals.one rv'
  obtain⟨z,its,n,r,hl,e⟩:=I.lstM hH
  refine call_meets F.slot_list_insert ⟨_,e,rfl⟩ F.entry_list_insert (F.args_list_insert_3 _ _ _) (AutoSeq1.list_insert_list_int_val_1 l its.toArray n i t u (by rw[fitsIndex_both (by omega) (by omega)];decide) (by rw[List.size_toArray];omega)) ⟨e,?_⟩
  refine⟨.non,_,I.lset (its':=its.take i.toNat++u::its.drop i.toNat) hH e ?_ ((r.take i.toNat).append (.cons ru (r.drop i.toNat))) ?_,rfl,q⟩
  ·have h1:¬ i < 0:=by omega
   have h2:min i.toNat its.toArray.size=i.toNat:=by rw[List.size_toArray];omega
   simp only[h1,if_false,h2]
   apply Array.ext'
   simp
   rw[List.take_of_length_le (by rw[List.length_drop];omega)]
  ·rw[List.length_append,List.length_cons,List.length_take,List.length_drop]
   omega
end
end L2
namespace L2.Sx
open PySem PyProof.Rows
noncomputable def dd (σ:List Str)(v:Str):List Str:=if σ.any (· == v) then σ else σ++[v]
theorem vM (σ:List Str)(v k:Str):(dd σ v).any (· == k)=(σ.any (· == k)||decide (k=v)):=by
 unfold dd
 by_cases h:σ.any (· == v)=true
 ·rw[if_pos h]
  by_cases e:k=v
  ·subst e;rw[h];simp
  ·rw[decide_eq_false e,Bool.or_false]
 ·rw[if_neg h,List.any_append]
  by_cases e:k=v
  ·subst e;simp
  ·have hb:(v == k)=false:=by simpa using fun z:v=k=>e z.symm
   simp[hb,e]
theorem oP (σ:List Str)(v:Str):(dd σ v).length=if σ.any (· == v)=true then σ.length else σ.length+1:=by
 unfold dd
 by_cases h:σ.any (· == v)=true
 ·rw[if_pos h,if_pos h]
 ·rw[if_neg h,if_neg h,List.length_append];rfl
theorem tL:∀ (l σ:List Str),(l.foldl dd σ).length<=σ.length+l.length
 | [],σ=>Nat.le_refl _
 | v::l,σ=>by
  have h:=tL l (dd σ v)
  have h2:=oP σ v
  rw[List.foldl_cons,List.length_cons]
  split at h2<;>omega
section
variable {prog:Program}{w:World}{A:Around}{E:Value->Shared->Prop}{s:Shared}{R:Result->Shared->Prop}{I:Addr}{fp wr:List Addr}{G:Array GenState->Array GenState->Prop}{n:Nat}{P:Nat->Value->Prop}{St:Nat->Shared->Prop}
def SetS (prog:Program)(w:World)(h:Heap)(a:Addr)(σ:List Str):Prop:=h.SetOf (PySem.strKind prog w) a (fun k=>σ.any (· == k)) σ.length
theorem SetS.moved {h h':Heap}{a:Addr}{σ:List Str}(hS:SetS prog w h a σ)(k:∀ o,h.get? a=some o->h'.get? a=some o):SetS prog w h' a σ:=by
 obtain⟨o,es,ep,t,ho,D⟩:=hS
 exact⟨o,es,ep,t,k o ho,D⟩
theorem isS (x:Str)(t:Tok):(PySem.strKind prog w).is x (.str x t)=true:=by
 show (x == x)=true
 simp
theorem loop (W:WalksS prog w A.in1 I fp wr G n P St)(a:Addr)(ha:a∉fp){ns:List Str}(hv:∀ i v,P i v->∃ t,v=.str (ns.getD i ⟨#[]⟩) t)(hn:ns.length=n)(hb:n+1 < scanBound) :
  ∀ (k i:Nat) (s:Shared),n - i=k->i<=n->St i s->SetS prog w s.heap a ((ns.take i).foldl dd [])->
   (∀ s',Moved (a::wr) G s s'->SetS prog w s'.heap a (ns.foldl dd [])->R (.ok (.ret .none)) s')->
   codeAny (model prog w) A (.builtin "set.update.loop" ⟨[.ref a,.ref I],[]⟩) R s:=by
 have haw:a∉wr:=fun z=>ha (W.sub _ z)
 have sub:∀ b∈wr,b∈a::wr:=fun b z=>List.mem_cons_of_mem _ z
 intro k
 induction k with
 | zero=>
  intro i s hk hi hst hS hR
  have e:i=n:=by omega
  subst e
  rw[<- hn,List.take_length] at hS
  refine codeAny_builtin F.entry_set_update_loop ?_
  rw[Around.under_plainId F.plain_set_update_loop _]
  show wpAny _ A.in1 (pyNext (.ref I) >>= _) _ _ s
  exact wpAny_bind (W.done s _ _ hst fun s' hm=>show wpAny _ A.in1 (ret Value.none) _ _ s' from wpAny_pure (hR s' (hm.mono sub) (hS.moved fun o e=>hm.heap a o haw e)))
 | succ k ih=>
  intro i s hk hi hst hS hR
  have hlt:i < n:=by omega
  refine codeAny_builtin F.entry_set_update_loop ?_
  rw[Around.under_plainId F.plain_set_update_loop _]
  show wpAny _ A.in1 (pyNext (.ref I) >>= _) _ _ s
  refine wpAny_bind (W.item i s _ _ hlt hst fun v s' hP hst' hm=>?_)
  obtain⟨t,rfl⟩:=hv i v hP
  have hS1:SetS prog w s'.heap a ((ns.take i).foldl dd []):=hS.moved fun o e=>hm.heap a o haw e
  show wpAny _ A.in1 (holding [Value.str (ns.getD i ⟨#[]⟩) t] (setAdd a (.str (ns.getD i ⟨#[]⟩) t)) >>= _) _ _ s'
  unfold setAdd
  refine wpAny_bind (wpAny_holding (wpAny_holding (wpAny_bind ((PySem.strKind prog w).pyHash (isS _ _) ?_))))
  have hlen:=tL (ns.take i) []
  rw[List.length_take,List.length_nil] at hlen
  refine wpAny_setAddHashed_of (knd:=PySem.strKind prog w) (s:={s' with toks:=s'.toks+1}) (isS _ _) rfl hS1 (by omega) fun h' hsb hS2=>?_
  have et:(ns.take (i+1)).foldl dd []=dd ((ns.take i).foldl dd []) (ns.getD i ⟨#[]⟩):=by
   have hi':i < ns.length:=by omega
   rw[List.take_succ,List.foldl_append,List.getElem?_eq_getElem hi',List.getD_eq_getElem?_getD,List.getElem?_eq_getElem hi']
   rfl
  have hS3:SetS prog w h' a ((ns.take (i+1)).foldl dd []):=by
   unfold SetS
   rw[et]
   exact SetOf_congr hS2 (fun k'=>by rw[vM]) (by rw[oP])
  refine wpAny_pure ⟨plainId_quiet F.plain_set_update_loop _,ih (i+1) _ (by omega) hlt (W.frame _ s' _ _ hst' (Nat.le_succ _) fun b hb o e=>?_) hS3 fun s'' hm'' hS''=>?_⟩
  ·rw[hsb.2 b fun z=>ha (z ▸ hb)];exact e
  ·refine hR s'' (Moved.trans W.gtrans ((hm.mono sub).then_heap (Nat.le_succ _) fun b o hb e=>?_) hm'') hS''
   rw[hsb.2 b fun z=>hb (z ▸ List.mem_cons_self)];exact e
noncomputable abbrev oN (led:Bool):Obj:={cls:=.type "set",dict:=none,data:=.set #[] 0 (.fresh 0 0 led)}
theorem call_set {l:Addr}{items:Array Value}{ns:List Str}{Q:Value->Shared->Prop}(hh:A.handled=none)(hl:s.heap.IsTuple l items)(hi:∀ (i:Nat)(v:Value),items[i]? = some v->∃ t,v=Value.str (ns.getD i ⟨#[]⟩) t)(hlen:ns.length=items.size)(hb:items.size+1 < scanBound)
  (h:∀ (h':Heap) (tk:Nat),SetS prog w h' s.heap.objs.size (ns.foldl dd [])->(∀ b o,b < s.heap.objs.size->s.heap.get? b=some o->h'.get? b=some o)->Q (.ref s.heap.objs.size) {s with heap:=h',toks:=tk}) :
  wpAny (model prog w) A (call (.type "set") [.ref l]) Q E s:=by
 obtain⟨c,tl,mro⟩:=F.called_set.mro
 have made:=F.called_set.made
 have sub:=F.called_set.sub
 refine wpAny_call (codeAny_of_tree (show wpAny _ _ (callAny (.type "set") _) _ _ _ from wpAny_pure ⟨Code.quiet_builtin _ (by decide +kernel),codeAny_builtin F.entry_type_call ?_⟩))
 rw[Around.under_plain (weight_type_call_type "set" [.ref l] []) rfl]
 have n1:=F.called_set.notType
 have n2:=F.called_set.canCreate
 have n3:=F.typeCall_set_1 (.ref l)
 repeat (any_goals (first|assumption|wp_step))
 refine codeAny_mono (code_set_new_1 (.ref l) (E:=E) (Q₁:=fun obj s1=>∃ led,obj=.ref s.heap.objs.size/\s1 = {s with heap:=s.heap.push (oN led)}) fun led=>⟨led,rfl,rfl⟩) fun r s1 hr=>?_
 cases r with
 | error e=>exact hr
 | ok fl=>
  cases fl with
  | ret obj=>
   obtain⟨led,rfl,rfl⟩:=hr
   have gS:(s.heap.push (oN led)).get? s.heap.objs.size=some (oN led):=Heap.get?_push_size _ rfl
   have hT:Shared.TypeIs {s with heap:=s.heap.push (oN led)} (.ref s.heap.objs.size) "set":=⟨_,gS,rfl⟩
   have i1:=F.called_set.init.lookup
   have i2:=F.called_set.init.bind (.ref s.heap.objs.size)
   repeat (any_goals (first|assumption|wp_step))
   refine codeAny_mono (codeAny_call_builtin (R:=wants (fun r s2=>r=.none/\∃ h' tk,s2 = {s with heap:=h',toks:=tk}/\SetS prog w h' s.heap.objs.size (ns.foldl dd [])/\
     (∀ b o,b < s.heap.objs.size->s.heap.get? b=some o->h'.get? b=some o)) E) F.called_set.init.plain F.entry_set_init (check_set_init_1 hT ?_)) fun r2 s2 hr2=>?_
   ·obtain⟨ol,hol,hcl,nl,hdl⟩:=hl
    obtain⟨ocls,odict,odata,oslots⟩:=ol
    simp only at hcl hdl
    subst hcl;subst hdl
    have hol1:(s.heap.push (oN led)).get? l=some {cls:=.type "tuple",dict:=odict,data:=.seq items nl,slots:=oslots}:=Heap.get?_push_of_some _ hol
    have w1:=PySem.F.sub_tuple_set
    have w2:=PySem.F.sub_tuple_frozenset
    have w3:(Value.type "tuple" == Value.type "dict")=false:=by decide
    have hl1:(s.heap.push (oN led)).IsTuple l items:=⟨_,hol1,rfl,nl,rfl⟩
    unfold Builtin.«set.__init__» noKeywords Builtin.Frozenset.updateFrom
    generalize hPI:pyIter=PI
    wp_walk
    subst hPI
    refine wpAny_pyIter_tuple hl1 (wpAny_bind (wpAny_runValue ?_))
    have lS:l < s.heap.objs.size:=Heap.lt_size hol
    have nI:l≠(s.heap.push (oN led)).objs.size:=by rw[Heap.size_push];exact Nat.ne_of_lt (Nat.lt_succ_of_lt lS)
    have aS:s.heap.objs.size∉[(s.heap.push (oN led)).objs.size,l]:=by
     rw[Heap.size_push]
     intro z
     rcases List.mem_cons.mp z with z|z
     ·exact Nat.ne_of_lt (Nat.lt_succ_self _) z
     ·exact Nat.ne_of_gt lS (List.mem_singleton.mp z)
    have f0:SetS prog w (s.heap.push (oN led)) s.heap.objs.size []:=SetOf_congr ((setObjOf_fresh (knd:=PySem.strKind prog w) led).setOf gS (by unfold scanBound;omega)) (fun _=>rfl) rfl
    refine loop ((Walks.tuple (show A.in1.in1.in1.handled=none by simp[hh]) _ l nI items).toS) s.heap.objs.size aS (ns:=ns) hi hlen hb (items.size - 0) 0 _ (by omega) (Nat.zero_le _)
     ⟨⟨_,Heap.get?_push_size _ rfl,rfl,rfl⟩,(hl1.push _)⟩ (f0.moved fun o e=>Heap.get?_push_of_some _ e) ?_
    intro s' hm hS'
    obtain⟨h',g',d',tk',os'⟩:=s'
    have eg:g'=s.gens:=hm.gens
    have ed:d'=s.drawn:=hm.drawn
    have eo:os'=s.os:=hm.os
    subst eg ed eo
    show wpAny _ _ _ _ _ _
    refine wpAny_pure (show wpAny _ _ (ret Value.none) _ _ _ from wpAny_pure ⟨rfl,h',tk',rfl,hS',fun b o hb e=>?_⟩)
    refine hm.heap b o (fun z=>?_) (Heap.get?_push_of_some _ (Heap.get?_push_of_some _ e))
    rcases List.mem_cons.mp z with z|z
    ·exact Nat.ne_of_lt hb z
    ·have:=List.mem_singleton.mp z
     rw[Heap.size_push] at this
     exact Nat.ne_of_lt (Nat.lt_succ_of_lt hb) this
   ·cases r2 with
    | error e=>exact hr2
    | ok fl2=>
     cases fl2 with
     | ret r=>
      obtain⟨rfl,h',tk,rfl,hS',hk'⟩:=hr2
      repeat (any_goals (first|assumption|wp_step))
      exact h _ _ hS' hk'
     | _=>exact hr2.elim
  | _=>exact hr.elim
theorem call_len {a:Addr}{σ:List Str}{Q:Value->Shared->Prop}(hS:SetS prog w s.heap a σ)(h:∀ t tk,Q (.int σ.length t) {s with toks:=tk}):wpAny (model prog w) A (call (.builtin "len") [.ref a]) Q E s:=by
 obtain⟨o,es,ep,t,ho,hex,hd,_,_,hb,hf,hn⟩:=hS
 refine call_len_set ho hex hd hf (by unfold scanBound at hb;omega) ?_
 rw[hn]
 exact h _ _
end
end L2.Sx
namespace L2
open PySem PySem.Spec PyProof.Rows
section
variable {X:Cx}{e:Expr}{p p' pos pos':Pos}{t:TE}
theorem i4 {ns:List Str}:∀ {us:List Value},Vals (ns.map V.str) us->∀ (i:Nat) (v:Value),us[i]? = some v->∃ t,v=Value.str (ns.getD i ⟨#[]⟩) t:=by
 induction ns with
 | nil=>intro us r i v h;cases r;simp at h
 | cons n ns ih=>
  intro us r i v h
  cases r with
  | cons r rs=>
   obtain⟨t,rfl⟩:=r
   cases i with
   | zero=>exact⟨t,by simpa using h.symm⟩
   | succ j=>simpa using ih rs j v (by simpa using h)
theorem rT (hc:X.calm=true)(g1:Gl X "len") (m1:X.mg "len" = none) (g2:Gl X "set") (m2:X.mg "set" = none) (he:PE X e t) (hst:∀ es,starEach (e::es) X.env=(false,eval e X.env)::starEach es X.env) :
  PE X (.Call (.Name "len" p) [.Call (.Name "set" p') [e] [] pos'] [] pos) (fun σ H Q=>t σ H fun v H1=>∃ (l:Addr) (ns:List Str),v=.ref l/\SqT X.K H1 l (ns.map V.str)/\ns.length < 1000/\Q (.int ((ns.foldl Sx.dd []).length:Nat)) H1):=by
 intro pins s σ H Q I h
 refine wpAny_Call_Name_kw (eT (u:=.builtin "len") I g1 m1 (by decide +kernel) ?_ (by decide) (by decide))
 refine PyProof.Rows.callWith_builtin1 ?_ rfl rfl
 show wpAny _ _ (spliced ((false,eval (.Call (.Name "set" p') [e] [] pos') X.env)::backTo pos (starEach [] X.env))) _ _ s
 have key:wpAny (model X.prog X.w) X.A (eval (.Call (.Name "set" p') [e] [] pos') X.env) (fun u s1=>∃ (a:Addr) (ns:List Str) (H1:Hp),u=.ref a/\Inv X pins σ H1 s1/\Sx.SetS X.prog X.w s1.heap a (ns.foldl Sx.dd [])/\Q (.int ((ns.foldl Sx.dd []).length:Nat)) H1) X.xe s:=by
  refine wpAny_Call_Name_kw (eT (u:=.type "set") I g2 m2 (by decide +kernel) ?_ (by decide) (by decide))
  refine PyProof.Rows.callWith_type1 ?_ (hst []) rfl
  rw[hst []]
  show wpAny _ _ (spliced ((false,eval e X.env)::backTo pos' (starEach [] X.env))) _ _ s
  refine Calls.spliced_cons (thn (he pins s σ H _ I h) fun u s1 ⟨x,H1,I1,r1,l,ns,ex,hq,hn,q1⟩=>?_)
  subst ex
  cases r1
  refine Calls.spliced_nil ?_
  obtain⟨its,r',pl,hz⟩:=I1.tuple hq
  have hl:=r'.length
  rw[List.length_map] at hl
  refine Sx.call_set (I1.ok.hd hc) pl (fun i v hv=>i4 r' i v (by simpa using hv)) (by rw[List.size_toArray];exact hl) (by rw[List.size_toArray];unfold scanBound;omega) fun h' tk hS hk=>⟨_,ns,H1,rfl,I1.kept (t':=tk) fun b o e=>hk b o (Heap.lt_size e) e,hS,q1⟩
 refine Calls.spliced_cons (thn key fun u s1 ⟨a,ns,H1,eu,I1,hS,q1⟩=>?_)
 subst eu
 refine Calls.spliced_nil ?_
 exact Sx.call_len hS fun t tk=>⟨.int _,H1,I1.tok _,⟨_,rfl⟩,q1⟩
end
end L2
namespace L2.Dp
open PySem PyProof.Rows
end L2.Dp
namespace L2
open PySem PySem.Spec PyProof.Rows
open PySem.SeqAt
section
variable {X:Cx}
theorem Inv.dct {pins:List (Addr×Obj)}{σ:St}{H:Hp}{s:Shared}{p:Addr}{kvs:List (Key×V)}(I:Inv X pins σ H s)(e:Rd H p (.dK kvs)):kvs.length<=sizeLine/\(p == sysModules)=false/\∃ vs o es ep,KV kvs vs/\s.heap.get? p=some o/\o.data=.dict es ep/\s.heap.DictAt (cD X.prog X.w) p vs ep:=by
 obtain⟨h1,h2,vs,kv,o,es,ep,ho,c,hd,r⟩:=e.ok I.hok
 exact⟨h1,h2,vs,o,es,ep,kv,ho,hd,o,es,ho,c,hd,r⟩
theorem KV.at {κ:Type}:∀ {kvs:List (κ×V)}{vs:List (κ×Value)} (r:KV kvs vs) {i:Nat}{q:κ×Value},vs[i]? = some q->∃ v,kvs[i]? = some (q.1,v)/\RelV v q.2
 | _,_,.nil,_,_,h=>by simp at h
 | (k,v)::_,q'::_,.cons r _,0,q,h=>by
  cases h
  obtain⟨r1,r2⟩:=r
  have r1:k=q'.1:=r1
  subst r1
  exact⟨v,rfl,r2⟩
 | _,_,.cons _ r,i+1,q,h=>KV.at r (i:=i) (by simpa using h)
theorem KV.len {κ:Type}{kvs:List (κ×V)}{vs:List (κ×Value)}(r:KV kvs vs):kvs.length=vs.length:=Paired.length r
theorem ni:c8 X (.builtin "len") (fun xs H Q=>∃ (p:Addr) (kvs:List (Key×V)),xs=[.ref p]/\Rd H p (.dK kvs)/\Q (.int kvs.length) H):=by
 intro pins s σ H xs us Q I r h
 obtain⟨p,kvs,rfl,hp,q⟩:=h
 obtain⟨u,rfl,rx⟩:=vals1 r
 cases rx
 obtain⟨hz,lo,vs,o,es,ep,kv,ho,hd,hm⟩:=I.dct hp
 have hs:sizeLine=16777216:=sizeLine_eq
 have hl:=kv.len
 exact call_len_dict lo hm.dictOf (by omega) ⟨.int kvs.length,H,I.tok _,⟨_,by rw[hl]⟩,q⟩
theorem vN {P:Program}{w:World}{k:Key}{u:Value}(h:(cD P w).is k u=true):RelV (kV k) u:=by
 rcases cn h with ⟨i,t,rfl,rfl⟩|⟨x,t,rfl,rfl⟩
 ·exact⟨t,rfl⟩
 ·exact⟨t,rfl⟩
end
noncomputable def f7 (y:Str):List Str->Option Nat
 | []=>none
 | x::r=>if x=y then some 0 else (f7 y r).map (· + 1)
theorem i5 {y:Str}:∀ {ns:List Str}{j:Nat},f7 y ns=some j->ns[j]? = some y/\∀ i,i < j->∃ z,ns[i]? = some z/\z≠y
 | x::r,j,h=>by
  unfold f7 at h
  by_cases e:x=y
  ·rw[if_pos e] at h
   cases h
   exact⟨congrArg some e,fun i hi=>absurd hi (Nat.not_lt_zero _)⟩
  ·rw[if_neg e] at h
   obtain⟨k,hk,rfl⟩:=Option.map_eq_some_iff.mp h
   obtain⟨h1,h2⟩:=i5 hk
   exact⟨h1,fun i hi=>match i,hi with
    | 0,_=>⟨x,rfl,e⟩
    | i+1,hi=>h2 i (by omega)⟩
 | [],j,h=>by cases h
noncomputable def isS (y:Str):Value->Bool
 | .str z _=>z.cps.toList == y.cps.toList
 | _=>false
theorem lJ {y z:Str}{t:Tok}:isS y (.str z t)=decide (z=y):=by
 obtain⟨⟨a⟩⟩:=z
 obtain⟨⟨b⟩⟩:=y
 by_cases h:a=b
 ·subst h
  rw[decide_eq_true rfl]
  exact beq_self_eq_true a
 ·rw[decide_eq_false (fun e=>h (by injection e with e;injection e))]
  exact beq_eq_false_iff_ne.mpr h
section
variable {X:Cx}
theorem lK:∀ {vs:List Value}{kvs:List (Key×V)},vs.length=kvs.length->(∀ (i:Nat) (v:Value),vs[i]? = some v->∃ k x,kvs[i]? = some (k,x)/\RelV (kV k) v)->Vals (kvs.map fun q=>kV q.1) vs
 | [],[],_,_=>.nil
 | v::vs,q::kvs,hl,h=>by
  obtain⟨k,x,e,r⟩:=h 0 v rfl
  cases e
  exact .cons r (lK (by simpa using hl) fun i u hu=>h (i+1) u hu)
 | [],_::_,hl,_=>by simp at hl
 | _::_,[],hl,_=>by simp at hl
theorem gD (hc:X.calm=true):c8 X (.type "list") (fun xs H Q=>∃ (p:Addr) (kvs:List (Key×V)),xs=[.ref p]/\Rd H p (.dK kvs)/\∀ l,H l=none->Q (.ref l) (upd H l (.lst (kvs.map fun q=>kV q.1)))):=by
 intro pins s σ H xs us Q I r h
 obtain⟨p,kvs,rfl,hp,q⟩:=h
 obtain⟨u,rfl,rx⟩:=vals1 r
 cases rx
 obtain⟨hz,lo,vs,o,es,ep,kv,ho,hd,hm⟩:=I.dct hp
 have hv:=kv.len
 refine PySem.W.kdl_call (PySem.W.kdl_dict lo) (I.ok.hd hc) hm (by rw[<- hv];exact hz) fun h' tk acc c k e hacc=>?_
 have rv:Vals (kvs.map fun q=>kV q.1) acc.toList:=lK (by rw[Array.length_toList,hacc.1];exact hv.symm) fun i v hi=>by
  obtain⟨k,x,e1,e2⟩:=hacc.2 i v (by rw[<- Array.getElem?_toList];exact hi)
  obtain⟨y,e3,_⟩:=kv.at e1
  exact⟨k,y,e3,vN e2⟩
 have J:=I.laid (t':=tk) (o:=.lst (kvs.map fun q=>kV q.1)) k (Nat.le_refl _) (show cu X.prog X.w _ _ _ (.lst _) from ⟨by rw[List.length_map];exact hz,acc.toList,c,rv,by simpa using e⟩)
 exact⟨.ref _,_,J,rfl,q _ (I.hok.fresh (Nat.le_refl _))⟩
theorem rU:MtR X "list.index" (fun x xs H Q=>∃ (l:Addr) (ns:List Str) (y:Str) (j:Nat),x=.ref l/\SqL X.K H l (ns.map V.str)/\xs=[.str y]/\f7 y ns=some j/\Q (.int j) H):=by
 intro pins s σ H x xs v us Q I rx rs h
 obtain⟨l,ns,y,j,rfl,hq,rfl,hj,q⟩:=h
 obtain⟨u,rfl,ru⟩:=vals1 rs
 obtain⟨t,rfl⟩:=ru
 cases rx
 obtain⟨its,r',pl,hz⟩:=I.list hq
 obtain⟨o,n,ho,hc,hd,hs⟩:=pl
 have hl:=r'.length
 rw[List.length_map] at hl hz
 obtain⟨h1,h2⟩:=i5 hj
 have hjl:j < ns.length:=(List.getElem?_eq_some_iff.mp h1).1
 have at_:∀ (i:Nat) (z:Str),ns[i]? = some z->∃ t,its[i]? = some (Value.str z t):=fun i z hz'=>by
  have hi:i < its.length:=by rw[<- hl];exact(List.getElem?_eq_some_iff.mp hz').1
  obtain⟨t,e⟩:=i4 r' i its[i] (List.getElem?_eq_getElem hi)
  refine⟨t,?_⟩
  rw[List.getElem?_eq_getElem hi,e,List.getD_eq_getElem?_getD,hz']
  rfl
 have all_:∀ y'∈its.toArray,EqAt X.A.in1 s y' (.str y t) (isS y y'):=fun y' hy=>by
  obtain⟨i,hi,e⟩:=List.getElem_of_mem (show y'∈its from by simpa using hy)
  obtain⟨t',e'⟩:=i4 r' i its[i] (List.getElem?_eq_getElem hi)
  rw[<- e,e']
  exact(SeqRoads2.EqGives.str _ y t' t).at _ s
 have hji:j < its.toArray.size:=by rw[List.size_toArray,<- hl];exact hjl
 obtain⟨tj,ej⟩:=at_ j y h1
 obtain⟨oc,od,oda,osl⟩:=o
 dsimp only at hc hd hs
 subst hc hd hs
 have hs9:sizeLine=16777216:=sizeLine_eq
 refine call_meets PySem.F.slot_list_index ⟨_,ho,rfl⟩ PySem.F.entry_list_index (PySem.F.args_list_index_2 _ _)
  (list_indexAt l its.toArray n none osl (.str y t) (isS y) j hji (by omega) ?_ fun m hm hlt=>?_) ⟨ho,all_,⟨.int j,H,I.tok _,⟨_,rfl⟩,q⟩⟩
 ·have:its.toArray[j]=Value.str y tj:=by
   have:=(List.getElem?_eq_some_iff.mp ej).2
   simpa using this
  rw[this,lJ,decide_eq_true rfl]
 ·obtain⟨z,hz1,hz2⟩:=h2 m hlt
  obtain⟨tm,em⟩:=at_ m z hz1
  have:its.toArray[m]=Value.str z tm:=by
   have:=(List.getElem?_eq_some_iff.mp em).2
   simpa using this
  rw[this,lJ,decide_eq_false hz2]
end
structure EX where
 c:Str
 x:Str
 ts:List Str
inductive D where
 | non|bl (b:Bool)|int (i:Int)|str (x:Str)|tup (ds:List D)|lst (own:Bool) (ds:List D)|exc (c:EX)|dct (own:Bool) (ks:List Key) (ds:List D)
 deriving Inhabited
mutual
noncomputable def er:D->D
 | .tup ds=>.tup (ers ds)
 | .lst _ ds=>.lst false (ers ds)
 | .dct _ ks ds=>.dct false ks (ers ds)
 | .non=>.non
 | .bl b=>.bl b
 | .int i=>.int i
 | .str x=>.str x
 | .exc c=>.exc c
noncomputable def ers:List D->List D
 | []=>[]
 | d::ds=>er d::ers ds
end
mutual
noncomputable def b9:D->Bool
 | .tup ds=>bR ds
 | .lst _ _=>false
 | .dct _ _ _=>false
 | .non=>true
 | .bl _=>true
 | .int _=>true
 | .str _=>true
 | .exc _=>true
noncomputable def bR:List D->Bool
 | []=>true
 | d::ds=>b9 d&&bR ds
end
theorem cO:∀ ds:List D,ers ds=ds.map er
 | []=>rfl
 | d::ds=>by rw[ers,cO ds];rfl
theorem dU:∀ ds:List D,bR ds=ds.all b9
 | []=>rfl
 | d::ds=>by rw[bR,dU ds];rfl
theorem dh (ds:List D):(ers ds).length=ds.length:=by rw[cO,List.length_map]
mutual
theorem jG:∀ {d:D},b9 d=true->er d=d
 | .non,_=>rfl
 | .bl _,_=>rfl
 | .int _,_=>rfl
 | .str _,_=>rfl
 | .exc _,_=>rfl
 | .tup ds,h=>by rw[er,cM (ds:=ds) h]
 | .lst o ds,h=>by cases (show false=true from h)
 | .dct o ks ds,h=>by cases (show false=true from h)
theorem cM:∀ {ds:List D},bR ds=true->ers ds=ds
 | [],_=>rfl
 | d::ds,h=>by
  have h':(b9 d&&bR ds)=true:=h
  rw[Bool.and_eq_true] at h'
  rw[ers,jG h'.1,cM h'.2]
end
mutual
theorem tM:∀ d:D,er (er d)=er d
 | .non=>rfl
 | .bl _=>rfl
 | .int _=>rfl
 | .str _=>rfl
 | .exc _=>rfl
 | .tup ds=>by rw[er,er,ers_ers ds]
 | .lst _ ds=>by rw[er,er,ers_ers ds]
 | .dct _ ks ds=>by rw[er,er,ers_ers ds]
theorem ers_ers:∀ ds:List D,ers (ers ds)=ers ds
 | []=>rfl
 | d::ds=>by rw[ers,ers,tM d,ers_ers ds]
end
inductive Exc where
 | stuck|exc (c:EX)
abbrev Res (α:Type):=Except Exc α
noncomputable abbrev stk {α:Type}:Res α:=.error .stuck
noncomputable def bnd {α β:Type}(x:Res α)(f:α->Res β):Res β:=match x with
 | .ok a=>f a
 | .error e=>.error e
noncomputable def grd {α:Type}(c:Bool)(x:Res α):Res α:=if c=true then x else stk
def PO' {α:Type}(ex:EX->Prop)(x:Res α)(k:α->Prop):Prop:=match x with
 | .ok a=>k a
 | .error (.exc c)=>ex c
 | .error .stuck=>False
theorem PO'.bnd {α β:Type}{ex:EX->Prop}{x:Res α}{f:α->Res β}{k:β->Prop}(h:PO' ex (bnd x f) k):PO' ex x fun a=>PO' ex (f a) k:=by
 cases x with
 | ok a=>exact h
 | error e=>cases e<;>exact h
theorem PO'.grd {α:Type}{ex:EX->Prop}{c:Bool}{x:Res α}{k:α->Prop}(h:PO' ex (grd c x) k):c=true/\PO' ex x k:=by
 unfold L2.grd at h
 cases c with
 | true=>exact⟨rfl,h⟩
 | false=>exact False.elim h
theorem PO'.mono {α:Type}{ex:EX->Prop}{x:Res α}{k k':α->Prop}(h:PO' ex x k)(m:∀ a,k a->k' a):PO' ex x k':=by
 cases x with
 | ok a=>exact m a h
 | error e=>cases e<;>exact h
theorem PO'.mk {α β:Type}{ex:EX->Prop}{x:Res α}{f:α->Res β}{k:β->Prop}(h:PO' ex x fun a=>PO' ex (f a) k):PO' ex (L2.bnd x f) k:=by
 cases x with
 | ok a=>exact h
 | error e=>cases e<;>exact h
theorem PO'.eq {α:Type}{ex:EX->Prop}{x:Res α}{k:α->Prop}(h:PO' ex x k):PO' ex x fun a=>x=.ok a/\k a:=by
 cases x with
 | ok a=>exact⟨rfl,h⟩
 | error e=>cases e<;>exact h
theorem PO'.ok {α:Type}{ex:EX->Prop}{a:α}{k:α->Prop}(h:PO' ex (.ok a:Res α) k):k a:=h
theorem PO'.no {α:Type}{ex:EX->Prop}{k:α->Prop}(h:PO' ex (stk:Res α) k):False:=h
inductive LD where
 | l (xs:List V)|d (kvs:List (Key×V))
noncomputable abbrev LD.o:LD->HO
 | .l xs=>.lst xs
 | .d kvs=>.dK kvs
theorem KL.sq {K:PySem.W.Frag}{H:Hp}{a:Addr}{xs:List V}(h:KL K a xs):SqL K H a xs:=by
 obtain⟨its,n,h1,h2,h3⟩:=h
 exact .inr ⟨_,its.toArray,n,h1,rfl,rfl,rfl,by simpa using h2,by simpa using h3⟩
theorem Inv.ls {X:Cx}{pins:List (Addr×Obj)}{σ:St}{H:Hp}{s:Shared}{a:Addr}{xs:List V}(I:Inv X pins σ H s)(h:Ls X.K H a xs) :
  xs.length<=sizeLine/\∃ (its:List Value) (n:Nat),Vals xs its/\s.heap.get? a=some {cls:=.type "list",data:=.seq its.toArray n}:=by
 rcases h with h|⟨its,n,h1,h2,h3⟩
 ·obtain⟨z,its,n,r,e⟩:=h.ok I.hok
  exact⟨z,its,n,r,e⟩
 ·exact⟨by rw[h3.length];exact h2,its,n,h3,I.kIn _ _ h1⟩
noncomputable def nameIn (K:PySem.W.Frag)(C:Addr):Option Str:=match K.lookup C with
 | some ⟨_,_,.cls cd,_⟩=>some cd.name
 | _=>none
noncomputable def XU:HO:=.ext fun _=>True
def NsO (od:Obj)(x:Str)(v:Value):Prop:=∀ (h:Heap) (d:Addr),h.get? d=some od->h.Ns1 d (fun y=>if y=x then some v else none)
def XF (K:PySem.W.Frag)(H:Hp)(dx:Option Addr)(c:EX):Prop:=∃ d t od,dx=some d/\H d=some (.frz od XU)/\NsO od c.x (.ref t)/\SqT K H t (c.ts.map .str)
structure Cl (H H':Hp):Prop where
 f:∀ b o,H b=some (.frz o XU)->H' b=some (.frz o XU)
 t:∀ b xs,Rd H b (.tup xs)->Rd H' b (.tup xs)
theorem Cl.sq {K:PySem.W.Frag}{H H':Hp}{a:Addr}{xs:List V}(k:Cl H H')(h:SqT K H a xs):SqT K H' a xs:=h.elim (fun h=>.inl (k.t _ _ h)) .inr
theorem Cl.xf {K:PySem.W.Frag}{H H':Hp}{dx:Option Addr}{c:EX}(k:Cl H H')(h:XF K H dx c):XF K H' dx c:=by
 obtain⟨d,t,od,h1,h2,h3,h4⟩:=h
 exact⟨d,t,od,h1,k.f _ _ h2,h3,k.sq h4⟩
theorem Cl.refl (H:Hp):Cl H H:=⟨fun _ _ h=>h,fun _ _ h=>h⟩
theorem Cl.trans {H H1 H2:Hp}(a:Cl H H1)(b:Cl H1 H2):Cl H H2:=⟨fun c o h=>b.f c o (a.f c o h),fun c xs h=>b.t c xs (a.t c xs h)⟩
def XO (K:PySem.W.Frag)(H:Hp)(a:Addr)(c:EX):Prop:=∃ (C:Addr) (o:Obj) (vs:Array Value),PySem.W.nsIn K mainGlobals c.c=some (some (.ref C))/\nameIn K C=some c.c/\H a=some (.frz o XU)/\o.cls=.ref C/\o.data=.fields vs/\XF K H o.dict c
def SqE (K:PySem.W.Frag)(H:Hp)(a:Addr):List V ⊕ EX->Prop
 | .inl xs=>SqT K H a xs
 | .inr c=>XO K H a c
mutual
inductive HRep (K:PySem.W.Frag)(S:Addr->Prop)(H:Hp):V->D->Prop where
 | non:HRep K S H .non .non
 | bl (b:Bool):HRep K S H (.bl b) (.bl b)
 | int (i:Int):HRep K S H (.int i) (.int i)
 | str (x:Str):HRep K S H (.str x) (.str x)
 | exc {a:Addr}{c:EX}:SqE K H a (.inr c)->HRep K S H (.ref a) (.exc c)
 | tup {a:Addr}{xs:List V}{ds:List D}:SqT K H a xs->HReps K S H xs ds->HRep K S H (.ref a) (.tup ds)
 | lst {a:Addr}{xs:List V}{o:Bool}{ds:List D}:S a->Rd H a (.lst xs)->HReps K S H xs ds->HRep K S H (.ref a) (.lst o ds)
 | lstK {a:Addr}{xs:List V}{o:Bool}{ds:List D}:KL K a xs->HReps K S H xs ds->HRep K S H (.ref a) (.lst o ds)
 | dct {a:Addr}{kvs:List (Key×V)}{o:Bool}{ks:List Key}{ds:List D}:S a->Rd H a (.dK kvs)->kvs.map (·.1)=ks->HReps K S H (kvs.map (·.2)) ds->HRep K S H (.ref a) (.dct o ks ds)
inductive HReps (K:PySem.W.Frag)(S:Addr->Prop)(H:Hp):List V->List D->Prop where
 | nil:HReps K S H [] []
 | cons {v:V}{d:D}{vs:List V}{ds:List D}:HRep K S H v d->HReps K S H vs ds->HReps K S H (v::vs) (d::ds)
end
mutual
inductive MRep (K:PySem.W.Frag)(F:Addr->Prop)(H:Hp):V->D->List Addr->Prop where
 | non:MRep K F H .non .non []
 | bl (b:Bool):MRep K F H (.bl b) (.bl b) []
 | int (i:Int):MRep K F H (.int i) (.int i) []
 | str (x:Str):MRep K F H (.str x) (.str x) []
 | exc {a:Addr}{c:EX}:SqE K H a (.inr c)->MRep K F H (.ref a) (.exc c) []
 | tup {a:Addr}{xs:List V}{ds:List D}{f:List Addr}:SqT K H a xs->MReps K F H xs ds f->MRep K F H (.ref a) (.tup ds) f
 | lstS {a:Addr}{xs:List V}{ds:List D}:F a->Rd H a (.lst xs)->MReps K F H xs ds []->MRep K F H (.ref a) (.lst false ds) []
 | lstK {a:Addr}{xs:List V}{ds:List D}:KL K a xs->MReps K F H xs ds []->MRep K F H (.ref a) (.lst false ds) []
 | lstO {a:Addr}{xs:List V}{ds:List D}{f:List Addr}:¬ F a->H a=some (.lst xs)->MReps K F H xs ds f->MRep K F H (.ref a) (.lst true ds) (a::f)
 | dctS {a:Addr}{kvs:List (Key×V)}{ks:List Key}{ds:List D}:F a->Rd H a (.dK kvs)->kvs.map (·.1)=ks->MReps K F H (kvs.map (·.2)) ds []->MRep K F H (.ref a) (.dct false ks ds) []
 | dctO {a:Addr}{kvs:List (Key×V)}{ks:List Key}{ds:List D}{f:List Addr}:¬ F a->H a=some (.dK kvs)->kvs.map (·.1)=ks->MReps K F H (kvs.map (·.2)) ds f->MRep K F H (.ref a) (.dct true ks ds) (a::f)
inductive MReps (K:PySem.W.Frag)(F:Addr->Prop)(H:Hp):List V->List D->List Addr->Prop where
 | nil:MReps K F H [] [] []
 | cons {v:V}{d:D}{f:List Addr}{vs:List V}{ds:List D}{g:List Addr}:MRep K F H v d f->MReps K F H vs ds g->MReps K F H (v::vs) (d::ds) (f++g)
end
theorem bO.rd {H H':Hp}{a:Addr}{u:HO}(e:bO H H')(h:Rd H a u):Rd H' a u:=by
 rcases h with h|⟨o,h⟩
 ·exact .inl (e _ _ h)
 ·exact .inr ⟨o,e _ _ h⟩
theorem bO.cl {H H':Hp}(e:bO H H'):Cl H H':=⟨fun _ _ h=>e _ _ h,fun _ _ h=>e.rd h⟩
theorem oQ {H:Hp}{l:Addr}{o':HO}(h1:∀ o,H l≠some (.frz o XU))(h2:∀ xs,¬ Rd H l (.tup xs)):Cl H (upd H l o'):=by
 refine⟨fun b o h=>?_,fun b xs h=>?_⟩
 ·have:b≠l:=by rintro rfl;exact h1 o h
  rw[aD this];exact h
 ·have:b≠l:=by rintro rfl;exact h2 xs h
  unfold Rd;rw[aD this];exact h
theorem SqE.cl {K:PySem.W.Frag}{H H':Hp}{a:Addr}{xs:List V ⊕ EX}(k:Cl H H')(h:SqE K H a xs):SqE K H' a xs:=by
 cases xs with
 | inl xs=>exact k.sq h
 | inr c=>
  obtain⟨C,o,vs,h0,h1,h2,h3,h4,h5⟩:=h
  exact⟨C,o,vs,h0,h1,k.f _ _ h2,h3,h4,k.xf h5⟩
theorem bO.seqT {K:PySem.W.Frag}{H H':Hp}{a:Addr}{xs:List V ⊕ EX}(e:bO H H')(h:SqE K H a xs):SqE K H' a xs:=h.cl e.cl
theorem vO {H:Hp}{l:Addr}{ys:List V}{o':HO}(hl:H l=some (.lst ys)):Cl H (upd H l o'):=
 oQ (fun o z=>by rw[hl] at z;cases z) fun xs z=>by rcases z with z|⟨o,z⟩<;>(rw[hl] at z;cases z)
theorem SqE.upd {K:PySem.W.Frag}{H:Hp}{a l:Addr}{xs:List V ⊕ EX}{ys zs:List V}(hl:H l=some (.lst ys))(h:SqE K H a xs):SqE K (upd H l (.lst zs)) a xs:=h.cl (vO hl)
theorem Rd.some {H:Hp}{a:Addr}{u:HO}(h:Rd H a u):H a≠none:=by
 rcases h with h|⟨o,h⟩<;>(rw[h];simp)
section
variable {K:PySem.W.Frag}{S S' F F':Addr->Prop}{H H':Hp}
theorem HRep.step (hl:∀ a (u:LD),S a->Rd H a u.o->S' a/\Rd H' a u.o)(ht:∀ a xs,SqE K H a xs->SqE K H' a xs){v:V}{d:D}(h:HRep K S H v d):HRep K S' H' v d:=
 HRep.rec (motive_1:=fun v d _=>HRep K S' H' v d) (motive_2:=fun v d _=>HReps K S' H' v d) .non .bl .int .str (fun h=>.exc (ht _ (.inr _) h)) (fun h1 _ i=>.tup (ht _ (.inl _) h1) i)
  (fun h0 h1 _ i=>.lst (hl _ (.l _) h0 h1).1 (hl _ (.l _) h0 h1).2 i) (fun h1 _ i=>.lstK h1 i) (fun h0 h1 h2 _ i=>.dct (hl _ (.d _) h0 h1).1 (hl _ (.d _) h0 h1).2 h2 i) .nil (fun _ _ i j=>.cons i j) h
theorem HReps.step (hl:∀ a (u:LD),S a->Rd H a u.o->S' a/\Rd H' a u.o)(ht:∀ a xs,SqE K H a xs->SqE K H' a xs){v:List V}{d:List D}(h:HReps K S H v d):HReps K S' H' v d:=
 HReps.rec (motive_1:=fun v d _=>HRep K S' H' v d) (motive_2:=fun v d _=>HReps K S' H' v d) .non .bl .int .str (fun h=>.exc (ht _ (.inr _) h)) (fun h1 _ i=>.tup (ht _ (.inl _) h1) i)
  (fun h0 h1 _ i=>.lst (hl _ (.l _) h0 h1).1 (hl _ (.l _) h0 h1).2 i) (fun h1 _ i=>.lstK h1 i) (fun h0 h1 h2 _ i=>.dct (hl _ (.d _) h0 h1).1 (hl _ (.d _) h0 h1).2 h2 i) .nil (fun _ _ i j=>.cons i j) h
theorem HRep.mono {v:V}{d:D}(h:HRep K S H v d)(hS:∀ a,S a->S' a)(e:bO H H'):HRep K S' H' v d:=h.step (fun a xs s r=>⟨hS a s,e.rd r⟩) fun a xs s=>e.seqT s
theorem HReps.mono {v:List V}{d:List D}(h:HReps K S H v d)(hS:∀ a,S a->S' a)(e:bO H H'):HReps K S' H' v d:=h.step (fun a xs s r=>⟨hS a s,e.rd r⟩) fun a xs s=>e.seqT s
theorem HReps.tight {v:List V}{d:List D}(h:HReps K S H v d):HReps K (fun a=>S a/\H a≠none) H v d:=h.step (fun a xs s r=>⟨⟨s,r.some⟩,r⟩) fun a xs s=>s
theorem HRep.frozen {v:V}{d:D}(h:HRep K F H v d):MRep K F H v (L2.er d) []:=
 HRep.rec (motive_1:=fun v d _=>MRep K F H v (L2.er d) []) (motive_2:=fun v d _=>MReps K F H v (L2.ers d) []) .non .bl .int .str (fun h=>.exc h) (fun h1 _ i=>.tup h1 i) (fun h0 h1 _ i=>.lstS h0 h1 i) (fun h1 _ i=>.lstK h1 i) (fun h0 h1 h2 _ i=>.dctS h0 h1 h2 i) .nil (fun _ _ i j=>.cons (f:=[]) (g:=[]) i j) h
theorem HReps.frozen {v:List V}{d:List D}(h:HReps K F H v d):MReps K F H v (L2.ers d) []:=
 HReps.rec (motive_1:=fun v d _=>MRep K F H v (L2.er d) []) (motive_2:=fun v d _=>MReps K F H v (L2.ers d) []) .non .bl .int .str (fun h=>.exc h) (fun h1 _ i=>.tup h1 i) (fun h0 h1 _ i=>.lstS h0 h1 i) (fun h1 _ i=>.lstK h1 i) (fun h0 h1 h2 _ i=>.dctS h0 h1 h2 i) .nil (fun _ _ i j=>.cons (f:=[]) (g:=[]) i j) h
theorem rV {a b:Bool}(h:(a&&b)=true):a=true/\b=true:=by rwa [Bool.and_eq_true] at h
theorem HRep.free {v:V}{d:D}(n:b9 d=true)(h:HRep K S H v d):MRep K F H v d []:=
 HRep.rec (motive_1:=fun v d _=>b9 d=true->MRep K F H v d []) (motive_2:=fun v d _=>bR d=true->MReps K F H v d []) (fun _=>.non) (fun b _=>.bl b) (fun b _=>.int b) (fun b _=>.str b) (fun h _=>.exc h) (fun h1 _ i n=>.tup h1 (i n)) (fun _ _ _ _ n=>nomatch n) (fun _ _ _ n=>nomatch n) (fun _ _ _ _ _ n=>nomatch n) (fun _=>.nil) (fun _ _ i j n=>.cons (f:=[]) (g:=[]) (i (rV n).1) (j (rV n).2)) h n
theorem HReps.free {v:List V}{d:List D}(n:bR d=true)(h:HReps K S H v d):MReps K F H v d []:=
 HReps.rec (motive_1:=fun v d _=>b9 d=true->MRep K F H v d []) (motive_2:=fun v d _=>bR d=true->MReps K F H v d []) (fun _=>.non) (fun b _=>.bl b) (fun b _=>.int b) (fun b _=>.str b) (fun h _=>.exc h) (fun h1 _ i n=>.tup h1 (i n)) (fun _ _ _ _ n=>nomatch n) (fun _ _ _ n=>nomatch n) (fun _ _ _ _ _ n=>nomatch n) (fun _=>.nil) (fun _ _ i j n=>.cons (f:=[]) (g:=[]) (i (rV n).1) (j (rV n).2)) h n
theorem cT {p:Addr->Prop}:∀ a∈([]:List Addr),p a:=fun _ h=>nomatch h
theorem MRep.read {v:V}{d:D}{f:List Addr}(hF:∀ a,F a->S a)(hf:∀ a∈f,S a)(h:MRep K F H v d f):HRep K S H v d:=
 MRep.rec (motive_1:=fun v d f _=>(∀ a∈f,S a)->HRep K S H v d) (motive_2:=fun v d f _=>(∀ a∈f,S a)->HReps K S H v d) (fun _=>.non) (fun b _=>.bl b) (fun b _=>.int b) (fun b _=>.str b) (fun h _=>.exc h) (fun h1 _ i hf=>.tup h1 (i hf))
  (fun h0 h1 _ i _=>.lst (hF _ h0) h1 (i cT)) (fun h1 _ i _=>.lstK h1 (i cT)) (fun _ h1 _ i hf=>.lst (hf _ (.head _)) (.inl h1) (i fun b hb=>hf b (.tail _ hb))) (fun h0 h1 h2 _ i _=>.dct (hF _ h0) h1 h2 (i cT)) (fun _ h1 h2 _ i hf=>.dct (hf _ (.head _)) (.inl h1) h2 (i fun b hb=>hf b (.tail _ hb))) (fun _=>.nil)
  (fun _ _ i j hf=>.cons (i fun a ha=>hf a (List.mem_append_left _ ha)) (j fun a ha=>hf a (List.mem_append_right _ ha))) h hf
theorem MReps.read {v:List V}{d:List D}{f:List Addr}(hF:∀ a,F a->S a)(hf:∀ a∈f,S a)(h:MReps K F H v d f):HReps K S H v d:=
 MReps.rec (motive_1:=fun v d f _=>(∀ a∈f,S a)->HRep K S H v d) (motive_2:=fun v d f _=>(∀ a∈f,S a)->HReps K S H v d) (fun _=>.non) (fun b _=>.bl b) (fun b _=>.int b) (fun b _=>.str b) (fun h _=>.exc h) (fun h1 _ i hf=>.tup h1 (i hf))
  (fun h0 h1 _ i _=>.lst (hF _ h0) h1 (i cT)) (fun h1 _ i _=>.lstK h1 (i cT)) (fun _ h1 _ i hf=>.lst (hf _ (.head _)) (.inl h1) (i fun b hb=>hf b (.tail _ hb))) (fun h0 h1 h2 _ i _=>.dct (hF _ h0) h1 h2 (i cT)) (fun _ h1 h2 _ i hf=>.dct (hf _ (.head _)) (.inl h1) h2 (i fun b hb=>hf b (.tail _ hb))) (fun _=>.nil)
  (fun _ _ i j hf=>.cons (i fun a ha=>hf a (List.mem_append_left _ ha)) (j fun a ha=>hf a (List.mem_append_right _ ha))) h hf
theorem dI {α:Type}{x:Option α}{y:α}(h:x=some y):x≠none:=fun e=>nomatch h.symm.trans e
theorem MRep.step (hl:∀ a (u:LD),F a->Rd H a u.o->F' a/\Rd H' a u.o)(ht:∀ a xs,SqE K H a xs->SqE K H' a xs){v:V}{d:D}{f:List Addr}(k:∀ a∈f,¬ F a->H a≠none->¬ F' a/\H' a=H a)
  (h:MRep K F H v d f):MRep K F' H' v d f:=
 MRep.rec (motive_1:=fun v d f _=>(∀ a∈f,¬ F a->H a≠none->¬ F' a/\H' a=H a)->MRep K F' H' v d f) (motive_2:=fun v d f _=>(∀ a∈f,¬ F a->H a≠none->¬ F' a/\H' a=H a)->MReps K F' H' v d f) (fun _=>.non) (fun b _=>.bl b) (fun b _=>.int b) (fun b _=>.str b)
  (fun h _=>.exc (ht _ (.inr _) h)) (fun h1 _ i k=>.tup (ht _ (.inl _) h1) (i k)) (fun h0 h1 _ i _=>.lstS (hl _ (.l _) h0 h1).1 (hl _ (.l _) h0 h1).2 (i cT)) (fun h1 _ i _=>.lstK h1 (i cT))
  (fun h0 h1 _ i k=>.lstO (k _ (.head _) h0 (dI h1)).1 ((k _ (.head _) h0 (dI h1)).2.trans h1) (i fun b hb=>k b (.tail _ hb))) (fun h0 h1 h2 _ i _=>.dctS (hl _ (.d _) h0 h1).1 (hl _ (.d _) h0 h1).2 h2 (i cT)) (fun h0 h1 h2 _ i k=>.dctO (k _ (.head _) h0 (dI h1)).1 ((k _ (.head _) h0 (dI h1)).2.trans h1) h2 (i fun b hb=>k b (.tail _ hb))) (fun _=>.nil)
  (fun _ _ i j k=>.cons (i fun a ha=>k a (List.mem_append_left _ ha)) (j fun a ha=>k a (List.mem_append_right _ ha))) h k
theorem MReps.step (hl:∀ a (u:LD),F a->Rd H a u.o->F' a/\Rd H' a u.o)(ht:∀ a xs,SqE K H a xs->SqE K H' a xs){v:List V}{d:List D}{f:List Addr}(k:∀ a∈f,¬ F a->H a≠none->¬ F' a/\H' a=H a)
  (h:MReps K F H v d f):MReps K F' H' v d f:=
 MReps.rec (motive_1:=fun v d f _=>(∀ a∈f,¬ F a->H a≠none->¬ F' a/\H' a=H a)->MRep K F' H' v d f) (motive_2:=fun v d f _=>(∀ a∈f,¬ F a->H a≠none->¬ F' a/\H' a=H a)->MReps K F' H' v d f) (fun _=>.non) (fun b _=>.bl b) (fun b _=>.int b) (fun b _=>.str b)
  (fun h _=>.exc (ht _ (.inr _) h)) (fun h1 _ i k=>.tup (ht _ (.inl _) h1) (i k)) (fun h0 h1 _ i _=>.lstS (hl _ (.l _) h0 h1).1 (hl _ (.l _) h0 h1).2 (i cT)) (fun h1 _ i _=>.lstK h1 (i cT))
  (fun h0 h1 _ i k=>.lstO (k _ (.head _) h0 (dI h1)).1 ((k _ (.head _) h0 (dI h1)).2.trans h1) (i fun b hb=>k b (.tail _ hb))) (fun h0 h1 h2 _ i _=>.dctS (hl _ (.d _) h0 h1).1 (hl _ (.d _) h0 h1).2 h2 (i cT)) (fun h0 h1 h2 _ i k=>.dctO (k _ (.head _) h0 (dI h1)).1 ((k _ (.head _) h0 (dI h1)).2.trans h1) h2 (i fun b hb=>k b (.tail _ hb))) (fun _=>.nil)
  (fun _ _ i j k=>.cons (i fun a ha=>k a (List.mem_append_left _ ha)) (j fun a ha=>k a (List.mem_append_right _ ha))) h k
theorem rW {p:Addr->Prop}{x:Addr}{f:List Addr}(h:p x)(i:∀ a∈f,p a):∀ a∈x::f,p a:=by
 intro b hb
 rcases List.mem_cons.mp hb with rfl|hb
 ·exact h
 ·exact i b hb
theorem yb {p:Addr->Prop}{f g:List Addr}(h:∀ a∈f,p a)(i:∀ a∈g,p a):∀ a∈f++g,p a:=fun b hb=>(List.mem_append.mp hb).elim (h b) (i b)
theorem MRep.own {v:V}{d:D}{f:List Addr}(h:MRep K F H v d f):∀ a∈f,¬ F a/\∃ u,H a=some u:=
 MRep.rec (motive_1:=fun _ _ f _=>∀ a∈f,¬ F a/\∃ u,H a=some u) (motive_2:=fun _ _ f _=>∀ a∈f,¬ F a/\∃ u,H a=some u) cT (fun _=>cT) (fun _=>cT) (fun _=>cT) (fun _=>cT) (fun _ _ i=>i) (fun _ _ _ _=>cT) (fun _ _ _=>cT)
  (fun h0 h1 _ i=>rW ⟨h0,_,h1⟩ i) (fun _ _ _ _ _=>cT) (fun h0 h1 _ _ i=>rW ⟨h0,_,h1⟩ i) cT (fun _ _ i j=>yb i j) h
theorem MReps.own {v:List V}{d:List D}{f:List Addr}(h:MReps K F H v d f):∀ a∈f,¬ F a/\∃ u,H a=some u:=
 MReps.rec (motive_1:=fun _ _ f _=>∀ a∈f,¬ F a/\∃ u,H a=some u) (motive_2:=fun _ _ f _=>∀ a∈f,¬ F a/\∃ u,H a=some u) cT (fun _=>cT) (fun _=>cT) (fun _=>cT) (fun _=>cT) (fun _ _ i=>i) (fun _ _ _ _=>cT) (fun _ _ _=>cT)
  (fun h0 h1 _ i=>rW ⟨h0,_,h1⟩ i) (fun _ _ _ _ _=>cT) (fun h0 h1 _ _ i=>rW ⟨h0,_,h1⟩ i) cT (fun _ _ i j=>yb i j) h
theorem HReps.ind {P:List V->List D->Prop}(n:P [] [])(c:∀ v d vs ds,HRep K S H v d->HReps K S H vs ds->P vs ds->P (v::vs) (d::ds)){vs:List V}{ds:List D}(h:HReps K S H vs ds):P vs ds:=
 HReps.rec (motive_1:=fun _ _ _=>True) (motive_2:=fun v d _=>P v d) trivial (fun _=>trivial) (fun _=>trivial) (fun _=>trivial) (fun _=>trivial) (fun _ _ _=>trivial) (fun _ _ _ _=>trivial) (fun _ _ _=>trivial) (fun _ _ _ _ _=>trivial) n (fun a b _ j=>c _ _ _ _ a b j) h
theorem MReps.ind {P:List V->List D->List Addr->Prop}(n:P [] [] [])(c:∀ v d f vs ds g,MRep K F H v d f->MReps K F H vs ds g->P vs ds g->P (v::vs) (d::ds) (f++g)){vs:List V}{ds:List D}{f:List Addr}(h:MReps K F H vs ds f):P vs ds f:=
 MReps.rec (motive_1:=fun _ _ _ _=>True) (motive_2:=fun v d f _=>P v d f) trivial (fun _=>trivial) (fun _=>trivial) (fun _=>trivial) (fun _=>trivial) (fun _ _ _=>trivial) (fun _ _ _ _=>trivial) (fun _ _ _=>trivial) (fun _ _ _ _=>trivial) (fun _ _ _ _ _=>trivial) (fun _ _ _ _ _=>trivial) n (fun a b _ j=>c _ _ _ _ _ _ a b j) h
theorem HReps.length {vs:List V}{ds:List D}(h:HReps K S H vs ds):vs.length=ds.length:=
 HReps.ind (P:=fun v d=>v.length=d.length) rfl (fun _ _ _ _ _ _ j=>congrArg (· + 1) j) h
theorem HReps.get {i:Nat}{vs:List V}{ds:List D}{d:D}(h:HReps K S H vs ds)(e:ds[i]? = some d):∃ v,vs[i]? = some v/\HRep K S H v d:=
 HReps.ind (P:=fun vs ds=>∀ i d,ds[i]? = some d->∃ v,vs[i]? = some v/\HRep K S H v d) (fun i d e=>nomatch (show none=some d from e)) (fun v d _ _ a _ j i d e=>by
  cases i with
  | zero=>exact⟨_,rfl,Option.some.inj e ▸ a⟩
  | succ i=>exact j i d e) h i d e
theorem HReps.getV {i:Nat}{vs:List V}{ds:List D}{v:V}(h:HReps K S H vs ds)(e:vs[i]? = some v):∃ d,ds[i]? = some d/\HRep K S H v d:=
 HReps.ind (P:=fun vs ds=>∀ i v,vs[i]? = some v->∃ d,ds[i]? = some d/\HRep K S H v d) (fun i d e=>nomatch (show none=some d from e)) (fun v d _ _ a _ j i d e=>by
  cases i with
  | zero=>exact⟨_,rfl,Option.some.inj e ▸ a⟩
  | succ i=>exact j i d e) h i v e
theorem HReps.append {vs ws:List V}{ds es:List D}(h:HReps K S H vs ds)(h':HReps K S H ws es):HReps K S H (vs++ws) (ds++es):=
 HReps.ind (P:=fun v d=>HReps K S H (v++ws) (d++es)) h' (fun _ _ _ _ a _ j=>.cons a j) h
theorem HReps.take {vs:List V}{ds:List D}(n:Nat)(h:HReps K S H vs ds):HReps K S H (vs.take n) (ds.take n):=
 HReps.ind (P:=fun v d=>∀ n,HReps K S H (v.take n) (d.take n)) (fun n=>by cases n<;>exact .nil) (fun _ _ _ _ a _ j n=>by
  cases n with
  | zero=>exact .nil
  | succ n=>exact .cons a (j n)) h n
theorem HReps.drop {vs:List V}{ds:List D}(n:Nat)(h:HReps K S H vs ds):HReps K S H (vs.drop n) (ds.drop n):=
 HReps.ind (P:=fun v d=>∀ n,HReps K S H (v.drop n) (d.drop n)) (fun n=>by cases n<;>exact .nil) (fun _ _ _ _ a b j n=>by
  cases n with
  | zero=>exact .cons a b
  | succ n=>exact j n) h n
theorem MReps.length {vs:List V}{ds:List D}{f:List Addr}(h:MReps K F H vs ds f):vs.length=ds.length:=
 MReps.ind (P:=fun v d _=>v.length=d.length) rfl (fun _ _ _ _ _ _ _ _ j=>congrArg (· + 1) j) h
theorem MReps.append {vs ws:List V}{ds es:List D}{f g:List Addr}(h:MReps K F H vs ds f)(h':MReps K F H ws es g):MReps K F H (vs++ws) (ds++es) (f++g):=
 MReps.ind (P:=fun v d f=>MReps K F H (v++ws) (d++es) (f++g)) h' (fun _ _ _ _ _ _ a _ j=>by
  rw[List.append_assoc]
  exact .cons a j) h
theorem HRep.lstR {v:V}{o:Bool}{ds:List D}(h:HRep K S H v (.lst o ds)):∃ a xs,v=.ref a/\SqL K H a xs/\HReps K S H xs ds:=by
 cases h with
 | lst h0 h1 h2=>exact⟨_,_,rfl,.inl h1,h2⟩
 | lstK h1 h2=>exact⟨_,_,rfl,h1.sq,h2⟩
theorem HRep.lstL {v:V}{o:Bool}{ds:List D}(h:HRep K S H v (.lst o ds)):∃ a xs,v=.ref a/\Ls K H a xs/\HReps K S H xs ds:=by
 cases h with
 | lst h0 h1 h2=>exact⟨_,_,rfl,.inl h1,h2⟩
 | lstK h1 h2=>exact⟨_,_,rfl,.inr h1,h2⟩
theorem HRep.tupR {v:V}{ds:List D}(h:HRep K S H v (.tup ds)):∃ a xs,v=.ref a/\SqT K H a xs/\HReps K S H xs ds:=by
 cases h with
 | tup h1 h2=>exact⟨_,_,rfl,h1,h2⟩
theorem HRep.intR {v:V}{i:Int}(h:HRep K S H v (.int i)):v=.int i:=by cases h;rfl
theorem HRep.blR {v:V}{i:Bool}(h:HRep K S H v (.bl i)):v=.bl i:=by cases h;rfl
theorem HRep.strR {v:V}{i:Str}(h:HRep K S H v (.str i)):v=.str i:=by cases h;rfl
theorem HRep.nonR {v:V}(h:HRep K S H v .non):v=.non:=by cases h;rfl
theorem HReps.strs {vs:List V}{ns:List Str}(h:HReps K S H vs (ns.map .str)):vs=ns.map .str:=
 HReps.ind (P:=fun v d=>∀ ns:List Str,d=ns.map .str->v=ns.map .str) (fun ns e=>by
  cases ns with
  | nil=>rfl
  | cons n ns=>exact nomatch e) (fun _ _ _ _ a _ j ns e=>by
  cases ns with
  | nil=>exact nomatch e
  | cons n ns=>
   obtain⟨h1,h2⟩:=List.cons.inj e
   subst h1
   rw[j ns h2,a.strR]
   rfl) h ns rfl
theorem HReps.bls {vs:List V}{ns:List Bool}(h:HReps K S H vs (ns.map .bl)):vs=ns.map .bl:=
 HReps.ind (P:=fun v d=>∀ ns:List Bool,d=ns.map .bl->v=ns.map .bl) (fun ns e=>by
  cases ns with
  | nil=>rfl
  | cons n ns=>exact nomatch e) (fun _ _ _ _ a _ j ns e=>by
  cases ns with
  | nil=>exact nomatch e
  | cons n ns=>
   obtain⟨h1,h2⟩:=List.cons.inj e
   subst h1
   rw[j ns h2,a.blR]
   rfl) h ns rfl
theorem HReps.ofStrs:∀ (ns:List Str),HReps K S H (ns.map .str) (ns.map .str)
 | []=>.nil
 | n::ns=>.cons (.str n) (HReps.ofStrs ns)
theorem HReps.ofInts:∀ (ns:List Int),HReps K S H (ns.map .int) (ns.map .int)
 | []=>.nil
 | n::ns=>.cons (.int n) (HReps.ofInts ns)
end
theorem bO.upd {H:Hp}{a:Addr}{o:HO}(h:H a=none):bO H (upd H a o):=fun b u e=>by
 rw[aD (bS e h)]
 exact e
theorem zD:type_of% @D.casesOn.{0}:=@D.casesOn.{0}
inductive BOp where
 | add|sub|mul|fdiv|mod|pow
 deriving DecidableEq
inductive COp where
 | eq|ne|lt|le|gt|ge|in_|nin|is_|isn
 deriving DecidableEq
inductive Kd where
 | str|int|bool|list|tuple
 deriving DecidableEq
inductive Bi where
 | len|sum|min2|max2|maxl|sorted|list|tuple|ord|int|all|any|str|set|abs
 deriving DecidableEq
inductive Tg where
 | nm (i:Nat)|tp (ts:List Tg)
structure Gm where
 N:List Str
 kd:List NameKind
 gl:List Nat
 df:Bool
 cm:Bool:=true
 rs:Bool:=true
 tr:Bool:=false
 io:Option Nat:=none
mutual
inductive IR where
 | c (d:D)
 | g (n:Nat) (d:D)
 | v (i:Nat)
 | bin (op:BOp) (a b:IR)
 | cmp (op:COp) (a b:IR)
 | chain (op op':COp) (a b c:IR)
 | and_ (a b:IR)
 | or_ (a b:IR)
 | not_ (a:IR)
 | tup (es:List IR)
 | lst (es:List IR)
 | idx (a i:IR)
 | sl (a:IR) (lo hi:Option IR)
 | call (f:Nat) (es:List IR)
 | bi (f:Bi) (es:List IR)
 | dnew
 | dget (a k:IR)
 | isi (a:IR) (k:Kd)
 | isx (a:IR) (ns:List Nat) (tb:List (Str×Bool))
 | lset (a:IR)
 | fld (a:IR) (x:Str) (cs:List Str)
 | lidx (a e:IR)
 | comp (G:Gm) (fr:List Nat) (tg:Tg) (src:Sr) (ifs:List IR) (elt:IR)
inductive Sr where
 | rng1 (n:IR)|val (e:IR)|zip (a b:IR)
end
inductive IS where
 | asg (tg:Tg) (e:IR)
 | app (i:Nat) (e:IR)
 | dsetx (i:Nat) (k e:IR)
 | ins (i:Nat) (k e:IR)
 | exp (e:IR)
 | ret (e:IR)
 | if_ (t:IR) (a b:List IS)
 | for_ (tg:Tg) (src:Sr) (body:List IS)
 | while_ (t:IR) (body:List IS)
 | brk|cnt|pass
 | never
 | raisef (n:Nat) (c x:Str) (e:IR)
 | tryc (i f:Nat) (es:List IR) (n:Nat) (cs:List Str) (k:Nat) (h:List IS)
abbrev Ev:=List (Option D)
inductive Fl where
 | nx (τ:Ev)|rt (d:D)|bk (τ:Ev)|ct (τ:Ev)|ri (d:D) (ks:List Key) (vs:List D)
noncomputable def kN {α:Type}(xs:List α)(lo hi:Option Int):List α:=(xs.drop (HT.sIx xs.length 0 lo)).take (HT.sIx xs.length xs.length hi - HT.sIx xs.length 0 lo)
noncomputable def cQ (n:Nat):Bool:=decide (n<=sizeLine)
noncomputable def dN (n:Nat):Bool:=decide (n < sizeLine)
noncomputable def opB:BOp->D->D->Res D
 | .add,.int a,.int b=>.ok (.int (a+b))
 | .add,.str a,.str b=>grd (cQ (a.length+b.length)) (.ok (.str (a++b)))
 | .add,.lst _ a,.lst _ b=>grd (cQ (a.length+b.length)) (.ok (.lst true (a++b)))
 | .sub,.int a,.int b=>.ok (.int (a - b))
 | .mul,.int a,.int b=>grd (decide (-(2 ^ 64) < a/\a < 2 ^ 64)||decide (-(2 ^ 64) < b/\b < 2 ^ 64)) (.ok (.int (a*b)))
 | .mul,.str a,.int b=>grd (decide (-16000<=b/\b<=16000/\a.length<=1000)) (.ok (.str (Txt.mul a b)))
 | .fdiv,.int a,.int b=>grd (decide (0 < b/\b < 1073741824)) (.ok (.int (a / b)))
 | .mod,.int a,.int b=>grd (decide (0 < b)) (.ok (.int (a % b)))
 | .pow,.int a,.int b=>grd (decide (0<=b/\b<=1000000/\a.natAbs < 2 ^ 64)) (.ok (.int (a ^ b.toNat)))
 | _,_,_=>stk
noncomputable def cX:D->D->Res D
 | .lst _ ds,.int i=>match atI ds i with
  | some d=>.ok d
  | none=>stk
 | .tup ds,.int i=>match atI ds i with
  | some d=>.ok d
  | none=>stk
 | .str z,.int i=>grd (cQ z.length) (match atI z.cps.toList i with
  | some c=>.ok (.str ⟨#[c]⟩)
  | none=>stk)
 | _,_=>stk
noncomputable def jH:D->Option Int->Option Int->Res D
 | .lst _ ds,lo,hi=>.ok (.lst true (kN ds lo hi))
 | .str z,lo,hi=>grd (cQ z.length) (.ok (.str (Txt.slice z lo hi)))
 | _,_,_=>stk
noncomputable def cF:D->Res Bool
 | .non=>.ok false
 | .bl b=>.ok b
 | .int i=>.ok (i != 0)
 | .str x=>grd (cQ x.length) (.ok ((x.length:Int) != 0))
 | .tup ds=>.ok (!ds.isEmpty)
 | .lst _ ds=>.ok (!ds.isEmpty)
 | .exc _=>stk
 | .dct _ _ _=>stk
noncomputable def dj (f:D->D->Res Bool):List D->List D->Res Bool
 | [],[]=>.ok true
 | a::r,b::t=>bnd (f a b) fun x=>bnd (dj f r t) fun y=>.ok (x&&y)
 | _,_=>.ok false
noncomputable def eqN:Nat->D->D->Res Bool
 | 0,_,_=>stk
 | _+1,.exc _,_=>stk
 | _+1,_,.exc _=>stk
 | _+1,.dct _ _ _,_=>stk
 | _+1,_,.dct _ _ _=>stk
 | _+1,.non,.non=>.ok true
 | _+1,.non,_=>.ok false
 | _+1,.bl a,.bl b=>.ok (a == b)
 | _+1,.bl a,.int b=>.ok ((if a then 1 else 0) == b)
 | _+1,.bl _,_=>.ok false
 | _+1,.int a,.bl b=>.ok (a == (if b then 1 else 0))
 | _+1,.int a,.int b=>.ok (a == b)
 | _+1,.int _,_=>.ok false
 | _+1,.str a,.str b=>.ok (a == b)
 | _+1,.str _,_=>.ok false
 | n+1,.tup a,.tup b=>dj (eqN n) a b
 | _+1,.tup _,_=>.ok false
 | n+1,.lst _ a,.lst _ b=>dj (eqN n) a b
 | _+1,.lst _ _,_=>.ok false
noncomputable def anyN (d:D):List D->Res Bool
 | []=>.ok false
 | e::r=>bnd (eqN 40 e d) fun x=>bnd (anyN d r) fun y=>.ok (x||y)
noncomputable def jI (x y:Str):Bool:=!(Builtin.Str.occurrences x y 0 x.length 1).isEmpty
noncomputable def iB:D->Bool
 | .non=>true
 | _=>false
noncomputable def ia:D->Bool
 | .exc _=>false
 | .dct _ _ _=>false
 | _=>true
noncomputable def opC:COp->D->D->Res Bool
 | .eq,a,b=>eqN 40 a b
 | .ne,a,b=>bnd (eqN 40 a b) fun r=>.ok !r
 | .lt,.int a,.int b=>.ok (decide (a < b))
 | .le,.int a,.int b=>.ok (decide (a<=b))
 | .gt,.int a,.int b=>.ok (decide (b < a))
 | .in_,.str y,.str x=>.ok (jI x y)
 | .nin,.str y,.str x=>.ok (!jI x y)
 | .in_,a,.lst _ ds=>anyN a ds
 | .nin,a,.lst _ ds=>bnd (anyN a ds) fun r=>.ok !r
 | .in_,a,.tup ds=>anyN a ds
 | .nin,a,.tup ds=>bnd (anyN a ds) fun r=>.ok !r
 | .is_,a,.non=>.ok (iB a)
 | _,_,_=>stk
noncomputable def cJ:List D->Option (List Str)
 | []=>some []
 | .str i::r=>(cJ r).map (i::·)
 | _::_=>none
noncomputable def dq:List D->Option (List Bool)
 | []=>some []
 | .bl i::r=>(dq r).map (i::·)
 | _::_=>none
noncomputable def dW:Kd->D->Bool
 | .str,.str _=>true
 | .int,.int _=>true
 | .int,.bl _=>true
 | .bool,.bl _=>true
 | .list,.lst _ _=>true
 | .tuple,.tup _=>true
 | _,_=>false
noncomputable def oR (tb:List (Str×Bool)):D->Res D
 | .exc c=>match tb.lookup c.c with
  | some b=>.ok (.bl b)
  | none=>stk
 | _=>stk
noncomputable def dm (x:Str):List D:=x.cps.toList.map fun c=>.str ⟨#[c]⟩
noncomputable def rX:Key->D
 | .inl i=>.int i
 | .inr x=>.str x
noncomputable def dG:Bi->List D->Res D
 | .len,[.str x]=>grd (cQ x.length) (.ok (.int x.length))
 | .len,[.tup ds]=>.ok (.int ds.length)
 | .len,[.lst _ ds]=>.ok (.int ds.length)
 | .len,[.dct _ ks _]=>.ok (.int ks.length)
 | .min2,[.int a,.int b]=>.ok (.int (if b < a then b else a))
 | .max2,[.int a,.int b]=>.ok (.int (if b > a then b else a))
 | .int,[.int i]=>.ok (.int i)
 | .int,[.bl b]=>.ok (.int (if b then 1 else 0))
 | .list,[.lst _ ds]=>.ok (.lst true ds)
 | .list,[.tup ds]=>.ok (.lst true ds)
 | .list,[.dct _ ks _]=>.ok (.lst true (ks.map rX))
 | .tuple,[.lst _ ds]=>.ok (.tup ds)
 | .tuple,[.str x]=>grd (cQ x.length) (.ok (.tup (dm x)))
 | .all,[.lst _ ds]=>match dq ds with
  | some bs=>.ok (.bl (bs.all id))
  | none=>stk
 | .any,[.lst _ ds]=>match dq ds with
  | some bs=>.ok (.bl (bs.any id))
  | none=>stk
 | _,_=>stk
noncomputable def ib:D->Option Key
 | .int i=>some (.inl i)
 | .str x=>some (.inr x)
 | _=>none
noncomputable def look:List Key->List D->Key->Option D
 | k::ks,d::ds,q=>if k=q then some d else look ks ds q
 | _,_,_=>none
noncomputable def jJ (ks:List Key)(q:Key):Bool:=ks.any fun k=>decide (k=q)
noncomputable def e9 (ks:List Key)(q:Key):List Key:=if jJ ks q=true then ks else ks++[q]
noncomputable def ff (ks:List Key)(ds:List D)(q:Key)(d:D):List D:=if jJ ks q=true then List.zipWith (fun k e=>if k=q then d else e) ks ds else ds++[d]
noncomputable def jK:D->D->Res D
 | .dct _ ks ds,y=>match ib y with
  | some q=>(match look ks ds q with
   | some d=>.ok d
   | none=>stk)
  | none=>stk
 | _,_=>stk
noncomputable def lL:D->Res D
 | .tup ds=>match cJ ds with
  | some ns=>grd (decide (ns.length < 1000)) (.ok (.int ((ns.foldl Sx.dd []).length:Nat)))
  | none=>stk
 | _=>stk
noncomputable def fL:D->Res (List D)
 | .lst _ ds=>.ok ds
 | .tup ds=>.ok ds
 | .str x=>grd (cQ x.length) (.ok (dm x))
 | _=>stk
noncomputable def kO:D->Res (List D)
 | .lst _ ds=>.ok ds
 | .tup ds=>.ok ds
 | _=>stk
noncomputable def fM (ds es:List D):List D:=List.zipWith (fun a b=>.tup [a,b]) ds es
noncomputable def rY (x y:D):Res (List D):=bnd (kO x) fun ds=>bnd (kO y) fun es=>.ok (fM ds es)
noncomputable def dy (a b:Int):List D:=(List.range (b - a).toNat).map fun k=>.int (a+(k:Nat))
noncomputable def oS (x:Str)(cs:List Str):D->Res D
 | .exc c=>grd (c.x == x&&cs.contains c.c) (.ok (.tup (c.ts.map .str)))
 | _=>stk
noncomputable def kP:D->Bool
 | .lst _ _=>true
 | _=>false
noncomputable def jL:D->D->Res D
 | .lst _ ds,.str y=>match cJ ds with
  | some ns=>(match f7 y ns with
   | some j=>.ok (.int j)
   | none=>stk)
  | none=>stk
 | _,_=>stk
noncomputable def nj (c x:Str):D->Res Fl
 | .tup ds=>match cJ ds with
  | some ts=>.error (.exc ⟨c,x,ts⟩)
  | none=>stk
 | _=>stk
noncomputable def fY (i:Int):Bool:=decide (-(2 ^ 62)<=i/\i < 2 ^ 62)
noncomputable def cy {α β:Type}(f:α->Res (Option β)):List α->Res (List β)
 | []=>.ok []
 | x::xs=>bnd (f x) fun
  | some d=>bnd (cy f xs) fun r=>.ok (d::r)
  | none=>cy f xs
noncomputable def noX {α:Type}:Res α->Res α
 | .error _=>stk
 | .ok a=>.ok a
mutual
noncomputable def dz:Tg->D->Ev->Res Ev
 | .nm i,d,τ=>.ok (τ.set i (some d))
 | .tp ts,.tup ds,τ=>grd (decide (ds.length=ts.length)) (fg ts ds τ)
 | .tp ts,.lst _ ds,τ=>grd (decide (ds.length=ts.length)) (fg ts ds τ)
 | .tp _,_,_=>stk
noncomputable def fg:List Tg->List D->Ev->Res Ev
 | t::ts,d::ds,τ=>bnd (dz t d τ) fun τ'=>fg ts ds τ'
 | [],[],τ=>.ok τ
 | _,_,_=>stk
end
noncomputable def bo (τ:Ev)(i:Nat):Option D:=(τ[i]?).join
mutual
noncomputable def vars:IR->List Nat
 | .c _=>[]
 | .g _ _=>[]
 | .v i=>[i]
 | .bin _ a b=>vars a++vars b
 | .cmp _ a b=>vars a++vars b
 | .chain _ _ a b c=>vars a++vars b++vars c
 | .and_ a b=>vars a++vars b
 | .or_ a b=>vars a++vars b
 | .not_ a=>vars a
 | .tup es=>bQ es
 | .lst es=>bQ es
 | .idx a i=>vars a++vars i
 | .sl a lo hi=>vars a++oU lo++oU hi
 | .call _ es=>bQ es
 | .bi _ es=>bQ es
 | .dnew=>[]
 | .dget a k=>vars a++vars k
 | .isi a _=>vars a
 | .isx a _ _=>vars a
 | .lset a=>vars a
 | .fld a _ _=>vars a
 | .lidx a e=>vars a++vars e
 | .comp _ fr _ src _ _=>fr++fq src
noncomputable def bQ:List IR->List Nat
 | []=>[]
 | e::es=>vars e++bQ es
noncomputable def oU:Option IR->List Nat
 | none=>[]
 | some e=>vars e
noncomputable def fq:Sr->List Nat
 | .rng1 n=>vars n
 | .val e=>vars e
 | .zip a b=>vars a++vars b
end
mutual
noncomputable def evR (cl:Nat->List D->Res D):IR->Ev->Res D
 | .c d,_=>.ok d
 | .g _ d,_=>.ok d
 | .v i,τ=>match bo τ i with
  | some d=>.ok d
  | none=>stk
 | .bin op a b,τ=>bnd (evR cl a τ) fun x=>bnd (evR cl b τ) fun y=>opB op x y
 | .cmp op a b,τ=>bnd (evR cl a τ) fun x=>bnd (evR cl b τ) fun y=>bnd (opC op x y) fun r=>.ok (.bl r)
 | .chain op op' a b c,τ=>bnd (evR cl a τ) fun x=>bnd (evR cl b τ) fun y=>bnd (opC op x y) fun r=>
  if r=true then bnd (evR cl c τ) fun z=>bnd (opC op' y z) fun r'=>.ok (.bl r') else .ok (.bl false)
 | .and_ a b,τ=>bnd (evR cl a τ) fun x=>bnd (cF x) fun r=>if r=true then evR cl b τ else .ok x
 | .or_ a b,τ=>bnd (evR cl a τ) fun x=>bnd (cF x) fun r=>if r=true then .ok x else evR cl b τ
 | .not_ a,τ=>bnd (evR cl a τ) fun x=>bnd (cF x) fun r=>.ok (.bl !r)
 | .tup es,τ=>bnd (cG cl es τ) fun ds=>grd (cQ ds.length) (.ok (.tup ds))
 | .lst es,τ=>bnd (cG cl es τ) fun ds=>grd (cQ ds.length) (.ok (.lst true ds))
 | .idx a i,τ=>bnd (evR cl a τ) fun x=>bnd (evR cl i τ) fun y=>cX x y
 | .sl a lo hi,τ=>bnd (evR cl a τ) fun x=>bnd (i6 cl lo τ) fun l=>bnd (i6 cl hi τ) fun h=>jH x l h
 | .call f es,τ=>bnd (cG cl es τ) fun ds=>cl f (ers ds)
 | .bi f es,τ=>bnd (cG cl es τ) fun ds=>dG f ds
 | .dnew,_=>.ok (.dct true [] [])
 | .dget a k,τ=>bnd (evR cl a τ) fun x=>bnd (evR cl k τ) fun y=>jK x y
 | .isi a k,τ=>bnd (evR cl a τ) fun x=>grd (ia x) (.ok (.bl (dW k x)))
 | .isx a _ tb,τ=>bnd (evR cl a τ) (oR tb)
 | .lset a,τ=>bnd (evR cl a τ) lL
 | .fld a x cs,τ=>bnd (evR cl a τ) (oS x cs)
 | .lidx a e,τ=>bnd (evR cl a τ) fun x=>grd (kP x) (bnd (evR cl e τ) fun y=>jL x y)
 | .comp G fr tg src ifs elt,τ=>bnd (eV cl src τ) fun its=>grd (dN its.length) (bnd (noX (cy (fun x=>bnd (dz tg x (fr.map (bo τ)++List.replicate (G.N.length - fr.length) none)) fun τ1=>
   bnd (eU cl ifs τ1) fun r=>if r=true then bnd (evR cl elt τ1) fun d=>.ok (some d) else .ok none) its)) fun ds=>.ok (.lst true ds))
noncomputable def cG (cl:Nat->List D->Res D):List IR->Ev->Res (List D)
 | [],_=>.ok []
 | e::es,τ=>bnd (evR cl e τ) fun d=>bnd (cG cl es τ) fun ds=>.ok (d::ds)
noncomputable def i6 (cl:Nat->List D->Res D):Option IR->Ev->Res (Option Int)
 | none,_=>.ok none
 | some e,τ=>bnd (evR cl e τ) fun
  | .int i=>.ok (some i)
  | _=>stk
noncomputable def eU (cl:Nat->List D->Res D):List IR->Ev->Res Bool
 | [],_=>.ok true
 | e::es,τ=>bnd (bnd (evR cl e τ) cF) fun r=>if r=true then eU cl es τ else .ok false
noncomputable def eV (cl:Nat->List D->Res D):Sr->Ev->Res (List D)
 | .rng1 n,τ=>bnd (evR cl n τ) fun
  | .int i=>grd (fY i) (.ok (dy 0 i))
  | _=>stk
 | .val e,τ=>bnd (evR cl e τ) fL
 | .zip a b,τ=>bnd (evR cl a τ) fun x=>bnd (evR cl b τ) fun y=>rY x y
end
noncomputable def evT (cl:Nat->List D->Res D)(t:IR)(τ:Ev):Res Bool:=bnd (evR cl t τ) cF
noncomputable def fN (is:List Nat):Nat->Ev->Ev
 | _,[]=>[]
 | k,o::τ=>(if is.contains k then o.map er else o)::fN is (k+1) τ
noncomputable abbrev frz (is:List Nat)(τ:Ev):Ev:=fN is 0 τ
noncomputable def cH : IR->Bool
 | .bin .add _ _=>true
 | .bin .mul _ _=>true
 | .sl _ _ _=>true
 | .bi .list _=>true
 | .comp _ _ _ _ _ _=>true
 | _=>false
noncomputable def cp (e:IR)(d:D)(τ:Ev):D×Ev:=
 if b9 d=true then (d,τ)
 else match cH e,d with
  | true,.lst _ ds=>if bR ds=true then (.lst true ds,τ) else (.lst true (ers ds),frz (vars e) τ)
  | _,_=>(er d,frz (vars e) τ)
mutual
noncomputable def evO (cl:Nat->List D->Res D)(mv:Bool):IR->Ev->Res (D×Ev)
 | .v i,τ=>match bo τ i with
  | some d=>if mv=true then .ok (d,τ.set i none) else .ok (er d,τ.set i (some (er d)))
  | none=>stk
 | .tup es,τ=>bnd (ic cl mv es τ) fun p=>grd (cQ p.1.length) (.ok (.tup p.1,p.2))
 | .lst es,τ=>bnd (ic cl mv es τ) fun p=>grd (cQ p.1.length) (.ok (.lst true p.1,p.2))
 | .dnew,τ=>.ok (.dct true [] [],τ)
 | .call f es,τ=>bnd (cG cl es τ) fun ds=>bnd (cl f (ers ds)) fun d=>if b9 d=true then .ok (d,τ) else .ok (d,frz (bQ es) τ)
 | e,τ=>bnd (evR cl e τ) fun d=>.ok (cp e d τ)
noncomputable def ic (cl:Nat->List D->Res D)(mv:Bool):List IR->Ev->Res (List D×Ev)
 | [],τ=>.ok ([],τ)
 | e::es,τ=>bnd (evO cl mv e τ) fun p=>bnd (ic cl mv es p.2) fun q=>.ok (p.1::q.1,q.2)
end
noncomputable def forM (body:D->Ev->Res Fl):List D->Ev->Res Fl
 | [],τ=>.ok (.nx τ)
 | x::xs,τ=>bnd (body x τ) fun
  | .nx τ'=>forM body xs τ'
  | .ct τ'=>forM body xs τ'
  | .bk τ'=>.ok (.nx τ')
  | .rt d=>.ok (.rt d)
  | .ri d ks vs=>.ok (.ri d ks vs)
noncomputable def cK (test:Ev->Res Bool)(body:Ev->Res Fl):Nat->Ev->Res Fl
 | 0,_=>stk
 | n+1,τ=>bnd (test τ) fun r=>if r=true then bnd (body τ) fun
  | .nx τ'=>cK test body n τ'
  | .ct τ'=>cK test body n τ'
  | .bk τ'=>.ok (.nx τ')
  | .rt d=>.ok (.rt d)
  | .ri d ks vs=>.ok (.ri d ks vs)
  else .ok (.nx τ)
noncomputable def kQ (cl:Nat->List D->Res D)(s:Sr)(τ:Ev):Res (List D×Ev):=bnd (eV cl s τ) fun its=>match s with
 | .rng1 _=>.ok (its,τ)
 | s=>.ok (ers its,frz (fq s) τ)
mutual
noncomputable def nk:D->Bool
 | .lst o ds=>!o&&dt ds
 | .tup ds=>dt ds
 | .dct o _ ds=>!o&&dt ds
 | _=>true
noncomputable def dt:List D->Bool
 | []=>true
 | d::ds=>nk d&&dt ds
end
noncomputable def jM:Nat:=1000000
mutual
noncomputable def evS (cl:Nat->List D->Res D):IS->Ev->Res Fl
 | .asg tg e,τ=>bnd (evO cl false e τ) fun p=>bnd (dz tg p.1 p.2) fun τ'=>.ok (.nx τ')
 | .app i e,τ=>match bo τ i with
  | some (.lst _ _)=>bnd (evO cl false e τ) fun p=>(match bo p.2 i with
   | some (.lst true ds)=>grd (dN ds.length) (.ok (.nx (p.2.set i (some (.lst true (ds++[p.1]))))))
   | _=>stk)
  | _=>stk
 | .dsetx i k e,τ=>bnd (evR cl e τ) fun d=>match bo τ i with
  | some (.dct true ks ds)=>bnd (evR cl k (frz (vars e) τ)) fun y=>(match ib y with
   | some q=>grd (dt ds&&dN ks.length) (.ok (.nx ((frz (vars e) τ).set i (some (.dct true (e9 ks q) (ers (ff ks ds q d)))))))
   | none=>stk)
  | _=>stk
 | .ins i k e,τ=>match bo τ i with
  | some (.lst _ _)=>bnd (evR cl k τ) fun y=>bnd (evO cl false e τ) fun p=>(match y,bo p.2 i with
   | .int z,some (.lst true ds)=>grd (decide (0<=z/\z.toNat<=ds.length)&&dN ds.length) (.ok (.nx (p.2.set i (some (.lst true (ds.take z.toNat++p.1::ds.drop z.toNat))))))
   | _,_=>stk)
  | _=>stk
 | .exp e,τ=>bnd (evR cl e τ) fun _=>.ok (.nx τ)
 | .ret e,τ=>bnd (evO cl true e τ) fun p=>.ok (.rt p.1)
 | .if_ t a b,τ=>bnd (evT cl t τ) fun r=>if r=true then cb cl a τ else cb cl b τ
 | .for_ tg s body,τ=>bnd (kQ cl s τ) fun p=>forM (fun x τ=>bnd (dz tg x τ) fun τ'=>cb cl body τ') p.1 p.2
 | .while_ t body,τ=>cK (evT cl t) (cb cl body) jM τ
 | .brk,τ=>.ok (.bk τ)
 | .cnt,τ=>.ok (.ct τ)
 | .pass,τ=>.ok (.nx τ)
 | .never,_=>stk
 | .raisef _ c x e,τ=>bnd (noX (evR cl e τ)) (nj c x)
 | .tryc i f es _ cs k h,τ=>bnd (noX (cG cl es τ)) fun ds=>match cl f (ers ds) with
  | .ok d=>if b9 d=true then .ok (.nx (τ.set i (some d))) else .ok (.nx ((frz (bQ es) τ).set i (some d)))
  | .error (.exc c)=>grd (cs.contains c.c) (bnd (noX (cb cl h (τ.set k (some (.exc c))))) fun
   | .nx τ'=>.ok (.nx (τ'.set k none))
   | _=>stk)
  | .error .stuck=>stk
noncomputable def cb (cl:Nat->List D->Res D):List IS->Ev->Res Fl
 | [],τ=>.ok (.nx τ)
 | s::r,τ=>bnd (evS cl s τ) fun
  | .nx τ'=>cb cl r τ'
  | .ct τ'=>.ok (.ct τ')
  | .bk τ'=>.ok (.bk τ')
  | .rt d=>.ok (.rt d)
  | .ri d ks vs=>.ok (.ri d ks vs)
end
structure Fn where
 np:Nat
 G:Gm
 body:List IS
 io:Bool:=false
noncomputable def eL (cl:Nat->List D->Res D)(fn:Fn)(ds:List D):Res D:=
 grd (decide (ds.length=fn.np)) (bnd (cb cl fn.body (ds.map some++List.replicate (fn.G.N.length - fn.np) none)) fun
  | .nx _=>.ok .non
  | .rt d=>.ok d
  | _=>stk)
noncomputable def AV:D->D
 | .dct _ ks vs=>.dct true ks vs
 | d=>d
noncomputable def rZ:List D->List D
 | []=>[]
 | [d]=>[AV d]
 | d::ds=>d::rZ ds
noncomputable def ft (cl:Nat->List D->Res D)(fn:Fn)(ds:List D):Res D:=
 grd (decide (ds.length=fn.np)) (bnd (cb cl fn.body ((rZ ds).map some++List.replicate (fn.G.N.length - fn.np) none)) fun
  | .ri d ks vs=>.ok (.tup [d,.dct false ks vs])
  | _=>stk)
abbrev Tb:=Nat->Option Fn
noncomputable def ag (T:Tb):Nat->Nat->List D->Res D
 | 0,_,_=>stk
 | n+1,f,ds=>match T f with
  | some fn=>(match fn.io with
   | false=>eL (ag T n) fn ds
   | true=>ft (ag T n) fn ds)
  | none=>stk
theorem yd {cl:Nat->List D->Res D}{i:Nat}{τ:Ev}:evR cl (.v i) τ=(match bo τ i with|some d=>.ok d|none=>stk):=rfl
theorem yf {cl:Nat->List D->Res D}{i:Nat}{τ:Ev}{mv:Bool}:evO cl mv (.v i) τ=(match bo τ i with|some d=>if mv=true then .ok (d,τ.set i none) else .ok (er d,τ.set i (some (er d)))|none=>stk):=rfl
theorem zI:type_of% @IR.casesOn.{0}:=@IR.casesOn.{0}
theorem zT:type_of% @IS.casesOn.{0}:=@IS.casesOn.{0}
section
variable {X:Cx}{pins:List (Addr×Obj)}{σ:St}{H:Hp}{S:Addr->Prop}{s:Shared}
theorem Inv.not_both (I:Inv X pins σ H s){a:Addr}{xs ys:List V}(h1:SqL X.K H a xs)(h2:SqT X.K H a ys):False:=by
 obtain⟨its,_,⟨o,n,e,c,_⟩,_⟩:=I.list h1
 obtain⟨its',_,⟨o',e',c',_⟩,_⟩:=I.tuple h2
 rw[e] at e';cases e'
 rw[c] at c'
 injection c' with c'
 exact absurd c' (by decide)
theorem Inv.exc_at (I:Inv X pins σ H s){a:Addr}{c:EX}(h:SqE X.K H a (.inr c)):∃ C o vs,PySem.W.nsIn X.K mainGlobals c.c=some (some (.ref C))/\nameIn X.K C=some c.c/\s.heap.get? a=some o/\o.cls=.ref C/\o.data=.fields vs/\XF X.K H o.dict c:=by
 obtain⟨C,o,vs,h0,h1,h2,h3,h4,h5⟩:=h
 exact⟨C,o,vs,h0,h1,(I.hok a _ h2).1,h3,h4,h5⟩
theorem jN:∀ {a b:List Str},a.map V.str=b.map V.str->a=b
 | [],[],_=>rfl
 | x::a,y::b,h=>by
  obtain⟨h1,h2⟩:=List.cons.inj h
  rw[V.str.inj h1,jN h2]
 | [],_::_,h=>nomatch h
 | _::_,[],h=>nomatch h
theorem Inv.xf_one (I:Inv X pins σ H s){dx:Option Addr}{c c':EX}(h:XF X.K H dx c)(k:XF X.K H dx c'):c.x=c'.x/\c.ts=c'.ts:=by
 obtain⟨d,t,od,rfl,h2,h3,h4⟩:=h
 obtain⟨d',t',od',e,k2,k3,k4⟩:=k
 cases e
 rw[h2] at k2
 cases k2
 have e0:=(I.hok d _ h2).1
 obtain⟨o,es,ep,e1,e2,_,_,e3⟩:=h3 _ _ e0
 obtain⟨o',es',ep',k1,k2,_,_,k3⟩:=k3 _ _ e0
 rw[e1] at k1
 cases k1
 rw[e2] at k2
 cases k2
 have z:=(e3 c.x).symm.trans (k3 c.x)
 dsimp only at z
 rw[if_pos rfl] at z
 by_cases q:c.x=c'.x
 ·rw[if_pos q] at z
  cases z
  exact⟨q,jN (I.tuple_inj h4 k4)⟩
 ·rw[if_neg q] at z
  cases z
theorem Inv.exc_one (I:Inv X pins σ H s){a:Addr}{c c':EX}(h:SqE X.K H a (.inr c))(k:SqE X.K H a (.inr c')):c=c':=by
 obtain⟨C,o,vs,_,n1,e,c1,_,f1⟩:=I.exc_at h
 obtain⟨C',o',vs',_,n2,e',c2,_,f2⟩:=I.exc_at k
 rw[e] at e';cases e'
 rw[c1] at c2;cases c2
 rw[n1] at n2
 obtain⟨h1,h2⟩:=I.xf_one f1 f2
 obtain⟨a1,a2,a3⟩:=c
 obtain⟨b1,b2,b3⟩:=c'
 dsimp only at n2 h1 h2
 cases n2
 subst h1 h2
 rfl
theorem Inv.exc_tup (I:Inv X pins σ H s){a:Addr}{c:EX}{xs:List V}(h:SqE X.K H a (.inr c))(k:SqT X.K H a xs):False:=by
 obtain⟨C,o,vs,_,_,e,c1,_⟩:=I.exc_at h
 obtain⟨its',_,⟨o',e',c',_⟩,_⟩:=I.tuple k
 rw[e] at e';cases e'
 rw[c1] at c';cases c'
theorem Inv.exc_lst (I:Inv X pins σ H s){a:Addr}{c:EX}{xs:List V}(h:SqE X.K H a (.inr c))(k:SqL X.K H a xs):False:=by
 obtain⟨C,o,vs,_,_,e,c1,_⟩:=I.exc_at h
 obtain⟨its',_,⟨o',n,e',c',_⟩,_⟩:=I.list k
 rw[e] at e';cases e'
 rw[c1] at c';cases c'
theorem Inv.dct_at (I:Inv X pins σ H s){a:Addr}{kvs:List (Key×V)}(h:Rd H a (.dK kvs)):∃ o es ep,s.heap.get? a=some o/\o.data=.dict es ep:=by
 obtain⟨_,_,vs,_,o,es,ep,e,c,d,_⟩:=h.ok I.hok
 exact⟨o,es,ep,e,d⟩
theorem Inv.dct_tup (I:Inv X pins σ H s){a:Addr}{kvs:List (Key×V)}{xs:List V}(h:Rd H a (.dK kvs))(k:SqT X.K H a xs):False:=by
 obtain⟨o,es,ep,e,d⟩:=I.dct_at h
 obtain⟨its',_,⟨o',e',c',n,d'⟩,_⟩:=I.tuple k
 rw[e] at e';cases e'
 rw[d] at d';cases d'
theorem Inv.dct_lst (I:Inv X pins σ H s){a:Addr}{kvs:List (Key×V)}{xs:List V}(h:Rd H a (.dK kvs))(k:SqL X.K H a xs):False:=by
 obtain⟨o,es,ep,e,d⟩:=I.dct_at h
 obtain⟨its',_,⟨o',n,e',c',n',d'⟩,_⟩:=I.list k
 rw[e] at e';cases e'
 rw[d] at d';cases d'
theorem Inv.exc_dct (I:Inv X pins σ H s){a:Addr}{c:EX}{kvs:List (Key×V)}(h:SqE X.K H a (.inr c))(k:Rd H a (.dK kvs)):False:=by
 obtain⟨C,o,vs,_,_,e,c1,d1,_⟩:=I.exc_at h
 obtain⟨o',es,ep,e',d⟩:=I.dct_at k
 rw[e] at e';cases e'
 rw[d] at d1;cases d1
theorem Rd.dk {H:Hp}{a:Addr}{u v:List (Key×V)}(h:Rd H a (.dK u))(k:Rd H a (.dK v)):u=v:=by
 rcases h with h|⟨o,h⟩<;>rcases k with k|⟨o',k⟩<;>(rw[h] at k;cases k;try rfl)
mutual
theorem HRep.one (I:Inv X pins σ H s):∀ {v:V}{d e:D},HRep X.K S H v d->HRep X.K S H v e->er d=er e
 | _,_,_,.non,h=>by cases h;rfl
 | _,_,_,.bl b,h=>by cases h;rfl
 | _,_,_,.int i,h=>by cases h;rfl
 | _,_,_,.str x,h=>by cases h;rfl
 | _,_,_,.exc h0,h=>by
  cases h with
  | exc k1=>exact congrArg D.exc (I.exc_one h0 k1)
  | tup k1 k2=>exact(I.exc_tup h0 k1).elim
  | lst k0 k1 k2=>exact(I.exc_lst h0 (.inl k1)).elim
  | lstK k1 k2=>exact(I.exc_lst h0 k1.sq).elim
  | dct k0 k1 k2 k3=>exact(I.exc_dct h0 k1).elim
 | _,_,_,.tup h1 h2,h=>by
  cases h with
  | exc k1=>exact(I.exc_tup k1 h1).elim
  | tup k1 k2=>
   have e:=I.tuple_inj h1 k1
   subst e
   rw[er,er,HReps.one I h2 k2]
  | lst k0 k1 k2=>exact(I.not_both (.inl k1) h1).elim
  | lstK k1 k2=>exact(I.not_both k1.sq h1).elim
  | dct k0 k1 k2 k3=>exact(I.dct_tup k1 h1).elim
 | _,_,_,.lst h0 h1 h2,h=>by
  cases h with
  | exc k1=>exact(I.exc_lst k1 (.inl h1)).elim
  | tup k1 k2=>exact(I.not_both (.inl h1) k1).elim
  | lst k0 k1 k2=>
   have e:=I.list_inj (.inl h1) (.inl k1)
   subst e
   rw[er,er,HReps.one I h2 k2]
  | lstK k1 k2=>
   have e:=I.list_inj (.inl h1) k1.sq
   subst e
   rw[er,er,HReps.one I h2 k2]
  | dct k0 k1 k2 k3=>exact(I.dct_lst k1 (.inl h1)).elim
 | _,_,_,.lstK h1 h2,h=>by
  cases h with
  | exc k1=>exact(I.exc_lst k1 h1.sq).elim
  | tup k1 k2=>exact(I.not_both h1.sq k1).elim
  | lst k0 k1 k2=>
   have e:=I.list_inj h1.sq (.inl k1)
   subst e
   rw[er,er,HReps.one I h2 k2]
  | lstK k1 k2=>
   have e:=I.list_inj h1.sq k1.sq
   subst e
   rw[er,er,HReps.one I h2 k2]
  | dct k0 k1 k2 k3=>exact(I.dct_lst k1 h1.sq).elim
 | _,_,_,.dct h0 h1 h2 h3,h=>by
  cases h with
  | exc k1=>exact(I.exc_dct k1 h1).elim
  | tup k1 k2=>exact(I.dct_tup h1 k1).elim
  | lst k0 k1 k2=>exact(I.dct_lst h1 (.inl k1)).elim
  | lstK k1 k2=>exact(I.dct_lst h1 k1.sq).elim
  | dct k0 k1 k2 k3=>
   have e:=Rd.dk h1 k1
   subst e
   rw[er,er,HReps.one I h3 k3,<- h2,<- k2]
theorem HReps.one (I:Inv X pins σ H s):∀ {vs:List V}{ds es:List D},HReps X.K S H vs ds->HReps X.K S H vs es->ers ds=ers es
 | _,_,_,.nil,h=>by cases h;rfl
 | _,_,_,.cons h1 h2,h=>by
  cases h with
  | cons k1 k2=>rw[ers,ers,HRep.one I h1 k1,HReps.one I h2 k2]
end
end
theorem dC {α β:Type}{x:Res α}{f:α->Res β}{b:β}(h:bnd x f=.ok b):∃ a,x=.ok a/\f a=.ok b:=by
 cases x with
 | error e=>cases h
 | ok a=>exact⟨a,rfl,h⟩
theorem kR {α:Type}{c:Bool}{x:Res α}{b:α}(h:grd c x=.ok b):c=true/\x=.ok b:=by
 unfold grd at h
 cases c with
 | true=>exact⟨rfl,h⟩
 | false=>cases h
theorem dO {f:D->D->Res Bool}(hf:∀ d e r,f d e=.ok r->er d=er e->r=true):∀ {ds es:List D}{r:Bool},dj f ds es=.ok r->ers ds=ers es->r=true
 | [],[],r,h,_=>by cases h;rfl
 | [],_::_,_,_,h=>by rw[ers,ers] at h;cases h
 | _::_,[],_,_,h=>by rw[ers,ers] at h;cases h
 | a::ds,b::es,r,h,h'=>by
  rw[ers,ers] at h'
  injection h' with e1 e2
  obtain⟨x,hx,h⟩:=dC (show bnd (f a b) (fun x=>bnd (dj f ds es) fun y=>.ok (x&&y))=.ok r from h)
  obtain⟨y,hy,h⟩:=dC h
  cases h
  rw[hf a b x hx e1,dO hf hy e2]
  rfl
theorem fu:∀ (n:Nat) (d e:D) (r:Bool),eqN n d e=.ok r->er d=er e->r=true
 | 0,_,_,_,h,_=>by cases h
 | n+1,d,e,r,h,h'=>by
  induction d using zD with
  | tup ds=>
   induction e using zD with
   | tup es=>
    rw[er,er] at h'
    injection h' with e1
    exact dO (fu n) h e1
   | non=>rw[er,er] at h';cases h'
   | bl _=>rw[er,er] at h';cases h'
   | int _=>rw[er,er] at h';cases h'
   | str _=>rw[er,er] at h';cases h'
   | lst _ _=>rw[er,er] at h';cases h'
   | exc _=>cases h
   | dct _ _ _=>cases h
  | lst o ds=>
   induction e using zD with
   | lst o' es=>
    rw[er,er] at h'
    injection h' with _ e1
    exact dO (fu n) h e1
   | non=>rw[er,er] at h';cases h'
   | bl _=>rw[er,er] at h';cases h'
   | int _=>rw[er,er] at h';cases h'
   | str _=>rw[er,er] at h';cases h'
   | tup _=>rw[er,er] at h';cases h'
   | exc _=>cases h
   | dct _ _ _=>cases h
  | exc _=>cases h
  | dct _ _ _=>induction e using zD<;>cases h
  | non=>induction e using zD<;>first|(cases h;done)|(cases h;rfl)|(exfalso;simp[er] at h')
  | bl b=>induction e using zD<;>first|(simp only[er,D.bl.injEq] at h';subst h';cases h;simp)|(exfalso;simp[er] at h')
  | int b=>induction e using zD<;>first|(simp only[er,D.int.injEq] at h';subst h';cases h;simp)|(exfalso;simp[er] at h')
  | str b=>induction e using zD<;>first|(simp only[er,D.str.injEq] at h';subst h';cases h;simp)|(exfalso;simp[er] at h')
theorem jO {f:D->D->Res Bool}:∀ {ds es:List D}{r:Bool},dj f ds es=.ok r->ds.length≠es.length->r=false
 | [],[],_,_,h=>absurd rfl h
 | [],_::_,_,h,_=>by cases h;rfl
 | _::_,[],_,h,_=>by cases h;rfl
 | a::ds,b::es,r,h,n=>by
  obtain⟨x,hx,h⟩:=dC (show bnd (f a b) (fun x=>bnd (dj f ds es) fun y=>.ok (x&&y))=.ok r from h)
  obtain⟨y,hy,h⟩:=dC h
  cases h
  rw[jO hy (fun z=>n (by rw[List.length_cons,List.length_cons,z]))]
  simp
theorem lM {f:D->D->Res Bool}:∀ {ds es:List D}{r:Bool},dj f ds es=.ok r->ds.length=es.length->
  ∃ e:Nat->Bool,(∀ j a b,ds[j]? = some a->es[j]? = some b->f a b=.ok (e j))/\r=(List.range ds.length).all e
 | [],[],r,h,_=>by cases h;exact⟨fun _=>true,fun j a b h=>by simp at h,rfl⟩
 | [],_::_,_,_,h=>by cases h
 | _::_,[],_,_,h=>by cases h
 | a::ds,b::es,r,h,n=>by
  obtain⟨x,hx,h⟩:=dC (show bnd (f a b) (fun x=>bnd (dj f ds es) fun y=>.ok (x&&y))=.ok r from h)
  obtain⟨y,hy,h⟩:=dC h
  cases h
  obtain⟨e,h1,h2⟩:=lM hy (by simpa using n)
  refine⟨fun j=>match j with|0=>x|k+1=>e k,fun j a' b' e1 e2=>?_,?_⟩
  ·cases j with
   | zero=>simp at e1 e2;subst e1 e2;exact hx
   | succ k=>exact h1 k a' b' (by simpa using e1) (by simpa using e2)
  ·rw[h2,List.length_cons,List.range_succ_eq_map,List.all_cons,List.all_map]
   rfl
section
variable {X:Cx}{pins:List (Addr×Obj)}{σ:St}{H:Hp}{S:Addr->Prop}{s:Shared}
structure EqAll (A:Around)(s:Shared)(v u:Value)(r:Bool):Prop where
 eq:EqAt A s v u r
 rc:RcAt A s v u r
 ne:RcNeAt A s v u (!r)
theorem jP (n:Nat)(A:Around)(ih:∀ (x y:V)(v u:Value)(d e:D)(r:Bool),HRep X.K S H x d->HRep X.K S H y e->RelV x v->RelV y u->eqN n d e=.ok r->EqAt A.in1 s v u r)
  {xs ys:List V}{ds es:List D}{its its':List Value}{r:Bool} (rv:Vals xs its) (rv':Vals ys its') (h2:HReps X.K S H xs ds) (k2:HReps X.K S H ys es) (hr:dj (eqN n) ds es=.ok r) :
  ∃ e:Nat->Bool,(∀ j (q1:j < its.toArray.size) (q2:j < its'.toArray.size),EqAt A.in1 s its.toArray[j] its'.toArray[j] (e j))/\r=((List.range (min its.toArray.size its'.toArray.size)).all e&&its.toArray.size == its'.toArray.size):=by
 have l1:=h2.length
 have l2:=k2.length
 have l3:=rv.length
 have l4:=rv'.length
 have pair:∀ j (j1:j < its.toArray.size) (j2:j < its'.toArray.size) (b:Bool) (d1:j < ds.length) (d2:j < es.length),eqN n ds[j] es[j]=.ok b->EqAt A.in1 s its.toArray[j] its'.toArray[j] b:=by
  intro j j1 j2 b d1 d2 hb
  obtain⟨x',e1,m1⟩:=h2.get (i:=j) (d:=ds[j]) (by simp)
  obtain⟨y',e2,m2⟩:=k2.get (i:=j) (d:=es[j]) (by simp)
  obtain⟨v',ev,rv1⟩:=rv.get e1
  obtain⟨u',eu,ru1⟩:=rv'.get e2
  have hv:its.toArray[j]=v':=by
   have:=(List.getElem?_eq_some_iff.mp ev).2
   simpa using this
  have hu':its'.toArray[j]=u':=by
   have:=(List.getElem?_eq_some_iff.mp eu).2
   simpa using this
  rw[hv,hu']
  exact ih x' y' v' u' _ _ _ m1 m2 rv1 ru1 hb
 have z1:its.toArray.size=ds.length:=by simp;omega
 have z2:its'.toArray.size=es.length:=by simp;omega
 by_cases hl:ds.length=es.length
 ·obtain⟨e,q1,q2⟩:=lM hr hl
  refine⟨e,fun j j1 j2=>pair j j1 j2 _ (by omega) (by omega) (q1 j _ _ (by simp) (by simp)),?_⟩
  rw[q2,z1,z2,hl]
  simp
 ·have hr':=jO hr hl
  have each:∀ (ds es:List D) (r:Bool),dj (eqN n) ds es=.ok r->∀ j (q1:j < ds.length) (q2:j < es.length),∃ b,eqN n ds[j] es[j]=.ok b:=by
   intro ds
   induction ds with
   | nil=>intro es r _ j q1;simp at q1
   | cons a ds ih=>
    intro es r h j q1 q2
    cases es with
    | nil=>simp at q2
    | cons b es=>
     obtain⟨x,hx,h⟩:=dC (show bnd (eqN n a b) (fun x=>bnd (dj (eqN n) ds es) fun y=>.ok (x&&y))=.ok r from h)
     obtain⟨y,hy,h⟩:=dC h
     cases j with
     | zero=>exact⟨x,hx⟩
     | succ k=>exact ih es y hy k (by simpa using q1) (by simpa using q2)
  refine⟨fun j=>if q:j < ds.length/\j < es.length then ((match eqN n (ds[j]'q.1) (es[j]'q.2) with|.ok b=>b|.error _=>false)) else false,fun j j1 j2=>?_,?_⟩
  ·have d1:j < ds.length:=by omega
   have d2:j < es.length:=by omega
   obtain⟨b,hb⟩:=each ds es r hr j d1 d2
   have q:=pair j j1 j2 b d1 d2 hb
   show EqAt A.in1 s its.toArray[j] its'.toArray[j] (dite _ _ _)
   rw[dif_pos (show j < ds.length/\j < es.length from ⟨d1,d2⟩),hb]
   exact q
  ·rw[hr']
   have:(its.toArray.size == its'.toArray.size)=false:=by
    rw[beq_eq_false_iff_ne,z1,z2]
    exact hl
   rw[this,Bool.and_false]
theorem oV (I:Inv X pins σ H s)(n:Nat)(A:Around)(ih:∀ (x y:V)(v u:Value)(d e:D)(r:Bool),HRep X.K S H x d->HRep X.K S H y e->RelV x v->RelV y u->eqN n d e=.ok r->EqAt A.in1 s v u r)
  {a b:Addr}{o o':Bool}{xs ys:List V}{ds es:List D}{r:Bool} (ha:SqL X.K H a xs) (hb:SqL X.K H b ys) (h2:HReps X.K S H xs ds) (k2:HReps X.K S H ys es)
  (m1:HRep X.K S H (.ref a) (.lst o ds)) (m2:HRep X.K S H (.ref b) (.lst o' es)) (hr:dj (eqN n) ds es=.ok r) (hu0:A.units < cLine):EqAll A s (.ref a) (.ref b) r:=by
 obtain⟨its,rv,p,_⟩:=I.list ha
 obtain⟨its',rv',p',_⟩:=I.list hb
 obtain⟨e,he,hre⟩:=jP n A ih rv rv' h2 k2 hr
 have both:RcAt A s (.ref a) (.ref b) r/\RcNeAt A s (.ref a) (.ref b) (!r):=by
  by_cases hl:its.toArray.size=its'.toArray.size
  ·have hre':r=(List.range its.toArray.size).all e:=by
    rw[hre,<- hl,Nat.min_self]
    simp
   rw[hre']
   exact⟨.lists p.isList p'.isList hl hu0 he,.lists p.isList p'.isList hl hu0 he⟩
  ·have hne:(its.toArray.size != its'.toArray.size)=true:=by simpa using hl
   have hre':r=false:=by
    rw[hre]
    have:(its.toArray.size == its'.toArray.size)=false:=by rw[beq_eq_false_iff_ne];exact hl
    rw[this,Bool.and_false]
   rw[hre']
   exact⟨.lists_lengths p.isList p'.isList hne hu0,.lists_lengths p.isList p'.isList hne hu0⟩
 refine⟨?_,both.1,both.2⟩
 by_cases hab:a=b
 ·subst hab
  have hd:=HRep.one I m1 m2
  rw[er,er] at hd
  injection hd with _ hd
  rw[dO (fu n) hr hd]
  exact .same _
 ·exact .of_refs hab both.1
set_option maxHeartbeats 4000000 in
theorem i7 (I:Inv X pins σ H s):∀ (n:Nat) (A:Around) (x y:V) (v u:Value) (d e:D) (r:Bool),HRep X.K S H x d->HRep X.K S H y e->RelV x v->RelV y u->eqN n d e=.ok r->
  A.units+n < cLine->EqAll A s v u r
 | 0,_,_,_,_,_,_,_,_,_,_,_,_,h,_=>by cases h
 | n+1,A,x,y,v,u,d,e,r,hx,hy,rx,ry,h,hu=>by
  have hu0:A.units < cLine:=by omega
  have hu1:A.in1.units+n < cLine:=by show A.units+1+n < cLine;omega
  have ih:∀ (x y:V) (v u:Value) (d e:D) (r:Bool),HRep X.K S H x d->HRep X.K S H y e->RelV x v->RelV y u->eqN n d e=.ok r->EqAt A.in1 s v u r:=
   fun x y v u d e r a1 a2 a3 a4 a5=>(i7 I n A.in1 x y v u d e r a1 a2 a3 a4 a5 hu1).eq
  induction d using zD with
  | non=>
   cases hx.nonR;cases rx
   induction e using zD with
   | non=>cases hy.nonR;cases ry;cases h;exact⟨.same _,.none_none,.none_none⟩
   | bl b'=>cases hy.blR;cases ry;cases h;exact⟨.none_bool _,.none_bool _,.none_bool _⟩
   | int i'=>cases hy.intR;obtain⟨t2,rfl⟩:=ry;cases h;exact⟨.none_int _ _,.none_int _ _,.none_int _ _⟩
   | str z'=>cases hy.strR;obtain⟨t2,rfl⟩:=ry;cases h;exact⟨.none_str _ _,.none_str _ _,.none_str _ _⟩
   | tup es=>obtain⟨a2,xs2,rfl,q2,m2⟩:=hy.tupR;cases ry;obtain⟨its2,rv2,p2,_⟩:=I.tuple q2;cases h;exact⟨.none_tuple p2 hu0,.none_tuple p2 hu0,.none_tuple p2 hu0⟩
   | lst o' es=>obtain⟨a2,xs2,rfl,q2,m2⟩:=hy.lstR;cases ry;obtain⟨its2,rv2,p2,_⟩:=I.list q2;cases h;exact⟨.none_list p2.isList hu0,.none_list p2.isList hu0,.none_list p2.isList hu0⟩
   | exc _=>cases h
   | dct _ _ _=>cases h
  | bl b=>
   cases hx.blR;cases rx
   induction e using zD with
   | non=>cases hy.nonR;cases ry;cases h;exact⟨.bool_none _,.bool_none _,.bool_none _⟩
   | bl b'=>cases hy.blR;cases ry;cases h;exact⟨.bool_bool _ _,.bool_bool _ _,.bool_bool _ _⟩
   | int i'=>cases hy.intR;obtain⟨t2,rfl⟩:=ry;cases h;exact⟨.bool_int _ _ _,.bool_int _ _ _,.bool_int _ _ _⟩
   | str z'=>cases hy.strR;obtain⟨t2,rfl⟩:=ry;cases h;exact⟨.bool_str _ _ _,.bool_str _ _ _,.bool_str _ _ _⟩
   | tup es=>obtain⟨a2,xs2,rfl,q2,m2⟩:=hy.tupR;cases ry;obtain⟨its2,rv2,p2,_⟩:=I.tuple q2;cases h;exact⟨.bool_tuple _ p2 hu0,.bool_tuple _ p2 hu0,.bool_tuple _ p2 hu0⟩
   | lst o' es=>obtain⟨a2,xs2,rfl,q2,m2⟩:=hy.lstR;cases ry;obtain⟨its2,rv2,p2,_⟩:=I.list q2;cases h;exact⟨.bool_list _ p2.isList hu0,.bool_list _ p2.isList hu0,.bool_list _ p2.isList hu0⟩
   | exc _=>cases h
   | dct _ _ _=>cases h
  | int i=>
   cases hx.intR;obtain⟨t1,rfl⟩:=rx
   induction e using zD with
   | non=>cases hy.nonR;cases ry;cases h;exact⟨.int_none _ _,.int_none _ _,.int_none _ _⟩
   | bl b'=>cases hy.blR;cases ry;cases h;exact⟨.int_bool _ _ _,.int_bool _ _ _,.int_bool _ _ _⟩
   | int i'=>cases hy.intR;obtain⟨t2,rfl⟩:=ry;cases h;exact⟨.int_int _ _ _ _,.int_int _ _ _ _,.int_int _ _ _ _⟩
   | str z'=>cases hy.strR;obtain⟨t2,rfl⟩:=ry;cases h;exact⟨.int_str _ _ _ _,.int_str _ _ _ _,.int_str _ _ _ _⟩
   | tup es=>obtain⟨a2,xs2,rfl,q2,m2⟩:=hy.tupR;cases ry;obtain⟨its2,rv2,p2,_⟩:=I.tuple q2;cases h;exact⟨.int_tuple _ _ p2 hu0,.int_tuple _ _ p2 hu0,.int_tuple _ _ p2 hu0⟩
   | lst o' es=>obtain⟨a2,xs2,rfl,q2,m2⟩:=hy.lstR;cases ry;obtain⟨its2,rv2,p2,_⟩:=I.list q2;cases h;exact⟨.int_list _ _ p2.isList hu0,.int_list _ _ p2.isList hu0,.int_list _ _ p2.isList hu0⟩
   | exc _=>cases h
   | dct _ _ _=>cases h
  | str z=>
   cases hx.strR;obtain⟨t1,rfl⟩:=rx
   induction e using zD with
   | non=>cases hy.nonR;cases ry;cases h;exact⟨.str_none _ _,.str_none _ _,.str_none _ _⟩
   | bl b'=>cases hy.blR;cases ry;cases h;exact⟨.str_bool _ _ _,.str_bool _ _ _,.str_bool _ _ _⟩
   | int i'=>cases hy.intR;obtain⟨t2,rfl⟩:=ry;cases h;exact⟨.str_int _ _ _ _,.str_int _ _ _ _,.str_int _ _ _ _⟩
   | str z'=>cases hy.strR;obtain⟨t2,rfl⟩:=ry;cases h;exact⟨.str_str _ _ _ _,.str_str _ _ _ _,.str_str _ _ _ _⟩
   | tup es=>obtain⟨a2,xs2,rfl,q2,m2⟩:=hy.tupR;cases ry;obtain⟨its2,rv2,p2,_⟩:=I.tuple q2;cases h;exact⟨.str_tuple _ _ p2 hu0,.str_tuple _ _ p2 hu0,.str_tuple _ _ p2 hu0⟩
   | lst o' es=>obtain⟨a2,xs2,rfl,q2,m2⟩:=hy.lstR;cases ry;obtain⟨its2,rv2,p2,_⟩:=I.list q2;cases h;exact⟨.str_list _ _ p2.isList hu0,.str_list _ _ p2.isList hu0,.str_list _ _ p2.isList hu0⟩
   | exc _=>cases h
   | dct _ _ _=>cases h
  | tup ds=>
   obtain⟨a1,xs1,rfl,q1,m1⟩:=hx.tupR;cases rx;obtain⟨its1,rv1,p1,_⟩:=I.tuple q1
   induction e using zD with
   | non=>cases hy.nonR;cases ry;cases h;exact⟨.tuple_none p1 hu0,.tuple_none p1 hu0,.tuple_none p1 hu0⟩
   | bl b'=>cases hy.blR;cases ry;cases h;exact⟨.tuple_bool _ p1 hu0,.tuple_bool _ p1 hu0,.tuple_bool _ p1 hu0⟩
   | int i'=>cases hy.intR;obtain⟨t2,rfl⟩:=ry;cases h;exact⟨.tuple_int _ _ p1 hu0,.tuple_int _ _ p1 hu0,.tuple_int _ _ p1 hu0⟩
   | str z'=>cases hy.strR;obtain⟨t2,rfl⟩:=ry;cases h;exact⟨.tuple_str _ _ p1 hu0,.tuple_str _ _ p1 hu0,.tuple_str _ _ p1 hu0⟩
   | tup es=>
    have hx':=hx
    have hy':=hy
    obtain⟨a2,xs2,rfl,q2,m2⟩:=hy.tupR;cases ry;obtain⟨its2,rv2,p2,_⟩:=I.tuple q2
    have hr:dj (eqN n) ds es=.ok r:=h
    obtain⟨e,he,hre⟩:=jP n A ih rv1 rv2 m1 m2 hr
    refine⟨?_,?_,?_⟩
    ·by_cases hab:a1=a2
     ·subst hab
      have hd:=HRep.one I hx' hy'
      rw[er,er] at hd
      injection hd with hd
      rw[dO (fu n) hr hd]
      exact .same _
     ·rw[hre]
      exact .of_refs hab (.tuples p1 p2 hu0 he)
    ·rw[hre]
     exact .tuples p1 p2 hu0 he
    ·rw[hre]
     exact .tuples p1 p2 hu0 he
   | lst o' es=>obtain⟨a2,xs2,rfl,q2,m2⟩:=hy.lstR;cases ry;obtain⟨its2,rv2,p2,_⟩:=I.list q2;cases h;exact⟨.tuple_list p1 p2.isList hu0,.tuple_list p1 p2.isList hu0,.tuple_list p1 p2.isList hu0⟩
   | exc _=>cases h
   | dct _ _ _=>cases h
  | lst o ds=>
   obtain⟨a1,xs1,rfl,q1,m1⟩:=hx.lstR;cases rx;obtain⟨its1,rv1,p1,_⟩:=I.list q1
   induction e using zD with
   | non=>cases hy.nonR;cases ry;cases h;exact⟨.list_none p1.isList hu0,.list_none p1.isList hu0,.list_none p1.isList hu0⟩
   | bl b'=>cases hy.blR;cases ry;cases h;exact⟨.list_bool _ p1.isList hu0,.list_bool _ p1.isList hu0,.list_bool _ p1.isList hu0⟩
   | int i'=>cases hy.intR;obtain⟨t2,rfl⟩:=ry;cases h;exact⟨.list_int _ _ p1.isList hu0,.list_int _ _ p1.isList hu0,.list_int _ _ p1.isList hu0⟩
   | str z'=>cases hy.strR;obtain⟨t2,rfl⟩:=ry;cases h;exact⟨.list_str _ _ p1.isList hu0,.list_str _ _ p1.isList hu0,.list_str _ _ p1.isList hu0⟩
   | tup es=>obtain⟨a2,xs2,rfl,q2,m2⟩:=hy.tupR;cases ry;obtain⟨its2,rv2,p2,_⟩:=I.tuple q2;cases h;exact⟨.list_tuple p1.isList p2 hu0,.list_tuple p1.isList p2 hu0,.list_tuple p1.isList p2 hu0⟩
   | lst o' es=>
    have hx':=hx
    have hy':=hy
    obtain⟨a2,xs2,rfl,q2,m2⟩:=hy.lstR;cases ry;obtain⟨its2,rv2,p2,_⟩:=I.list q2
    exact oV I n A ih q1 q2 m1 m2 hx' hy' h hu0
   | exc _=>cases h
   | dct _ _ _=>cases h
  | exc _=>cases h
  | dct _ _ _=>induction e using zD<;>cases h
end
abbrev nw (S:Addr->Prop)(H:Hp):Addr->Prop:=fun a=>S a∨H a=none
abbrev Kk (K:PySem.W.Frag)(S:Addr->Prop)(H:Hp)(Q:VK):D->Prop:=fun d=>∀ w H',bO H H'->HRep K (nw S H) H' w d->Q w H'
theorem HRep.nw {K:PySem.W.Frag}{S:Addr->Prop}{H:Hp}{v:V}{d:D}(h:HRep K S H v d):HRep K (nw S H) H v d:=h.mono (fun _=>.inl) (.refl _)
theorem vP {K:PySem.W.Frag}{S:Addr->Prop}{H:Hp}{p:Addr}{vs:List V}{ds:List D}(hp:H p=none)(h:HReps K S H vs ds):HRep K (nw S H) (upd H p (.tup vs)) (.ref p) (.tup ds):=
 .tup (.inl (.inl bN)) (h.mono (fun _=>.inl) (.upd hp))
theorem nq {K:PySem.W.Frag}{S:Addr->Prop}{H:Hp}{p:Addr}{vs:List V}{ds:List D}{o:Bool}(hp:H p=none)(h:HReps K S H vs ds):HRep K (nw S H) (upd H p (.lst vs)) (.ref p) (.lst o ds):=
 .lst (.inr hp) (.inl bN) (h.mono (fun _=>.inl) (.upd hp))
noncomputable def bop:BOp->Operator
 | .add=>.Add|.sub=>.Sub|.mul=>.Mult|.fdiv=>.FloorDiv|.mod=>.Mod|.pow=>.Pow
noncomputable def cop:COp->CmpOp
 | .eq=>.Eq|.ne=>.NotEq|.lt=>.Lt|.le=>.LtE|.gt=>.Gt|.ge=>.GtE|.in_=>.In|.nin=>.NotIn|.is_=>.Is|.isn=>.IsNot
def AW (K:PySem.W.Frag)(ex:EX->Prop)(op:BOp):R2:=fun x y H Q=>∃ S d e,HRep K S H x d/\HRep K S H y e/\PO' ex (opB op d e) (Kk K S H Q)
def AX (K:PySem.W.Frag)(ex:EX->Prop)(op:COp):R2:=fun x y H Q=>∃ S d e,HRep K S H x d/\HRep K S H y e/\PO' ex (opC op d e) fun r=>Q (.bl r) H
section
variable {X:Cx}{ex:EX->Prop}
theorem cS {n:Nat}(h:cQ n=true):n<=sizeLine:=of_decide_eq_true h
theorem gc {n:Nat}(h:dN n=true):n < sizeLine:=of_decide_eq_true h
theorem lO:OpR X (binaryOp .Add) (fun x y H Q=>∃ l b xs zs,x=.ref l/\y=.ref b/\Ls X.K H l xs/\Ls X.K H b zs/\xs.length+zs.length<=sizeLine/\∀ p,H p=none->Q (.ref p) (upd H p (.lst (xs++zs)))):=by
 intro pins s σ H x y v u Q I rx ry h
 obtain⟨l,b,xs,zs,rfl,rfl,hH,hB,hz,q⟩:=h
 cases rx
 cases ry
 obtain⟨hl,its,n,r,e⟩:=I.ls hH
 obtain⟨hl2,its2,n2,r2,e'⟩:=I.ls hB
 have e1:=r.length
 have e2:=r2.length
 refine PySem.P.add_list e e' ?_ (by rw[List.size_toArray,List.size_toArray];omega)
 have ea:its.toArray++its2.toArray=(its++its2).toArray:=by simp
 rw[ea]
 exact⟨.ref _,_,I.lnew (t':=s.toks) (r.append r2) (by rw[List.length_append];omega),rfl,q _ I.fresh⟩
theorem oW {vs:List V}{its:List Value}(r:Vals vs its):∀ k:Nat,Vals (List.replicate k vs).flatten (List.replicate k its).flatten:=r.rep
theorem r6:OpR X (binaryOp .Mult) (fun x y H Q=>∃ l k xs,x=.ref l/\y=.int k/\Ls X.K H l xs/\0<=k/\k<=16000/\xs.length<=1000/\∀ p,H p=none->Q (.ref p) (upd H p (.lst (List.replicate k.toNat xs).flatten))):=by
 intro pins s σ H x y v u Q I rx ry h
 obtain⟨l,k,xs,rfl,rfl,hH,h1,h2,hx,q⟩:=h
 cases rx
 obtain⟨t,rfl⟩:=ry
 obtain⟨hl,its,n,r,e⟩:=I.ls hH
 have el:=r.length
 have hz:xs.length*k.toNat<=1000*16000:=Nat.mul_le_mul hx (by omega)
 have big:1000*16000<=sizeLine:=by decide
 have hsz:its.toArray.size*k.toNat<=sizeLine:=by rw[List.size_toArray,<- el];omega
 have c1:¬ its.toArray.size*k.toNat > (2 ^ 63 - 1) / 8:=by
  have:(sizeLine:Nat)<=(2 ^ 63 - 1) / 8:=by decide
  omega
 have c2:¬ (!Builtin.List.listFitsIndex k)=true:=by
  rw[fitsIndex_both (by omega) (by omega)]
  exact Bool.false_ne_true
 have c3:¬ Builtin.List.listTooLong (its.toArray.size*k.toNat)=true:=by
  rw[oz hsz]
  exact Bool.false_ne_true
 have f0:∀ m:Nat,List.foldl (fun a b=>a++b) #[] (List.replicate m its.toArray)=(List.replicate m its).flatten.toArray:=fun m=>by
  have z:=foldl_rep its m []
  rw[List.nil_append] at z
  exact z
 have f1:List.foldl (fun a b=>a++b) #[] (List.replicate (if its.toArray.isEmpty=true then 0 else k.toNat) its.toArray)=(List.replicate k.toNat its).flatten.toArray:=by
  rw[f0]
  cases its with
  | nil=>simp
  | cons _ _=>rw[if_neg (by simp)]
 refine wpAny_binaryOp_repeat_ref (T:="list") (U:="int") (by decide) ⟨_,e,rfl⟩ (fun s'=>typeIs_int s' k t) noFill_list_mul F.fills_int_mul F.slot_int_rmul repeat_list F.slot_int_index.lookup (call_meets F.slot_int_rmul (typeIs_int s k t) F.entry_int_rmul (F.args_int_rmul_2 _ _) (int___rmul___int_list k t l its.toArray n) ⟨e,rfl,⟨_,e,rfl⟩,call_meets F.slot_list_mul ⟨_,e,rfl⟩ F.entry_list_mul (F.args_list_mul_2 _ _) (AutoListH.list___mul___list_int_3 l its.toArray n k t c2 c1 c3) ⟨e,?_⟩⟩)
 rw[f1]
 exact⟨.ref _,_,I.lnew (t':=s.toks) (oW r k.toNat) (by rw[len_rep,Nat.mul_comm];omega),rfl,q _ I.fresh⟩
theorem vQ (op:BOp):OpR X (binaryOp (bop op)) (AW X.K ex op):=by
 intro pins s σ H x y v u Q I rx ry h
 obtain⟨S,d,e,hx,hy,h⟩:=h
 have stuck:∀ {P:Prop},opB op d e=stk->P:=fun z=>by rw[z] at h;exact h.no.elim
 cases op with
 | add=>
  induction d using zD with
  | int a=>
   induction e using zD with
   | int b=>cases hx.intR;cases hy.intR;exact vm pins s σ H _ _ v u Q I rx ry ⟨a,b,rfl,rfl,h.ok _ _ (.refl _) (.int _)⟩
   | _=>exact stuck rfl
  | str a=>
   induction e using zD with
   | str b=>
    cases hx.strR;cases hy.strR
    obtain⟨g,h⟩:=PO'.grd h
    exact kH pins s σ H _ _ v u Q I rx ry ⟨a,b,rfl,rfl,cS g,h.ok _ _ (.refl _) (.str _)⟩
   | _=>exact stuck rfl
  | lst o a=>
   induction e using zD with
   | lst o' b=>
    obtain⟨p,xs,rfl,q1,m1⟩:=hx.lstL
    obtain⟨p',ys,rfl,q2,m2⟩:=hy.lstL
    obtain⟨g,h⟩:=PO'.grd h
    have g':=cS g
    have l1:=m1.length
    have l2:=m2.length
    exact lO pins s σ H _ _ v u Q I rx ry ⟨p,p',xs,ys,rfl,rfl,q1,q2,by omega,fun z hz=>h.ok _ _ (.upd hz) (nq hz (m1.append m2))⟩
   | _=>exact stuck rfl
  | _=>exact stuck rfl
 | sub=>
  induction d using zD with
  | int a=>
   induction e using zD with
   | int b=>cases hx.intR;cases hy.intR;exact vn pins s σ H _ _ v u Q I rx ry ⟨a,b,rfl,rfl,h.ok _ _ (.refl _) (.int _)⟩
   | _=>exact stuck rfl
  | _=>exact stuck rfl
 | mul=>
  induction d using zD with
  | int a=>
   induction e using zD with
   | int b=>
    cases hx.intR;cases hy.intR
    obtain⟨g,h⟩:=PO'.grd h
    rw[Bool.or_eq_true] at g
    exact vo pins s σ H _ _ v u Q I rx ry ⟨a,b,rfl,rfl,g.elim (fun z=>.inl (of_decide_eq_true z)) (fun z=>.inr (of_decide_eq_true z)),h.ok _ _ (.refl _) (.int _)⟩
   | _=>exact stuck rfl
  | str a=>
   induction e using zD with
   | int b=>
    cases hx.strR;cases hy.intR
    obtain⟨g,h⟩:=PO'.grd h
    have g':=of_decide_eq_true g
    exact kK pins s σ H _ _ v u Q I rx ry ⟨a,b,rfl,rfl,g'.1,g'.2.1,g'.2.2,h.ok _ _ (.refl _) (.str _)⟩
   | _=>exact stuck rfl
  | lst _ _=>cases e<;>exact stuck rfl
  | _=>exact stuck rfl
 | fdiv=>
  induction d using zD with
  | int a=>
   induction e using zD with
   | int b=>
    cases hx.intR;cases hy.intR
    obtain⟨g,h⟩:=PO'.grd h
    exact rA pins s σ H _ _ v u Q I rx ry ⟨a,b,rfl,rfl,show 0 < b/\b < 1073741824 from of_decide_eq_true g,h.ok _ _ (.refl _) (.int _)⟩
   | _=>exact stuck rfl
  | _=>exact stuck rfl
 | mod=>
  induction d using zD with
  | int a=>
   induction e using zD with
   | int b=>
    cases hx.intR;cases hy.intR
    obtain⟨g,h⟩:=PO'.grd h
    exact vp pins s σ H _ _ v u Q I rx ry ⟨a,b,rfl,rfl,of_decide_eq_true g,h.ok _ _ (.refl _) (.int _)⟩
   | _=>exact stuck rfl
  | _=>exact stuck rfl
 | pow=>
  induction d using zD with
  | int a=>
   induction e using zD with
   | int b=>
    cases hx.intR;cases hy.intR
    obtain⟨g,h⟩:=PO'.grd h
    exact vq pins s σ H _ _ v u Q I rx ry ⟨a,b,rfl,rfl,show 0<=b/\b<=1000000/\a.natAbs < 2 ^ 64 from of_decide_eq_true g,h.ok _ _ (.refl _) (.int _)⟩
   | _=>exact stuck rfl
  | _=>exact stuck rfl
theorem PO'.eqN {ex:EX->Prop}:∀ {n:Nat}{d e:D}{k:Bool->Prop},PO' ex (L2.eqN n d e) k->∃ r,L2.eqN n d e=.ok r/\k r:=by
 have no:∀ (n:Nat) (d e:D) (c:EX),L2.eqN n d e≠.error (.exc c):=by
  intro n
  have seqs:∀ (f:D->D->Res Bool),(∀ d e c,f d e≠.error (.exc c))->∀ (ds es:List D) (c:EX),dj f ds es≠.error (.exc c):=by
   intro f hf ds
   induction ds with
   | nil=>intro es c h;cases es<;>cases h
   | cons a ds ih=>
    intro es c h
    cases es with
    | nil=>cases h
    | cons b es=>
     have h':L2.bnd (f a b) (fun x=>L2.bnd (dj f ds es) fun y=>.ok (x&&y))=.error (.exc c):=h
     cases q:f a b with
     | error z=>rw[q] at h';exact hf a b c (by rw[q];exact h')
     | ok x=>
      rw[q] at h'
      have h2:L2.bnd (dj f ds es) (fun y=>.ok (x&&y))=.error (.exc c):=h'
      cases q2:dj f ds es with
      | error z=>rw[q2] at h2;exact ih es c (by rw[q2];exact h2)
      | ok y=>rw[q2] at h2;cases h2
  induction n with
  | zero=>intro d e c h;cases h
  | succ n ih=>
   intro d e c h
   induction d using zD<;>induction e using zD<;>first|cases h|exact seqs _ ih _ _ _ h
 intro n d e k h
 cases q:L2.eqN n d e with
 | ok r=>rw[q] at h;exact⟨r,rfl,h⟩
 | error z=>
  rw[q] at h
  cases z with
  | stuck=>exact h.no.elim
  | exc c=>exact absurd q (no n d e c)
theorem PO'.anyN {ex:EX->Prop}{d:D}:∀ {ds:List D}{k:Bool->Prop},PO' ex (L2.anyN d ds) k->∃ f:Nat->Bool,(∀ i e,ds[i]? = some e->L2.eqN 40 e d=.ok (f i))/\k ((List.range ds.length).any f)
 | [],k,h=>⟨fun _=>false,fun i e z=>by simp at z,h⟩
 | e::r,k,h=>by
  obtain⟨x,ex',h1⟩:=PO'.eqN (PO'.bnd h)
  obtain⟨f,h2,h3⟩:=PO'.anyN (PO'.bnd h1)
  refine⟨fun i=>match i with|0=>x|j+1=>f j,fun i e' z=>?_,?_⟩
  ·cases i with
   | zero=>simp at z;subst z;exact ex'
   | succ j=>exact h2 j e' (by simpa using z)
  ·rw[List.length_cons,List.range_succ_eq_map,List.any_cons,List.any_map]
   exact h3
theorem kS {A:Around}{s:Shared}{v:Value}(its:List Value)(f:Nat->Bool)(h:∀ i u,its[i]? = some u->EqAt A s u v (f i)) :
  ∃ e:Value->Bool,(∀ y,y∈its.toArray->EqAt A s y v (e y))/\its.toArray.any e=(List.range its.length).any f:=by
 classical
 refine⟨fun y=>decide (∃ i,its[i]? = some y/\f i=true),fun y hy=>?_,?_⟩
 ·have hy':y∈its:=by simpa using hy
  obtain⟨j,hj⟩:=List.getElem?_of_mem hy'
  show EqAt A s y v (decide (∃ i,its[i]? = some y/\f i=true))
  by_cases q:∃ i,its[i]? = some y/\f i=true
  ·rw[decide_eq_true q]
   obtain⟨i,hi,fi⟩:=q
   have:=h i y hi
   rw[fi] at this
   exact this
  ·rw[decide_eq_false q]
   have:=h j y hj
   have fj:f j=false:=by
    cases z:f j with
    | false=>rfl
    | true=>exact absurd ⟨j,hj,z⟩ q
   rw[fj] at this
   exact this
 ·rw[Bool.eq_iff_iff]
  simp only[List.any_toArray,List.any_eq_true,List.mem_range,decide_eq_true_eq]
  constructor
  ·rintro ⟨y,hy,i,hi,fi⟩
   exact⟨i,(List.getElem?_eq_some_iff.mp hi).1,fi⟩
  ·rintro ⟨i,hi,fi⟩
   exact⟨its[i],List.getElem_mem hi,i,by simp[hi],fi⟩
theorem eI (hu:X.A.units+42 < cLine){pins:List (Addr×Obj)}{s:Shared}{σ:St}{H:Hp}{S:Addr->Prop}{x:V}{v:Value}{d:D}{k:Bool->Prop}(I:Inv X pins σ H s)(rx:RelV x v)(hx:HRep X.K S H x d)
  {xs:List V}{its:List Value}{ds:List D} (rv:Vals xs its) (m:HReps X.K S H xs ds) (h:PO' ex (anyN d ds) k) :
  ∃ e:Value->Bool,(∀ y,y∈its.toArray->EqAt X.A.in1 s y v (e y))/\k (its.toArray.any e):=by
 obtain⟨f,h1,h2⟩:=PO'.anyN h
 have l1:=rv.length
 have l2:=m.length
 obtain⟨e,h3,h4⟩:=kS (A:=X.A.in1) (s:=s) (v:=v) its f fun i u hi=>by
  have hlt:i < its.length:=(List.getElem?_eq_some_iff.mp hi).1
  obtain⟨y,hy,my⟩:=m.get (i:=i) (d:=ds[i]'(by omega)) (by simp)
  obtain⟨u',hu',ru⟩:=rv.get hy
  rw[hi] at hu';cases hu'
  exact(i7 I 40 X.A.in1 y x u v _ d _ my hx ru rx (h1 i _ (by simp)) (by show X.A.units+1+40 < cLine;omega)).eq
 refine⟨e,h3,?_⟩
 rw[h4,show its.length=ds.length by omega]
 exact h2
theorem fO (hu:X.A.units+42 < cLine)(op:COp):OpR X (compareOp (cop op)) (AX X.K ex op):=by
 intro pins s σ H x y v u Q I rx ry h
 obtain⟨S,d,e,hx,hy,h⟩:=h
 have stuck:∀ {P:Prop},opC op d e=stk->P:=fun z=>by rw[z] at h;exact h.no.elim
 have fin:∀ {b:Bool},Q (.bl b) H->EP X pins σ Q (.bool b) s:=fun q=>⟨.bl _,H,I,rfl,q⟩
 cases op with
 | eq=>
  obtain⟨r,h1,h2⟩:=PO'.eqN h
  exact(i7 I 40 X.A x y v u d e r hx hy rx ry h1 (by omega)).rc _ _ _ _ (fin h2)
 | ne=>
  obtain⟨r,h1,h2⟩:=PO'.eqN (PO'.bnd h)
  exact(i7 I 40 X.A x y v u d e r hx hy rx ry h1 (by omega)).ne _ _ _ _ (fin h2.ok)
 | lt=>
  induction d using zD with
  | int a=>
   induction e using zD with
   | int b=>cases hx.intR;cases hy.intR;obtain⟨t,rfl⟩:=rx;obtain⟨t',rfl⟩:=ry;exact lt_int (fin h.ok)
   | _=>exact stuck rfl
  | _=>exact stuck rfl
 | le=>
  induction d using zD with
  | int a=>
   induction e using zD with
   | int b=>cases hx.intR;cases hy.intR;obtain⟨t,rfl⟩:=rx;obtain⟨t',rfl⟩:=ry;exact le_int (fin h.ok)
   | _=>exact stuck rfl
  | _=>exact stuck rfl
 | gt=>
  induction d using zD with
  | int a=>
   induction e using zD with
   | int b=>cases hx.intR;cases hy.intR;obtain⟨t,rfl⟩:=rx;obtain⟨t',rfl⟩:=ry;exact gt_int (fin h.ok)
   | _=>exact stuck rfl
  | _=>exact stuck rfl
 | ge=>cases d<;>cases e<;>exact stuck rfl
 | in_=>
  induction e using zD with
  | str b=>
   induction d using zD with
   | str a=>cases hx.strR;cases hy.strR;obtain⟨t,rfl⟩:=rx;obtain⟨t',rfl⟩:=ry;exact in_str (fin h.ok)
   | _=>exact stuck rfl
  | lst o ds=>
   obtain⟨a,xs,rfl,q1,m1⟩:=hy.lstR
   cases ry
   obtain⟨its,rv,pl,_⟩:=I.list q1
   obtain⟨e,h1,h2⟩:=eI (ex:=ex) hu I rx hx rv m1 (by induction d using zD<;>exact h)
   exact in_listAt e pl.isList h1 (fin h2)
  | tup ds=>
   obtain⟨a,xs,rfl,q1,m1⟩:=hy.tupR
   cases ry
   obtain⟨its,rv,pl,_⟩:=I.tuple q1
   obtain⟨e,h1,h2⟩:=eI (ex:=ex) hu I rx hx rv m1 (by induction d using zD<;>exact h)
   exact in_tupleAt e pl h1 (fin h2)
  | non=>induction d using zD<;>exact stuck rfl
  | bl _=>induction d using zD<;>exact stuck rfl
  | int _=>induction d using zD<;>exact stuck rfl
  | exc _=>induction d using zD<;>exact stuck rfl
  | dct _ _ _=>induction d using zD<;>exact stuck rfl
 | nin=>
  induction e using zD with
  | str b=>
   induction d using zD with
   | str a=>cases hx.strR;cases hy.strR;obtain⟨t,rfl⟩:=rx;obtain⟨t',rfl⟩:=ry;exact notIn_str (fin h.ok)
   | _=>exact stuck rfl
  | lst o ds=>
   obtain⟨a,xs,rfl,q1,m1⟩:=hy.lstR
   cases ry
   obtain⟨its,rv,pl,_⟩:=I.list q1
   obtain⟨e,h1,h2⟩:=eI (ex:=ex) (k:=fun r=>Q (.bl !r) H) hu I rx hx rv m1 ((PO'.bnd (show PO' ex (bnd (anyN d ds) fun r=>.ok !r) (fun r=>Q (.bl r) H) by induction d using zD<;>exact h)).mono fun _ z=>z)
   exact notIn_listAt e pl.isList h1 (fin h2)
  | tup ds=>
   obtain⟨a,xs,rfl,q1,m1⟩:=hy.tupR
   cases ry
   obtain⟨its,rv,pl,_⟩:=I.tuple q1
   obtain⟨e,h1,h2⟩:=eI (ex:=ex) (k:=fun r=>Q (.bl !r) H) hu I rx hx rv m1 ((PO'.bnd (show PO' ex (bnd (anyN d ds) fun r=>.ok !r) (fun r=>Q (.bl r) H) by induction d using zD<;>exact h)).mono fun _ z=>z)
   exact notIn_tupleAt e pl h1 (fin h2)
  | non=>induction d using zD<;>exact stuck rfl
  | bl _=>induction d using zD<;>exact stuck rfl
  | int _=>induction d using zD<;>exact stuck rfl
  | exc _=>induction d using zD<;>exact stuck rfl
  | dct _ _ _=>induction d using zD<;>exact stuck rfl
 | is_=>
  induction e using zD with
  | non=>
   cases hy.nonR;cases ry
   have ev:iB d=(v == Value.none):=by
    cases hx with
    | non=>cases rx;rfl
    | bl b=>cases rx;rfl
    | int i=>obtain⟨t,rfl⟩:=rx;rfl
    | str z=>obtain⟨t,rfl⟩:=rx;rfl
    | tup _ _=>cases rx;rfl
    | lst _ _ _=>cases rx;rfl
    | lstK _ _=>cases rx;rfl
    | exc _=>cases rx;rfl
    | dct _ _ _ _=>cases rx;rfl
   have h':Q (.bl (iB d)) H:=by induction d using zD<;>exact h
   rw[ev] at h'
   exact is_none_gen (fin h')
  | _=>induction d using zD<;>exact stuck rfl
 | isn=>cases d<;>cases e<;>exact stuck rfl
theorem gf {pins:List (Addr×Obj)}{s:Shared}{σ:St}{H:Hp}{S:Addr->Prop}{x:V}{v:Value}{d:D}{Q:Bool->Hp->Prop}(I:Inv X pins σ H s)(rx:RelV x v)(hx:HRep X.K S H x d)(h:PO' ex (cF d) fun b=>Q b H) :
  wpAny (model X.prog X.w) X.A (truthy v) (TP X pins σ Q) X.xe s:=by
 refine vt pins s σ H x v Q I rx ?_
 induction d using zD with
 | exc c=>exact h.no.elim
 | dct _ _ _=>exact h.no.elim
 | non=>cases hx.nonR;exact⟨false,rfl,h⟩
 | bl b=>cases hx.blR;exact⟨b,rfl,h⟩
 | int i=>cases hx.intR;exact⟨_,rfl,h⟩
 | str z=>
  cases hx.strR
  obtain⟨g,h⟩:=PO'.grd h
  exact⟨_,⟨cS g,rfl⟩,h⟩
 | tup ds=>
  obtain⟨a,xs,rfl,q,m⟩:=hx.tupR
  refine⟨!ds.isEmpty,.inr (.inl ⟨xs,q,?_⟩),h⟩
  have:=m.length
  cases xs<;>cases ds<;>simp_all
 | lst o ds=>
  obtain⟨a,xs,rfl,q,m⟩:=hx.lstR
  refine⟨!ds.isEmpty,.inl ⟨xs,q,?_⟩,h⟩
  have:=m.length
  cases xs<;>cases ds<;>simp_all
theorem lP {K:PySem.W.Frag}{S:Addr->Prop}{H:Hp}{vs:List V}{ds:List D}{i:Int}{d:D}(m:HReps K S H vs ds)(h:atI ds i=some d):∃ v,atI vs i=some v/\HRep K S H v d:=by
 unfold atI at h ⊢
 rw[m.length]
 cases q:ixN ds.length i with
 | none=>rw[q] at h;cases h
 | some j=>rw[q] at h;exact m.get h
def AY (K:PySem.W.Frag)(ex:EX->Prop):R2:=fun x y H Q=>∃ S d e,HRep K S H x d/\HRep K S H y e/\PO' ex (cX d e) (Kk K S H Q)
theorem sd:IxR X (AY X.K ex):=by
 intro value slice pins s σ H x y v u Q I rx ry h hs
 obtain⟨S,d,e,hx,hy,h⟩:=h
 refine vy value slice pins s σ H x y v u Q I rx ry ?_ hs
 have stuck:∀ {P:Prop},cX d e=stk->P:=fun z=>by rw[z] at h;exact h.no.elim
 induction e using zD with
 | int i=>
  cases hy.intR
  induction d using zD with
  | lst o ds=>
   obtain⟨a,xs,rfl,q,m⟩:=hx.lstR
   have h':PO' ex (match atI ds i with|some d=>.ok d|none=>stk) (Kk X.K S H Q):=h
   cases z:atI ds i with
   | none=>rw[z] at h';exact h'.no.elim
   | some d=>
    rw[z] at h'
    obtain⟨w,ew,mw⟩:=lP m z
    exact .inl ⟨a,xs,i,w,rfl,rfl,q,ew,h'.ok _ _ (.refl _) mw.nw⟩
  | tup ds=>
   obtain⟨a,xs,rfl,q,m⟩:=hx.tupR
   have h':PO' ex (match atI ds i with|some d=>.ok d|none=>stk) (Kk X.K S H Q):=h
   cases z:atI ds i with
   | none=>rw[z] at h';exact h'.no.elim
   | some d=>
    rw[z] at h'
    obtain⟨w,ew,mw⟩:=lP m z
    exact .inr (.inl ⟨a,xs,i,w,rfl,rfl,q,ew,h'.ok _ _ (.refl _) mw.nw⟩)
  | str z=>
   cases hx.strR
   obtain⟨g,h⟩:=PO'.grd h
   cases q:atI z.cps.toList i with
   | none=>rw[q] at h;exact h.no.elim
   | some c=>
    rw[q] at h
    exact .inr (.inr ⟨z,i,c,rfl,rfl,cS g,q,h.ok _ _ (.refl _) (.str _)⟩)
  | _=>exact stuck rfl
 | _=>induction d using zD<;>exact stuck rfl
def AZ (K:PySem.W.Frag)(ex:EX->Prop):V->Option Int->Option Int->Hp->VK->Prop:=fun x lo hi H Q=>∃ S d,HRep K S H x d/\PO' ex (jH d lo hi) (Kk K S H Q)
theorem vR:SlR X (fun x lo hi H Q=>∃ z,x=.str z/\z.length<=sizeLine/\Q (.str (Txt.slice z lo hi)) H):=by
 intro pins s σ H x v vl vu lo hi sl Q I rx hs pl pu h
 obtain⟨z,rfl,hz,q⟩:=h
 obtain⟨t,rfl⟩:=rx
 refine⟨"str",_,F.slot_str_getitem.lookup,typeIs_str s z t,?_⟩
 have fin:∀ (l u:Option (Int×Tok)),vl=partValue l->vu=partValue u->l.map (·.1)=lo->u.map (·.1)=hi->wpAny (model X.prog X.w) X.A (getItem (.str z t) (.ref sl)) (EP X pins σ Q) X.xe s:=by
  intro l u e1 e2 e3 e4
  subst e1 e2 e3 e4
  refine wpAny_getItem_str_slice (l:=l) (u:=u) (st:=none) hs rfl ?_
  exact post_val_or_str ⟨Nat.le_trans (Txt.slice_le z _ _) hz,fun t' k=>⟨.str _,H,I.tok _,⟨_,rfl⟩,q⟩⟩
 cases pl with
 | none=>
  cases pu with
  | none=>exact fin none none rfl rfl rfl rfl
  | int j t'=>exact fin none (some (j,t')) rfl rfl rfl rfl
 | int i t'=>
  cases pu with
  | none=>exact fin (some (i,t')) none rfl rfl rfl rfl
  | int j t''=>exact fin (some (i,t')) (some (j,t'')) rfl rfl rfl rfl
end
open PySem.W
section
variable {prog:Program}{w:World}{A:Around}{E:Value->Shared->Prop}{K:Frag}{x C:Addr}{hh:Heap}{g:Array GenState}{d:Drawn}{t:Nat}{os:OsState}
structure ExcAt (K:Frag)(C:Addr):Prop where
 ga:findIn K (.ref C) "__getattribute__" = some (some (.builtin "BaseException.__getattribute__"))
 no:findIn K (.ref C) "__getattr__" = some none
 cl:findIn K (.ref C) "__class__" = some (some (.builtin "object.__class__"))
 be:mroIn K C (.type "BaseException")=some true
 ob:mroIn K C (.type "object")=some true
 is:(clsIn K C).isSome=true
def IX (h:Heap)(x C:Addr):Prop:=∃ o,h.get? x=some o/\o.cls=.ref C
theorem IX.type {M:Model}{h:Heap}(I:IX h x C):Looks M h (typeOf (.ref x)) (.ref C):=by
 obtain⟨o,h1,h2⟩:=I
 exact h2 ▸ (Looks.ld h1).andThen .now
open Builtin Builtin.ObjectAttr Builtin.Getset_descriptor in
theorem oX {R:Result->Shared->Prop}{tp:Value}(X:K.In hh)(I:IX hh x C)(hm:mroIn K C (.type "object")=some true) (hq:R (.ok (.ret (.ref C))) ⟨hh,g,d,t,os⟩) :
  codeAny (model prog w) A (.call (.builtin "getset_descriptor.__get__") ⟨[.builtin "object.__class__",.ref x,tp],[]⟩) R ⟨hh,g,d,t,os⟩:=by
 have y0:=I.type (M:=model prog w)
 have y1:=looks_mroIn (M:=model prog w) X hm
 refine codeAny_call_builtin KF.slot_gs.plain KF.entry_gs (KF.slot_gs.check _ _ _ _ _ _ _ _ KF.type_class (KF.args_gs _ _ _) ?_);unfold Builtin.«getset_descriptor.__get__» descrGet;rw[dga_obj]
 refine wpAny_bind (wpAny_pure ?_);unfold descrGetter descrCheckInstance descrNameAndClass isInstance
 simp only[KF.owner_class];repeat lk
 refine⟨Code.quiet_builtin _ (by decide +kernel),codeAny_builtin KF.entry_class ?_⟩;unfold Builtin.«object.__class__» shownTypeOf
 repeat lk
 exact hq
theorem nr (a:ExcAt K C){tk:Tok}{Q:Fin->Shared->Prop}(X:K.In hh)(I:IX hh x C)(hq:Q (.done (.ret (.ref C))) ⟨hh,g,d,t,os⟩) :
  wpAny (model prog w) A (Builtin.«object.__getattribute__» ⟨[.ref x,.str "__class__" tk],[]⟩) Q E ⟨hh,g,d,t,os⟩:=by
 have y0:=I.type (M:=model prog w)
 have y1:=looks_findIn (M:=model prog w) X a.cl
 have y5:=F.typeOf_object_class;have y6:=F.slot_gs_get.lookup;have y7:=F.slot_gs_set.lookup
 repeat (any_goals (first|assumption|with_reducible refine Looks.at (by assumption) ?_|wp_step))
 refine oX X I a.ob ?_
 repeat (any_goals (first|assumption|wp_step))
theorem iC (a:ExcAt K C){M:Model}{nameV:Value}{Q:Unit->Shared->Prop}(X:K.In hh)(I:IX hh x C)(hq:Q () ⟨hh,g,d,t,os⟩) :
  wpAny M A (checkBuiltinCall "BaseException.__getattribute__" ⟨[.ref x,nameV],[]⟩) Q E ⟨hh,g,d,t,os⟩:=by
 have e1:builtinKind "BaseException.__getattribute__" = some .slot:=by decide +kernel
 have e2:splitId "BaseException.__getattribute__" = some ("BaseException","__getattribute__"):=by decide +kernel
 have y0:=I.type (M:=M)
 have y1:=looks_mroIn (M:=M) X a.be
 have ha:=F.args_bexc_ga (.ref x) nameV
 simp only[checkBuiltinCall,e1,e2]
 refine wpAny_bind ?_
 unfold isInstance
 repeat (any_goals (first|assumption|with_reducible refine Looks.at (by assumption) ?_|wp_step))
theorem vS (a:ExcAt K C){tk:Tok}{fill:Bool}{Q:Value->Shared->Prop}(X:K.In hh)(I:IX hh x C)(hq:Q (.ref C) ⟨hh,g,d,t,os⟩) :
  wpAny (model prog w) A (getAttrBy (.ref x) (.str "__class__" tk) fill) Q E ⟨hh,g,d,t,os⟩:=by
 have y0:=I.type (M:=model prog w)
 have y1:=looks_findIn (M:=model prog w) X a.ga
 have y2:=looks_findIn (M:=model prog w) X a.no
 have f3:=F.attr_ValueError.ga.bind (.ref x)
 have y4:(onTheHeap (Value.ref C)&&Value.builtin "BaseException.__getattribute__" == Value.builtin "object.__getattribute__")=false:=by rw[show (Value.builtin "BaseException.__getattribute__" == Value.builtin "object.__getattribute__")=false by decide +kernel];rfl
 repeat (any_goals (first|assumption|with_reducible refine Looks.at (by assumption) ?_|wp_step))
 refine codeAny_call_builtin F.attr_ValueError.ga.plain F.entry_bexc_ga (iC a X I (nr a X I ?_))
 repeat (any_goals (first|assumption|wp_step))
theorem oY (a:ExcAt K C){Q:Option Value->Shared->Prop}(X:K.In hh)(I:IX hh x C)(hq:Q (some (.ref C)) ⟨hh,g,d,t+1,os⟩) :
  wpAny (model prog w) A (getAttr? (.ref x) "__class__") Q E ⟨hh,g,d,t,os⟩:=by
 unfold getAttr? getAttrBy?
 repeat (any_goals (first|assumption|with_reducible apply vS a X I|wp_step))
theorem jQ (a:ExcAt K C):KitX K (.ref x) (.ref C) (fun h=>IX h x C) where
 ty:=fun _ _ _ I=>I.type
 it:=fun _ _ X _=>by
  have z:=a.is
  unfold clsIn at z
  split at z
  ·rename_i ho
   intro A' Q' E' s' k q
   unfold isType loadHead
   exact wpAny_bind (wpAny_loadPart (k _ _ (X _ _ ho)) (wpAny_pure q))
  ·cases z
 ne:=fun h tp dd its n sl X htp=>by
  have z:=a.is
  refine Bool.eq_false_iff.mpr fun q=>?_
  have e:C=tp:=Value.ref.inj (beq_iff_eq.mp q)
  subst e
  unfold clsIn at z
  split at z
  ·rename_i ho
   cases (X _ _ ho).symm.trans htp
  ·cases z
 ca:=fun {_ _ _ _ _ s} X I k=>by
  obtain⟨hh,g,d,t,os⟩:=s
  exact oY a X I k
end
section
variable {X:Cx}{ex:EX->Prop}
theorem lQ {K:PySem.W.Frag}{S:Addr->Prop}{H:Hp}{vs:List V}{ds:List D}(lo hi:Option Int)(m:HReps K S H vs ds):HReps K S H (mW vs lo hi) (kN ds lo hi):=by
 unfold mW kN
 rw[m.length]
 exact(m.drop _).take _
theorem se:SlR X (AZ X.K ex):=by
 intro pins s σ H x v vl vu lo hi sl Q I rx hs pl pu h
 obtain⟨S,d,hx,h⟩:=h
 induction d using zD with
 | lst o ds=>
  obtain⟨a,xs,rfl,q,m⟩:=hx.lstR
  exact lG pins s σ H _ v vl vu lo hi sl Q I rx hs pl pu ⟨a,xs,rfl,q,fun p hp=>h.ok _ _ (.upd hp) (nq hp (lQ lo hi m))⟩
 | str z=>
  cases hx.strR
  obtain⟨g,h⟩:=PO'.grd h
  exact vR pins s σ H _ v vl vu lo hi sl Q I rx hs pl pu ⟨z,rfl,cS g,h.ok _ _ (.refl _) (.str _)⟩
 | _=>exact h.no.elim
theorem dX:∀ {ds:List D}{ns:List Str},cJ ds=some ns->ds=ns.map .str
 | [],ns,h=>by cases h;rfl
 | .str i::r,ns,h=>by
  have h':(cJ r).map (i::·)=some ns:=h
  cases q:cJ r with
  | none=>rw[q] at h';cases h'
  | some ms=>
   rw[q] at h'
   cases h'
   rw[dX q]
   rfl
 | .non::_,_,h=>by cases h
 | .bl _::_,_,h=>by cases h
 | .int _::_,_,h=>by cases h
 | .tup _::_,_,h=>by cases h
 | .lst _ _::_,_,h=>by cases h
theorem fP:∀ {ds:List D}{ns:List Bool},dq ds=some ns->ds=ns.map .bl
 | [],ns,h=>by cases h;rfl
 | .bl i::r,ns,h=>by
  have h':(dq r).map (i::·)=some ns:=h
  cases q:dq r with
  | none=>rw[q] at h';cases h'
  | some ms=>
   rw[q] at h'
   cases h'
   rw[fP q]
   rfl
 | .non::_,_,h=>by cases h
 | .str _::_,_,h=>by cases h
 | .int _::_,_,h=>by cases h
 | .tup _::_,_,h=>by cases h
 | .lst _ _::_,_,h=>by cases h
theorem nt (hc:X.calm=true):c8 X (.builtin "all") (fun xs H Q=>∃ (p:Addr) (bs:List Bool),xs=[.ref p]/\SqL X.K H p (bs.map V.bl)/\Q (.bl (bs.all id)) H):=by
 intro pins s σ H xs us Q I r h
 obtain⟨p,bs,rfl,hq,q⟩:=h
 obtain⟨u,rfl,rx⟩:=vals1 r
 cases rx
 obtain⟨its,rv,pl,hz⟩:=I.list hq
 have hl:=rv.length
 rw[List.length_map] at hl
 have hlt:p < s.heap.objs.size:=by
  obtain⟨o,e,_⟩:=pl.isList
  exact Heap.lt_size e
 refine call_all_walk (wpAny_pyIter_list pl.isList ?_)
 refine⟨s.heap.objs.size,_,_,_,_,_,fun i=>bs.getD i true,rfl,Walks.list (A:=X.A.in1) (show X.A.in1.handled=none from I.ok.hd hc) s.heap.objs.size p (Nat.ne_of_lt hlt) its.toArray,⟨⟨_,Heap.get?_push_size _ rfl,rfl,rfl⟩,?_⟩,?_,?_⟩
 ·obtain⟨o,e,c,n,d⟩:=pl.isList
  exact⟨o,Heap.get?_push_of_some _ e,c,n,d⟩
 ·intro i v s' Q' E' hv hq'
  have hv':its[i]? = some v:=by simpa using hv
  have hlt':i < bs.length:=by
   have:=(List.getElem?_eq_some_iff.mp hv').1
   omega
  obtain⟨u,hu,ru⟩:=rv.get (i:=i) (x:=.bl bs[i]) (by rw[List.getElem?_map,List.getElem?_eq_getElem hlt'];rfl)
  rw[hv'] at hu
  cases hu
  cases ru
  refine wpAny_truthy_bool ?_
  have e:bs.getD i true=bs[i]:=by simp[List.getD,hlt']
  rw[<- e]
  exact hq'
 ·intro h' tk kp
  have hall:(List.range its.toArray.size).all (fun i=>bs.getD i true)=bs.all id:=by
   rw[show its.toArray.size=bs.length by simp[hl]]
   rw[Bool.eq_iff_iff,List.all_eq_true,List.all_eq_true]
   constructor
   ·intro z b hb
    obtain⟨i,hi,rfl⟩:=List.getElem_of_mem hb
    have:=z i (List.mem_range.mpr hi)
    simpa[List.getD,hi] using this
   ·intro z i hi
    have hi':=List.mem_range.mp hi
    have:=z bs[i] (List.getElem_mem hi')
    simpa[List.getD,hi'] using this
  rw[hall]
  refine⟨.bl (bs.all id),H,I.kept (t':=tk) fun b o e=>kp b o ?_ (Heap.get?_push_of_some _ e),rfl,q⟩
  intro hm
  have hb:b=s.heap.objs.size:=by simpa using hm
  subst hb
  exact absurd (Heap.lt_size e) (Nat.lt_irrefl _)
theorem nu (hc:X.calm=true):c8 X (.builtin "any") (fun xs H Q=>∃ (p:Addr) (bs:List Bool),xs=[.ref p]/\SqL X.K H p (bs.map V.bl)/\Q (.bl (bs.any id)) H):=by
 intro pins s σ H xs us Q I r h
 obtain⟨p,bs,rfl,hq,q⟩:=h
 obtain⟨u,rfl,rx⟩:=vals1 r
 cases rx
 obtain⟨its,rv,pl,hz⟩:=I.list hq
 have hl:=rv.length
 rw[List.length_map] at hl
 have hlt:p < s.heap.objs.size:=by
  obtain⟨o,e,_⟩:=pl.isList
  exact Heap.lt_size e
 refine call_any_walk (wpAny_pyIter_list pl.isList ?_)
 refine⟨s.heap.objs.size,_,_,_,_,_,fun i=>bs.getD i false,rfl,Walks.list (A:=X.A.in1) (show X.A.in1.handled=none from I.ok.hd hc) s.heap.objs.size p (Nat.ne_of_lt hlt) its.toArray,⟨⟨_,Heap.get?_push_size _ rfl,rfl,rfl⟩,?_⟩,?_,?_⟩
 ·obtain⟨o,e,c,n,d⟩:=pl.isList
  exact⟨o,Heap.get?_push_of_some _ e,c,n,d⟩
 ·intro i v s' Q' E' hv hq'
  have hv':its[i]? = some v:=by simpa using hv
  have hlt':i < bs.length:=by
   have:=(List.getElem?_eq_some_iff.mp hv').1
   omega
  obtain⟨u,hu,ru⟩:=rv.get (i:=i) (x:=.bl bs[i]) (by rw[List.getElem?_map,List.getElem?_eq_getElem hlt'];rfl)
  rw[hv'] at hu
  cases hu
  cases ru
  refine wpAny_truthy_bool ?_
  have e:bs.getD i false=bs[i]:=by simp[List.getD,hlt']
  rw[<- e]
  exact hq'
 ·intro h' tk kp
  have hall:(List.range its.toArray.size).any (fun i=>bs.getD i false)=bs.any id:=by
   rw[show its.toArray.size=bs.length by simp[hl]]
   rw[Bool.eq_iff_iff,List.any_eq_true,List.any_eq_true]
   constructor
   ·rintro ⟨i,hi,z⟩
    have hi':=List.mem_range.mp hi
    exact⟨bs[i],List.getElem_mem hi',by simpa[List.getD,hi'] using z⟩
   ·rintro ⟨b,hb,z⟩
    obtain⟨i,hi,rfl⟩:=List.getElem_of_mem hb
    exact⟨i,List.mem_range.mpr hi,by simpa[List.getD,hi] using z⟩
  rw[hall]
  refine⟨.bl (bs.any id),H,I.kept (t':=tk) fun b o e=>kp b o ?_ (Heap.get?_push_of_some _ e),rfl,q⟩
  intro hm
  have hb:b=s.heap.objs.size:=by simpa using hm
  subst hb
  exact absurd (Heap.lt_size e) (Nat.lt_irrefl _)
noncomputable def dY:Bi->Str
 | .len=>"len" | .sum=>"sum" | .min2=>"min" | .max2=>"max" | .maxl=>"max" | .sorted=>"sorted" | .list=>"list" | .tuple=>"tuple" | .ord=>"ord" | .int=>"int" | .all=>"all" | .any=>"any" | .str=>"str" | .set=>"set" | .abs=>"abs"
noncomputable def yg:Bi->Bool
 | .list=>true|.tuple=>true|.int=>true|.str=>true|.set=>true
 | _=>false
noncomputable def yh:Bi->String
 | .len=>"len" | .sum=>"sum" | .min2=>"min" | .max2=>"max" | .maxl=>"max" | .sorted=>"sorted" | .list=>"list" | .tuple=>"tuple" | .ord=>"ord" | .int=>"int" | .all=>"all" | .any=>"any" | .str=>"str" | .set=>"set" | .abs=>"abs"
noncomputable def oZ (f:Bi):Value:=if yg f=true then .type (yh f) else .builtin (yh f)
theorem lR (f:Bi):bootBuiltins (dY f)=some (oZ f):=by cases f<;>decide +kernel
def rBi (K:PySem.W.Frag)(ex:EX->Prop)(f:Bi):List V->Hp->VK->Prop:=fun xs H Q=>∃ S ds,HReps K S H xs ds/\PO' ex (dG f ds) (Kk K S H Q)
theorem HReps.one1 {K:PySem.W.Frag}{S:Addr->Prop}{H:Hp}{xs:List V}{d:D}(h:HReps K S H xs [d]):∃ x,xs=[x]/\HRep K S H x d:=by
 cases h with
 | cons h1 h2=>cases h2;exact⟨_,rfl,h1⟩
theorem HReps.two2 {K:PySem.W.Frag}{S:Addr->Prop}{H:Hp}{xs:List V}{d e:D}(h:HReps K S H xs [d,e]):∃ x y,xs=[x,y]/\HRep K S H x d/\HRep K S H y e:=by
 cases h with
 | cons h1 h2=>
  cases h2 with
  | cons h3 h4=>cases h4;exact⟨_,_,rfl,h1,h3⟩
theorem nv {K:PySem.W.Frag}{S:Addr->Prop}{H:Hp}(z:Str):HReps K S H (fJ z) (dm z):=by
 unfold fJ dm
 induction z.cps.toList with
 | nil=>exact .nil
 | cons c cs ih=>exact .cons (.str _) ih
theorem fx {K:PySem.W.Frag}{S:Addr->Prop}{H:Hp}:∀ kvs:List (Key×V),HReps K S H (kvs.map fun q=>kV q.1) ((kvs.map (·.1)).map rX)
 | []=>.nil
 | (.inl i,_)::r=>.cons (.int i) (fx r)
 | (.inr x,_)::r=>.cons (.str x) (fx r)
theorem sg (hc:X.calm=true)(f:Bi):c8 X (oZ f) (rBi X.K ex f):=by
 intro pins s σ H xs us Q I r h
 obtain⟨S,ds,hx,h⟩:=h
 have stuck:∀ {P:Prop},dG f ds=stk->P:=fun z=>by rw[z] at h;exact h.no.elim
 have one:∀ {d e:D}{r':List D},ds=d::e::r'->¬ (f=.min2∨f=.max2)->dG f ds=stk:=by
  intro d e r' z nf
  subst z
  cases f<;>first|rfl|(exfalso;exact nf (.inl rfl))|(exfalso;exact nf (.inr rfl))|(induction d using zD<;>rfl)
 have two:∀ {d e g:D}{r':List D},ds=d::e::g::r'->dG f ds=stk:=by
  intro d e g r' z
  subst z
  cases f<;>first|rfl|(induction d using zD<;>rfl)|(induction d using zD<;>induction e using zD<;>rfl)
 have nil:ds=[]->dG f ds=stk:=by
  intro z
  subst z
  cases f<;>rfl
 match ds,hx with
 | [],hx=>exact stuck (nil rfl)
 | d::e::g::r',hx=>exact stuck (two rfl)
 | [d,e],hx=>
  by_cases nf:f=.min2∨f=.max2
  ·obtain⟨x,y,rfl,hd,he⟩:=hx.two2
   rcases nf with rfl|rfl
   ·induction d using zD with
    | int a=>
     induction e using zD with
     | int b=>cases hd.intR;cases he.intR;exact mS hc pins s σ H _ us Q I r ⟨a,b,rfl,h.ok _ _ (.refl _) (.int _)⟩
     | _=>exact stuck rfl
    | _=>exact stuck rfl
   ·induction d using zD with
    | int a=>
     induction e using zD with
     | int b=>cases hd.intR;cases he.intR;exact mR hc pins s σ H _ us Q I r ⟨a,b,rfl,h.ok _ _ (.refl _) (.int _)⟩
     | _=>exact stuck rfl
    | _=>exact stuck rfl
  ·exact stuck (one rfl nf)
 | [d],hx=>
  obtain⟨x,rfl,hd⟩:=hx.one1
  cases f with
  | len=>
   induction d using zD with
   | str z=>cases hd.strR;obtain⟨g,h⟩:=PO'.grd h;exact call_len pins s σ H _ us Q I r ⟨_,_,rfl,⟨cS g,rfl⟩,h.ok _ _ (.refl _) (.int _)⟩
   | tup ds=>
    obtain⟨a,ys,rfl,q,m⟩:=hd.tupR
    exact call_len pins s σ H _ us Q I r ⟨_,ds.length,rfl,.inr ⟨ys,q,m.length.symm⟩,h.ok _ _ (.refl _) (.int _)⟩
   | lst o ds=>
    obtain⟨a,ys,rfl,q,m⟩:=hd.lstR
    exact call_len pins s σ H _ us Q I r ⟨_,ds.length,rfl,.inl ⟨ys,q,m.length.symm⟩,h.ok _ _ (.refl _) (.int _)⟩
   | dct o ks es=>
    cases hd with
    | dct h0 h1 h2 h3=>exact ni pins s σ H _ us Q I r ⟨_,_,rfl,h1,by rw[<- List.length_map (f:=(·.1)),h2];exact h.ok _ _ (.refl _) (.int _)⟩
   | _=>exact stuck rfl
  | sum=>cases d<;>exact stuck rfl
  | all=>
   induction d using zD with
   | lst o ds=>
    obtain⟨a,ys,rfl,q,m⟩:=hd.lstR
    have h':PO' ex (match dq ds with|some bs=>.ok (.bl (bs.all id))|none=>stk) (Kk X.K S H Q):=h
    cases z:dq ds with
    | none=>rw[z] at h';exact h'.no.elim
    | some ns=>
     rw[z] at h'
     rw[fP z] at m
     rw[m.bls] at q
     exact nt hc pins s σ H _ us Q I r ⟨a,ns,rfl,q,h'.ok _ _ (.refl _) (.bl _)⟩
   | _=>exact stuck rfl
  | any=>
   induction d using zD with
   | lst o ds=>
    obtain⟨a,ys,rfl,q,m⟩:=hd.lstR
    have h':PO' ex (match dq ds with|some bs=>.ok (.bl (bs.any id))|none=>stk) (Kk X.K S H Q):=h
    cases z:dq ds with
    | none=>rw[z] at h';exact h'.no.elim
    | some ns=>
     rw[z] at h'
     rw[fP z] at m
     rw[m.bls] at q
     exact nu hc pins s σ H _ us Q I r ⟨a,ns,rfl,q,h'.ok _ _ (.refl _) (.bl _)⟩
   | _=>exact stuck rfl
  | ord=>cases d<;>exact stuck rfl
  | int=>
   induction d using zD with
   | int i=>cases hd.intR;exact il pins s σ H _ us Q I r (.inl ⟨i,rfl,h.ok _ _ (.refl _) (.int _)⟩)
   | bl i=>cases hd.blR;exact il pins s σ H _ us Q I r (.inr ⟨i,rfl,h.ok _ _ (.refl _) (.int _)⟩)
   | _=>exact stuck rfl
  | list=>
   induction d using zD with
   | tup ds=>
    obtain⟨a,ys,rfl,q,m⟩:=hd.tupR
    exact dS pins s σ H _ us Q I r ⟨a,ys,rfl,.inr q,fun p hp=>h.ok _ _ (.upd hp) (nq hp m)⟩
   | lst o ds=>
    obtain⟨a,ys,rfl,q,m⟩:=hd.lstR
    exact dS pins s σ H _ us Q I r ⟨a,ys,rfl,.inl q,fun p hp=>h.ok _ _ (.upd hp) (nq hp m)⟩
   | dct o ks ds=>
    cases hd with
    | dct h0 h1 h2 h3=>
     subst h2
     exact gD hc pins s σ H _ us Q I r ⟨_,_,rfl,h1,fun p hp=>h.ok _ _ (.upd hp) (nq hp (fx _))⟩
   | _=>exact stuck rfl
  | abs=>cases d<;>exact stuck rfl
  | min2=>induction d using zD<;>exact stuck rfl
  | max2=>induction d using zD<;>exact stuck rfl
  | maxl=>cases d<;>exact stuck rfl
  | sorted=>cases d<;>exact stuck rfl
  | tuple=>
   induction d using zD with
   | str z=>
    cases hd.strR
    obtain⟨g,h⟩:=PO'.grd h
    exact gv hc pins s σ H _ us Q I r ⟨z,rfl,cS g,fun p hp=>h.ok _ _ (.upd hp) (vP hp (nv z))⟩
   | lst o ds=>
    obtain⟨a,ys,rfl,q,m⟩:=hd.lstR
    exact hW pins s σ H _ us Q I r ⟨a,ys,rfl,.inl ⟨q,fun p hp=>h.ok _ _ (.upd hp) (vP hp m)⟩⟩
   | _=>exact stuck rfl
  | str=>exact stuck rfl
  | set=>exact stuck rfl
noncomputable def eW:Kd->Str
 | .str=>"str" | .int=>"int" | .bool=>"bool" | .list=>"list" | .tuple=>"tuple"
noncomputable def o4:Kd->Value
 | .str=>.type "str" | .int=>.type "int" | .bool=>.type "bool" | .list=>.type "list" | .tuple=>.type "tuple"
theorem sh (k:Kd):bootBuiltins (eW k)=some (o4 k):=by cases k<;>decide +kernel
noncomputable def dTy:D->Value
 | .non=>.type "NoneType" | .bl _=>.type "bool" | .int _=>.type "int" | .str _=>.type "str" | .tup _=>.type "tuple" | .lst _ _=>.type "list" | .exc _=>.none|.dct _ _ _=>.none
theorem si (K:PySem.W.Frag)(k:Kd)(d:D)(hn:ia d=true):PySem.W.kitOne K (dTy d) (o4 k)=some (dW k d):=by
 cases k<;>induction d using zD<;>first|rfl|cases hn
theorem sj {pins:List (Addr×Obj)}{s:Shared}{σ:St}{H:Hp}{S:Addr->Prop}{x:V}{v:Value}{d:D}{Q:VK}(I:Inv X pins σ H s)(rx:RelV x v)(hx:HRep X.K S H x d)(k:Kd)(hn:ia d=true)(h:Q (.bl (dW k d)) H) :
  wpAny (model X.prog X.w) X.A (call (.builtin "isinstance") [v,o4 k]) (EP X pins σ Q) X.xe s:=by
 have e:=si X.K k d hn
 have fin:∀ tk,EP X pins σ Q (.bool (dW k d)) {s with toks:=tk}:=fun tk=>⟨.bl _,H,I.tok _,rfl,h⟩
 induction d using zD with
 | non=>cases hx.nonR;cases rx;exact PySem.W.kia_one PySem.W.kitx_none I.kIn True.intro e (fun z=>nomatch z) fin
 | bl b=>cases hx.blR;cases rx;exact PySem.W.kia_one PySem.W.kitx_bool I.kIn True.intro e (fun z=>nomatch z) fin
 | int b=>cases hx.intR;obtain⟨t,rfl⟩:=rx;exact PySem.W.kia_one PySem.W.kitx_int I.kIn True.intro e (fun z=>nomatch z) fin
 | str b=>cases hx.strR;obtain⟨t,rfl⟩:=rx;exact PySem.W.kia_one PySem.W.kitx_str I.kIn True.intro e (fun z=>nomatch z) fin
 | tup ds=>
  obtain⟨a,ys,rfl,q,m⟩:=hx.tupR
  cases rx
  obtain⟨its,_,⟨o,h1,h2,_⟩,_⟩:=I.tuple q
  exact PySem.W.kia_one PySem.W.kitx_tuple I.kIn ⟨o,h1,h2⟩ e (fun z=>nomatch z) fin
 | lst o ds=>
  obtain⟨a,ys,rfl,q,m⟩:=hx.lstR
  cases rx
  obtain⟨its,_,pl,_⟩:=I.list q
  obtain⟨o,h1,h2,_⟩:=pl.isList
  exact PySem.W.kia_one PySem.W.kitx_list I.kIn ⟨o,h1,h2⟩ e (fun z=>nomatch z) fin
 | exc c=>cases hn
 | dct o ks ds=>cases hn
def CV (X:Cx)(x:Str)(v:V):Prop:=(∃ C,v=.ref C/\X.mg x=some (.ref C))∨(∃ T,v=.ty T/\X.mg x=none/\bootBuiltins x=some (.type T))
noncomputable def vv:V->Value
 | .ref C=>.ref C
 | .ty T=>.type T
 | _=>.none
theorem CV.rel {x:Str}{v:V}{u:Value}(h:CV X x v)(r:RelV v u):u=vv v:=by
 rcases h with ⟨C,rfl,_⟩|⟨T,rfl,_⟩<;>exact r
theorem sk {pins:List (Addr×Obj)}{s:Shared}{σ:St}{H:Hp}{a C:Addr}{c:EX}{cv:Value}{b:Bool}{Q:VK}(I:Inv X pins σ H s)(h:SqE X.K H a (.inr c))(hC:PySem.W.nsIn X.K mainGlobals c.c=some (some (.ref C)))(hA:ExcAt X.K C)(hk:PySem.W.kitOne X.K (.ref C) cv=some b)(q:Q (.bl b) H) :
  wpAny (model X.prog X.w) X.A (call (.builtin "isinstance") [.ref a,cv]) (EP X pins σ Q) X.xe s:=by
 obtain⟨C',o,vs,h1,_,h3,h4,_⟩:=I.exc_at h
 rw[hC] at h1
 cases h1
 exact PySem.W.kia_one (jQ hA) I.kIn ⟨o,h3,h4⟩ hk (fun z=>nomatch z) fun tk=>⟨.bl _,H,I.tok _,rfl,q⟩
theorem so {pins:List (Addr×Obj)}{s:Shared}{σ:St}{H:Hp}{a p C:Addr}{c:EX}{v1 v2:V}{b:Bool}{Q:VK}{x1 x2:Str}(I:Inv X pins σ H s)(h:SqE X.K H a (.inr c))(hC:PySem.W.nsIn X.K mainGlobals c.c=some (some (.ref C)))(hA:ExcAt X.K C)(c1:CV X x1 v1)(c2:CV X x2 v2)(hp:SqT X.K H p [v1,v2])(hk:PySem.W.kitAny X.K (.ref C) [vv v1,vv v2]=some b)(q:Q (.bl b) H) :
  wpAny (model X.prog X.w) X.A (call (.builtin "isinstance") [.ref a,.ref p]) (EP X pins σ Q) X.xe s:=by
 obtain⟨C',o,vs,h1,_,h3,h4,_⟩:=I.exc_at h
 rw[hC] at h1
 cases h1
 obtain⟨its,rv,⟨ot,e1,e2,e3⟩,_⟩:=I.tuple hp
 obtain⟨u1,u2,rfl,r1,r2⟩:=vals2 rv
 rw[<- c1.rel r1,<- c2.rel r2] at hk
 obtain⟨k1,k2,k3,k4⟩:=ot
 dsimp only at e2 e3
 subst e2
 obtain⟨n,e3⟩:=e3
 subst e3
 exact PySem.W.kia_tup (jQ hA) I.kIn ⟨o,h3,h4⟩ e1 hk (fun z=>nomatch z) fun tk=>⟨.bl _,H,I.tok _,rfl,q⟩
noncomputable def Its (x:Str):It:=⟨fun i _=>i < x.cps.size,fun i H v H'=>H'=H/\∃ c,x.cps[i]? = some c/\v=.str ⟨#[c]⟩,fun i _=>x.cps.size<=i⟩
theorem o5 {P:Program}{w:World}{K:PySem.W.Frag}{tg:Expr}{it:Addr}{x:Str}{t:Tok}{ty:String}(hty:ty = "str_ascii_iterator"∨ty = "str_iterator")
  (W:∀ A':Around,A'.handled=none->Walks P w A' it [it] [it] x.cps.size (SignAt x) (fun i h=>h.IsStrIter it ty x t i)):Turn P w K tg (Its x) [it] it (fun i h=>i<=x.cps.size/\h.IsStrIter it ty x t i) where
 mem:=by simp
 obj:=fun i h st b hb=>by
  have e:b=it:=by simpa using hb
  subst e
  obtain⟨_,o,e,c,d⟩:=st
  exact⟨o,e,fun v z=>by rw[d] at z;cases z⟩
 keep:=fun i h h' st k=>by
  obtain⟨l,o,e,c,d⟩:=st
  exact⟨l,o,k it (by simp) o e,c,d⟩
 item:=by
  intro X hP hw hK hc i pins s σ H E I hf st hg
  subst hP hw hK
  obtain⟨f0,f1,f2,f3,f4,f5⟩:=hf it (by simp)
  refine(W X.A (I.ok.hd hc)).item i s _ _ hg st.2 fun v h' tk hv st' kk=>?_
  obtain⟨c,u,hcx,rfl⟩:=hv
  have I1:Inv X pins σ H {s with heap:=h',toks:=tk}:=I.turned (fun b o hb e=>kk b o (by simpa using hb) e) f0 f1 f3 f4 f5
  obtain⟨o,e,cc,d⟩:=id st'
  refine⟨_,rfl,lF (s:={s with heap:=h',toks:=tk}) (n:=ty) e cc d (by rcases hty with rfl|rfl<;>decide) ⟨.str ⟨#[c]⟩,H,I1,⟨u,rfl⟩,⟨rfl,c,hcx,rfl⟩,⟨hg,st'⟩,fun b hb=>(hf b hb).1⟩⟩
 done:=by
  intro X hP hw hK hc i pins s σ H E I hf st hg
  subst hP hw hK
  obtain⟨f0,f1,f2,f3,f4,f5⟩:=hf it (by simp)
  have e:i=x.cps.size:=Nat.le_antisymm st.1 hg
  refine(W X.A (I.ok.hd hc)).done s _ _ (by rw[<- e];exact st.2) fun h' tk kk=>⟨rfl,I.turned (fun b o hb e=>kk b o (by simpa using hb) e) f0 f1 f3 f4 f5⟩
 self:=fun A i s Q E st h=>by
  obtain⟨_,st⟩:=st
  rcases hty with rfl|rfl
  ·exact wpAny_pyIter_striter_ascii st h
  ·exact wpAny_pyIter_striter_wide st h
theorem vT {tg:Expr}{pins:List (Addr×Obj)}{s:Shared}{σ:St}{H:Hp}{x:Str}{t:Tok}{R:It->Hp->Prop}(I:Inv X pins σ H s)(q:R (Its x) H):wpAny (model X.prog X.w) X.A (pyIter (.str x t)) (PIE X pins σ tg R) X.xe s:=by
 have fin:∀ ty,(ty = "str_ascii_iterator"∨ty = "str_iterator")->(∀ A':Around,A'.handled=none->Walks X.prog X.w A' s.heap.objs.size [s.heap.objs.size] [s.heap.objs.size] x.cps.size (SignAt x) (fun i h=>h.IsStrIter s.heap.objs.size ty x t i))->
   PIE X pins σ tg R (.ref s.heap.objs.size) {s with heap:=s.heap.push {cls:=.type ty,data:=.fields #[.str x t,.int 0 0]}}:=fun ty hty W=>by
  refine⟨s.heap.objs.size,[s.heap.objs.size],_,_,H,rfl,I.kept (t':=s.toks) fun b o e=>Heap.get?_push_of_some _ e,o5 hty W,⟨Nat.zero_le _,_,Heap.get?_push_size _ rfl,rfl,rfl⟩,fun b hb=>?_,q⟩
  have e:b=s.heap.objs.size:=by simpa using hb
  subst e
  exact I.fpOk (Nat.le_refl _) (I.hok.fresh (Nat.le_refl _))
 cases ha:x.cps.all (· < 128)
 ·exact wpAny_pyIter_wide ha (fin _ (.inr rfl) fun A' hA=>Walks.strWide hA _ x t)
 ·exact wpAny_pyIter_ascii ha (fin _ (.inl rfl) fun A' hA=>Walks.strAscii hA _ x t)
end
noncomputable def i8:List Value->Bool
 | .ref _::r=>i8 r
 | l=>l == [.type "ValueError",.type "Exception",.type "BaseException",.type "object"]
theorem iD (self:Value):∀ {l:List Value},i8 l=true->refuseLoop self "__setattr__" l=pure ()
 | .ref c::r,e=>by rw[refuseLoop_ref];exact iD self (l:=r) e
 | [],e=>by cases e
 | .type n::r,e=>by
  have e:((Value.type n::r) == [.type "ValueError",.type "Exception",.type "BaseException",.type "object"])=true:=e
  rw[beq_iff_eq.mp e]
  exact PySem.F.store_ValueError.passes self
 | .none::r,e=>by cases (beq_iff_eq.mp (show ((Value.none::r) == [.type "ValueError",.type "Exception",.type "BaseException",.type "object"])=true from e))
 | .builtin n::r,e=>by cases (beq_iff_eq.mp (show ((Value.builtin n::r) == [.type "ValueError",.type "Exception",.type "BaseException",.type "object"])=true from e))
 | .str a b::r,e=>by cases (beq_iff_eq.mp (show ((Value.str a b::r) == [.type "ValueError",.type "Exception",.type "BaseException",.type "object"])=true from e))
structure ExcI (K:Frag)(C fI:Addr)(x:Str):Prop where
 a:ExcAt K C
 sa:findIn K (.ref C) "__setattr__" = some (some (.builtin "object.__setattr__"))
 na:findIn K (.ref C) x=some none
 hd:hasDictIn K C=true
 ov:((clsIn K C).any fun cd=>i8 cd.mro)=true
 init:findIn K (.ref C) "__init__" = some (some (.ref fI))
 fn:typeIn K (.ref fI)=some (.type "function")
section
variable {prog:Program}{w:World}{A:Around}{E:Value->Shared->Prop}{K:Frag}{x C fI:Addr}{s:Shared}{ox:Obj}{name:Str}{v:Value}
theorem sr {Q:Unit->Shared->Prop}(b:ExcI K C fI name)(X:K.In s.heap)(hx:s.heap.get? x=some ox)(hc:ox.cls=.ref C)(hn:notCls ox=true)(hd:ox.dict=none)
  (h:∀ h' dx tk',s.heap.get? dx=none->h'.get? x=some {ox with dict:=some dx}->h'.Ns1 dx (fun y=>if y=name then some v else none)->(∀ b o,b≠x->s.heap.get? b=some o->h'.get? b=some o)->Q () {s with heap:=h',toks:=tk'}) :
  wpAny (model prog w) A (setAttr (.ref x) name v) Q E s:=by
 have I:InstAt s.heap x ox C none:=⟨hx,hc,hn,by rw[hd];trivial⟩
 have SF:=PySem.F.store_ValueError
 obtain⟨cd,hcd,ho⟩:=any_some b.ov
 obtain⟨cd',hcd',hh⟩:=any_some b.hd
 obtain rfl:cd=cd':=Option.some.inj (hcd.symm.trans hcd')
 have sub:Looks (model prog w) s.heap (isInstance (.ref x) (.type "object")) true:=I.type.andThen (looks_mroIn X b.a.ob)
 have hm:Looks (model prog w) s.heap (mroOf (.ref C)) cd.mro:=(looks_clsIn X hcd).andThen .now
 refine set_plain X I b.sa ?_
 refine codeAny_call_builtin SF.slot.plain SF.entry (@check_slot (model prog w) _ _ {s with toks:=s.toks+1} "object.__setattr__" "object" "__setattr__" (.ref x) [.str name s.toks,v] [] _ SF.kind SF.split sub (SF.args (.ref x) (.str name s.toks) v) ?_)
 rw[osa_eq,refuse_eq]
 refine wpAny_bind (wpAny_bind (Looks.here (s:={s with toks:=s.toks+1}) I.type (wpAny_bind (Looks.here (s:={s with toks:=s.toks+1}) hm ?_))))
 rw[iD _ ho]
 refine wpAny_pure (wpAny_bind (Looks.here (s:={s with toks:=s.toks+1}) I.type (wpAny_bind (Looks.here (s:={s with toks:=s.toks+1}) (looks_findIn X b.na) (wpAny_bind (Looks.here (s:={s with toks:=s.toks+1}) (r:=none) .now ?_))))))
 obtain⟨oc,odi,oda,osl⟩:=ox
 dsimp only at hc hd
 subst hc hd
 obtain⟨hp,g,d,t,os⟩:=s
 have hx:hp.get? x=some ⟨.ref C,none,oda,osl⟩:=hx
 refine wpAny_bind (wpAny_pure (wpAny_bind (wpAny_bind (wpAny_loadPart hx (wpAny_bind (PySem.W.Looks.here (s:=⟨hp,g,d,t+1,os⟩) (PySem.W.looks_clsIn X hcd) ?_))))))
 rw[hh]
 have hnc:∀ c,oda≠.cls c:=fun c z=>by subst z;cases hn
 have hxs:x≠hp.objs.size:=Nat.ne_of_lt (Heap.lt_size hx)
 have hx₁:(hp.push {cls:=.type "dict",data:=.dict #[]}).get? x=some ⟨.ref C,none,oda,osl⟩:=Heap.get?_push_of_some _ hx
 dsimp only
 rw[if_neg (by simp),if_neg (by simp[typeHasDict])]
 split
 ·rename_i c hcd
  exact absurd rfl (hnc c)
 ·refine wpAny_bind (wpAny_alloc' ?_)
  refine wpAny_bind (wpAny_update' hx₁ ?_)
  refine wpAny_pure ?_
  have hgd:((hp.push {cls:=.type "dict",data:=.dict #[]}).update x fun o=>{cls:=o.cls,dict:=some hp.objs.size,data:=o.data,slots:=o.slots}).get? hp.objs.size
    = some {cls:=.type "dict",data:=.dict #[]}:=
   (Heap.get?_update_ne _ _ _ _ hxs.symm).trans (Heap.get?_push_at rfl rfl)
  have hnd:((hp.push {cls:=.type "dict",data:=.dict #[]}).update x fun o=>{cls:=o.cls,dict:=some hp.objs.size,data:=o.data,slots:=o.slots}).Ns hp.objs.size (fun _=>none):=
   ⟨_,#[],_,hgd,rfl,fun e he=>absurd he (by simp),fun _=>rfl⟩
  refine wpAny_bind (wpAny_pure (wpAny_bind (wpAny_nsSet1 (Heap.Ns1.of_empty hnd) fun h' hn' hs=>?_)))
  obtain⟨oD,esD,epD,hoD,hdD,hcD⟩:=hn'.count (Within.cons name v Within.nil)
  refine wpAny_bind (wpAny_lookBehind hoD (by rw[hdD];exact pastItsLine_dict (Nat.le_trans hcD (by rw[List.length_cons,List.length_nil,sizeLine_eq];omega))) ?_)
  refine wpAny_pure ?_
  refine h h' hp.objs.size _ (Heap.get?_none_of_le (Nat.le_refl _)) ?_ hn' fun b ob hbx hb=>?_
  ·refine(hs.2 x hxs).trans (Heap.get?_update_self _ hx₁ ?_)
   have hfr:=(Heap.get?_some_iff.mp hx).2
   cases oda<;>first|rfl|exact hfr
  ·exact(hs.2 b (Nat.ne_of_lt (Heap.lt_size hb))).trans ((Heap.get?_update_ne _ _ _ _ hbx).trans (Heap.get?_push_of_some _ hb))
theorem ny {tk:Tok}{dx:Addr}{mA:Str->Option Value}{Q:Fin->Shared->Prop}(b:ExcI K C fI name)(X:K.In s.heap)(hx:s.heap.get? x=some ox)(hc:ox.cls=.ref C)(hn:notCls ox=true)(hd:ox.dict=some dx)(hns:s.heap.Ns1 dx mA)(hv:mA name=some v)
  (hq:Q (.done (.ret v)) s):wpAny (model prog w) A (Builtin.«object.__getattribute__» ⟨[.ref x,.str name tk],[]⟩) Q E s:=by
 obtain⟨od,ho,hl⟩:=mT hns
 have I:InstAt s.heap x ox C (some od):=⟨hx,hc,hn,by rw[hd];exact ho⟩
 have L0:=I.type (M:=model prog w)
 have L1:=looks_find (M:=model prog w) X I (findObj_own b.hd b.na rfl (by rw[hl,hv]))
 obtain⟨hh',g,d,t,os⟩:=s
 refine wpAny_bind (wpAny_pure (wpAny_bind (wpAny_pure (wpAny_bind (L0.at (wpAny_bind (L1.at ?_)))))))
 exact wpAny_pure hq
theorem su {expr:Bool}{dx:Addr}{mA:Str->Option Value}{Q:Value->Shared->Prop}(b:ExcI K C fI name)(X:K.In s.heap)(hx:s.heap.get? x=some ox)(hc:ox.cls=.ref C)(hn:notCls ox=true)(hd:ox.dict=some dx)(hns:s.heap.Ns1 dx mA)(hv:mA name=some v)
  (hh:handedOut v=pure v) (hq:Q v {s with toks:=s.toks+1}):wpAny (model prog w) A (getAttr (.ref x) name expr) Q E s:=by
 obtain⟨hp,g,d,t,os⟩:=s
 have IXx:IX hp x C:=⟨ox,hx,hc⟩
 have y0:=IXx.type (M:=model prog w)
 have y1:=looks_findIn (M:=model prog w) X b.a.ga
 have y2:=looks_findIn (M:=model prog w) X b.a.no
 have f3:=F.attr_ValueError.ga.bind (.ref x)
 have y4:(onTheHeap (Value.ref C)&&Value.builtin "BaseException.__getattribute__" == Value.builtin "object.__getattribute__")=false:=by rw[show (Value.builtin "BaseException.__getattribute__" == Value.builtin "object.__getattribute__")=false by decide +kernel];rfl
 unfold getAttr
 repeat (any_goals (first|assumption|with_reducible refine Looks.at (by assumption) ?_|wp_step))
 rw[show (expr&&onTheHeap (Value.builtin "BaseException.__getattribute__"))=false by cases expr<;>rfl,if_neg Bool.false_ne_true]
 repeat (any_goals (first|assumption|with_reducible refine Looks.at (by assumption) ?_|wp_step))
 refine codeAny_call_builtin F.attr_ValueError.ga.plain F.entry_bexc_ga (iC b.a X IXx (ny (s:=⟨hp,g,d,t+1,os⟩) b X hx hc hn hd hns hv ?_))
 show wpAny _ _ (handedOut v) _ _ _
 rw[hh]
 exact wpAny_pure hq
end
section
variable {prog:Program}{w:World}{A:Around}{E:Value->Shared->Prop}{h:Heap}{g:Array GenState}{d:Drawn}{t:Nat}{os:OsState}{K:Frag}{fI:Addr}{s:Shared}
variable {nm q:Str}{C N:Addr}{bs bm bmB:List Value}{hdct:Bool}{sn:List Str}{sub:List Value}{ab:Bool}{col:Option Bool}{dd:Option Addr}{k0 k1 k2 k3 k5:Option Value}{B newId initId:String}
theorem o6 (F:ExcBaseFacts B newId initId bmB)(T:OwnTail h bmB bm){rest:List Value}{Q:Fin->Shared->Prop}(X:K.In h)(hi:findIn K (.ref C) "__init__" = some (some (.ref fI))) (hf:typeIn K (.ref fI)=some (.type "function"))
  (hC:h.get? C=some (excClassObj nm q C N bs bm hdct sn sub ab col dd k0 k1 k2 k3 k5 newId))
  (hq:∀ h' e,Heap.MadeExcOf h h' e (.ref C) rest->wpAny (model prog w) A (call (.ref fI) (.ref e::rest)) (fun r s'=>r=.none/\Q (.done (.ret (.ref e))) s') E ⟨h',g,d,t,os⟩) (hrest:rest.length<=sizeLine) :
  wpAny (model prog w) A (Builtin.«type.__call__» ⟨.ref C::rest,[]⟩) Q E ⟨h,g,d,t,os⟩:=by
 repeat (first|with_reducible refine wpAny_loadPart_at hC ?_|with_reducible refine wpAny_madeBy_exc hC ?_|wp_step)
 refine codeAny_call_builtin_code (Code.quiet_builtin _ F.quiet) (wpAny_check_new_subT F T hC ?_)
 refine codeAny_exc_new_subT F T hC ?_ hrest
 show wpAny _ _ _ _ _ _
 have kp:∀ b o,h.get? b=some o->((h.push {cls:=.type "tuple",data:=.seq rest.toArray}).push {cls:=.ref C,data:=.fields #[.ref h.objs.size,.none,.none,.none,.bool false,.none]}).get? b=some o:=fun b o e=>Heap.get?_push_of_some _ (Heap.get?_push_of_some _ e)
 have hC₁:=kp _ _ hC
 have X₁:=X.keeps kp
 have hget:((h.push {cls:=.type "tuple",data:=.seq rest.toArray}).push
   {cls:=.ref C,data:=.fields #[.ref h.objs.size,.none,.none,.none,.bool false,.none]}).get? (h.objs.size+1)=some
   {cls:=.ref C,data:=.fields #[.ref h.objs.size,.none,.none,.none,.bool false,.none]}:=by heap_get
 have hcC:(Value.ref C::bm).contains (.ref C)=true:=by simp
 unfold isInstance
 repeat (first|with_reducible refine wpAny_loadPart_at hget ?_|(with_reducible refine wpAny_isSubtype_exc hC₁ ?_;rw[hcC])|wp_step)
 show wpAny _ _ (typeLookup (.ref C) _) _ _ _
 refine(looks_findIn X₁ hi).at (wpAny_holding (wpAny_bind ((bind_fn X₁ _ hf).at ?_)))
 refine wpAny_bind (wpAny_mono (hq _ (h.objs.size+1) ⟨kp,Heap.get?_none_of_le (Nat.le_succ _),h.objs.size,hget,Heap.get?_none_of_le (Nat.le_refl _),?_⟩) (fun r s' hr=>?_) fun _ _ x=>x)
 ·exact Heap.get?_push_of_some _ (Heap.get?_push_at rfl rfl)
 ·obtain⟨rfl,hQ⟩:=hr
  wp_walk
  exact hQ
theorem o7 (F:ExcBaseFacts B newId initId bmB)(T:OwnTail h bmB bm){rest:List Value}{Q:Value->Shared->Prop}(X:K.In h)(hi:findIn K (.ref C) "__init__" = some (some (.ref fI))) (hf:typeIn K (.ref fI)=some (.type "function"))
  (hC:h.get? C=some (excClassObj nm q C N bs bm hdct sn sub ab col dd k0 k1 k2 k3 k5 newId))
  (hq:∀ h' e,Heap.MadeExcOf h h' e (.ref C) rest->wpAny (model prog w) (A.under (.builtin "type.__call__" ⟨.ref C::rest,[]⟩)) (call (.ref fI) (.ref e::rest)) (fun r s'=>r=.none/\Q (.ref e) s') E ⟨h',g,d,t,os⟩) (hrest:rest.length<=sizeLine) :
  wpAny (model prog w) A (call (.ref C) rest) Q E ⟨h,g,d,t,os⟩:=by
 have f1:=tc_lookup
 have f2:=tc_bind (.ref C)
 have hT:(⟨h,g,d,t,os⟩:Shared).TypeIs (.ref C) "type":=⟨_,hC,rfl⟩
 refine wpAny_call (codeAny_of_tree ?_)
 show wpAny _ _ (callAny (.ref C) _) _ _ _
 repeat (any_goals (first|assumption|with_reducible refine wpAny_loadPart_at hC ?_|wp_step))
 refine⟨rfl,?_⟩
 refine codeAny_call_builtin_at (Code.quiet_builtin _ (by decide +kernel)) entry_typeCall (wpAny_check_type_call_sub hC (o6 F T X hi hf hC (fun h' e hm=>?_) hrest))
 exact hq h' e hm
theorem nA {env:Env}{x:Sem Value}{Q:Flow->Shared->Prop}(hbase:bm.contains (.type "BaseException")=true) (hh:A.handled=none)
  (h:wpAny (model prog w) A x (fun v s₁=>∃ e oe t,v=.ref e/\s₁.heap.get? C=some (excClassObj nm q C N bs bm hdct sn sub ab col dd k0 k1 k2 k3 k5 newId)/\
   s₁.heap.get? e=some oe/\oe.cls=.ref C/\oe.data=.fields #[.ref t,.none,.none,.none,.bool false,.none]/\E (.ref e) s₁) E s) :
  wpAny (model prog w) A (raiseStmt env (some x) none) Q E s:=by
 have hcB:(Value.ref C::bm).contains (.type "BaseException")=true:=by rw[List.contains_cons,hbase,Bool.or_true]
 unfold raiseStmt
 refine wpAny_bind (wpAny_mono h (fun v s₁ h₁=>?_) fun _ _ x=>x)
 obtain⟨e,oe,t,rfl,hC,he,hc,hd,hE⟩:=h₁
 obtain⟨hp,g,d,tk,os⟩:=s₁
 obtain⟨oc,odi,oda,osl⟩:=oe
 dsimp only at hc hd
 subst hc hd
 repeat (first|with_reducible refine wpAny_loadPart_at he ?_|with_reducible refine wpAny_loadPart_at hC ?_|(with_reducible refine wpAny_isSubtype_exc hC ?_;rw[hcB])|wp_step)
 exact wpAny_raiseNew_none hh hE
theorem nB {env:Env}{x:Str}{np cpos pos:Pos}{args:List Expr}{Q:Flow->Shared->Prop}(hbase:bm.contains (.type "BaseException")=true) (hh:A.handled=none) (hplain:(backTo cpos (starEach args env)).any (·.1)=false)
  (h:wpAny (model prog w) A (eval (.Name x np) env) (fun f s₁=>f=.ref C/\wpAny (model prog w) A (evalArgs (.ref C) true (backTo cpos (starEach args env)) [])
   (fun a s₂=>a.kw=[]/\s₂.heap.get? C=some (excClassObj nm q C N bs bm hdct sn sub ab col dd k0 k1 k2 k3 k5 newId)/\wpAny (model prog w) A (call (.ref C) a.pos) (fun v s₃=>∃ e oe t,v=.ref e/\s₃.heap.get? C=some (excClassObj nm q C N bs bm hdct sn sub ab col dd k0 k1 k2 k3 k5 newId)/\
    s₃.heap.get? e=some oe/\oe.cls=.ref C/\oe.data=.fields #[.ref t,.none,.none,.none,.bool false,.none]/\E (.ref e) s₃) E s₂) E s₁) E s) :
  wpAny (model prog w) A (exec (.Raise (some (.Call (.Name x np) args [] cpos)) none pos) env) Q E s:=by
 rw[arm_exec_Raise]
 refine wpAny_bind (wpAny_standAt (nA (C:=C) (nm:=nm) (q:=q) (N:=N) (bs:=bs) (bm:=bm) (hdct:=hdct) (sn:=sn) (sub:=sub) (ab:=ab) (col:=col) (dd:=dd) (k0:=k0) (k1:=k1) (k2:=k2) (k3:=k3) (k5:=k5) (newId:=newId) hbase hh ?_))
 refine wpAny_bind (wpAny_mono (wpAny_Call_ofName (wpAny_mono h (fun f s₁ h₁=>?_) fun _ _ x=>x)) (fun v s₃ h₃=>wpAny_bind (wpAny_standAt (wpAny_pure h₃))) fun _ _ x=>x)
 obtain⟨rfl,h₁⟩:=h₁
 unfold callWith
 refine wpAny_bind (wpAny_holding (wpAny_mono h₁ (fun a s₂ h₂=>wpAny_bind (wpAny_standAt ?_)) fun _ _ x=>x))
 obtain⟨apos,akw⟩:=a
 obtain⟨hkw,hC,h₂⟩:=h₂
 obtain rfl:akw=[]:=hkw
 obtain⟨hp,g,d,tk,os⟩:=s₂
 simp only[hplain]
 refine wpAny_bind (wpAny_keeperOf_exc hC ?_)
 refine wpAny_bind (wpAny_mono h₂ (fun v s₃ h₃=>wpAny_bind (wpAny_holding (wpAny_point (wpAny_pure h₃)))) fun _ _ x=>x)
end
end L2
theorem L2.dict_mapFields (f:Array PySem.Value->Array PySem.Value)(o:PySem.Obj):(PySem.Obj.mapFields f o).dict=o.dict:=by
 obtain⟨a,b,c,d⟩:=o
 cases c<;>rfl
namespace PySem
open Sem (wp)
namespace Heap
def TracedD (h base:Heap)(e:Addr)(cls:Value)(a0:Option Addr):Prop:=
 ∃ oe vs T oT ts,h.get? e=some oe/\(oe.cls=cls/\oe.dict=a0)/\oe.data=.fields vs/\vs[1]? = some (.ref T)/\base.get? T=none/\T≠e/\h.get? T=some oT/\oT.data=.fields ts/\ts[3]? = some .none
def TracedAtD (h base:Heap)(e:Addr)(cls:Value)(a0:Option Addr)(fl:Value):Prop:=
 ∃ oe vs T oT ts,h.get? e=some oe/\(oe.cls=cls/\oe.dict=a0)/\oe.data=.fields vs/\vs[1]? = some (.ref T)/\base.get? T=none/\T≠e/\h.get? T=some oT/\oT.data=.fields ts/\ts[3]? = some fl
theorem TracedD.at {h base:Heap}{e:Addr}{cls:Value}{a0:Option Addr}(x:h.TracedD base e cls a0):h.TracedAtD base e cls a0 .none:=x
def NotedD (base:Heap)(l:List Env)(e:Addr)(cls:Value)(a0:Option Addr)(fl:Value)(h h':Heap):Prop:=
 base.StaysIn h'/\h'.FunFrames base l/\h'.TracedAtD base e cls a0 fl/\∀ b o,h.get? b=some o->(∀ vs,o.data≠.fields vs)->∃ sl,h'.get? b=some {o with slots:=sl}
end Heap
section
variable {M:Model}{A:Around}{E:Value->Shared->Prop}{s:Shared}
def Heap.LeftD (base:Heap)(l:List Env)(e:Addr)(cls:Value)(a0:Option Addr)(h h':Heap):Prop:=
 base.StaysIn h'/\h'.FunFrames base l/\h'.TracedD base e cls a0/\
  ∀ b o,h.get? b=some o->(∀ vs,o.data≠.fields vs)->∃ sl,h'.get? b=some {o with slots:=sl}
theorem d9 {base:Heap}{env:Env}{outer:List Env}{L e:Addr}{oe:Obj}{vs:Array Value}{head:Value}{a0:Option Addr}{hadNext:Bool}{Q:Unit->Shared->Prop}
  (hfr:A.frames=some (env::outer)) (hl:s.heap.FunFrames base (env::outer)) (hf:env.frame=some L)
  (he:s.heap.get? e=some oe) (hkb:base.StaysIn s.heap) (hen:base.get? e=none) (hd:oe.data=.fields vs) (hsz:1 < vs.size) (h0:oe.dict=a0)
  (h:∀ h',Heap.LeftD base (env::outer) e oe.cls a0 s.heap h'->Q () {s with heap:=h'}) :
  wpAny M A (do let a <- frameOf env;let pl <- entryPlaceOf L hadNext;let b <- EntryCells.newEntry head a .none (rawInt L) .none pl;setField (.ref e) 1 b) (fun _ s'=>wpAny M A (setFlight (.ref e) none) Q E s') E s:=by
 have hene:e∉(env::outer).filterMap (·.frame):=fun hm=>by
  obtain⟨_,o,ho,hnf⟩:=hl.mem hm
  rw[he] at ho;injection ho with ho;subst ho;exact hnf vs hd
 refine wpAny_bind (wpAny_frameOf_fun hfr hl hf fun h₁ hs₁=>?_)
 refine wpAny_bind (wpAny_entryPlaceOf fun pl hpl=>?_)
 unfold EntryCells.newEntry newFields
 refine wpAny_bind (wpAny_newObj_type ?_ (hpl.sizeOk5 _ _ _ _ _))
 have he₁:h₁.get? e=some oe:=(hs₁.2.1 e hene).trans he
 have kb₁:base.StaysIn h₁:=fun b o hbo=>(hs₁.2.1 b fun hm=>by rw[(hl.mem hm).1] at hbo;cases hbo).trans (hkb b o hbo)
 have he₂:=Heap.get?_push_of_some (h:=h₁) {cls:=.type "traceback",dict:=none,data:=.fields ([head,.ref L,.none,rawInt L,.none]++(if pl.isEmpty then List.replicate 6 Value.none else pl)).toArray} he₁
 refine wpAny_setField he₂ hd hsz ?_
 have hTe:h₁.objs.size≠e:=Nat.ne_of_gt (Heap.lt_size he₁)
 have hd₃:=Obj.data_mapFields hd (·.setIfInBounds 1 (Value.ref h₁.objs.size))
 have he₃:=Heap.get?_update_self (Obj.mapFields (·.setIfInBounds 1 (Value.ref h₁.objs.size))) he₂ (Obj.isFreed_of_fields hd₃)
 have hT₃:=(Heap.get?_update_other (h₁.push {cls:=.type "traceback",dict:=none,data:=.fields ([head,.ref L,.none,rawInt L,.none]++(if pl.isEmpty then List.replicate 6 Value.none else pl)).toArray})
  (Obj.mapFields (·.setIfInBounds 1 (Value.ref h₁.objs.size))) (Ne.symm hTe)).trans (Heap.get?_push_size h₁ rfl)
 unfold setFlight
 refine wpAny_bind (wpAny_field he₃ hd₃ (x:=.ref h₁.objs.size) (by simp[hsz]) ?_)
 rw[if_pos (show (Value.ref h₁.objs.size != Value.none)=true from by simp)]
 refine wpAny_setField hT₃ rfl (by simp only[List.size_toArray,List.length_append,List.length_cons,List.length_nil]<;>omega) (h _ ?_)
 have keep:∀ b o,b≠e->h₁.get? b=some o->
   (((h₁.push {cls:=.type "traceback",dict:=none,data:=.fields ([head,.ref L,.none,rawInt L,.none]++(if pl.isEmpty then List.replicate 6 Value.none else pl)).toArray}).update e (Obj.mapFields (·.setIfInBounds 1 (Value.ref h₁.objs.size)))).update h₁.objs.size
    (Obj.mapFields (·.setIfInBounds 3 ((none:Option Addr).elim Value.none fun f=>rawInt f)))).get? b=some o:=fun b o hbe hb=>by
  have hbT:h₁.objs.size≠b:=Nat.ne_of_gt (Heap.lt_size hb)
  rw[Heap.get?_update_other _ _ hbT,Heap.get?_update_other _ _ (Ne.symm hbe)]
  exact Heap.get?_push_of_some _ hb
 have noRecord:∀ b o,s.heap.get? b=some o->(∀ vs,o.data≠.fields vs)->b≠e:=fun b o hb hnf q=>by
  rw[q,he] at hb;injection hb with hb;subst hb;exact hnf vs hd
 refine⟨fun b o hbo=>keep b o (fun q=>by rw[q,hen] at hbo;cases hbo) (kb₁ b o hbo),hl.of_keeps fun b o hb hnf=>?_,?_,fun b o hb hnf=>?_⟩
 ·obtain⟨sl,hs⟩:=hs₁.2.2 b o hb
  exact⟨_,keep b _ (noRecord b o hb hnf) hs,rfl⟩
 ·refine⟨_,_,h₁.objs.size,_,_,?_,⟨Obj.cls_mapFields _ _,(L2.dict_mapFields _ _).trans h0⟩,hd₃,by simp[hsz],kb₁.fresh,hTe,Heap.get?_update_self _ hT₃ (Obj.isFreed_of_fields (Obj.data_mapFields rfl _)),Obj.data_mapFields rfl _,by first|(simp;done)|(rcases hpl with rfl|⟨_,_,_,_,_,_,_,rfl⟩<;>simp)⟩
  rw[Heap.get?_update_other _ _ hTe];exact he₃
 ·obtain⟨sl,hs⟩:=hs₁.2.2 b o hb
  exact⟨sl,keep b _ (noRecord b o hb hnf) hs⟩
theorem eh {base:Heap}{env:Env}{outer:List Env}{L e:Addr}{oe:Obj}{vs:Array Value}{a0:Option Addr}{Q:Unit->Shared->Prop}
  (hfr:A.frames=some (env::outer)) (hl:s.heap.FunFrames base (env::outer)) (hf:env.frame=some L)
  (he:s.heap.get? e=some oe) (hkb:base.StaysIn s.heap) (hen:base.get? e=none) (hd:oe.data=.fields vs) (h1:vs[1]? = some .none) (h0:oe.dict=a0)
  (h:∀ h',Heap.LeftD base (env::outer) e oe.cls a0 s.heap h'->Q () {s with heap:=h'}):wpAny M A (leaving env (.ref e)) Q E s:=by
 unfold leaving noteFrame
 simp only[hf]
 refine wpAny_bind (wpAny_bind (wpAny_field he hd h1 ?_))
 rw[if_neg (by decide)]
 exact d9 hfr hl hf he hkb hen hd (Array.getElem?_eq_some_iff.mp h1).1 h0 h
theorem eM {base:Heap}{env:Env}{outer:List Env}{L e:Addr}{cls:Value}{a0:Option Addr}{Q:Unit->Shared->Prop}
  (hfr:A.frames=some (env::outer)) (hl:s.heap.FunFrames base (env::outer)) (hf:env.frame=some L) (ht:s.heap.TracedD base e cls a0) (hkb:base.StaysIn s.heap) (hen:base.get? e=none)
  (h:∀ h',Heap.LeftD base (env::outer) e cls a0 s.heap h'->Q () {s with heap:=h'}):wpAny M A (leaving env (.ref e)) Q E s:=by
 obtain⟨oe,vs,T,oT,ts,he,⟨hcls,h0⟩,hd,h1,hnT,hTe,hT,hdT,h3⟩:=ht
 subst hcls
 unfold leaving noteFrame
 simp only[hf]
 refine wpAny_bind (wpAny_bind (wpAny_field he hd h1 ?_))
 rw[if_pos (show (Value.ref T != Value.none)=true from by simp)]
 refine wpAny_bind (wpAny_field hT hdT h3 ?_)
 rw[if_neg (show ¬ ((Value.none == rawInt L)=true) from by simp[rawInt])]
 refine wpAny_bind (wpAny_setField hT hdT (Array.getElem?_eq_some_iff.mp h3).1 ?_)
 have other:∀ b,b≠T->(s.heap.update T (Obj.mapFields (·.setIfInBounds 3 Value.none))).get? b=s.heap.get? b:=fun b hb=>Heap.get?_update_other _ _ (Ne.symm hb)
 have noRecord:∀ b o,s.heap.get? b=some o->(∀ vs,o.data≠.fields vs)->b≠T:=fun b o hb hnf q=>by
  rw[q,hT] at hb;injection hb with hb;subst hb;exact hnf ts hdT
 refine d9 hfr (hl.of_keeps fun b o hb hnf=>⟨o,(other b (noRecord b o hb hnf)).trans hb,rfl⟩) hf ((other e (Ne.symm hTe)).trans he)
  (fun b o hbo=>(other b fun q=>by rw[q,hnT] at hbo;cases hbo).trans (hkb b o hbo)) hen hd (Array.getElem?_eq_some_iff.mp h1).1 h0
  fun h' ⟨x1,x2,x3,x4⟩=>h h' ⟨x1,x2,x3,fun b o hb hnf=>x4 b o ((other b (noRecord b o hb hnf)).trans hb) hnf⟩
def Heap.FlyingD (base:Heap)(l:List Env)(e:Addr)(cls:Value)(a0:Option Addr)(h:Heap):Prop:=
 base.StaysIn h/\base.get? e=none/\h.FunFrames base l/\h.TracedD base e cls a0
theorem Heap.FlyingD.there {base h:Heap}{l:List Env}{e:Addr}{cls:Value}{a0:Option Addr}(x:Heap.FlyingD base l e cls a0 h):∃ ob,h.get? e=some ob/\ob.cls=cls:=by
 obtain⟨_,_,_,oe,_,_,_,_,he,hc,_⟩:=x
 exact⟨oe,he,hc.1⟩
theorem fQ {base:Heap}{env:Env}{outer:List Env}{L e:Addr}{cls:Value}{a0:Option Addr}{Q:Unit->Shared->Prop}
  (hfr:A.frames=some (env::outer)) (hf:env.frame=some L) (hfl:Heap.FlyingD base (env::outer) e cls a0 s.heap)
  (hQ:∀ h',Heap.FlyingD base outer e cls a0 h'->s.heap.UpToSlots h'->Q () {s with heap:=h'}):wpAny M A (leaving env (.ref e)) Q E s:=by
 obtain⟨f1,f2,f3,f4⟩:=hfl
 refine eM hfr f3 hf f4 f1 f2 fun h' hL=>?_
 obtain⟨k1,⟨_,_,k2⟩,k3,k4⟩:=hL
 exact hQ h' ⟨k1,f2,k2,k3⟩ k4
theorem i9 {base:Heap}{env:Env}{outer:List Env}{L e:Addr}{oe:Obj}{vs:Array Value}{head:Value}{a0:Option Addr}{hadNext:Bool}{Q:Unit->Shared->Prop}
  (hfr:A.frames=some (env::outer)) (hl:s.heap.FunFrames base (env::outer)) (hf:env.frame=some L)
  (he:s.heap.get? e=some oe) (hkb:base.StaysIn s.heap) (hen:base.get? e=none) (hd:oe.data=.fields vs) (hsz:1 < vs.size) (h0:oe.dict=a0)
  (h:∀ h',Heap.NotedD base (env::outer) e oe.cls a0 (rawInt L) s.heap h'->Q () {s with heap:=h'}) :
  wpAny M A (do let a <- frameOf env;let pl <- entryPlaceOf L hadNext;let b <- EntryCells.newEntry head a .none (rawInt L) .none pl;setField (.ref e) 1 b) Q E s:=by
 have hene:e∉(env::outer).filterMap (·.frame):=fun hm=>by
  obtain⟨_,o,ho,hnf⟩:=hl.mem hm
  rw[he] at ho;injection ho with ho;subst ho;exact hnf vs hd
 refine wpAny_bind (wpAny_frameOf_fun hfr hl hf fun h₁ hs₁=>?_)
 refine wpAny_bind (wpAny_entryPlaceOf fun pl hpl=>?_)
 unfold EntryCells.newEntry newFields
 refine wpAny_bind (wpAny_newObj_type ?_ (hpl.sizeOk5 _ _ _ _ _))
 have he₁:h₁.get? e=some oe:=(hs₁.2.1 e hene).trans he
 have kb₁:base.StaysIn h₁:=fun b o hbo=>(hs₁.2.1 b fun hm=>by rw[(hl.mem hm).1] at hbo;cases hbo).trans (hkb b o hbo)
 have he₂:=Heap.get?_push_of_some (h:=h₁) {cls:=.type "traceback",dict:=none,data:=.fields ([head,.ref L,.none,rawInt L,.none]++(if pl.isEmpty then List.replicate 6 Value.none else pl)).toArray} he₁
 refine wpAny_setField he₂ hd hsz (h _ ?_)
 have hTe:h₁.objs.size≠e:=Nat.ne_of_gt (Heap.lt_size he₁)
 have hd₃:=Obj.data_mapFields hd (·.setIfInBounds 1 (Value.ref h₁.objs.size))
 have he₃:=Heap.get?_update_self (Obj.mapFields (·.setIfInBounds 1 (Value.ref h₁.objs.size))) he₂ (Obj.isFreed_of_fields hd₃)
 have hT₃:=(Heap.get?_update_other (h₁.push {cls:=.type "traceback",dict:=none,data:=.fields ([head,.ref L,.none,rawInt L,.none]++(if pl.isEmpty then List.replicate 6 Value.none else pl)).toArray})
  (Obj.mapFields (·.setIfInBounds 1 (Value.ref h₁.objs.size))) (Ne.symm hTe)).trans (Heap.get?_push_size h₁ rfl)
 have keep:∀ b o,b≠e->h₁.get? b=some o->
   ((h₁.push {cls:=.type "traceback",dict:=none,data:=.fields ([head,.ref L,.none,rawInt L,.none]++(if pl.isEmpty then List.replicate 6 Value.none else pl)).toArray}).update e (Obj.mapFields (·.setIfInBounds 1 (Value.ref h₁.objs.size)))).get? b=some o:=
  fun b o hbe hb=>by
   rw[Heap.get?_update_other _ _ (Ne.symm hbe)]
   exact Heap.get?_push_of_some _ hb
 have noRecord:∀ b o,s.heap.get? b=some o->(∀ vs,o.data≠.fields vs)->b≠e:=fun b o hb hnf q=>by
  rw[q,he] at hb;injection hb with hb;subst hb;exact hnf vs hd
 refine⟨fun b o hbo=>keep b o (fun q=>by rw[q,hen] at hbo;cases hbo) (kb₁ b o hbo),hl.of_keeps fun b o hb hnf=>?_,?_,fun b o hb hnf=>?_⟩
 ·obtain⟨sl,hs⟩:=hs₁.2.2 b o hb
  exact⟨_,keep b _ (noRecord b o hb hnf) hs,rfl⟩
 ·exact⟨_,_,h₁.objs.size,_,_,he₃,⟨Obj.cls_mapFields _ _,(L2.dict_mapFields _ _).trans h0⟩,hd₃,by simp[hsz],kb₁.fresh,hTe,hT₃,rfl,by first|(simp;done)|(rcases hpl with rfl|⟨_,_,_,_,_,_,_,rfl⟩<;>simp)⟩
 ·obtain⟨sl,hs⟩:=hs₁.2.2 b o hb
  exact⟨sl,keep b _ (noRecord b o hb hnf) hs⟩
theorem eO {base:Heap}{env:Env}{outer:List Env}{L e:Addr}{cls:Value}{a0:Option Addr}{Q:Unit->Shared->Prop}
  (hfr:A.frames=some (env::outer)) (hl:s.heap.FunFrames base (env::outer)) (hf:env.frame=some L) (ht:s.heap.TracedD base e cls a0) (hkb:base.StaysIn s.heap) (hen:base.get? e=none)
  (h:∀ h',Heap.NotedD base (env::outer) e cls a0 (rawInt L) s.heap h'->Q () {s with heap:=h'}):wpAny M A (noteFrame (.ref e) env) Q E s:=by
 obtain⟨oe,vs,T,oT,ts,he,⟨hcls,h0⟩,hd,h1,hnT,hTe,hT,hdT,h3⟩:=ht
 subst hcls
 unfold noteFrame
 simp only[hf]
 refine wpAny_bind (wpAny_field he hd h1 ?_)
 rw[if_pos (show (Value.ref T != Value.none)=true from by simp)]
 refine wpAny_bind (wpAny_field hT hdT h3 ?_)
 rw[if_neg (show ¬ ((Value.none == rawInt L)=true) from by simp[rawInt])]
 refine wpAny_bind (wpAny_setField hT hdT (Array.getElem?_eq_some_iff.mp h3).1 ?_)
 have other:∀ b,b≠T->(s.heap.update T (Obj.mapFields (·.setIfInBounds 3 Value.none))).get? b=s.heap.get? b:=fun b hb=>Heap.get?_update_other _ _ (Ne.symm hb)
 have noRecord:∀ b o,s.heap.get? b=some o->(∀ vs,o.data≠.fields vs)->b≠T:=fun b o hb hnf q=>by
  rw[q,hT] at hb;injection hb with hb;subst hb;exact hnf ts hdT
 refine i9 hfr (hl.of_keeps fun b o hb hnf=>⟨o,(other b (noRecord b o hb hnf)).trans hb,rfl⟩) hf ((other e (Ne.symm hTe)).trans he)
  (fun b o hbo=>(other b fun q=>by rw[q,hnT] at hbo;cases hbo).trans (hkb b o hbo)) hen hd (Array.getElem?_eq_some_iff.mp h1).1 h0
  fun h' ⟨x1,x2,x3,x4⟩=>h h' ⟨x1,x2,x3,fun b o hb hnf=>x4 b o ((other b (noRecord b o hb hnf)).trans hb) hnf⟩
theorem c9 {base:Heap}{l:List Env}{e:Addr}{cls fl:Value}{a0:Option Addr}{Q:Unit->Shared->Prop}
  (hkb:base.StaysIn s.heap) (hl:s.heap.FunFrames base l) (ht:s.heap.TracedAtD base e cls a0 fl)
  (h:∀ h',base.StaysIn h'->h'.FunFrames base l->h'.TracedD base e cls a0->(∀ b o,s.heap.get? b=some o->(∀ vs,o.data≠.fields vs)->h'.get? b=some o)->Q () {s with heap:=h'}) :
  wpAny M A (setFlight (.ref e) none) Q E s:=by
 obtain⟨oe,vs,T,oT,ts,he,hcls,hd,h1,hnT,hTe,hT,hdT,h3⟩:=ht
 have hsz3:3 < ts.size:=(Array.getElem?_eq_some_iff.mp h3).1
 have other:∀ b,b≠T->(s.heap.update T (Obj.mapFields (·.setIfInBounds 3 ((none:Option Addr).elim Value.none fun f=>rawInt f)))).get? b=s.heap.get? b:=
  fun b hb=>Heap.get?_update_other _ _ (Ne.symm hb)
 have noRecord:∀ b o,s.heap.get? b=some o->(∀ vs,o.data≠.fields vs)->b≠T:=fun b o hb hnf q=>by
  rw[q,hT] at hb;injection hb with hb;subst hb;exact hnf ts hdT
 unfold setFlight
 refine wpAny_bind (wpAny_field he hd h1 ?_)
 rw[if_pos (show (Value.ref T != Value.none)=true from by simp)]
 refine wpAny_setField hT hdT hsz3 (h _ (fun b o hbo=>(other b fun q=>by rw[q,hnT] at hbo;cases hbo).trans (hkb b o hbo))
  (hl.of_keeps fun b o hb hnf=>⟨o,(other b (noRecord b o hb hnf)).trans hb,rfl⟩) ?_ fun b o hb hnf=>(other b (noRecord b o hb hnf)).trans hb)
 exact⟨oe,vs,T,_,_,(other e (Ne.symm hTe)).trans he,hcls,hd,h1,hnT,hTe,Heap.get?_update_self _ hT (Obj.isFreed_of_fields (Obj.data_mapFields hdT _)),Obj.data_mapFields hdT _,by simp[hsz3]⟩
def Heap.HeldD (base:Heap)(l:List Env)(e:Addr)(cls:Value)(a0:Option Addr)(L:Addr)(h:Heap):Prop:=
 base.StaysIn h/\base.get? e=none/\h.FunFrames base l/\h.TracedAtD base e cls a0 (rawInt L)
theorem f9 {base:Heap}{env:Env}{outer:List Env}{L e:Addr}{cls:Value}{a0:Option Addr}{Q:Unit->Shared->Prop}
  (hfr:A.frames=some (env::outer)) (hf:env.frame=some L) (hfl:Heap.FlyingD base (env::outer) e cls a0 s.heap)
  (hQ:∀ h',Heap.HeldD base (env::outer) e cls a0 L h'->s.heap.UpToSlots h'->Q () {s with heap:=h'}):wpAny M A (noteFrame (.ref e) env) Q E s:=by
 obtain⟨f1,f2,f3,f4⟩:=hfl
 refine eO hfr f3 hf f4 f1 f2 fun h' hN=>?_
 obtain⟨k1,k2,k3,k4⟩:=hN
 exact hQ h' ⟨k1,f2,k2,k3⟩ k4
theorem ja {base:Heap}{l:List Env}{e L:Addr}{cls:Value}{a0:Option Addr}{Q:Unit->Shared->Prop}(hh:Heap.HeldD base l e cls a0 L s.heap)
  (hQ:∀ h',Heap.FlyingD base l e cls a0 h'->s.heap.UpToSlots h'->Q () {s with heap:=h'}):wpAny M A (setFlight (.ref e) none) Q E s:=by
 obtain⟨f1,f2,f3,f4⟩:=hh
 exact c9 f1 f3 f4 fun h' k1 k2 k3 k4=>hQ h' ⟨k1,f2,k2,k3⟩ fun b o hb hn=>⟨o.slots,k4 b o hb hn⟩
theorem Heap.FlyingD.first {base h:Heap}{l:List Env}{e:Addr}{cls:Value}{a0:Option Addr}(x:Heap.FlyingD base l e cls a0 h):∃ oe vs,h.get? e=some oe/\oe.cls=cls/\oe.data=.fields vs/\oe.dict=a0:=
 let ⟨_,_,_,oe,vs,_,_,_,he,hc,hd,_⟩:=x;⟨oe,vs,he,hc.1,hd,hc.2⟩
end
end PySem
namespace L2
open PySem PySem.Spec PyProof.Rows PySem.SeqAt
theorem cu.at {P:Program}{w:World}{H:Hp}{h:Heap}{a:Addr}{o:HO}(x:cu P w H h a o):∃ ob,h.get? a=some ob:=by
 cases o with
 | lst xs=>obtain⟨_,_,_,_,e⟩:=x;exact⟨_,e⟩
 | tup xs=>obtain⟨_,_,_,ob,e,_⟩:=x;exact⟨_,e⟩
 | dK kvs=>obtain⟨_,_,_,_,o,_,_,e,_⟩:=x;exact⟨_,e⟩
 | dT kvs=>obtain⟨_,_,_,_,o,_,_,e,_⟩:=x;exact⟨_,e⟩
 | set S n=>obtain⟨o,_,_,_,e,_⟩:=x;exact⟨_,e⟩
 | ins C dx fs=>obtain⟨_,_,_,e,_⟩:=x;exact⟨_,e⟩
 | own y=>exact x
 | xd fs=>obtain⟨_,⟨_,_,_,e,_⟩,_⟩:=x;exact⟨_,e⟩
 | rng lo hi=>obtain⟨_,_,_,e⟩:=x;exact⟨_,e⟩
 | frz ob u=>exact⟨_,x.1⟩
 | tbl ps=>exact⟨_,x⟩
 | met f y=>exact⟨_,x⟩
 | ext φ=>exact x.2.1
noncomputable def indep:HO->Bool
 | .lst _=>true
 | .tup _=>true
 | .ext _=>true
 | .dK _=>true
 | _=>false
theorem gF {P:Program}{w:World}{H H':Hp}{h:Heap}{a:Addr}{u:HO}(i:indep u=true)(x:cu P w H h a u):cu P w H' h a u:=by
 cases u with
 | lst _=>exact x
 | tup _=>exact x
 | ext _=>exact x
 | dK _=>exact x
 | _=>cases i
noncomputable def cg (h:Heap)(H:Hp):Hp:=fun b=>match H b with
 | some (.lst xs)=>(h.get? b).map fun o=>.frz o (.lst xs)
 | some (.dK kvs)=>(h.get? b).map fun o=>.frz o (.dK kvs)
 | some (.tup xs)=>some (.tup xs)
 | some (.frz o u)=>if indep u=true then some (.frz o u) else none
 | _=>none
noncomputable def ei (H H':Hp):Hp:=fun b=>match H b with
 | some o=>some o
 | none=>H' b
def LTH (H:Hp):Prop:=∀ b o,H b=some o->(∃ ob u,o=.frz ob u)∨∃ xs,o=.tup xs
theorem kT (h:Heap)(H:Hp):LTH (cg h H):=fun b o e=>by
 unfold cg at e
 split at e
 ·obtain⟨ob,_,rfl⟩:=Option.map_eq_some_iff.mp e
  exact .inl ⟨_,_,rfl⟩
 ·obtain⟨ob,_,rfl⟩:=Option.map_eq_some_iff.mp e
  exact .inl ⟨_,_,rfl⟩
 ·cases e;exact .inr ⟨_,rfl⟩
 ·split at e
  ·cases e;exact .inl ⟨_,_,rfl⟩
  ·cases e
 ·cases e
structure Pers (h:Heap)(Hc H':Hp):Prop where
 frzs:∀ b o u,Hc b=some (.frz o u)->H' b=some (.frz o u)
 tups:∀ b xs,Hc b=some (.tup xs)->H' b=some (.tup xs)
 free:∀ b o,h.get? b=some o->Hc b=none->H' b=none
inductive Bk (h:Heap)(H H':Hp)(b:Addr):HO->Prop where
 | lst {xs:List V}{ob:Obj}:h.get? b=some ob->H' b=some (.frz ob (.lst xs))->Bk h H H' b (.lst xs)
 | dK {xs:List (Key×V)}{ob:Obj}:h.get? b=some ob->H' b=some (.frz ob (.dK xs))->Bk h H H' b (.dK xs)
 | tup {xs:List V}:H' b=some (.tup xs)->Bk h H H' b (.tup xs)
 | frz {o:Obj}{u:HO}:indep u=true->H' b=some (.frz o u)->Bk h H H' b (.frz o u)
 | oth {o:HO}{ob:Obj}:h.get? b=some ob->cg h H b=none->H' b=none->(∀ xs,o≠.lst xs)->(∀ xs,o≠.tup xs)->(∀ xs,o≠.dK xs)->Bk h H H' b o
section
variable {P:Program}{w:World}{H H':Hp}{h g:Heap}
theorem iE (x:HOk P w H h)(p:Pers h (cg h H) H'){b:Addr}{o:HO}(e:H b=some o):Bk h H H' b o:=by
 obtain⟨ob,he⟩:=(x b o e).at
 have hc:cg h H b=(match (some o:Option HO) with
  | some (.lst xs)=>(h.get? b).map fun o=>.frz o (.lst xs)
  | some (.dK kvs)=>(h.get? b).map fun o=>.frz o (.dK kvs)
  | some (.tup xs)=>some (.tup xs)
  | some (.frz o u)=>if indep u=true then some (.frz o u) else none
  | _=>none):=by unfold cg;rw[e]
 cases o with
 | lst xs=>
  have hc:cg h H b=(h.get? b).map fun o=>.frz o (.lst xs):=hc
  rw[he] at hc
  exact .lst he (p.frzs _ _ _ hc)
 | dK xs=>
  have hc:cg h H b=(h.get? b).map fun o=>.frz o (.dK xs):=hc
  rw[he] at hc
  exact .dK he (p.frzs _ _ _ hc)
 | tup xs=>exact .tup (p.tups _ _ hc)
 | frz o' u=>
  have hc:cg h H b=if indep u=true then some (.frz o' u) else none:=hc
  by_cases i:indep u=true
  ·rw[if_pos i] at hc
   exact .frz i (p.frzs _ _ _ hc)
  ·rw[if_neg i] at hc
   exact .oth he hc (p.free _ _ he hc) (fun _ z=>by cases z) (fun _ z=>by cases z) (fun _ z=>by cases z)
 | _=>exact .oth he hc (p.free _ _ he hc) (fun _ z=>by cases z) (fun _ z=>by cases z) (fun _ z=>by cases z)
theorem o8 (x:HOk P w H h):HOk P w (cg h H) h:=fun b o e=>by
 cases q:H b with
 | none=>unfold cg at e;rw[q] at e;cases e
 | some u=>
  have y:=x b u q
  unfold cg at e
  rw[q] at e
  cases u with
  | lst xs=>
   obtain⟨ob,he⟩:=y.at
   have e:(h.get? b).map (fun o=>HO.frz o (.lst xs))=some o:=e
   rw[he] at e
   cases e
   exact⟨he,y⟩
  | dK xs=>
   obtain⟨ob,he⟩:=y.at
   have e:(h.get? b).map (fun o=>HO.frz o (.dK xs))=some o:=e
   rw[he] at e
   cases e
   exact⟨he,y⟩
  | tup xs=>cases e;exact y
  | frz o' u=>
   have e:(if indep u=true then some (HO.frz o' u) else none)=some o:=e
   by_cases i:indep u=true
   ·rw[if_pos i] at e;cases e;exact⟨y.1,gF i y.2⟩
   ·rw[if_neg i] at e;cases e
  | _=>cases e
theorem du (e:H a=none):cg h H a=none:=by unfold cg;rw[e]
theorem res_some {b:Addr}{o:HO}(e:H b=some o):ei H H' b=some o:=by unfold ei;rw[e]
theorem res_none {b:Addr}(e:H b=none):ei H H' b=H' b:=by unfold ei;rw[e]
theorem jR:bO H (ei H H'):=fun b o e=>res_some e
theorem jb (x:HOk P w H h)(y:HOk P w H' g)(p:Pers h (cg h H) H'){fs:List Addr}(keep:∀ b o,H b≠none->h.get? b=some o->cg h H b=none->b∉fs->g.get? b=some o)(fr:∀ b∈fs,H b=none):HOk P w (ei H H') g:=by
 have tp:∀ c xs,H' c=some (.tup xs)->ei H H' c=some (.tup xs):=fun c xs e=>by
  cases q:H c with
  | none=>rw[res_none q];exact e
  | some o=>
   rw[res_some q]
   cases iE x p q with
   | lst _ z=>rw[z] at e;cases e
   | dK _ z=>rw[z] at e;cases e
   | tup z=>rw[z] at e;exact e
   | frz _ z=>rw[z] at e;cases e
   | oth _ _ z _ _ _=>rw[z] at e;cases e
 intro b o e
 cases q:H b with
 | some o'=>
  rw[res_some q] at e
  cases e
  cases iE x p q with
  | lst h1 z=>
   have h2:=(y b _ z).1
   obtain⟨a1,its,n,a2,a3⟩:=x b _ q
   rw[h1] at a3
   exact⟨a1,its,n,a2,by rw[h2,<- a3]⟩
  | dK h1 z=>exact gF rfl (y b _ z).2
  | tup z=>exact y b _ z
  | frz i z=>exact⟨(y b _ z).1,gF i (y b _ z).2⟩
  | oth h1 h2 z n1 n2 n3=>
   refine(x b _ q).stay (fun c u hc hu=>?_) (fun c hc=>res_some hc) fun c xs hc=>res_some hc
   rcases hc with rfl|hc
   ·exact keep _ _ (by rw[q];simp) hu h2 fun z=>by rw[fr _ z] at q;cases q
   ·refine keep _ _ (by rw[hc];simp) hu ?_ fun z=>by rw[fr _ z] at hc;cases hc
    unfold cg
    rw[hc]
 | none=>
  rw[res_none q] at e
  refine(y b o e).stay (fun _ _ _ z=>z) (fun c hc=>?_) tp
  cases q':H c with
  | none=>rw[res_none q'];exact hc
  | some o'=>
   exfalso
   cases iE x p q' with
   | lst _ z=>rw[z] at hc;cases hc
   | dK _ z=>rw[z] at hc;cases hc
   | tup z=>rw[z] at hc;cases hc
   | frz _ z=>rw[z] at hc;cases hc
   | oth _ _ z _ _ _=>rw[z] at hc;cases hc
theorem dJ {fs:List Addr}(u:Un fs [] (cg h H) H' h g):Pers h (cg h H) H':=⟨u.frzs,u.tups,fun b o e n=>u.free b o e n (by simp)⟩
theorem jc {fs:List Addr}(x:HOk P w H h)(u:Un fs [] (cg h H) H' h g):Un fs [] H (ei H H') h g where
 keep:=fun b o e n f i=>u.keep b o e (du n) f i
 slot:=fun b o e n f i=>u.slot b o e (du n) f i
 free:=fun b o e n i=>by rw[res_none n];exact u.free b o e (du n) i
 there:=u.there
 tups:=fun b xs e=>res_some e
 frzs:=fun b o v e=>res_some e
 tbls:=fun b ps e=>⟨#[],by rw[res_some e];simp⟩
end
theorem vU {H:Hp}{h:Heap}:Cl H (cg h H):=by
 refine⟨fun b o e=>?_,fun b xs e=>?_⟩
 ·unfold cg;rw[e];rfl
 ·rcases e with e|⟨o,e⟩
  ·exact .inl (by unfold cg;rw[e])
  ·exact .inr ⟨o,by unfold cg;rw[e];rfl⟩
theorem o9 {P:Program}{w:World}{H H':Hp}{h:Heap}(x:HOk P w H h)(p:Pers h (cg h H) H'):Cl H' (ei H H'):=by
 refine⟨fun b o e=>?_,fun b xs e=>?_⟩
 ·cases q:H b with
  | none=>rw[res_none q];exact e
  | some u=>
   rw[res_some q]
   have k:=iE x p q
   cases k with
   | lst h1 h2=>rw[e] at h2;cases h2
   | dK h1 h2=>rw[e] at h2;cases h2
   | tup h2=>rw[e] at h2;cases h2
   | frz h1 h2=>rw[e] at h2;cases h2;rfl
   | oth h1 h2 h3=>rw[e] at h3;cases h3
 ·cases q:H b with
  | none=>unfold Rd;rw[res_none q];exact e
  | some u=>
   unfold Rd
   rw[res_some q]
   have k:=iE x p q
   cases k with
   | lst h1 h2=>rcases e with e|⟨o,e⟩<;>(rw[e] at h2;cases h2)
   | dK h1 h2=>rcases e with e|⟨o,e⟩<;>(rw[e] at h2;cases h2)
   | tup h2=>rcases e with e|⟨o,e⟩<;>(rw[e] at h2;cases h2);exact .inl rfl
   | frz h1 h2=>rcases e with e|⟨o,e⟩<;>(rw[e] at h2;cases h2);exact .inr ⟨_,rfl⟩
   | oth h1 h2 h3=>rcases e with e|⟨o,e⟩<;>(rw[e] at h3;cases h3)
def CX1 (P:Program)(w:World):CXT:=fun outer H s E e s'=>∃ (a:Addr) (cls:Value) (dx:Option Addr) (H':Hp) (B:Heap),e=.ref a/\s'.os=s.os/\AllBare s'.gens/\Un (frs outer) [] H H' s.heap s'.heap/\HOk P w H' B/\bO H H'/\
 (∀ b o,s.heap.get? b=some o->H b=none->b∉frs outer->B.get? b=some o)/\Heap.FlyingD B outer a cls dx s'.heap/\∀ H'',Cl H' H''->E cls dx H''
def xp1 (K:PySem.W.Frag):XK->Hp->EX->Prop:=fun E _ c=>∀ C dx H',PySem.W.nsIn K mainGlobals c.c=some (some (.ref C))->XF K H' dx c->E (.ref C) dx H'
noncomputable def cN:List Str:=["len","sum","min","max","sorted","list","tuple","ord","int","all","any","str","set","abs","isinstance","range","bool","zip","reversed","dict","enumerate"]
noncomputable def iF:Bi->Nat
 | .len=>0|.sum=>1|.min2=>2|.max2=>3|.maxl=>3|.sorted=>4|.list=>5|.tuple=>6|.ord=>7|.int=>8|.all=>9|.any=>10|.str=>11|.set=>12|.abs=>13
noncomputable def lT:Kd->Nat
 | .str=>11|.int=>8|.bool=>16|.list=>5|.tuple=>6
theorem ph (f:Bi):cN[iF f]? = some (dY f):=by cases f<;>rfl
theorem vV (f:Kd):cN[lT f]? = some (eW f):=by cases f<;>rfl
mutual
noncomputable def nC:D->D->Bool
 | .non,.non=>true
 | .bl a,.bl b=>a == b
 | .int a,.int b=>a == b
 | .str a,.str b=>a == b
 | .tup a,.tup b=>gG a b
 | .lst o a,.lst o' b=>o == o'&&gG a b
 | _,_=>false
noncomputable def gG:List D->List D->Bool
 | [],[]=>true
 | a::r,b::s=>nC a b&&gG r s
 | _,_=>false
end
mutual
theorem lU:∀ {a b:D},nC a b=true->a=b
 | .non,b,h=>by cases b<;>first|rfl|cases h
 | .bl a,b,h=>by cases b<;>first|(rw[eq_of_beq (show (a == _)=true from h)])|cases h
 | .int a,b,h=>by cases b<;>first|(rw[eq_of_beq (show (a == _)=true from h)])|cases h
 | .str a,b,h=>by cases b<;>first|(rw[eq_of_beq (show (a == _)=true from h)])|cases h
 | .tup a,b,h=>by
  induction b using zD with
  | tup b=>rw[gH (show gG a b=true from h)]
  | _=>cases h
 | .lst o a,b,h=>by
  induction b using zD with
  | lst o' b=>
   have h':(o == o'&&gG a b)=true:=h
   rw[Bool.and_eq_true] at h'
   rw[eq_of_beq h'.1,gH h'.2]
  | _=>cases h
theorem gH:∀ {a b:List D},gG a b=true->a=b
 | [],b,h=>by cases b<;>first|rfl|cases h
 | a::r,b,h=>by
  cases b with
  | nil=>cases h
  | cons b s=>
   have h':(nC a b&&gG r s)=true:=h
   rw[Bool.and_eq_true] at h'
   rw[lU h'.1,gH h'.2]
end
structure Sg where
 nm:List Str
 kst:List (Nat×D)
 fns:List Nat
 cls:List Nat:=[]
 xt:List (Str×Nat×Bool):=[]
 pl:List Nat:=[]
 rc:List (Nat×Str×Str):=[]
 xm:List (Str×Nat):=[]
 fio:List Nat:=[]
noncomputable def Sg.name (Z:Sg)(n:Nat):Option Str:=(cN++Z.nm)[n]?
noncomputable def Gm.glc (G:Gm)(n:Nat):Bool:=G.cm&&G.gl.contains n
theorem pj {G:Gm}{n:Nat}(h:G.glc n=true):G.gl.contains n=true:=by
 unfold Gm.glc at h;rw[Bool.and_eq_true] at h;exact h.2
theorem pq {G:Gm}{n:Nat}(h:G.glc n=true):G.cm=true:=by
 unfold Gm.glc at h;rw[Bool.and_eq_true] at h;exact h.1
noncomputable def Sg.fnc (Z:Sg)(G:Gm)(f:Nat):Bool:=Z.fns.contains f&&(G.cm||Z.pl.contains f)
theorem fR {Z:Sg}{G:Gm}{f:Nat}(h:Z.fnc G f=true):f∈Z.fns/\(G.cm=true∨f∈Z.pl):=by
 unfold Sg.fnc at h
 rw[Bool.and_eq_true,Bool.or_eq_true] at h
 exact⟨by simpa using h.1,h.2.elim .inl fun z=>.inr (by simpa using z)⟩
noncomputable def notStar:Expr->Bool
 | .Starred ..=>false
 | _=>true
noncomputable def cY:Expr->Bool
 | .Slice ..=>false
 | _=>true
noncomputable def fy (G:Gm)(i:Nat)(x:Str):Bool:=G.N[i]? == some x&&(G.kd[i]? == some .local||G.kd[i]? == some .cell||G.kd[i]? == some .free)
noncomputable def cU (Z:Sg)(G:Gm)(n:Nat)(x:Str):Bool:=Z.name n == some x&&G.gl.contains n
noncomputable def yi:D->Const->Bool
 | .int i,.int j=>i == j
 | .str x,.str y=>x == y
 | .bl a,.bool b=>a == b
 | .non,.none=>true
 | _,_=>false
mutual
noncomputable def dH (G:Gm):Tg->Expr->Bool
 | .nm i,.Name x _=>(G.N[i]? == some x&&(G.kd[i]? == some .local||(G.df&&G.kd[i]? == some .cell)))&&G.io != some i
 | .tp ts,.Tuple es _ _=>G.cm&&eP G ts es
 | _,_=>false
noncomputable def eP (G:Gm):List Tg->List Expr->Bool
 | [],[]=>true
 | t::ts,e::es=>notStar e&&dH G t e&&eP G ts es
 | _,_=>false
end
mutual
noncomputable def tgs:Tg->List Nat
 | .nm i=>[i]
 | .tp ts=>jS ts
noncomputable def jS:List Tg->List Nat
 | []=>[]
 | t::ts=>tgs t++jS ts
end
noncomputable def cZ (Z : Sg)(G : Gm)(scope : Scope)(G' : Gm)(fr : List Nat) : Bool :=
  (G.cm&&scope.kind == .function)&&!G'.tr&&!G'.df&&G'.kd.length == G'.N.length
 &&scope.names.all (fun y => y.2 != .cell)&&scope.names.all (fun y => y.2 != .local||scope.names.lookup y.1 == some .local)
 &&scope.names.all (fun y => y.2 != .free||(List.range G.N.length).any fun i => G.N[i]? == some y.1&&(G.kd[i]? == some .cell||G.kd[i]? == some .free))
 &&(List.range fr.length).all (fun j => G'.N[j]? == (fr[j]?).bind (G.N[·]?)&&((G'.N[j]?).bind (scope.names.lookup ·) == some .free)&&((fr[j]?).bind (G.kd[·]?) == some .cell||(fr[j]?).bind (G.kd[·]?) == some .free)
     &&(G'.kd[j]? == some (if ((fr[j]?).bind (G.kd[·]?) == some .cell) then .cell else .free)))
 &&decide (fr.length <= G'.N.length)
 &&((List.range G'.N.length).drop fr.length).all (fun j => (G'.N[j]?).bind (scope.names.lookup ·) == some .local&&G'.kd[j]? == some .local)
 &&G'.N.all (fun x => !(x == "__debug__")&&!(x == "__classdict__"))
 &&decide (G'.N.Nodup)
 &&G'.gl.all (fun n => match Z.name n with|some x => scope.names.lookup x == some .globalImplicit|none => false)
theorem ae {P:Prop}(h:false=true):P:=by cases h
noncomputable def nE:List Comprehension->(Expr->Expr->List Expr->Bool)->Bool
 | [⟨t,it,fs,0⟩],k=>k t it fs
 | _,_=>false
theorem jd {gens:List Comprehension}{k:Expr->Expr->List Expr->Bool}(h:nE gens k=true):∃ t it fs,gens=[⟨t,it,fs,0⟩]/\k t it fs=true:=by
 unfold nE at h
 split at h
 ·exact⟨_,_,_,rfl,h⟩
 ·cases h
noncomputable def nmv (k:Str->Bool):Expr->Bool
 | .Name z _=>k z
 | _=>false
theorem gJ {k:Str->Bool}{e:Expr}(h:nmv k e=true):∃ z p,e=.Name z p/\k z=true:=by
 induction e using zE with
 | Name z p=>exact⟨z,p,rfl,h⟩
 | _=>exact ae h
noncomputable def l1v {α:Type}:List α->(α->Bool)->Bool
 | a::r,k=>r.isEmpty&&k a
 | [],_=>false
theorem pA {α:Type}{l:List α}{k:α->Bool}(h:l1v l k=true):∃ a,l=[a]/\k a=true:=by
 cases l with
 | nil=>exact ae h
 | cons a r=>
  cases r with
  | nil=>exact⟨a,rfl,h⟩
  | cons b r=>exact ae h
noncomputable def cav:Expr->(Expr->List Expr->Pos->Bool)->Bool
 | .Call f as ks p,k=>ks.isEmpty&&k f as p
 | _,_=>false
theorem pB {e:Expr}{k:Expr->List Expr->Pos->Bool}(h:cav e k=true):∃ f as p,e=.Call f as [] p/\k f as p=true:=by
 induction e using zE with
 | Call f as ks p=>
  cases ks with
  | nil=>exact⟨f,as,p,rfl,h⟩
  | cons b r=>exact ae h
 | _=>exact ae h
noncomputable def tpv (k:List Expr->Bool):Expr->Bool
 | .Tuple es _ _=>k es
 | _=>false
theorem vW {k:List Expr->Bool}{e:Expr}(h:tpv k e=true):∃ es c p,e=.Tuple es c p/\k es=true:=by
 induction e using zE with
 | Tuple es c p=>exact⟨es,c,p,rfl,h⟩
 | _=>exact ae h
noncomputable def yj (k:Expr->Expr->Bool):List Expr->Bool
 | [a,b]=>k a b
 | _=>false
noncomputable def pC (Z:Sg)(G:Gm):List Nat->Expr->Bool
 | [n],e=>nmv (fun z=>cU Z G n z&&Z.cls.contains n) e
 | [n,m],e=>tpv (yj fun a b=>nmv (fun z=>cU Z G n z&&Z.cls.contains n) a&&nmv (fun y=>cU Z G m y&&Z.cls.contains m) b) e
 | _,_=>false
noncomputable def vX (Z:Sg):List Nat->Str×Bool->Bool
 | [n],p=>Z.xt.contains (p.1,n,p.2)
 | [n,m],p=>Z.xt.contains (p.1,n,false)&&Z.xt.contains (p.1,m,p.2)
 | _,_=>false
noncomputable def vY:Expr->Bool
 | .Tuple _ _ _=>true
 | _=>false
noncomputable def gb:Sr->Expr->Bool
 | .zip _ _,t=>vY t
 | _,_=>true
noncomputable def dcv:Expr->Bool
 | .Dict ks vs _=>ks.isEmpty&&vs.isEmpty
 | _=>false
theorem pE {e:Expr}(h:dcv e=true):∃ p,e=.Dict [] [] p:=by
 induction e using zE with
 | Dict ks vs p=>
  have h':=Bool.and_eq_true_iff.mp (show (ks.isEmpty&&vs.isEmpty)=true from h)
  cases ks with
  | cons _ _=>exact ae h'.1
  | nil=>
   cases vs with
   | cons _ _=>exact ae h'.2
   | nil=>exact⟨p,rfl⟩
 | _=>exact ae h
noncomputable def sbx:Expr->(Expr->Expr->Bool)->Bool
 | .Subscript o s _,k=>k o s
 | _,_=>false
theorem vZ {e:Expr}{k:Expr->Expr->Bool}(h:sbx e k=true):∃ o s p,e=.Subscript o s p/\k o s=true:=by
 unfold sbx at h
 split at h
 ·exact⟨_,_,_,rfl,h⟩
 ·cases h
noncomputable def lrv (e:Expr)(k:Str->Str->Expr->Bool):Bool:=cav e fun f as _=>nmv (fun x=>l1v as fun a=>cav a fun g bs _=>nmv (fun y=>l1v bs fun b=>k x y b) g) f
theorem v3 {e:Expr}{k:Str->Str->Expr->Bool}(h:lrv e k=true):∃ x p y p' e' q' q,e=.Call (.Name x p) [.Call (.Name y p') [e'] [] q'] [] q/\k x y e'=true:=by
 obtain⟨f,as,q,rfl,h1⟩:=pB h
 obtain⟨x,p,rfl,h2⟩:=gJ h1
 obtain⟨a,rfl,h3⟩:=pA h2
 obtain⟨g,bs,q',rfl,h4⟩:=pB h3
 obtain⟨y,p',rfl,h5⟩:=gJ h4
 obtain⟨b,rfl,h6⟩:=pA h5
 exact⟨_,_,_,_,_,_,_,rfl,h6⟩
noncomputable def isNm:Expr->Bool
 | .Name ..=>true
 | _=>false
noncomputable def atv:Expr->(Expr->Str->Bool)->Bool
 | .Attribute o y _,k=>k o y
 | _,_=>false
theorem v5 {e:Expr}{k:Expr->Str->Bool}(h:atv e k=true):∃ o y p,e=.Attribute o y p/\k o y=true:=by
 unfold atv at h
 split at h
 ·exact⟨_,_,_,rfl,h⟩
 ·cases h
noncomputable def mt1:Expr->(Expr->Str->Bool->Expr->Bool)->Bool
 | .Call (.Attribute o name apos) [a] [] cpos,k=>k o name (apos.endLine == cpos.line) a
 | _,_=>false
theorem v7 {e:Expr}{k:Expr->Str->Bool->Expr->Bool}(h:mt1 e k=true):∃ o name apos a cpos,e=.Call (.Attribute o name apos) [a] [] cpos/\k o name (apos.endLine == cpos.line) a=true:=by
 unfold mt1 at h
 split at h
 ·exact⟨_,_,_,_,_,rfl,h⟩
 ·cases h
mutual
noncomputable def chk (Z:Sg)(G:Gm):IR->Expr->Bool
 | .c d,.Constant k _ _=>yi d k
 | .g n d,.Name x _=>cU Z G n x&&Z.kst.any fun p=>p.1 == n&&nC p.2 d
 | .v i,.Name x _=>fy G i x
 | .bin op a b,.BinOp l o r _=>o == bop op&&chk Z G a l&&chk Z G b r
 | .cmp op a b,.Compare l [o] [r] _=>o == cop op&&chk Z G a l&&chk Z G b r&&!behindInMarks o r
 | .chain op op' a b c,.Compare l [o,o'] [m,r] _=>o == cop op&&o' == cop op'&&chk Z G a l&&chk Z G b m&&chk Z G c r&&!lastMarks [o,o'] [m,r]
 | .and_ a b,.BoolOp .And [e,e'] _=>chk Z G a e&&chk Z G b e'
 | .and_ a b,.BoolOp .And (e::e'::e''::rest) p=>chk Z G a e&&chk Z G b (.BoolOp .And (e'::e''::rest) p)
 | .or_ a b,.BoolOp .Or [e,e'] _=>chk Z G a e&&chk Z G b e'
 | .or_ a b,.BoolOp .Or (e::e'::e''::rest) p=>chk Z G a e&&chk Z G b (.BoolOp .Or (e'::e''::rest) p)
 | .not_ a,.UnaryOp .Not e _=>chk Z G a e
 | .tup es,.Tuple l _ _=>cA Z G es l
 | .lst es,.List l _=>cA Z G es l
 | .sl a lo hi,.Subscript e (.Slice l h none _) _=>chk Z G a e&&kU Z G lo l&&kU Z G hi h
 | .idx a i,.Subscript e s _=>cY s&&chk Z G a e&&chk Z G i s
 | .call f es,.Call (.Name x _) args [] _=>cU Z G f x&&Z.fnc G f&&cA Z G es args
 | .bi f es,.Call (.Name x _) (a::args) [] _=>x == dY f&&G.glc (iF f)&&cA Z G es (a::args)
 | .isi a k,.Call (.Name x _) [e,.Name y _] [] _=>x == "isinstance"&&G.gl.contains 14&&y == eW k&&G.gl.contains (lT k)&&notStar e&&chk Z G a e
 | .isx a ns tb,.Call (.Name x _) [e,y] [] _=>x == "isinstance"&&G.gl.contains 14&&notStar e&&pC Z G ns y&&tb.all (vX Z ns)&&chk Z G a e
 | .dnew,e=>dcv e
 | .dget a k,e=>sbx e fun o s=>cY s&&chk Z G a o&&chk Z G k s
 | .fld a x cs,e=>atv e fun o y=>y == x&&isNm o&&cs.all (fun c=>Z.rc.any fun p=>p.2 == (c,x))&&chk Z G a o
 | .lidx a b,e=>mt1 e fun o y l s=>y == "index"&&isNm o&&l&&notStar s&&chk Z G a o&&chk Z G b s
 | .lset a,e=>lrv e fun x y e=>x == "len"&&G.gl.contains 0&&y == "set"&&G.gl.contains 12&&(notStar e&&G.cm)&&chk Z G a e
 | .comp G' fr tg src ifs elt,.ListComp e gens scope _=>nE gens fun t it fs=>cZ Z G scope G' fr&&dH G' tg t&&(tgs tg).all (fun i=>decide (fr.length<=i))&&(dM Z G src it&&gb src t)&&cA Z G' ifs fs&&chk Z G' elt e
 | _,_=>false
noncomputable def cA (Z:Sg)(G:Gm):List IR->List Expr->Bool
 | [],[]=>true
 | a::es,e::l=>notStar e&&chk Z G a e&&cA Z G es l
 | _,_=>false
noncomputable def kU (Z:Sg)(G:Gm):Option IR->Option Expr->Bool
 | none,none=>true
 | some a,some e=>chk Z G a e
 | _,_=>false
noncomputable def dM (Z:Sg)(G:Gm):Sr->Expr->Bool
 | .rng1 n,.Call (.Name x _) [e] [] _=>x == "range"&&G.gl.contains 15&&notStar e&&chk Z G n e
 | .zip a b,.Call (.Name x _) [e,e'] [] _=>x == "zip"&&G.gl.contains 17&&notStar e&&notStar e'&&chk Z G a e&&chk Z G b e'
 | .val a,e=>chk Z G a e
 | _,_=>false
end
noncomputable def bmV:List Value:=[.type "ValueError",.type "Exception",.type "BaseException",.type "object"]
def FOk (F:Addr->Prop)(H:Hp):Prop:=∀ a,F a->H a≠none
structure Out (K:PySem.W.Frag)(F:Addr->Prop)(H:Hp)(F':Addr->Prop)(H':Hp)(v:V)(d:D)(fv:List Addr):Prop where
 fok:FOk F' H'
 same:bO H H'
 rep:MRep K F' H' v d fv
 nod:fv.Nodup
 new:∀ a∈fv,H a=none
 inn:∀ a,F a->F' a
 out:∀ a,F' a->F a∨H a=none
def spF (K:PySem.W.Frag)(cl:Nat->List D->Res D)(xp:XK->Hp->EX->Prop)(f:Nat)(ps:List Str):Sp:=fun vs H Q E=>vs.length=ps.length/\LTH H/\∃ F ds,FOk F H/\HReps K F H vs ds/\
 PO' (xp E H) (cl f (ers ds)) fun d=>∀ v H' F' fv,Out K F H F' H' v d fv->Q v H'
structure FnC (P:Program)(w:World)(K:PySem.W.Frag)(mg:Str->Option Value)(base:Heap)(CX:CXT)(A:Around)(cl:Nat->List D->Res D)(xp:XK->Hp->EX->Prop)(f:Nat)(x:Str):Prop where
 ex:∃ (k:Nat) (fa:Addr) (fd:FuncData) (ps:List Str),mg x=some (.ref fa)/\PySem.W.keepIn K (.ref fa)=true/\Binds K fd ps []/\FnOk P w K mg base CX k fa fd ps (spF K cl xp f ps)/\Room k A/\
  ∀ (ex:EX->Prop) ds (k:D->Prop),PO' ex (cl f ds) k->ds.length=ps.length
noncomputable def rm (a:Addr)(H:Hp):Hp:=fun b=>if b=a then none else H b
structure OutI (K:PySem.W.Frag)(a:Addr)(F:Addr->Prop)(H:Hp)(F':Addr->Prop)(H':Hp)(v:V)(d:D)(fv:List Addr)(kvs':List (Key×V))(ks':List Key)(es':List D):Prop where
 out:Out K F (rm a H) F' H' v d fv
 nF:¬ F' a
 nf:a∉fv
 at_:H' a=some (.dK kvs')
 ks:kvs'.map (·.1)=ks'
 vs:HReps K F' H' (kvs'.map (·.2)) es'
structure ArgI (K:PySem.W.Frag)(a:Addr)(F:Addr->Prop)(H:Hp)(ws:List V)(ds:List D)(kvs:List (Key×V))(es:List D):Prop where
 fok:FOk F H
 nF:¬ F a
 at_:H a=some (.dK kvs)
 ws:HReps K F H ws ds
 vs:HReps K F H (kvs.map (·.2)) es
 lf:bR es=true
def spI (K:PySem.W.Frag)(cl:Nat->List D->Res D)(f:Nat)(ps:List Str):Sp:=fun vs H Q _=>vs.length=ps.length/\∃ a F ws ds kvs es,vs=ws++[.ref a]/\ArgI K a F H ws ds kvs es/\
 ∃ d ks' es',cl f (ers ds++[.dct false (kvs.map (·.1)) es])=.ok (.tup [d,.dct false ks' es'])/\bR es'=true/\∀ v H' F' fv kvs',OutI K a F H F' H' v d fv kvs' ks' es'->Q v H'
structure FnI (P:Program)(w:World)(K:PySem.W.Frag)(mg:Str->Option Value)(base:Heap)(CX:CXT)(A:Around)(cl:Nat->List D->Res D)(f:Nat)(x:Str):Prop where
 ex:∃ (k:Nat) (fa:Addr) (fd:FuncData) (ps:List Str),mg x=some (.ref fa)/\PySem.W.keepIn K (.ref fa)=true/\Binds K fd ps []/\FnOk P w K mg base CX k fa fd ps (spI K cl f ps)/\Room k A/\
  ∀ ds r,cl f ds=.ok r->ds.length=ps.length
structure TrOk (Z:Sg)(CX:CXT)(cl:Nat->List D->Res D)(xp:XK->Hp->EX->Prop)(X:Cx):Prop where
 st:X.stack=X.env::X.outer
 fr:X.env.frame=some X.env.locals
 lt:LTH X.H₀
 pl:∀ a:Addr,∀ f∈Z.fns,f∈Z.pl->∀ x,Z.name f=some x->FnC X.prog X.w X.K X.mg X.base CX (X.A.mark (some (.ref a))) cl xp f x
 cx:∀ (outer:List Env) (H:Hp) (s:Shared) (E:XK) (e:Value) (s':Shared),CX outer H s E e s'->CX1 X.prog X.w outer H s E e s'
 xp:∀ (c:EX) (C:Addr) (H:Hp),PySem.W.nsIn X.K mainGlobals c.c=some (some (.ref C))->xp (fun cls dx H'=>cls=.ref C/\XF X.K H' dx c) H c
noncomputable def nG (K:PySem.W.Frag)(C:Addr):Bool:=match K.lookup C with
 | some ⟨.type "type",_,.cls cd,sl⟩=>(match cd.mro,sl.toList with
  | .ref C'::bm,[_,_,_,_,some (.builtin n),_]=>C' == C&&n == "ValueError.__new__"&&!cd.hasDel&&PySem.W.tailIn K bmV bm
  | _,_=>false)
 | _=>false
structure RsOk (X:Cx)(c:EX):Prop where
 ex:∃ C:Addr,X.mg c.c=some (.ref C)/\nG X.K C=true/\∀ (pins:List (Addr×Obj)) (σ:St) (H:Hp) (s:Shared) (t:Addr),Inv X pins σ H s->SqT X.K H t (c.ts.map .str)->
  wpAny (model X.prog X.w) X.A (call (.ref C) [.ref t]) (fun v s₁=>∃ e oe t',v=.ref e/\(∀ b o,X.base.get? b=some o->s₁.heap.get? b=some o)/\s₁.heap.get? e=some oe/\oe.cls=.ref C/\oe.data=.fields #[.ref t',.none,.none,.none,.bool false,.none]/\X.xe (.ref e) s₁) X.xe s
structure GOk (Z:Sg)(CX:CXT)(cl:Nat->List D->Res D)(xp:XK->Hp->EX->Prop)(X:Cx)(ex:EX->Prop)(G:Gm):Prop where
 N:X.N=G.N
 nod:G.N.Nodup
 calm:G.cm=true->X.calm=true
 fk:X.env.scope.kind=.function
 un:X.A.units+42 < cLine
 own:G.rs=true->PassesOwn (model X.prog X.w) X.A X.env X.xe
 kd:∀ (i:Nat) (x:Str),G.N[i]? = some x->X.env.kindOf x=G.kd[i]?
 noD:∀ (i:Nat) (x:Str),G.N[i]? = some x->(x == ("__debug__" : Str))=false/\(x == ("__classdict__" : Str))=false
 gl:∀ n∈G.gl,∀ x,Z.name n=some x->Gl X x
 nam:∀ n x,Z.name n=some x->x≠"__name__"/\(x == ("__debug__" : Str))=false
 df:G.df=true->∀ x,X.fn x=true
 blt:∀ (n:Nat) (x:Str),cN[n]? = some x->X.mg x=none
 cst:∀ n d x,(n,d)∈Z.kst->Z.name n=some x->∃ u v,X.mg x=some u/\RelV v u/\∀ S H,HRep X.K S H v d
 fns:∀ f∈Z.fns,(G.cm=true∨f∈Z.pl)->∀ x,Z.name f=some x->FnC X.prog X.w X.K X.mg X.base CX X.A cl xp f x
 fio:∀ f∈Z.fio,G.cm=true->∀ x,Z.name f=some x->FnI X.prog X.w X.K X.mg X.base CX X.A cl f x
 xcv:∀ n∈Z.cls,∀ x,Z.name n=some x->∃ v,CV X x v
 xcl:∀ c n b x,(c,n,b)∈Z.xt->Z.name n=some x->∃ C,PySem.W.nsIn X.K mainGlobals c=some (some (.ref C))/\ExcAt X.K C/\∀ v,CV X x v->PySem.W.kitOne X.K (.ref C) (vv v)=some b
 xmt:∀ c n x,(c,n)∈Z.xm->Z.name n=some x->∃ C C',PySem.W.nsIn X.K mainGlobals c=some (some (.ref C))/\PySem.W.nsIn X.K mainGlobals x=some (some (.ref C'))/\nameIn X.K C=some c/\X.mg x=some (.ref C')/\PySem.W.exmOne X.K (.ref C) (.ref C')=some true
 xrs:∀ n c x,(n,c,x)∈Z.rc->∃ C fI,PySem.W.nsIn X.K mainGlobals c=some (some (.ref C))/\ExcI X.K C fI x
 rse:G.rs=true->G.cm=true->∀ n c,(n,c.c,c.x)∈Z.rc->ex c->RsOk X c
 tr:G.tr=true->TrOk Z CX cl xp X
 exs:∃ E:XK,Passes CX X E/\∀ c H,ex c->xp E H c
 hid:∀ (outer:List Env) (H:Hp) (s:Shared) (E:XK) (e:Value) (s':Shared),HOk X.prog X.w H s.heap->(∀ b∈frs outer,H b=none)->CX outer (cg s.heap H) s E e s'->CX outer H s E e s'
 exn:∀ (H:Hp) (outer:List Env) (s:Shared) (e:Value) (s':Shared),¬ CX outer H s (fun _ _ _=>False) e s'
section
variable {P:Program}{w:World}{H H':Hp}{h:Heap}{K:PySem.W.Frag}{Fc F':Addr->Prop}
theorem je {vs:List V}{ds:List D}(x:HOk P w H h)(m:HReps K Fc H vs ds):HReps K (fun a=>Fc a/\cg h H a≠none) (cg h H) vs ds:=by
 refine(m.step (S':=Fc) (H':=cg h H) (fun a xs f r=>⟨f,?_⟩) fun a xs r=>?_).tight
 ·rcases r with r|⟨o,r⟩
  ·obtain⟨ob,he⟩:=(x a _ r).at
   refine .inr ⟨ob,?_⟩
   unfold cg
   rw[r]
   cases xs with
   | l ys=>show (h.get? a).map _=_;rw[he];rfl
   | d ys=>show (h.get? a).map _=_;rw[he];rfl
  ·refine .inr ⟨o,?_⟩
   unfold cg
   rw[r]
   cases xs<;>rfl
 ·exact r.cl vU
theorem jT (x:HOk P w H h)(p:Pers h (cg h H) H'){a:Addr}(n:cg h H a=none)(e:H' a≠none):H a=none:=by
 cases q:H a with
 | none=>rfl
 | some o=>
  obtain⟨ob,he⟩:=(x a o q).at
  exact absurd (p.free a ob he n) e
theorem jf {v:V}{d:D}{fv:List Addr}(x:HOk P w H h)(fok:FOk Fc H)(p:Pers h (cg h H) H')(o:Out K (fun a=>Fc a/\cg h H a≠none) (cg h H) F' H' v d fv):Out K Fc H (fun a=>Fc a∨F' a) (ei H H') v d fv:=by
 have new:∀ a∈fv,H a=none:=fun a ha=>jT x p (o.new a ha) (by obtain⟨_,xs,e⟩:=o.rep.own a ha;rw[e];simp)
 refine⟨fun a ha=>?_,jR,o.rep.step (fun a xs f r=>⟨.inr f,?_⟩) (fun a xs r=>?_) fun a ha nf hn=>⟨fun z=>?_,res_none (new a ha)⟩,o.nod,new,fun a ha=>.inl ha,fun a ha=>?_⟩
 ·cases q:H a with
  | some u=>rw[res_some q];simp
  | none=>
   rw[res_none q]
   rcases ha with ha|ha
   ·exact absurd q (fok a ha)
   ·exact o.fok a ha
 ·cases q:H a with
  | none=>unfold Rd;rw[res_none q];exact r
  | some u=>
   unfold Rd
   rw[res_some q]
   cases iE x p q with
   | lst _ z=>
    cases xs with
    | l ys=>
     rcases r with r|⟨o',r⟩
     ·rw[z] at r;cases r
     ·rw[z] at r;cases r;exact .inl rfl
    | d ys=>rcases r with r|⟨o',r⟩<;>(rw[z] at r;cases r)
   | dK _ z=>
    cases xs with
    | d ys=>
     rcases r with r|⟨o',r⟩
     ·rw[z] at r;cases r
     ·rw[z] at r;cases r;exact .inl rfl
    | l ys=>rcases r with r|⟨o',r⟩<;>(rw[z] at r;cases r)
   | tup z=>cases xs<;>rcases r with r|⟨o',r⟩<;>(rw[z] at r;cases r)
   | frz _ z=>
    cases xs with
    | l ys=>
     rcases r with r|⟨o',r⟩
     ·rw[z] at r;cases r
     ·rw[z] at r;cases r;exact .inr ⟨_,rfl⟩
    | d ys=>
     rcases r with r|⟨o',r⟩
     ·rw[z] at r;cases r
     ·rw[z] at r;cases r;exact .inr ⟨_,rfl⟩
   | oth _ _ z _ _ _=>exact absurd z r.some
 ·exact r.cl (o9 x p)
 ·rcases z with z|z
  ·exact fok a z (new a ha)
  ·exact nf z
 ·rcases ha with ha|ha
  ·exact .inl ha
  ·rcases o.out a ha with z|z
   ·exact .inl z.1
   ·exact .inr (jT x p z (o.fok a ha))
end
section
variable {X:Cx}{CX:CXT}{cl:Nat->List D->Res D}{xp:XK->Hp->EX->Prop}
theorem Inv.env0h {pins:List (Addr×Obj)}{σ:St}{H:Hp}{s:Shared}(I:Inv X pins σ H s):Env0 X.prog X.w X.K X.mg X.base X.A X.stack s (cg s.heap H):=
 ⟨I.env0.frames,I.env0.mod,fun b o e=>⟨(I.env0.bs b o e).1,du (I.env0.bs b o e).2⟩,I.env0.bsz,I.env0.funs,fun b hb=>du (I.env0.frf b hb),o8 I.hok,I.env0.bare⟩
theorem jg {k:Nat}{f:Nat}{fa:Addr}{fd:FuncData}{ps:List Str}{E:XK}{pins:List (Addr×Obj)}{σ:St}{H:Hp}{s:Shared}{Q:VK}{us:List Value}{vs:List V}{ds:List D}{Fc:Addr->Prop}
  (F:FnOk X.prog X.w X.K X.mg X.base CX k fa fd ps (spF X.K cl xp f ps)) (hr:Room k X.A) (hb:Binds X.K fd ps []) (hx:Passes CX X E)
  (hh:∀ (outer:List Env) (H:Hp) (s:Shared) (E:XK) (e:Value) (s':Shared),HOk X.prog X.w H s.heap->(∀ b∈frs outer,H b=none)->CX outer (cg s.heap H) s E e s'->CX outer H s E e s')
  (I:Inv X pins σ H s) (r:Vals vs us) (hl:vs.length=ps.length) (fok:FOk Fc H) (m:HReps X.K Fc H vs ds)
  (q:PO' (xp E (cg s.heap H)) (cl f (ers ds)) fun d=>∀ v H' F' fv,Out X.K Fc H F' H' v d fv->Q v H'):wpAny (model X.prog X.w) X.A (call (.ref fa) us) (EP X pins σ Q) X.xe s:=by
 have hsp:spF X.K cl xp f ps vs (cg s.heap H) (fun v H'=>Pers s.heap (cg s.heap H) H'->Q v (ei H H')) E:=
  ⟨hl,kT _ _,_,ds,fun a h=>h.2,je I.hok m,q.mono fun d hd v H' F' fv o p=>hd v _ _ fv (jf I.hok fok p o)⟩
 have hl2:(us++([]:List Value)).length=ps.length:=by rw[List.append_nil,<- r.length];exact hl
 have bd:=hb s us I.kIn hl2
 rw[List.append_nil] at bd
 refine wpAny_call (codeAny_mono (F.run X.A X.stack s (cg s.heap H) ⟨us,[]⟩ us vs _ E hr I.env0h bd r hsp) fun r' s' hq=>?_)
 cases r' with
 | error e=>exact hx pins σ H s e s' I (hh X.stack H s E e s' I.hok I.env0.frf hq)
 | ok fl=>
  cases fl with
  | ret u=>
   obtain⟨v,H',a1,a2,a3,a4,a5,a6⟩:=hq
   exact I.after (Q:=Q) ⟨v,ei H H',a1,a2,jc I.hok a3,jb I.hok a4 (dJ a3) (fs:=frs X.stack) (fun b o _ e n f=>a3.keep b o e n f (by simp)) I.env0.frf,a5,a6 (dJ a3)⟩
  | next=>exact False.elim hq
  | brk=>exact False.elim hq
  | cont=>exact False.elim hq
end
def Slots (K:PySem.W.Frag)(S:Addr->Prop)(H:Hp)(σ:St)(τ:Ev)(is:List Nat):Prop:=∀ i∈is,∀ d,bo τ i=some d->∃ v,σ[i]? = some (some v)/\HRep K S H v d
theorem Slots.sub {K:PySem.W.Frag}{S:Addr->Prop}{H:Hp}{σ:St}{τ:Ev}{is js:List Nat}(h:Slots K S H σ τ is)(s:∀ i∈js,i∈is):Slots K S H σ τ js:=fun i hi d e=>h i (s i hi) d e
theorem Slots.left {K:PySem.W.Frag}{S:Addr->Prop}{H:Hp}{σ:St}{τ:Ev}{is js:List Nat}(h:Slots K S H σ τ (is++js)):Slots K S H σ τ is:=h.sub fun _ hi=>List.mem_append_left _ hi
theorem Slots.right {K:PySem.W.Frag}{S:Addr->Prop}{H:Hp}{σ:St}{τ:Ev}{is js:List Nat}(h:Slots K S H σ τ (is++js)):Slots K S H σ τ js:=h.sub fun _ hi=>List.mem_append_right _ hi
theorem Slots.go {K:PySem.W.Frag}{S:Addr->Prop}{H H':Hp}{σ:St}{τ:Ev}{is:List Nat}(h:Slots K S H σ τ is)(e:bO H H'):Slots K (nw S H) H' σ τ is:=fun i hi d z=>by
 obtain⟨v,h1,h2⟩:=h i hi d z
 exact⟨v,h1,h2.mono (fun _=>.inl) e⟩
def RD (K:PySem.W.Frag)(ex:EX->Prop)(is:List Nat)(f:Ev->Res D):TE:=fun σ H Q=>∃ S τ,Slots K S H σ τ is/\PO' ex (f τ) (Kk K S H Q)
def RT (K:PySem.W.Frag)(ex:EX->Prop)(is:List Nat)(f:Ev->Res Bool):TT:=fun σ H Q=>∃ S τ,Slots K S H σ τ is/\PO' ex (f τ) fun b=>∀ H',bO H H'->Q b H'
def RA (K:PySem.W.Frag)(ex:EX->Prop)(is:List Nat)(f:Ev->Res (List D)):TA:=fun σ H Q=>∃ S τ,Slots K S H σ τ is/\PO' ex (f τ) fun ds=>∀ vs H',bO H H'->HReps K (nw S H) H' vs ds->Q vs H'
def ROp (K:PySem.W.Frag)(ex:EX->Prop)(is:List Nat)(f:Ev->Res (Option Int)):TO:=fun σ H Q=>∃ S τ,Slots K S H σ τ is/\PO' ex (f τ) fun o=>∀ H',bO H H'->Q o H'
def WS (K:PySem.W.Frag)(S:Addr->Prop)(H:Hp)(k:Zp.Kq)(a:Addr)(xs:List V):Prop:=match k with
 | .l=>(S a/\Rd H a (.lst xs))∨KL K a xs
 | .t=>SqT K H a xs
theorem WS.sq {K:PySem.W.Frag}{S:Addr->Prop}{H:Hp}{k:Zp.Kq}{a:Addr}{xs:List V}(h:WS K S H k a xs):SqK K H k a xs:=by
 cases k with
 | l=>exact h.elim (fun z=>.inl z.2) fun z=>z.sq
 | t=>exact h
inductive Wlk (K:PySem.W.Frag)(S:Addr->Prop)(H:Hp):It->List D->Prop where
 | lst {a:Addr}{xs:List V}{ds:List D}:S a->Rd H a (.lst xs)->HReps K S H xs ds->Wlk K S H (Itl K a) ds
 | lstK {a:Addr}{xs:List V}{ds:List D}:KL K a xs->HReps K S H xs ds->Wlk K S H (Itl K a) ds
 | tup {a:Addr}{xs:List V}{ds:List D}:SqT K H a xs->HReps K S H xs ds->Wlk K S H (Itt K a) ds
 | rng (lo hi:Int):Wlk K S H (Itr lo (hi - lo).toNat) (dy lo hi)
 | str (x:Str):Wlk K S H (Its x) (dm x)
 | zip {p q:Zp.Kq}{l m:Addr}{xs ys:List V}{ds es:List D}:WS K S H p l xs->WS K S H q m ys->HReps K S H xs ds->HReps K S H ys es->Wlk K S H (Itz K p q l m) (fM ds es)
def RI (K:PySem.W.Frag)(ex:EX->Prop)(is:List Nat)(f:Ev->Res (List D)):TI:=fun σ H R=>∃ S τ,Slots K S H σ τ is/\PO' ex (f τ) fun ds=>∀ J H',bO H H'->Wlk K (nw S H) H' J ds->R J H'
theorem iG {S:Addr->Prop}{H H1:Hp}(e:bO H H1):∀ a,nw (nw S H) H1 a->nw S H a:=fun a h=>by
 rcases h with h|h
 ·exact h
 ·exact .inr (e.free h)
section
variable {Z:Sg}{CX:CXT}{cl:Nat->List D->Res D}{xp:XK->Hp->EX->Prop}{X:Cx}{ex:EX->Prop}{G:Gm}
theorem Kk.fit {K:PySem.W.Frag}{S:Addr->Prop}{H H1:Hp}{Q:VK}{d:D}(e:bO H H1)(h:Kk K S H Q d):Kk K (nw S H) H1 Q d:=fun w H' e' m=>h w H' (e.trans e') (m.mono (iG e) (.refl _))
theorem ez (g:GOk Z CX cl xp X ex G){n:Nat}{x:Str}(h:cU Z G n x=true):Gl X x/\Z.name n=some x/\x≠"__name__"/\(x == ("__debug__" : Str))=false:=by
 unfold cU at h
 rw[Bool.and_eq_true] at h
 have e:Z.name n=some x:=eq_of_beq h.1
 exact⟨g.gl n (by simpa using h.2) x e,e,g.nam n x e⟩
theorem tN (Z:Sg){n:Nat}{x:Str}(h:cN[n]? = some x):Z.name n=some x:=by
 unfold Sg.name
 rw[List.getElem?_append_left (List.getElem?_eq_some_iff.mp h).1]
 exact h
theorem eQ (g:GOk Z CX cl xp X ex G){n:Nat}{x:Str}(h:cN[n]? = some x)(hc:G.gl.contains n=true):Gl X x/\X.mg x=none/\x≠"__name__"/\(x == ("__debug__" : Str))=false:=
 ⟨g.gl n (by simpa using hc) x (tN Z h),g.blt n x h,g.nam n x (tN Z h)⟩
theorem aE {e:Expr}(h:notStar e=true)(es:List Expr)(env:Env):starEach (e::es) env=(false,eval e env)::starEach es env:=by
 induction e using zE<;>first|rfl|cases h
theorem cW (Z:Sg)(G:Gm):∀ {es:List IR}{l:List Expr} (p:Pos) (env:Env),cA Z G es l=true->(backTo p (starEach l env)).any (·.1)=false
 | [],[],_,_,_=>rfl
 | a::es,e::l,p,env,h=>by
  have h':(notStar e&&chk Z G a e&&cA Z G es l)=true:=h
  simp only[Bool.and_eq_true] at h'
  rw[aE h'.1.1]
  have ih:=cW Z G (es:=es) (l:=l) p env h'.2
  show (false||(backTo p (starEach l env)).any (·.1))=false
  rw[ih]
  rfl
 | [],_::_,_,_,h=>by cases h
 | _::_,[],_,_,h=>by cases h
theorem pF {d:D}{v:V}(h:∀ S H,HRep X.K S H v d){σ:St}{H:Hp}{Q:VK}{is:List Nat}(q:RD X.K ex is (fun _=>.ok d) σ H Q):Q v H:=by
 obtain⟨S,τ,_,q⟩:=q
 exact q.ok _ _ (.refl _) (h _ _)
theorem yk {e:Expr}{is:List Nat}{f:Ev->Res D}(h:PE X e (RD X.K ex is f))(he:∀ whole,isTrue e X.env whole=(do let v <- whole;standAt e.pos;holding [v] (truthy v))):PT X e (RT X.K ex is fun τ=>bnd (f τ) cF):=by
 intro pins s σ H Q I hw
 obtain⟨S,τ,hs,hw⟩:=hw
 refine isTrue_plain (thn (h pins s σ H (fun v H'=>∃ d,bO H H'/\HRep X.K (nw S H) H' v d/\PO' ex (cF d) fun b=>∀ H',bO H H'->Q b H') I ⟨S,τ,hs,(PO'.bnd hw).mono fun d hd v H' e m=>⟨d,e,m,hd⟩⟩) fun v s1 ⟨x,H1,I1,r1,d,e,m,hd⟩=>?_) (he _)
 exact gf I1 r1 m (hd.mono fun b z=>z H1 e)
end
section
variable {Z:Sg}{CX:CXT}{cl:Nat->List D->Res D}{xp:XK->Hp->EX->Prop}{X:Cx}{ex:EX->Prop}{G:Gm}{K:PySem.W.Frag}{S:Addr->Prop}{H H1:Hp}{σ:St}{τ:Ev}
theorem cz {is:List Nat}{f:Ev->Res D}{Kt:D->Prop}{Q:VK}(e:bO H H1)(hs:Slots K S H σ τ is)(h:PO' ex (f τ) Kt)(k:∀ x v H2,bO H H2->bO H1 H2->HRep K (nw S H) H2 v x->Kt x->Q v H2):RD K ex is f σ H1 Q:=
 ⟨nw S H,τ,hs.go e,h.mono fun x hx v H2 e2 m=>k x v H2 (e.trans e2) e2 (m.mono (iG e) (.refl _)) hx⟩
theorem jh {is:List Nat}{f:Ev->Res Bool}{Kt:Bool->Prop}{Q:Bool->Hp->Prop}(e:bO H H1)(hs:Slots K S H σ τ is)(h:PO' ex (f τ) Kt)(k:∀ x H2,bO H H2->bO H1 H2->Kt x->Q x H2):RT K ex is f σ H1 Q:=
 ⟨nw S H,τ,hs.go e,h.mono fun x hx H2 e2=>k x H2 (e.trans e2) e2 hx⟩
theorem kW {is:List Nat}{f:Ev->Res (List D)}{Kt:List D->Prop}{Q:List V->Hp->Prop}(e:bO H H1)(hs:Slots K S H σ τ is)(h:PO' ex (f τ) Kt)(k:∀ x v H2,bO H H2->bO H1 H2->HReps K (nw S H) H2 v x->Kt x->Q v H2):RA K ex is f σ H1 Q:=
 ⟨nw S H,τ,hs.go e,h.mono fun x hx v H2 e2 m=>k x v H2 (e.trans e2) e2 (m.mono (iG e) (.refl _)) hx⟩
theorem sv {is:List Nat}{f:Ev->Res (Option Int)}{Kt:Option Int->Prop}{Q:Option Int->Hp->Prop}(e:bO H H1)(hs:Slots K S H σ τ is)(h:PO' ex (f τ) Kt)(k:∀ x H2,bO H H2->bO H1 H2->Kt x->Q x H2):ROp K ex is f σ H1 Q:=
 ⟨nw S H,τ,hs.go e,h.mono fun x hx H2 e2=>k x H2 (e.trans e2) e2 hx⟩
theorem HRep.later {v:V}{d:D}{H2:Hp}(h:HRep K (L2.nw S H) H1 v d)(e:bO H1 H2):HRep K (L2.nw S H) H2 v d:=h.mono (fun _ z=>z) e
theorem HReps.later {v:List V}{d:List D}{H2:Hp}(h:HReps K (L2.nw S H) H1 v d)(e:bO H1 H2):HReps K (L2.nw S H) H2 v d:=h.mono (fun _ z=>z) e
theorem s_v (g:GOk Z CX cl xp X ex G){i:Nat}{x:Str}{pos:Pos}(h:fy G i x=true):PE X (.Name x pos) (RD X.K ex [i] (evR cl (.v i))):=by
 unfold fy at h
 rw[Bool.and_eq_true] at h
 have hx:G.N[i]? = some x:=eq_of_beq h.1
 have hk:=g.kd i x hx
 have hv:Vis X.env.scope x:=by
  have h2:=h.2
  rw[Bool.or_eq_true,Bool.or_eq_true] at h2
  rcases h2 with (h2|h2)|h2
  ·exact .inl (hk.trans (eq_of_beq h2))
  ·exact .inr (.inl (hk.trans (eq_of_beq h2)))
  ·exact .inr (.inr (hk.trans (eq_of_beq h2)))
 refine b8 (iT (i:=i) (by rw[g.N];exact hx) hv (g.noD i x hx).1 (g.noD i x hx).2) fun σ H Q q=>?_
 obtain⟨S,τ,hs,q⟩:=q
 rw[yd] at q
 cases z:bo τ i with
 | none=>rw[z] at q;exact q.no.elim
 | some d=>
  rw[z] at q
  obtain⟨v,h1,h2⟩:=hs i (by simp) d z
  exact⟨v,h1,q.ok _ _ (.refl _) h2.nw⟩
theorem s_c {d:D}{k:Const}{j:Nat}{pos:Pos}(h:yi d k=true):PE X (.Constant k j pos) (RD X.K ex [] (evR cl (.c d))):=by
 induction d using zD with
 | non=>
  cases k with
  | none=>exact b8 u3 fun σ H Q q=>pF (fun _ _=>.non) q
  | _=>cases h
 | bl b=>
  cases k with
  | bool b'=>
   have e:b=b':=eq_of_beq h
   subst e
   exact b8 xI fun σ H Q q=>pF (fun _ _=>.bl _) q
  | _=>cases h
 | int b=>
  cases k with
  | int b'=>
   have e:b=b':=eq_of_beq h
   subst e
   exact b8 uZ fun σ H Q q=>pF (fun _ _=>.int _) q
  | _=>cases h
 | str b=>
  cases k with
  | str b'=>
   have e:b=b':=eq_of_beq h
   subst e
   exact b8 u4 fun σ H Q q=>pF (fun _ _=>.str _) q
  | _=>cases h
 | tup _=>cases k<;>cases h
 | lst _ _=>cases k<;>cases h
 | exc _=>cases k<;>cases h
 | dct o ks ds=>cases k<;>cases h
theorem s_g (g:GOk Z CX cl xp X ex G){n:Nat}{d:D}{x:Str}{pos:Pos}(h:cU Z G n x=true)(hk:Z.kst.any (fun p=>p.1 == n&&nC p.2 d)=true):PE X (.Name x pos) (RD X.K ex [] (evR cl (.g n d))):=by
 obtain⟨h1,h2,h3,h4⟩:=ez g h
 rw[List.any_eq_true] at hk
 obtain⟨⟨m,d'⟩,hm,hk⟩:=hk
 rw[Bool.and_eq_true] at hk
 have e1:m=n:=eq_of_beq hk.1
 have e2:d'=d:=lU hk.2
 subst e1 e2
 obtain⟨u,v,hu,r,hr⟩:=g.cst m d' x hm h2
 exact b8 (lD h1 hu r h4) fun σ H Q q=>pF hr q
theorem yl {op:BOp}{a b:Expr}{pos:Pos}{va vb:List Nat}{fa fb:Ev->Res D}(ha:PE X a (RD X.K ex va fa))(hb:PE X b (RD X.K ex vb fb)) :
  PE X (.BinOp a (bop op) b pos) (RD X.K ex (va++vb) fun τ=>bnd (fa τ) fun x=>bnd (fb τ) fun y=>opB op x y):=by
 refine b8 (oh (vQ (ex:=ex) op) ha hb) fun σ H Q ⟨S,τ,hs,q⟩=>?_
 refine cz (.refl _) hs.left (PO'.bnd q) fun x v H1 e1 _ m1 q1=>?_
 refine cz e1 hs.right (PO'.bnd q1) fun y w H2 e2 e2' m2 q2=>?_
 exact⟨nw S H,x,y,m1.later e2',m2,q2.mono fun d hd=>hd.fit e2⟩
theorem ym (g:GOk Z CX cl xp X ex G){op:COp}{a b:Expr}{pos:Pos}{va vb:List Nat}{fa fb:Ev->Res D}(ha:PE X a (RD X.K ex va fa))(hb:PE X b (RD X.K ex vb fb))(hm:behindInMarks (cop op) b=false) :
  PE X (.Compare a [cop op] [b] pos) (RD X.K ex (va++vb) fun τ=>bnd (fa τ) fun x=>bnd (fb τ) fun y=>bnd (opC op x y) fun r=>.ok (.bl r))/\
  PT X (.Compare a [cop op] [b] pos) (RT X.K ex (va++vb) fun τ=>bnd (bnd (fa τ) fun x=>bnd (fb τ) fun y=>bnd (opC op x y) fun r=>.ok (.bl r)) cF):=by
 refine⟨b8 (rB (fO (ex:=ex) g.un op) ha hb hm) fun σ H Q ⟨S,τ,hs,q⟩=>?_,gr (rC (fO (ex:=ex) g.un op) ha hb hm) fun σ H Q ⟨S,τ,hs,q⟩=>?_⟩
 ·refine cz (.refl _) hs.left (PO'.bnd q) fun x v H1 e1 _ m1 q1=>?_
  refine cz e1 hs.right (PO'.bnd q1) fun y w H2 e2 e2' m2 q2=>?_
  exact⟨nw S H,x,y,m1.later e2',m2,(PO'.bnd q2).mono fun d hd=>hd.ok _ _ e2 (.bl _)⟩
 ·refine cz (.refl _) hs.left (PO'.bnd (PO'.bnd q)) fun x v H1 e1 _ m1 q1=>?_
  refine cz e1 hs.right (PO'.bnd q1) fun y w H2 e2 e2' m2 q2=>?_
  exact⟨nw S H,x,y,m1.later e2',m2,(PO'.bnd q2).mono fun d hd=>⟨d,rfl,hd.ok.ok H2 e2⟩⟩
theorem sx (g:GOk Z CX cl xp X ex G){op op':COp}{a b c:Expr}{pos:Pos}{va vb vc:List Nat}{fa fb fc:Ev->Res D}(ha:PE X a (RD X.K ex va fa))(hb:PE X b (RD X.K ex vb fb))(hc:PE X c (RD X.K ex vc fc))
  (hm:lastMarks [cop op,cop op'] [b,c]=false) :
  PE X (.Compare a [cop op,cop op'] [b,c] pos) (RD X.K ex (va++vb++vc) fun τ=>bnd (fa τ) fun x=>bnd (fb τ) fun y=>bnd (opC op x y) fun r=>if r=true then bnd (fc τ) fun z=>bnd (opC op' y z) fun r'=>.ok (.bl r') else .ok (.bl false))/\
  PT X (.Compare a [cop op,cop op'] [b,c] pos) (RT X.K ex (va++vb++vc) fun τ=>bnd (bnd (fa τ) fun x=>bnd (fb τ) fun y=>bnd (opC op x y) fun r=>if r=true then bnd (fc τ) fun z=>bnd (opC op' y z) fun r'=>.ok (.bl r') else .ok (.bl false)) cF):=by
 refine⟨b8 (om (fO (ex:=ex) g.un op) (fO (ex:=ex) g.un op') ha hb hc hm) fun σ H Q ⟨S,τ,hs,q⟩=>?_,gr (oo (fO (ex:=ex) g.un op) (fO (ex:=ex) g.un op') ha hb hc hm) fun σ H Q ⟨S,τ,hs,q⟩=>?_⟩
 ·refine cz (.refl _) hs.left.left (PO'.bnd q) fun x v H1 e1 _ m1 q1=>?_
  refine cz e1 hs.left.right (PO'.bnd q1) fun y w H2 e2 e2' m2 q2=>?_
  refine⟨nw S H,x,y,m1.later e2',m2,(PO'.bnd q2).mono fun d hd=>⟨d,rfl,?_⟩⟩
  cases d with
  | false=>rw[if_neg Bool.false_ne_true] at hd ⊢;exact hd.ok _ _ e2 (.bl _)
  | true=>
   rw[if_pos rfl] at hd ⊢
   refine cz e2 hs.right (PO'.bnd hd) fun z w' H3 e3 e3' m3 q3=>?_
   exact⟨nw S H,y,z,m2.later e3',m3,(PO'.bnd q3).mono fun d hd=>hd.ok _ _ e3 (.bl _)⟩
 ·refine cz (.refl _) hs.left.left (PO'.bnd (PO'.bnd q)) fun x v H1 e1 _ m1 q1=>?_
  refine cz e1 hs.left.right (PO'.bnd q1) fun y w H2 e2 e2' m2 q2=>?_
  refine⟨nw S H,x,y,m1.later e2',m2,(PO'.bnd q2).mono fun d hd=>⟨d,rfl,?_⟩⟩
  cases d with
  | false=>rw[if_neg Bool.false_ne_true] at hd ⊢;exact⟨false,rfl,hd.ok.ok _ e2⟩
  | true=>
   rw[if_pos rfl] at hd ⊢
   refine cz e2 hs.right (PO'.bnd hd) fun z w' H3 e3 e3' m3 q3=>?_
   exact⟨nw S H,y,z,m2.later e3',m3,(PO'.bnd q3).mono fun d hd=>⟨d,rfl,hd.ok.ok _ e3⟩⟩
theorem tO {a b:Expr}{rest:List Expr}{pos:Pos}{va vb:List Nat}{fa fb:Ev->Res D}(ha:PE X a (RD X.K ex va fa))(hb:PE X (.BoolOp .And (b::rest) pos) (RD X.K ex vb fb)) :
  PE X (.BoolOp .And (a::b::rest) pos) (RD X.K ex (va++vb) fun τ=>bnd (fa τ) fun x=>bnd (cF x) fun r=>if r=true then fb τ else .ok x):=by
 intro pins s σ H Q I h
 obtain⟨S,τ,hs,q⟩:=h
 refine BoolOp_and (thn (ha pins s σ H (fun v H'=>∃ d,bO H H'/\HRep X.K (nw S H) H' v d/\_) I (cz (.refl _) hs.left (PO'.bnd q) fun x v H1 e1 _ m1 q1=>⟨x,e1,m1,q1⟩)) fun v s1 ⟨x,H1,I1,r1,d,e1,m1,q1⟩=>?_)
 refine thn (gf (Q:=fun b H'=>H'=H1/\PO' ex (if b=true then fb τ else .ok d) (Kk X.K S H Q)) I1 r1 m1 ((PO'.bnd q1).mono fun b z=>⟨rfl,z⟩)) fun c s2 ⟨H2,I2,e2,q2⟩=>?_
 subst e2
 cases c with
 | true=>
  rw[if_pos rfl] at q2 ⊢
  exact hb pins s2 σ _ Q I2 (cz e1 hs.right q2 fun y w H3 e3 _ m3 q3=>q3 _ _ e3 m3)
 | false=>
  rw[if_neg Bool.false_ne_true] at q2 ⊢
  exact⟨x,_,I2,r1,q2.ok _ _ e1 m1⟩
theorem yn {a b:Expr}{rest:List Expr}{pos:Pos}{va vb:List Nat}{fa fb:Ev->Res D}(ha:PE X a (RD X.K ex va fa))(hb:PE X (.BoolOp .Or (b::rest) pos) (RD X.K ex vb fb)) :
  PE X (.BoolOp .Or (a::b::rest) pos) (RD X.K ex (va++vb) fun τ=>bnd (fa τ) fun x=>bnd (cF x) fun r=>if r=true then .ok x else fb τ):=by
 intro pins s σ H Q I h
 obtain⟨S,τ,hs,q⟩:=h
 refine BoolOp_or (thn (ha pins s σ H (fun v H'=>∃ d,bO H H'/\HRep X.K (nw S H) H' v d/\_) I (cz (.refl _) hs.left (PO'.bnd q) fun x v H1 e1 _ m1 q1=>⟨x,e1,m1,q1⟩)) fun v s1 ⟨x,H1,I1,r1,d,e1,m1,q1⟩=>?_)
 refine thn (gf (Q:=fun b H'=>H'=H1/\PO' ex (if b=true then .ok d else fb τ) (Kk X.K S H Q)) I1 r1 m1 ((PO'.bnd q1).mono fun b z=>⟨rfl,z⟩)) fun c s2 ⟨H2,I2,e2,q2⟩=>?_
 subst e2
 cases c with
 | false=>
  rw[if_neg Bool.false_ne_true] at q2 ⊢
  exact hb pins s2 σ _ Q I2 (cz e1 hs.right q2 fun y w H3 e3 _ m3 q3=>q3 _ _ e3 m3)
 | true=>
  rw[if_pos rfl] at q2 ⊢
  exact⟨x,_,I2,r1,q2.ok _ _ e1 m1⟩
theorem yo {a:Expr}{pos:Pos}{va:List Nat}{fa:Ev->Res D}(ha:PE X a (RD X.K ex va fa))(ht:PT X a (RT X.K ex va fun τ=>bnd (fa τ) cF)) :
  PE X (.UnaryOp .Not a pos) (RD X.K ex va fun τ=>bnd (fa τ) fun x=>bnd (cF x) fun r=>.ok (.bl !r))/\PT X (.UnaryOp .Not a pos) (RT X.K ex va fun τ=>bnd (bnd (fa τ) fun x=>bnd (cF x) fun r=>.ok (.bl !r)) cF):=by
 constructor
 ·intro pins s σ H Q I h
  obtain⟨S,τ,hs,q⟩:=h
  refine UnaryOp_ (thn (ha pins s σ H (fun v H'=>∃ d,bO H H'/\HRep X.K (nw S H) H' v d/\_) I (cz (.refl _) hs (PO'.bnd q) fun x v H1 e1 _ m1 q1=>⟨x,e1,m1,q1⟩)) fun v s1 ⟨x,H1,I1,r1,d,e1,m1,q1⟩=>?_)
  refine not_of (thn (gf (Q:=fun b H'=>Q (.bl !b) H') I1 r1 m1 ((PO'.bnd q1).mono fun b z=>z.ok _ _ e1 (.bl _))) fun c s2 ⟨H2,I2,q2⟩=>⟨.bl !c,H2,I2,rfl,q2⟩)
 ·refine gr (u7 ht) fun σ H Q ⟨S,τ,hs,q⟩=>?_
  exact jh (.refl _) hs (PO'.mk ((PO'.bnd (PO'.bnd q)).mono fun x hx=>(PO'.bnd hx).mono fun r hr=>hr.ok.ok)) fun x H2 e2 _ k=>k H2 e2
theorem pG {e:Expr}{pos:Pos}{op:BoolOp}{es:List Expr}{t:TT}(h:PT X (.BoolOp op es pos) t):PW X (.BoolOp op es pos) t:=fun _ pins s σ H Q I q=>h pins s σ H Q I q
theorem tP {a b:Expr}{rest:List Expr}{pos:Pos}{va vb:List Nat}{fa fb:Ev->Res D}(ha:PT X a (RT X.K ex va fun τ=>bnd (fa τ) cF))(hb:PW X (.BoolOp .And (b::rest) pos) (RT X.K ex vb fun τ=>bnd (fb τ) cF)) :
  PT X (.BoolOp .And (a::b::rest) pos) (RT X.K ex (va++vb) fun τ=>bnd (bnd (fa τ) fun x=>bnd (cF x) fun r=>if r=true then fb τ else .ok x) cF):=by
 refine gr (u6 ha hb).pt fun σ H Q ⟨S,τ,hs,q⟩=>?_
 refine jh (.refl _) hs.left (Kt:=fun r=>PO' ex (if r=true then bnd (fb τ) cF else .ok false) fun b=>∀ H',bO H H'->Q b H') (PO'.mk ((PO'.bnd (PO'.bnd q)).mono fun x hx=>(PO'.bnd hx).eq.mono fun r hr=>?_)) fun r H2 e2 _ k=>?_
 ·obtain⟨er,hr⟩:=hr
  cases r with
  | true=>rw[if_pos rfl] at hr ⊢;exact PO'.mk hr
  | false=>
   rw[if_neg Bool.false_ne_true] at hr ⊢
   have hr':PO' ex (cF x) _:=hr
   rw[er] at hr'
   exact hr'
 ·cases r with
  | true=>rw[if_pos rfl] at k ⊢;exact jh e2 hs.right k fun b H3 e3 _ z=>z H3 e3
  | false=>rw[if_neg Bool.false_ne_true] at k ⊢;exact k.ok H2 e2
theorem yp {a b:Expr}{rest:List Expr}{pos:Pos}{va vb:List Nat}{fa fb:Ev->Res D}(ha:PT X a (RT X.K ex va fun τ=>bnd (fa τ) cF))(hb:PW X (.BoolOp .Or (b::rest) pos) (RT X.K ex vb fun τ=>bnd (fb τ) cF)) :
  PT X (.BoolOp .Or (a::b::rest) pos) (RT X.K ex (va++vb) fun τ=>bnd (bnd (fa τ) fun x=>bnd (cF x) fun r=>if r=true then .ok x else fb τ) cF):=by
 refine gr (xK ha hb).pt fun σ H Q ⟨S,τ,hs,q⟩=>?_
 refine jh (.refl _) hs.left (Kt:=fun r=>PO' ex (if r=true then .ok true else bnd (fb τ) cF) fun b=>∀ H',bO H H'->Q b H') (PO'.mk ((PO'.bnd (PO'.bnd q)).mono fun x hx=>(PO'.bnd hx).eq.mono fun r hr=>?_)) fun r H2 e2 _ k=>?_
 ·obtain⟨er,hr⟩:=hr
  cases r with
  | false=>rw[if_neg Bool.false_ne_true] at hr ⊢;exact PO'.mk hr
  | true=>
   rw[if_pos rfl] at hr ⊢
   have hr':PO' ex (cF x) _:=hr
   rw[er] at hr'
   exact hr'
 ·cases r with
  | false=>rw[if_neg Bool.false_ne_true] at k ⊢;exact jh e2 hs.right k fun b H3 e3 _ z=>z H3 e3
  | true=>rw[if_pos rfl] at k ⊢;exact k.ok H2 e2
theorem yq {es:List Expr}{n:Nat}{pos:Pos}{va:List Nat}{fa:Ev->Res (List D)}(h:PA X es (RA X.K ex va fa)):PE X (.Tuple es n pos) (RD X.K ex va fun τ=>bnd (fa τ) fun ds=>grd (cQ ds.length) (.ok (.tup ds))):=by
 refine b8 (kI h) fun σ H Q ⟨S,τ,hs,q⟩=>?_
 refine kW (.refl _) hs (PO'.bnd q) fun ds vs H1 e1 _ m1 q1=>?_
 obtain⟨g,q1⟩:=PO'.grd q1
 exact⟨by rw[m1.length];exact cS g,fun p hp=>q1.ok _ _ (e1.trans (.upd hp)) ((vP hp m1).mono (iG e1) (.refl _))⟩
theorem yr {es:List Expr}{pos:Pos}{va:List Nat}{fa:Ev->Res (List D)}(h:PA X es (RA X.K ex va fa)):PE X (.List es pos) (RD X.K ex va fun τ=>bnd (fa τ) fun ds=>grd (cQ ds.length) (.ok (.lst true ds))):=by
 refine b8 (oq h) fun σ H Q ⟨S,τ,hs,q⟩=>?_
 refine kW (.refl _) hs (PO'.bnd q) fun ds vs H1 e1 _ m1 q1=>?_
 obtain⟨g,q1⟩:=PO'.grd q1
 exact⟨by rw[m1.length];exact cS g,fun p hp=>q1.ok _ _ (e1.trans (.upd hp)) ((nq hp m1).mono (iG e1) (.refl _))⟩
theorem yt {a b:Expr}{pos:Pos}{va vb:List Nat}{fa fb:Ev->Res D}(ha:PE X a (RD X.K ex va fa))(hb:PE X b (RD X.K ex vb fb))(hp:cY b=true) :
  PE X (.Subscript a b pos) (RD X.K ex (va++vb) fun τ=>bnd (fa τ) fun x=>bnd (fb τ) fun y=>cX x y):=by
 refine b8 (xT (sd (ex:=ex)) ha hb fun o i=>by cases b<;>first|rfl|cases hp) fun σ H Q ⟨S,τ,hs,q⟩=>?_
 refine cz (.refl _) hs.left (PO'.bnd q) fun x v H1 e1 _ m1 q1=>?_
 refine cz e1 hs.right (PO'.bnd q1) fun y w H2 e2 e2' m2 q2=>?_
 exact⟨nw S H,x,y,m1.later e2',m2,q2.mono fun d hd=>hd.fit e2⟩
theorem A0 {a:Expr}{lo hi:Option Expr}{pos p2:Pos}{va vl vh:List Nat}{fa:Ev->Res D}{fl fh:Ev->Res (Option Int)}(ha:PE X a (RD X.K ex va fa))(hl:PO X lo (ROp X.K ex vl fl))(hh:PO X hi (ROp X.K ex vh fh)) :
  PE X (.Subscript a (.Slice lo hi none p2) pos) (RD X.K ex (va++vl++vh) fun τ=>bnd (fa τ) fun x=>bnd (fl τ) fun l=>bnd (fh τ) fun h=>jH x l h):=by
 refine b8 (jz (se (ex:=ex)) ha hl hh) fun σ H Q ⟨S,τ,hs,q⟩=>?_
 refine cz (.refl _) hs.left.left (PO'.bnd q) fun x v H1 e1 _ m1 q1=>?_
 refine sv e1 hs.left.right (PO'.bnd q1) fun l H2 e2 e2' q2=>?_
 refine sv e2 hs.right (PO'.bnd q2) fun h H3 e3 e3' q3=>?_
 exact⟨nw S H,x,m1.later (e2'.trans e3'),q3.mono fun d hd=>hd.fit e3⟩
theorem s_call (g:GOk Z CX cl xp X ex G){f:Nat}{x:Str}{p pos:Pos}{es:List IR}{args:List Expr}(h1:cU Z G f x=true)(h2:Z.fnc G f=true)(hst:cA Z G es args=true)(h:PA X args (RA X.K ex (bQ es) (cG cl es))) :
  PE X (.Call (.Name x p) args [] pos) (RD X.K ex (bQ es) fun τ=>bnd (cG cl es τ) fun ds=>cl f (ers ds)):=by
 obtain⟨k1,k2,k3,k4⟩:=ez g h1
 obtain⟨k,fa',fd,ps,hm,hkp,hb,F,hr,hlen⟩:=(g.fns f (fR h2).1 (fR h2).2 x k2).ex
 obtain⟨E,hP,hE⟩:=g.exs
 intro pins s σ H Q I q
 obtain⟨S,τ,hs,q⟩:=q
 have fin:∀ (us:List Value) (s1:Shared) (vs:List V) (H1:Hp) (ds:List D),Inv X pins σ H1 s1->Vals vs us->bO H H1->HReps X.K (nw S H) H1 vs ds->PO' ex (cl f (ers ds)) (Kk X.K S H Q)->wpAny (model X.prog X.w) X.A (call (.ref fa') us) (EP X pins σ Q) X.xe s1:=by
  intro us s1 vs H1 ds I1 r e m q1
  have hl:=hlen ex _ _ q1
  rw[dh] at hl
  refine jg F hr hb hP g.hid I1 r (by rw[m.length];exact hl) (Fc:=fun a=>nw S H a/\H1 a≠none) (fun a z=>z.2) m.tight ?_
  cases z:cl f (ers ds) with
  | error er=>
   rw[z] at q1
   cases er with
   | stuck=>exact q1.no.elim
   | exc c=>exact hE c _ q1
  | ok d=>
   rw[z] at q1
   intro v H' F' fv o
   refine q1.ok _ _ (e.trans o.same) (o.rep.read (fun a ha=>?_) fun a ha=>?_)
   ·rcases o.out a ha with z|z
    ·exact z.1
    ·exact .inr (e.free z)
   ·exact .inr (e.free (o.new a ha))
 refine wpAny_Call_Name_kw (eG I k1 hm ?_ k4)
 cases args with
 | nil=>
  cases es with
  | cons _ _=>cases hst
  | nil=>
   exact PySem.W.callWith_K0 I.kIn hkp (fin [] s [] H [] I .nil (.refl _) .nil q)
 | cons e l=>
  cases es with
  | nil=>cases hst
  | cons a es=>
   have hst':(notStar e&&chk Z G a e&&cA Z G es l)=true:=hst
   simp only[Bool.and_eq_true] at hst'
   refine PySem.W.callWith_K (h₀:=X.base) I.ok.mod.kin hkp (thn (h pos pins s σ H (fun vs H1=>∃ ds,bO H H1/\HReps X.K (nw S H) H1 vs ds/\PO' ex (cl f (ers ds)) (Kk X.K S H Q)) I ⟨S,τ,hs,(PO'.bnd q).mono fun ds hd vs H1 e m=>⟨ds,e,m,hd⟩⟩) fun us s1 ⟨vs,H1,I1,r,ds,e,m,q1⟩=>⟨I1.kIn,?_⟩) (aE hst'.1.1 l X.env) (cW Z G (es:=es) pos X.env hst'.2)
   exact fin us s1 vs H1 ds I1 r e m q1
theorem A1 (g:GOk Z CX cl xp X ex G){f:Bi}{p pos:Pos}{es:List IR}{a:Expr}{args:List Expr}(hg:G.glc (iF f)=true)(hst:cA Z G es (a::args)=true)(h:PA X (a::args) (RA X.K ex (bQ es) (cG cl es))) :
  PE X (.Call (.Name (dY f) p) (a::args) [] pos) (RD X.K ex (bQ es) fun τ=>bnd (cG cl es τ) fun ds=>dG f ds):=by
 obtain⟨k1,k2,k3,k4⟩:=eQ g (ph f) (pj hg)
 cases es with
 | nil=>cases hst
 | cons b es=>
  have hst':(notStar a&&chk Z G b a&&cA Z G es args)=true:=hst
  simp only[Bool.and_eq_true] at hst'
  have mono:∀ σ H Q,RD X.K ex (bQ (b::es)) (fun τ=>bnd (cG cl (b::es) τ) fun ds=>dG f ds) σ H Q->tCB (rBi X.K ex f) (RA X.K ex (bQ (b::es)) (cG cl (b::es))) σ H Q:=by
   rintro σ H Q ⟨S,τ,hs,q⟩
   refine kW (.refl _) hs (PO'.bnd q) fun ds vs H1 e1 _ m1 q1=>?_
   exact⟨nw S H,ds,m1,q1.mono fun d hd=>hd.fit e1⟩
  refine b8 ?_ mono
  have hv:=lR f
  have hc:=sg (X:=X) (ex:=ex) (g.calm (pq hg)) f
  unfold oZ at hv hc
  cases z:yg f with
  | true=>
   rw[z,if_pos rfl] at hv hc
   exact iw hc k1 k2 hv h k3 k4 (aE hst'.1.1 args X.env) (cW Z G (es:=es) pos X.env hst'.2)
  | false=>
   rw[z,if_neg Bool.false_ne_true] at hv hc
   exact eY hc k1 k2 hv h k3 k4 (aE hst'.1.1 args X.env) (cW Z G (es:=es) pos X.env hst'.2)
noncomputable def kdV:Kd->V
 | .str=>.ty "str" | .int=>.ty "int" | .bool=>.ty "bool" | .list=>.ty "list" | .tuple=>.ty "tuple"
theorem lV (k:Kd):RelV (kdV k) (o4 k):=by cases k<;>rfl
theorem pH (k:Kd):c8 X (.builtin "isinstance") (fun xs H Q=>∃ S x d,xs=[x,kdV k]/\HRep X.K S H x d/\ia d=true/\Q (.bl (dW k d)) H):=by
 intro pins s σ H xs us Q I r h
 obtain⟨S,x,d,rfl,m,hn,q⟩:=h
 obtain⟨u,w',rfl,r1,r2⟩:=vals2 r
 have e:w'=o4 k:=by
  have:=r2.abs
  have h2:=(lV k).abs
  cases k<;>(revert r2;intro r2;exact r2)
 subst e
 exact sj I r1 m k hn q
theorem yu (g:GOk Z CX cl xp X ex G){k:Kd}{e:Expr}{p p' pos:Pos}{va:List Nat}{fa:Ev->Res D}(hg:G.gl.contains 14=true)(hk:G.gl.contains (lT k)=true)(hn:notStar e=true)(ha:PE X e (RD X.K ex va fa)) :
  PE X (.Call (.Name "isinstance" p) [e,.Name (eW k) p'] [] pos) (RD X.K ex va fun τ=>bnd (fa τ) fun x=>grd (ia x) (.ok (.bl (dW k x)))):=by
 obtain⟨k1,k2,k3,k4⟩:=eQ g (show cN[14]? = some ("isinstance" : Str) from rfl) hg
 obtain⟨j1,j2,j3,j4⟩:=eQ g (vV k) hk
 have pa:PA X [e,.Name (eW k) p'] (eX (RD X.K ex va fa) (eX (tC (kdV k)) mU)):=cq ha (cq (lE j1 j2 (sh k) (lV k) j3 j4) dw rfl) (aE hn _ _)
 refine b8 (eY (pH k) k1 k2 PyProof.Rows.boot_isinstance pa k3 k4 (aE hn _ _) rfl) fun σ H Q ⟨S,τ,hs,q⟩=>?_
 refine cz (.refl _) hs (PO'.bnd q) fun x v H1 e1 _ m1 q1=>?_
 obtain⟨gd,q1⟩:=PO'.grd q1
 exact⟨nw S H,v,x,rfl,m1,gd,q1.ok _ _ e1 (.bl _)⟩
theorem pI (g:GOk Z CX cl xp X ex G){n:Nat}{z:Str}{p:Pos}(h:cU Z G n z=true)(hc:Z.cls.contains n=true):∃ v,CV X z v/\PE X (.Name z p) (tC v):=by
 obtain⟨k1,k2,k3,k4⟩:=ez g h
 obtain⟨v,hv⟩:=g.xcv n (by simpa using hc) z k2
 refine⟨v,hv,?_⟩
 rcases hv with ⟨C,rfl,h1⟩|⟨T,rfl,h1,h2⟩
 ·exact lD k1 h1 rfl k4
 ·exact lE k1 h1 h2 rfl k3 k4
theorem jU {tb:List (Str×Bool)}{d:D}{k:D->Prop}(h:PO' ex (oR tb d) k):∃ c b,d=.exc c/\tb.lookup c.c=some b/\k (.bl b):=by
 induction d using zD with
 | exc c=>
  have h':PO' ex (match tb.lookup c.c with|some b=>.ok (.bl b)|none=>stk) k:=h
  cases z:tb.lookup c.c with
  | none=>rw[z] at h';exact h'.no.elim
  | some b=>rw[z] at h';exact⟨c,b,rfl,z,h'.ok⟩
 | _=>exact h.no.elim
theorem HRep.excR {K:PySem.W.Frag}{S:Addr->Prop}{H:Hp}{v:V}{c:EX}(h:HRep K S H v (.exc c)):∃ a,v=.ref a/\SqE K H a (.inr c):=by
 cases h with
 | exc h=>exact⟨_,rfl,h⟩
theorem nH {v2:V}{z:Str}(hv:CV X z v2):c8 X (.builtin "isinstance") (fun xs H Q=>∃ a c C b,xs=[.ref a,v2]/\SqE X.K H a (.inr c)/\PySem.W.nsIn X.K mainGlobals c.c=some (some (.ref C))/\ExcAt X.K C/\PySem.W.kitOne X.K (.ref C) (vv v2)=some b/\Q (.bl b) H):=by
 intro pins s σ H xs us Q I r h
 obtain⟨a,c,C,b,rfl,h1,h2,h3,h4,q⟩:=h
 obtain⟨u,w',rfl,r1,r2⟩:=vals2 r
 cases r1
 rw[hv.rel r2]
 exact sk I h1 h2 h3 h4 q
theorem nJ {v1 v2:V}{z y:Str}(hv:CV X z v1)(hw:CV X y v2):c8 X (.builtin "isinstance") (fun xs H Q=>∃ a p c C b,xs=[.ref a,.ref p]/\SqE X.K H a (.inr c)/\SqT X.K H p [v1,v2]/\PySem.W.nsIn X.K mainGlobals c.c=some (some (.ref C))/\ExcAt X.K C/\PySem.W.kitAny X.K (.ref C) [vv v1,vv v2]=some b/\Q (.bl b) H):=by
 intro pins s σ H xs us Q I r h
 obtain⟨a,p,c,C,b,rfl,h1,hp,h2,h3,h4,q⟩:=h
 obtain⟨u,w',rfl,r1,r2⟩:=vals2 r
 cases r1
 cases r2
 exact so I h1 h2 h3 hv hw hp h4 q
theorem lookup_mem {tb:List (Str×Bool)}{c:Str}{b:Bool}(h:tb.lookup c=some b):(c,b)∈tb:=by
 induction tb with
 | nil=>cases h
 | cons p r ih=>
  rw[List.lookup_cons] at h
  split at h
  ·rename_i hb
   cases h
   have:c=p.1:=eq_of_beq hb
   subst this
   exact List.mem_cons_self ..
  ·exact List.mem_cons_of_mem _ (ih h)
theorem yv (g:GOk Z CX cl xp X ex G){ns:List Nat}{tb:List (Str×Bool)}{e y:Expr}{p pos:Pos}{va:List Nat}{fa:Ev->Res D}(hg:G.gl.contains 14=true)(hn:notStar e=true)(hc:pC Z G ns y=true)(ht:tb.all (vX Z ns)=true)(ha:PE X e (RD X.K ex va fa)) :
  PE X (.Call (.Name "isinstance" p) [e,y] [] pos) (RD X.K ex va fun τ=>bnd (fa τ) (oR tb)):=by
 obtain⟨k1,k2,k3,k4⟩:=eQ g (show cN[14]? = some ("isinstance" : Str) from rfl) hg
 rw[List.all_eq_true] at ht
 cases ns with
 | nil=>exact ae hc
 | cons n r=>
 cases r with
 | nil=>
  obtain⟨z,p',rfl,hc'⟩:=gJ (show nmv (fun z=>cU Z G n z&&Z.cls.contains n) y=true from hc)
  rw[Bool.and_eq_true] at hc'
  obtain⟨v,hv,pv⟩:=pI (p:=p') g hc'.1 hc'.2
  obtain⟨_,j2,_,_⟩:=ez g hc'.1
  have pa:PA X [e,.Name z p'] (eX (RD X.K ex va fa) (eX (tC v) mU)):=cq ha (cq pv dw rfl) (aE hn _ _)
  refine b8 (eY (nH hv) k1 k2 PyProof.Rows.boot_isinstance pa k3 k4 (aE hn _ _) rfl) fun σ H Q ⟨S,τ,hs,q⟩=>?_
  refine cz (.refl _) hs (PO'.bnd q) fun x w H1 e1 _ m1 q1=>?_
  obtain⟨c,b,rfl,hl,q2⟩:=jU q1
  obtain⟨a,rfl,hx⟩:=m1.excR
  have hm:(c.c,n,b)∈Z.xt:=by simpa using show Z.xt.contains (c.c,n,b)=true from ht (c.c,b) (lookup_mem hl)
  obtain⟨C,h1,h2,h3⟩:=g.xcl c.c n b z hm j2
  exact⟨a,c,C,b,rfl,hx,h1,h2,h3 v hv,q2 _ _ e1 (.bl _)⟩
 | cons m r=>
 cases r with
 | cons _ _=>exact ae hc
 | nil=>
  obtain⟨es,tn,tpos,rfl,hc⟩:=vW (show tpv (yj fun a b=>nmv (fun z=>cU Z G n z&&Z.cls.contains n) a&&nmv (fun y=>cU Z G m y&&Z.cls.contains m) b) y=true from hc)
  cases es with
  | nil=>exact ae hc
  | cons z1 es=>
  cases es with
  | nil=>exact ae hc
  | cons z2 es=>
  cases es with
  | cons _ _=>exact ae hc
  | nil=>
  obtain⟨hc1,hc2⟩:=Bool.and_eq_true_iff.mp (show (nmv (fun z=>cU Z G n z&&Z.cls.contains n) z1&&nmv (fun y=>cU Z G m y&&Z.cls.contains m) z2)=true from hc)
  obtain⟨z,p',rfl,hd1⟩:=gJ hc1
  obtain⟨y,p2,rfl,hd2⟩:=gJ hc2
  rw[Bool.and_eq_true] at hd1 hd2
  obtain⟨v,hv,pv⟩:=pI (p:=p') g hd1.1 hd1.2
  obtain⟨w,hw,pw⟩:=pI (p:=p2) g hd2.1 hd2.2
  obtain⟨_,j2,_,_⟩:=ez g hd1.1
  obtain⟨_,i2,_,_⟩:=ez g hd2.1
  have pt:PE X (.Tuple [.Name z p',.Name y p2] tn tpos) _:=kI (cq pv (cq pw dw rfl) rfl)
  have pa:=cq ha (cq pt dw rfl) (aE hn _ _)
  refine b8 (eY (nJ hv hw) k1 k2 PyProof.Rows.boot_isinstance pa k3 k4 (aE hn _ _) rfl) fun σ H Q ⟨S,τ,hs,q⟩=>?_
  refine cz (.refl _) hs (PO'.bnd q) fun x w' H1 e1 _ m1 q1=>?_
  obtain⟨c,b,rfl,hl,q2⟩:=jU q1
  obtain⟨a,rfl,hx⟩:=m1.excR
  have hm':(Z.xt.contains (c.c,n,false)&&Z.xt.contains (c.c,m,b))=true:=ht (c.c,b) (lookup_mem hl)
  rw[Bool.and_eq_true] at hm'
  obtain⟨C,h1,h2,h3⟩:=g.xcl c.c n false z (by simpa using hm'.1) j2
  obtain⟨C',h1',h2',h3'⟩:=g.xcl c.c m b y (by simpa using hm'.2) i2
  rw[h1] at h1'
  cases h1'
  refine⟨(by decide:2<=sizeLine),fun pp hp=>⟨a,pp,c,C,b,rfl,(bO.upd hp).seqT hx,.inl (.inl bN),h1,h2,?_,q2 _ _ (e1.trans (.upd hp)) (.bl _)⟩⟩
  have a1:=h3 v hv
  have a2:=h3' w hw
  unfold PySem.W.kitAny
  rw[a1]
  unfold PySem.W.kitAny
  rw[a2]
  cases b<;>rfl
end
section
variable {Z:Sg}{CX:CXT}{cl:Nat->List D->Res D}{xp:XK->Hp->EX->Prop}{X:Cx}{ex:EX->Prop}{G:Gm}
theorem lW {K:PySem.W.Frag}{S:Addr->Prop}{H:Hp}{w:V}{y:D}{q:Key}(m:HRep K S H w y)(h:ib y=some q):w=kV q:=by
 induction y using zD with
 | int i=>cases h;cases m.intR;rfl
 | str x=>cases h;cases m.strR;rfl
 | _=>cases h
theorem pJ {K:PySem.W.Frag}{S:Addr->Prop}{H:Hp}(q:Key):∀ (kvs:List (Key×V)) (ds:List D),HReps K S H (kvs.map (·.2)) ds->
  (∀ d,look (kvs.map (·.1)) ds q=some d->∃ v,fK kvs q=some v/\HRep K S H v d)/\(look (kvs.map (·.1)) ds q).isSome=(fK kvs q).isSome:=by
 intro kvs
 induction kvs with
 | nil=>intro ds _;exact⟨fun d h=>(by cases h),rfl⟩
 | cons p kvs ih=>
  intro ds m
  rw[List.map_cons] at m
  cases ds with
  | nil=>exact absurd m.length (by simp)
  | cons d ds=>
   cases m with
   | cons m1 m2=>
    obtain⟨i1,i2⟩:=ih ds m2
    have e1:look ((p::kvs).map (·.1)) (d::ds) q=if p.1=q then some d else look (kvs.map (·.1)) ds q:=rfl
    rw[e1]
    unfold fK at i1 i2 ⊢
    rw[List.find?_cons]
    by_cases h:p.1=q
    ·rw[if_pos h,decide_eq_true h]
     exact⟨fun d' z=>⟨p.2,rfl,by cases z;exact m1⟩,rfl⟩
    ·rw[if_neg h,decide_eq_false h]
     exact⟨i1,i2⟩
theorem HRep.dctR {K:PySem.W.Frag}{S:Addr->Prop}{H:Hp}{v:V}{o:Bool}{ks:List Key}{ds:List D}(h:HRep K S H v (.dct o ks ds)):∃ a kvs,v=.ref a/\Rd H a (.dK kvs)/\kvs.map (·.1)=ks/\HReps K S H (kvs.map (·.2)) ds:=by
 cases h with
 | dct h0 h1 h2 h3=>exact⟨_,_,rfl,h1,h2,h3⟩
theorem v8 {pos:Pos}:PE X (.Dict [] [] pos) (RD X.K ex [] (evR cl .dnew)):=by
 refine b8 jE fun σ H Q ⟨S,τ,hs,q⟩=>fun p hp=>?_
 exact q.ok _ _ (.upd hp) (.dct (kvs:=[]) (.inr hp) (.inl bN) rfl .nil)
theorem v9 (g:GOk Z CX cl xp X ex G){a b:Expr}{pos:Pos}{va vb:List Nat}{fa fb:Ev->Res D}(ha:PE X a (RD X.K ex va fa))(hb:PE X b (RD X.K ex vb fb))(hp:cY b=true) :
  PE X (.Subscript a b pos) (RD X.K ex (va++vb) fun τ=>bnd (fa τ) fun x=>bnd (fb τ) fun y=>jK x y):=by
 have hu:=g.un
 refine b8 (rQ (by omega) ha hb fun o i=>by cases b<;>first|rfl|cases hp) fun σ H Q ⟨S,τ,hs,q⟩=>?_
 refine cz (.refl _) hs.left (PO'.bnd q) fun x v H1 e1 _ m1 q1=>?_
 refine cz e1 hs.right (PO'.bnd q1) fun y w H2 e2 e2' m2 q2=>?_
 induction x using zD with
 | dct o ks ds=>
  have q3:PO' ex (match ib y with|some q=>(match look ks ds q with|some d=>.ok d|none=>stk)|none=>stk) (Kk X.K S H Q):=q2
  cases hk:ib y with
  | none=>rw[hk] at q3;exact q3.no.elim
  | some k=>
   simp only[hk] at q3
   obtain⟨p,kvs,rfl,h1,rfl,h3⟩:=(m1.later e2').dctR
   cases hl:look (kvs.map (·.1)) ds k with
   | none=>rw[hl] at q3;exact q3.no.elim
   | some d=>
    rw[hl] at q3
    obtain⟨v,hv,mv⟩:=(pJ k kvs ds h3).1 d hl
    exact⟨p,v,rfl,.inl ⟨kvs,k,h1,lW m2 hk,hv.symm⟩,q3.ok _ _ e2 mv⟩
 | _=>exact q2.no.elim
end
section
variable {Z:Sg}{CX:CXT}{cl:Nat->List D->Res D}{xp:XK->Hp->EX->Prop}{X:Cx}{ex:EX->Prop}{G:Gm}
theorem wa (g:GOk Z CX cl xp X ex G){e:Expr}{p p' pos pos':Pos}{va:List Nat}{fa:Ev->Res D}(h1:G.gl.contains 0=true)(h2:G.gl.contains 12=true)(hn:notStar e=true)(hcm:G.cm=true)(ha:PE X e (RD X.K ex va fa)) :
  PE X (.Call (.Name "len" p) [.Call (.Name "set" p') [e] [] pos'] [] pos) (RD X.K ex va fun τ=>bnd (fa τ) lL):=by
 obtain⟨k1,k2,k3,k4⟩:=eQ g (show cN[0]? = some ("len" : Str) from rfl) h1
 obtain⟨j1,j2,j3,j4⟩:=eQ g (show cN[12]? = some ("set" : Str) from rfl) h2
 refine b8 (rT (g.calm hcm) k1 k2 j1 j2 ha fun es=>aE hn es X.env) fun σ H Q ⟨S,τ,hs,q⟩=>?_
 refine cz (.refl _) hs (PO'.bnd q) fun x v H1 e1 _ m1 q1=>?_
 induction x using zD with
 | tup ds=>
  obtain⟨a,ys,rfl,qq,m⟩:=m1.tupR
  have q2:PO' ex (match cJ ds with|some ns=>grd (decide (ns.length < 1000)) (.ok (.int ((ns.foldl Sx.dd []).length:Nat)))|none=>stk) (Kk X.K S H Q):=q1
  cases z:cJ ds with
  | none=>rw[z] at q2;exact q2.no.elim
  | some ns=>
   rw[z] at q2
   obtain⟨gd,q3⟩:=PO'.grd q2
   rw[dX z] at m
   rw[m.strs] at qq
   exact⟨a,ns,rfl,qq,of_decide_eq_true gd,q3.ok _ _ e1 (.int _)⟩
 | _=>exact q1.no.elim
theorem sy {o:Expr}{x:Str}{pos:Pos}{t:TE}(hb:attributeBase o x X.env (eval o X.env)=eval o X.env)(he:PE X o t) :
  PE X (.Attribute o x pos) (fun σ H Q=>t σ H fun v H1=>∃ a C fI oe dx tt od vs,v=.ref a/\H1 a=some (.frz oe XU)/\oe.cls=.ref C/\oe.data=.fields vs/\ExcI X.K C fI x/\oe.dict=some dx/\H1 dx=some (.frz od XU)/\NsO od x (.ref tt)/\Q (.ref tt) H1):=by
 intro pins s σ H Q I h
 refine rD hb (thn (he pins s σ H _ I h) fun u s1 ⟨v,H1,I1,rv,a,C,fI,oe,dx,tt,od,vs,ev,h1,h2,h3,h4,h5,h6,h7,q⟩=>?_)
 subst ev
 cases rv
 exact su h4 I1.kIn (I1.hok a _ h1).1 h2 (by unfold PySem.W.notCls;rw[h3]) h5 (h7 _ _ (I1.hok dx _ h6).1) (if_pos rfl) rfl ⟨.ref tt,H1,I1.tok _,rfl,q⟩
theorem yy (g:GOk Z CX cl xp X ex G){o:Expr}{x:Str}{cs:List Str}{pos:Pos}{va:List Nat}{fa:Ev->Res D}(hn:isNm o=true)(hx:cs.all (fun c=>Z.rc.any fun p=>p.2 == (c,x))=true)(ha:PE X o (RD X.K ex va fa)):PE X (.Attribute o x pos) (RD X.K ex va fun τ=>bnd (fa τ) (oS x cs)):=by
 refine b8 (sy (by cases o<;>first|rfl|cases hn) ha) fun σ H Q ⟨S,τ,hs,q⟩=>?_
 refine cz (.refl _) hs (PO'.bnd q) fun d v H1 e1 _ m1 q1=>?_
 induction d using zD with
 | exc c=>
  obtain⟨gd,q2⟩:=PO'.grd (show PO' ex (grd (c.x == x&&cs.contains c.c) (.ok (.tup (c.ts.map .str)))) (Kk X.K S H Q) from q1)
  rw[Bool.and_eq_true] at gd
  have ex':c.x=x:=eq_of_beq gd.1
  subst ex'
  have hm:=List.all_eq_true.mp hx c.c (by simpa using gd.2)
  obtain⟨⟨n,c',x'⟩,h1,h2⟩:=List.any_eq_true.mp hm
  cases eq_of_beq h2
  obtain⟨C,fI,h3,h4⟩:=g.xrs n c.c c.x h1
  obtain⟨a,rfl,C',oe,vs,k0,k1,k2,k3,k4,d,tt,od,k5,k6,k7,k8⟩:=m1.excR
  rw[h3] at k0
  cases k0
  exact⟨a,C,fI,oe,d,tt,od,vs,rfl,k2,k3,k4,h4,k5,k6,k7,q2.ok _ _ e1 (.tup k8 (HReps.ofStrs _))⟩
 | _=>exact q1.no.elim
theorem wb (g:GOk Z CX cl xp X ex G){o s:Expr}{apos cpos:Pos}{va vb:List Nat}{fa fb:Ev->Res D}(hn:isNm o=true)(hl:(apos.endLine == cpos.line)=true)(h1:notStar s=true)(ha:PE X o (RD X.K ex va fa))(hb:PE X s (RD X.K ex vb fb)) :
  PE X (.Call (.Attribute o "index" apos) [s] [] cpos) (RD X.K ex (va++vb) fun τ=>bnd (fa τ) fun x=>grd (kP x) (bnd (fb τ) fun y=>jL x y)):=by
 have htr:backTo cpos (starEach [s] X.env)=[(false,eval s X.env)]:=by rw[aE h1];rfl
 have pa:PA X [s] (eX (RD X.K ex vb fb) mU):=cq hb dw (aE h1 _ _)
 refine b8 (oy PySem.F.plainAttrs_list PySem.F.slot_list_index PySem.F.type_list_index rU ha pa (by cases o<;>first|rfl|cases hn) (by rw[htr];rfl) hl (aE h1 [] X.env) rfl) fun σ H Q ⟨S,τ,hs,q⟩=>?_
 refine cz (.refl _) hs.left (PO'.bnd q) fun x v H1 e1 _ m1 q1=>?_
 obtain⟨gd,q1⟩:=PO'.grd q1
 induction x using zD with
 | lst o ds=>
  obtain⟨a,ys,rfl,qq,m⟩:=m1.lstR
  refine⟨.inl ⟨rfl,_,qq⟩,cz e1 hs.right (PO'.bnd q1) fun y w H2 e2 e2' m2 q2=>?_⟩
  induction y using zD with
  | str y=>
   cases m2.strR
   have q3:PO' ex (match cJ ds with|some ns=>(match f7 y ns with|some j=>.ok (.int j)|none=>stk)|none=>stk) (Kk X.K S H Q):=q2
   cases z:cJ ds with
   | none=>rw[z] at q3;exact q3.no.elim
   | some ns=>
    rw[z] at q3
    have q3:PO' ex (match f7 y ns with|some j=>.ok (.int j)|none=>stk) (Kk X.K S H Q):=q3
    cases z':f7 y ns with
    | none=>rw[z'] at q3;exact q3.no.elim
    | some j=>
     rw[z'] at q3
     rw[dX z] at m
     rw[m.strs] at qq
     refine⟨a,ns,y,j,rfl,?_,rfl,z',q3.ok _ _ e2 (.int _)⟩
     rcases qq with qq|qq
     ·exact .inl (e2'.rd qq)
     ·exact .inr qq
  | _=>exact q2.no.elim
 | _=>cases gd
end
section
variable {prog:Program}{w:World}{A:Around}{E:Value->Shared->Prop}{s:Shared}
theorem gK {it t:Addr}{items:Array Value}(hne:t≠it):∀ (n i:Nat) (s:Shared) (Q:List Value->Shared->Prop),s.heap.IsListIter it t i->s.heap.IsList t items->i+n<=items.size->
  (∀ h',h'.IsListIter it t (i+n)->Heap.SameBut it s.heap h'->Q ((items.toList.drop i).take n) {s with heap:=h'})->wpAny (model prog w) A (draw (.ref it) n) Q E s
 | 0,i,s,Q,hit,_,_,hQ=>by
  show wpAny _ _ (pure []) Q E s
  exact wpAny_pure (by simpa using hQ s.heap hit (Heap.SameBut.refl ..))
 | n+1,i,s,Q,hit,ht,hle,hQ=>by
  have hlt:i < items.size:=by omega
  show wpAny _ _ (pyNext (.ref it) >>= _) Q E s
  refine wpAny_bind (wpAny_pyNext_list_item hit ht (x:=items[i]) (by simp[hlt]) fun h₁ hit₁ hs₁=>?_)
  refine wpAny_bind (wpAny_holding (gK hne n (i+1) _ _ hit₁ (ht.extBut hs₁.extBut hne) (by omega) fun h₂ hit₂ hs₂=>wpAny_pure ?_))
  have hd:items.toList.drop i=items[i]::items.toList.drop (i+1):=by simp[List.drop_eq_getElem_cons,hlt]
  have:=hQ h₂ (by rw[show i+(n+1)=i+1+n by omega];exact hit₂) (hs₁.trans hs₂)
  rw[hd,List.take_succ_cons] at this
  exact this
theorem fS {t:Addr}{items:Array Value}{Q:List Value->Shared->Prop}(hh:A.handled=none)(ht:s.heap.IsList t items)
  (hQ:∀ h',Heap.ExtBut s.heap.objs.size s.heap h'->Q items.toList {s with heap:=h'}):wpAny (model prog w) A (unpackItems (.ref t) items.size none) Q E s:=by
 have hlt:t≠s.heap.objs.size:=by obtain⟨o,ho,_⟩:=ht;exact Nat.ne_of_lt (Heap.lt_size ho)
 have push:∀ o,(s.heap.push o).IsList t items:=fun o=>by
  obtain⟨ob,e,c,n,d⟩:=ht
  exact⟨ob,Heap.get?_push_of_some _ e,c,n,d⟩
 unfold unpackItems
 refine wpAny_bind ?_
 ·unfold notIterableAtAll
  refine wpAny_bind (wpAny_specialOf ht.typeIs slot_list_iter.lookup ?_)
  refine wpAny_pure ?_
  simp only[Bool.false_eq_true,if_false]
  refine wpAny_bind (wpAny_holding (wpAny_pyIter_list ht ?_))
  refine wpAny_bind (wpAny_holding (gK hlt items.size 0 _ _ ⟨_,Heap.get?_push_size _ rfl,rfl,rfl⟩ (push _) (by omega) fun h₁ hit₁ hs₁=>?_))
  have hall:List.take items.size (List.drop 0 items.toList)=items.toList:=by
   rw[List.drop_zero];exact List.take_of_length_le (by simp)
  rw[hall]
  rw[if_neg (by simp)]
  have ht₁:h₁.IsList t items:=(push _).extBut hs₁.extBut hlt
  refine wpAny_bind (wpAny_holding (wpAny_pyNext_list_end hh hit₁ ht₁ (by simp) fun h₂ he₂=>?_))
  simp only[Option.isSome_none,Bool.false_eq_true,if_false]
  refine wpAny_pure (hQ h₂ fun b o hb e=>he₂ b o hb (hs₁.extBut b o hb (Heap.get?_push_of_some _ e)))
end
def yz (K:PySem.W.Frag)(n:Nat)(t:TGs):TG:=fun v σ H Q=>∃ a xs,v=.ref a/\(SqT K H a xs∨SqL K H a xs)/\xs.length=n/\t xs σ H Q
theorem wc {X:Cx}{pos:Pos}{es:List Expr}{k:Nat}{t:TGs}{n:Nat}(hc:X.calm=true)(h:PGs X es t)(hn:(assignEach es X.env).length=n)(hst:(assignEach es X.env).findIdx? (·.1)=none):PG X (.Tuple es k pos) (yz X.K n t):=by
 intro pins s σ H v u Q I r hw
 obtain⟨a,xs,e1,hq,hl,hw⟩:=hw
 subst e1
 cases r
 rcases hq with hq|hq
 ·obtain⟨its,rv,ht,hz⟩:=I.tuple hq
  refine assign_Tuple_tuple (I.ok.hd hc) ht (by simp[hn,<- hl,rv.length]) hst fun h' hx=>?_
  have I1:Inv X pins σ H {s with heap:=h'}:=I.kept (t':=s.toks) fun b o e=>hx b o (Nat.ne_of_lt (Heap.lt_size e)) e
  exact h pins _ σ H xs _ Q I1 (by simpa using rv) hw
 ·obtain⟨its,rv,pl,hz⟩:=I.list hq
  rw[assign_Tuple]
  refine wpAny_bind (wpAny_standAt ?_)
  unfold unpack
  have hlen:(assignEach es X.env).length=its.toArray.size:=by simp[hn,<- hl,rv.length]
  rw[hlen,hst]
  refine wpAny_bind (wpAny_holding (fS (I.ok.hd hc) pl.isList fun h' hx=>?_))
  have I1:Inv X pins σ H {s with heap:=h'}:=I.kept (t':=s.toks) fun b o e=>hx b o (Nat.ne_of_lt (Heap.lt_size e)) e
  exact h pins _ σ H xs _ Q I1 (by simpa using rv) hw
mutual
def gT (K:PySem.W.Frag):Tg->TG
 | .nm i=>nY i
 | .tp ts=>yz K ts.length (gTs K ts)
def gTs (K:PySem.W.Frag):List Tg->TGs
 | []=>xP
 | t::ts=>tH (gT K t) (gTs K ts)
end
theorem fA {e:Expr}(h:notStar e=true)(es:List Expr)(env:Env):assignEach (e::es) env=(false,assign e env)::assignEach es env:=by
 induction e using zE<;>first|rfl|cases h
section
variable {Z:Sg}{CX:CXT}{cl:Nat->List D->Res D}{xp:XK->Hp->EX->Prop}{X:Cx}{ex:EX->Prop}{G:Gm}
theorem gL (G:Gm):∀ {ts:List Tg}{es:List Expr} (env:Env),eP G ts es=true->(assignEach es env).length=ts.length/\(assignEach es env).findIdx? (·.1)=none
 | [],[],_,_=>⟨rfl,rfl⟩
 | t::ts,e::es,env,h=>by
  have h':(notStar e&&dH G t e&&eP G ts es)=true:=h
  simp only[Bool.and_eq_true] at h'
  obtain⟨h1,h2⟩:=gL G (ts:=ts) (es:=es) env h'.2
  rw[fA h'.1.1]
  refine⟨by rw[List.length_cons,h1,List.length_cons],?_⟩
  rw[List.findIdx?_cons,if_neg (by simp),h2]
  rfl
 | [],_::_,_,h=>by cases h
 | _::_,[],_,h=>by cases h
mutual
theorem pgT (g:GOk Z CX cl xp X ex G):∀ (t:Tg) (e:Expr),dH G t e=true->PG X e (gT X.K t)
 | .nm i,e,h=>by
  induction e using zE with
  | Name x pos=>
   have h':(G.N[i]? == some x&&(G.kd[i]? == some .local||(G.df&&G.kd[i]? == some .cell)))=true:=(Bool.and_eq_true_iff.mp h).1
   rw[Bool.and_eq_true,Bool.or_eq_true,Bool.and_eq_true] at h'
   obtain⟨h1,h2⟩:=h'
   have hx:G.N[i]? = some x:=eq_of_beq h1
   have hk:=g.kd i x hx
   refine rq (by rw[g.N];exact g.nod) (by rw[g.N];exact hx) ?_ ?_
   ·rcases h2 with h2|h2
    ·exact .inl (hk.trans (eq_of_beq h2))
    ·exact .inr (hk.trans (eq_of_beq h2.2))
   ·rcases h2 with h2|h2
    ·exact .inr (hk.trans (eq_of_beq h2))
    ·exact .inl (g.df h2.1 x)
  | _=>cases h
 | .tp ts,e,h=>by
  induction e using zE with
  | Tuple es k pos=>
   have h0:(G.cm&&eP G ts es)=true:=h
   rw[Bool.and_eq_true] at h0
   have h':=h0.2
   obtain⟨h1,h2⟩:=gL G X.env h'
   exact wc (g.calm h0.1) (yB g ts es h') h1 h2
  | _=>cases h
theorem yB (g:GOk Z CX cl xp X ex G):∀ (ts:List Tg) (es:List Expr),eP G ts es=true->PGs X es (gTs X.K ts)
 | [],[],_=>rz
 | t::ts,e::es,h=>by
  have h':(notStar e&&dH G t e&&eP G ts es)=true:=h
  simp only[Bool.and_eq_true] at h'
  exact nZ (pgT g t e h'.1.2) (yB g ts es h'.2) (by rw[fA h'.1.1];rfl)
 | [],_::_,h=>by cases h
 | _::_,[],h=>by cases h
end
end
mutual
theorem fB {G:Gm}:∀ (t:Tg) (e:Expr),dH G t e=true->∀ j∈tgs t,G.io≠some j
 | .nm i,e,h,j,hj=>by
  induction e using zE with
  | Name x pos=>
   have h':=(Bool.and_eq_true_iff.mp (show ((G.N[i]? == some x&&(G.kd[i]? == some .local||(G.df&&G.kd[i]? == some .cell)))&&G.io != some i)=true from h)).2
   have e:j=i:=by simpa[tgs] using hj
   subst e
   simpa using h'
  | _=>cases h
 | .tp ts,e,h,j,hj=>by
  induction e using zE with
  | Tuple es k pos=>
   have h0:(G.cm&&eP G ts es)=true:=h
   exact jV ts es (Bool.and_eq_true_iff.mp h0).2 j hj
  | _=>cases h
theorem jV {G:Gm}:∀ (ts:List Tg) (es:List Expr),eP G ts es=true->∀ j∈jS ts,G.io≠some j
 | [],_,_,j,hj=>by cases hj
 | t::ts,[],h,_,_=>by cases h
 | t::ts,e::es,h,j,hj=>by
  have h':(notStar e&&dH G t e&&eP G ts es)=true:=h
  simp only[Bool.and_eq_true] at h'
  rcases List.mem_append.mp (show j∈tgs t++jS ts from hj) with hj|hj
  ·exact fB t e h'.1.2 j hj
  ·exact jV ts es h'.2 j hj
end
def SlA (K:PySem.W.Frag)(S:Addr->Prop)(H:Hp)(σ:St)(τ:Ev):Prop:=τ.length=σ.length/\∀ i d,bo τ i=some d->∃ v,σ[i]? = some (some v)/\HRep K S H v d
theorem nK {τ:Ev}{i j:Nat}{o:Option D}:bo (τ.set i o) j=if i=j/\i < τ.length then o else bo τ j:=by
 unfold bo
 rw[List.getElem?_set]
 by_cases h:i=j
 ·subst h
  by_cases h2:i < τ.length
  ·simp[h2]
  ·rw[if_pos rfl,if_neg h2,if_neg (by omega)]
   rw[List.getElem?_eq_none (by omega)]
 ·rw[if_neg h,if_neg (by omega)]
section
variable {K:PySem.W.Frag}{S:Addr->Prop}{H:Hp}{ex:EX->Prop}
mutual
theorem lX:∀ (t:Tg) {σ:St}{τ:Ev}{v:V}{d:D}{Kt:Ev->Prop}{Q:St->Hp->Prop},SlA K S H σ τ->HRep K S H v d->PO' ex (dz t d τ) Kt->
  (∀ τ' σ',SlA K S H σ' τ'->σ'.length=σ.length->(∀ j,j∉tgs t->σ'[j]? = σ[j]?)->Kt τ'->Q σ' H)->gT K t v σ H Q
 | .nm i,σ,τ,v,d,Kt,Q,hs,m,h,k=>by
  refine k (τ.set i (some d)) (σ.set i (some v)) ⟨by rw[List.length_set,List.length_set,hs.1],fun j e z=>?_⟩ (by rw[List.length_set]) (fun j hj=>?_) h.ok
  ·rw[nK] at z
   by_cases q:i=j/\i < τ.length
   ·rw[if_pos q] at z
    obtain⟨rfl,q⟩:=q
    cases z
    exact⟨v,by rw[List.getElem?_set_self (by rw[<- hs.1];exact q)],m⟩
   ·rw[if_neg q] at z
    obtain⟨w,h1,h2⟩:=hs.2 j e z
    refine⟨w,?_,h2⟩
    by_cases q2:i=j
    ·subst q2
     exfalso
     have:i < σ.length:=by
      have:=(List.getElem?_eq_some_iff.mp h1).1
      exact this
     exact q ⟨rfl,by rw[hs.1];exact this⟩
    ·rw[List.getElem?_set_ne q2];exact h1
  ·have:i≠j:=fun z=>hj (by subst z;simp[tgs])
   rw[List.getElem?_set_ne this]
 | .tp ts,σ,τ,v,d,Kt,Q,hs,m,h,k=>by
  induction d using zD with
  | tup ds=>
   obtain⟨a,xs,rfl,q,ms⟩:=m.tupR
   obtain⟨g,h⟩:=PO'.grd h
   have g':ds.length=ts.length:=of_decide_eq_true g
   exact⟨a,xs,rfl,.inl q,by rw[ms.length,g'],gM ts hs ms h k⟩
  | lst o ds=>
   obtain⟨a,xs,rfl,q,ms⟩:=m.lstR
   obtain⟨g,h⟩:=PO'.grd h
   have g':ds.length=ts.length:=of_decide_eq_true g
   exact⟨a,xs,rfl,.inr q,by rw[ms.length,g'],gM ts hs ms h k⟩
  | _=>exact h.no.elim
theorem gM:∀ (ts:List Tg) {σ:St}{τ:Ev}{vs:List V}{ds:List D}{Kt:Ev->Prop}{Q:St->Hp->Prop},SlA K S H σ τ->HReps K S H vs ds->PO' ex (fg ts ds τ) Kt->
  (∀ τ' σ',SlA K S H σ' τ'->σ'.length=σ.length->(∀ j,j∉jS ts->σ'[j]? = σ[j]?)->Kt τ'->Q σ' H)->gTs K ts vs σ H Q
 | [],σ,τ,vs,ds,Kt,Q,hs,m,h,k=>by
  cases m with
  | nil=>exact⟨rfl,k τ σ hs rfl (fun _ _=>rfl) h.ok⟩
  | cons _ _=>exact h.no.elim
 | t::ts,σ,τ,vs,ds,Kt,Q,hs,m,h,k=>by
  cases m with
  | nil=>exact h.no.elim
  | cons m1 m2=>
   refine⟨_,_,rfl,lX t hs m1 (PO'.bnd h) fun τ' σ' hs' hn hk h'=>?_⟩
   refine gM ts hs' m2 h' fun τ'' σ'' hs'' hn' hk' h''=>k τ'' σ'' hs'' (hn'.trans hn) (fun j hj=>?_) h''
   have hj':j∉tgs t/\j∉jS ts:=by
    constructor<;>(intro z;apply hj;simp[jS,z])
   rw[hk' j hj'.2,hk j hj'.1]
end
end
section
variable {K:PySem.W.Frag}{S S':Addr->Prop}{H H':Hp}{J:It}{ds:List D}
theorem WS.step (hl:∀ a (u:LD),S a->Rd H a u.o->S' a/\Rd H' a u.o)(ht:∀ a xs,SqE K H a xs->SqE K H' a xs){k:Zp.Kq}{a:Addr}{xs:List V}(h:WS K S H k a xs):WS K S' H' k a xs:=by
 cases k with
 | l=>exact h.elim (fun z=>.inl (hl _ (.l _) z.1 z.2)) fun z=>.inr z
 | t=>exact ht _ (.inl _) h
theorem jW (ds es:List D):(fM ds es).length=min ds.length es.length:=by unfold fM;rw[List.length_zipWith]
theorem Wlk.step (hl:∀ a (u:LD),S a->Rd H a u.o->S' a/\Rd H' a u.o)(ht:∀ a xs,SqE K H a xs->SqE K H' a xs)(h:Wlk K S H J ds):Wlk K S' H' J ds:=by
 cases h with
 | lst h0 h1 h2=>exact .lst (hl _ (.l _) h0 h1).1 (hl _ (.l _) h0 h1).2 (h2.step hl ht)
 | lstK h1 h2=>exact .lstK h1 (h2.step hl ht)
 | tup h1 h2=>exact .tup (ht _ (.inl _) h1) (h2.step hl ht)
 | rng lo hi=>exact .rng lo hi
 | str x=>exact .str x
 | zip h1 h2 h3 h4=>exact .zip (h1.step hl ht) (h2.step hl ht) (h3.step hl ht) (h4.step hl ht)
theorem Wlk.mono (h:Wlk K S H J ds)(hS:∀ a,S a->S' a)(e:bO H H'):Wlk K S' H' J ds:=h.step (fun a xs s r=>⟨hS a s,e.rd r⟩) fun a xs s=>e.seqT s
theorem gP (x:Str):(dm x).length=x.cps.size:=by unfold dm;simp
theorem dv (a b:Int):(dy a b).length=(b - a).toNat:=by unfold dy;simp
theorem Wlk.stop (h:Wlk K S H J ds){i:Nat}(hi:ds.length=i):J.stop i H:=by
 cases h with
 | lst h0 h1 h2=>exact⟨_,.inl h1,by rw[h2.length];omega⟩
 | lstK h1 h2=>exact⟨_,h1.sq,by rw[h2.length];omega⟩
 | tup h1 h2=>exact⟨_,h1,by rw[h2.length];omega⟩
 | rng lo hi'=>rw[dv] at hi;exact Nat.le_of_eq hi
 | str x=>rw[gP] at hi;exact Nat.le_of_eq hi
 | zip h1 h2 h3 h4=>exact⟨_,_,h1.sq,h2.sq,by rw[jW] at hi;rw[h3.length,h4.length];omega⟩
theorem Wlk.go (h:Wlk K S H J ds){i:Nat}(hi:i < ds.length):J.go i H:=by
 cases h with
 | lst h0 h1 h2=>obtain⟨v,hv,_⟩:=h2.get (i:=i) (d:=ds[i]) (by simp[hi]);exact⟨_,v,.inl h1,hv⟩
 | lstK h1 h2=>obtain⟨v,hv,_⟩:=h2.get (i:=i) (d:=ds[i]) (by simp[hi]);exact⟨_,v,h1.sq,hv⟩
 | tup h1 h2=>obtain⟨v,hv,_⟩:=h2.get (i:=i) (d:=ds[i]) (by simp[hi]);exact⟨_,v,h1,hv⟩
 | rng lo hi'=>rw[dv] at hi;exact hi
 | str x=>rw[gP] at hi;exact hi
 | zip h1 h2 h3 h4=>
  rename_i ds' es'
  rw[jW] at hi
  obtain⟨v,hv,_⟩:=h3.get (i:=i) (d:=ds'[i]) (by rw[List.getElem?_eq_getElem])
  obtain⟨u,hu,_⟩:=h4.get (i:=i) (d:=es'[i]) (by rw[List.getElem?_eq_getElem])
  exact⟨_,_,v,u,h1.sq,h2.sq,hv,hu⟩
theorem Wlk.yld (h:Wlk K S H J ds){i:Nat}{x:V}{H2:Hp}(y:J.yld i H x H2){d:D}(hd:ds[i]? = some d):bO H H2/\HRep K S H2 x d:=by
 have fin:∀ {xs:List V},HReps K S H xs ds->xs[i]? = some x->HRep K S H x d:=fun m e=>by
  obtain⟨d',e',m'⟩:=m.getV e
  rw[hd] at e';cases e';exact m'
 cases h with
 | lst h0 h1 h2=>obtain⟨e,y⟩:=y;subst e;exact⟨.refl _,fin h2 (y _ (.inl h1))⟩
 | lstK h1 h2=>obtain⟨e,y⟩:=y;subst e;exact⟨.refl _,fin h2 (y _ h1.sq)⟩
 | tup h1 h2=>obtain⟨e,y⟩:=y;subst e;exact⟨.refl _,fin h2 (y _ h1)⟩
 | zip h1 h2 h3 h4=>
  obtain⟨T,a,b,e1,hT,e2,hy⟩:=y
  subst e1 e2
  obtain⟨y1,y2⟩:=hy _ _ h1.sq h2.sq
  obtain⟨d1,g1,m1⟩:=h3.getV y1
  obtain⟨d2,g2,m2⟩:=h4.getV y2
  unfold fM at hd
  rw[List.getElem?_zipWith,g1,g2] at hd
  cases hd
  have e:bO H (upd H T (.tup [a,b])):=.upd hT
  exact⟨e,.tup (SqT.of bN) (.cons (m1.mono (fun _ z=>z) e) (.cons (m2.mono (fun _ z=>z) e) .nil))⟩
 | rng lo hi'=>
  obtain⟨e1,e2⟩:=y
  subst e1
  refine⟨.refl _,?_⟩
  subst e2
  unfold dy at hd
  rw[List.getElem?_map] at hd
  have hi:i < (hi' - lo).toNat:=by
   have:=(Option.map_eq_some_iff.mp hd)
   obtain⟨z,h1,_⟩:=this
   have:=(List.getElem?_eq_some_iff.mp h1).1
   simpa using this
  rw[List.getElem?_range hi] at hd
  cases hd
  exact .int _
 | str x=>
  obtain⟨e1,c,h1,e2⟩:=y
  subst e1
  refine⟨.refl _,?_⟩
  subst e2
  unfold dm at hd
  rw[List.getElem?_map] at hd
  have h2:x.cps.toList[i]? = some c:=by simpa using h1
  rw[h2] at hd
  cases hd
  exact .str _
end
section
variable {Z:Sg}{CX:CXT}{cl:Nat->List D->Res D}{xp:XK->Hp->EX->Prop}{X:Cx}{ex:EX->Prop}{G:Gm}{K:PySem.W.Frag}{S:Addr->Prop}{H H1:Hp}{σ:St}{τ:Ev}
theorem yC {is:List Nat}{f:Ev->Res (List D)}{Kt:List D->Prop}{R:It->Hp->Prop}(e:bO H H1)(hs:Slots K S H σ τ is)(h:PO' ex (f τ) Kt)(k:∀ ds J H2,bO H H2->bO H1 H2->Wlk K (nw S H) H2 J ds->Kt ds->R J H2):RI K ex is f σ H1 R:=
 ⟨nw S H,τ,hs.go e,h.mono fun x hx J H2 e2 m=>k x J H2 (e.trans e2) e2 (m.mono (iG e) (.refl _)) hx⟩
theorem lY {tg:Expr}{pins:List (Addr×Obj)}{s:Shared}{a:Addr}{xs:List V}{R:It->Hp->Prop}(I:Inv X pins σ H s)(hq:SqL X.K H a xs)(q:R (Itl X.K a) H):wpAny (model X.prog X.w) X.A (pyIter (.ref a)) (PIE X pins σ tg R) X.xe s:=by
 obtain⟨its,rv,p,hz⟩:=I.list hq
 refine wpAny_pyIter_list p.isList ?_
 refine⟨s.heap.objs.size,[s.heap.objs.size],_,_,H,rfl,I.kept (t':=s.toks) fun b o e=>Heap.get?_push_of_some _ e,mP a _,⟨_,Heap.get?_push_size _ rfl,rfl,rfl⟩,fun b hb=>?_,q⟩
 have e:b=s.heap.objs.size:=by simpa using hb
 subst e
 exact I.fpOk (Nat.le_refl _) (I.hok.fresh (Nat.le_refl _))
theorem pK {tg:Expr}{pins:List (Addr×Obj)}{s:Shared}{a:Addr}{xs:List V}{R:It->Hp->Prop}(I:Inv X pins σ H s)(hq:SqT X.K H a xs)(q:R (Itt X.K a) H):wpAny (model X.prog X.w) X.A (pyIter (.ref a)) (PIE X pins σ tg R) X.xe s:=by
 obtain⟨its,rv,p,hz⟩:=I.tuple hq
 refine wpAny_pyIter_tuple (show s.heap.IsTuple a its.toArray from p) ?_
 refine⟨s.heap.objs.size,[s.heap.objs.size],_,_,H,rfl,I.kept (t':=s.toks) fun b o e=>Heap.get?_push_of_some _ e,kE a _,⟨_,Heap.get?_push_size _ rfl,rfl,rfl⟩,fun b hb=>?_,q⟩
 have e:b=s.heap.objs.size:=by simpa using hb
 subst e
 exact I.fpOk (Nat.le_refl _) (I.hok.fresh (Nat.le_refl _))
theorem yD {tg e:Expr}{va:List Nat}{fa:Ev->Res D}(ha:PE X e (RD X.K ex va fa)):PI X tg e (RI X.K ex va fun τ=>bnd (fa τ) fL):=by
 intro pins s σ H R I h
 obtain⟨S,τ,hs,q⟩:=h
 refine thn (ha pins s σ H (fun v H'=>∃ d,bO H H'/\HRep X.K (nw S H) H' v d/\_) I (cz (.refl _) hs (PO'.bnd q) fun x v H1 e1 _ m1 q1=>⟨x,e1,m1,q1⟩)) fun v s1 ⟨x,H1,I1,r1,d,e1,m1,q1⟩=>?_
 induction d using zD with
 | lst o ds=>
  cases m1 with
  | lst h0 h1 h2=>cases r1;exact lY I1 (.inl h1) (q1.ok _ _ e1 (.lst h0 h1 h2))
  | lstK h1 h2=>cases r1;exact lY I1 h1.sq (q1.ok _ _ e1 (.lstK h1 h2))
 | tup ds=>
  obtain⟨a,xs,rfl,h1,h2⟩:=m1.tupR
  cases r1
  exact pK I1 h1 (q1.ok _ _ e1 (.tup h1 h2))
 | str z=>
  cases m1.strR
  obtain⟨t,rfl⟩:=r1
  obtain⟨_,q1⟩:=PO'.grd q1
  exact vT I1 (q1.ok _ _ e1 (.str z))
 | _=>exact q1.no.elim
theorem wd (g:GOk Z CX cl xp X ex G){tg e:Expr}{p pos:Pos}{va:List Nat}{fa:Ev->Res D}(hg:G.gl.contains 15=true)(hn:notStar e=true)(ha:PE X e (RD X.K ex va fa)) :
  PI X tg (.Call (.Name "range" p) [e] [] pos) (RI X.K ex va fun τ=>bnd (fa τ) fun|.int i=>grd (fY i) (.ok (dy 0 i))|_=>stk):=by
 obtain⟨k1,k2,_,_⟩:=eQ g (show cN[15]? = some ("range" : Str) from rfl) hg
 refine kJ (ik k1 k2 (cq ha dw (aE hn _ _)) (aE hn _ _)) fun σ H Q ⟨S,τ,hs,q⟩=>?_
 refine cz (.refl _) hs (PO'.bnd q) fun x v H1 e1 _ m1 q1=>?_
 induction x using zD with
 | int i=>
  cases m1.intR
  obtain⟨gd,q1⟩:=PO'.grd q1
  have gd' : -(2 ^ 62)<=i/\i < 2 ^ 62:=of_decide_eq_true gd
  refine⟨i,rfl,gd'.1,gd'.2,?_⟩
  have:=q1.ok _ _ e1 (.rng 0 i)
  rw[Int.sub_zero] at this
  exact this
 | _=>exact q1.no.elim
theorem yE {a:Addr}{v:V}{d:D}{ds:List D}(m:HRep K S H v d)(h:kO d=.ok ds):∃ k a xs,v=.ref a/\WS K S H k a xs/\HReps K S H xs ds:=by
 induction d using zD with
 | lst o es=>
  cases h
  cases m with
  | lst h0 h1 h2=>exact⟨.l,_,_,rfl,.inl ⟨h0,h1⟩,h2⟩
  | lstK h1 h2=>exact⟨.l,_,_,rfl,.inr h1,h2⟩
 | tup es=>
  cases h
  obtain⟨a,xs,rfl,h1,h2⟩:=m.tupR
  exact⟨.t,a,xs,rfl,h1,h2⟩
 | _=>cases h
theorem yF (g:GOk Z CX cl xp X ex G){es:List Expr}{c:Nat}{tp:Pos}{e e':Expr}{p pos:Pos}{va vb:List Nat}{fa fb:Ev->Res D}(hg:G.gl.contains 17=true)(hn:notStar e=true)(hn':notStar e'=true)(ha:PE X e (RD X.K ex va fa))(hb:PE X e' (RD X.K ex vb fb)) :
  PI X (.Tuple es c tp) (.Call (.Name "zip" p) [e,e'] [] pos) (RI X.K ex (va++vb) fun τ=>bnd (fa τ) fun x=>bnd (fb τ) fun y=>rY x y):=by
 obtain⟨k1,k2,_,_⟩:=eQ g (show cN[17]? = some ("zip" : Str) from rfl) hg
 refine kJ (vK k1 k2 (cq ha (cq hb dw (aE hn' _ _)) (aE hn _ _)) (by rw[aE hn,aE hn'];rfl) (aE hn' _ _)) fun σ H Q ⟨S,τ,hs,q⟩=>?_
 refine cz (.refl _) hs.left (PO'.bnd q) fun x v H1 e1 _ m1 q1=>?_
 refine cz e1 hs.right (PO'.bnd q1) fun y w H2 e2 e2' m2 q2=>?_
 have q3:=PO'.bnd (show PO' ex (bnd (kO x) fun ds=>bnd (kO y) fun es=>.ok (fM ds es)) _ from q2)
 have m1':=m1.mono (fun _ z=>z) e2'
 cases hx:kO x with
 | error z=>
  rw[hx] at q3
  induction x using zD<;>first|(cases hx;exact q3.no.elim)|cases hx
 | ok ds=>
  rw[hx] at q3
  have q4:=PO'.bnd q3.ok
  cases hy:kO y with
  | error z=>
   rw[hy] at q4
   induction y using zD<;>first|(cases hy;exact q4.no.elim)|cases hy
  | ok es'=>
   rw[hy] at q4
   obtain⟨k1,a1,xs,rfl,w1,r1⟩:=yE (a:=0) m1' hx
   obtain⟨k2,a2,ys,rfl,w2,r2⟩:=yE (a:=0) m2 hy
   exact⟨k1,k2,a1,a2,xs,ys,rfl,w1.sq,w2.sq,q4.ok.ok _ _ e2 (.zip w1 w2 r1 r2)⟩
theorem dP {env:Env}{x:Str}:∀ (names:List (Str×NameKind)),
  (names.map fun (n,k)=>if (k == NameKind.free&&env.scope.kind == .function&&env.kindOf n == some .cell) then (n,NameKind.cell) else (n,k)).lookup x =
   (names.lookup x).map fun k=>if (k == NameKind.free&&env.scope.kind == .function&&env.kindOf x == some .cell) then NameKind.cell else k
 | []=>rfl
 | (n,k)::r=>by
  have ih:=dP (env:=env) (x:=x) r
  rw[List.map_cons]
  show List.lookup x ((if (k == NameKind.free&&env.scope.kind == .function&&env.kindOf n == some .cell)=true then (n,NameKind.cell) else (n,k))::_)=_
  by_cases hc:(k == NameKind.free&&env.scope.kind == .function&&env.kindOf n == some .cell)=true
  ·rw[if_pos hc,List.lookup_cons,List.lookup_cons]
   cases hx:x == n with
   | true=>
    have e:x=n:=eq_of_beq hx
    subst e
    show some NameKind.cell=some (if _ then _ else _)
    rw[if_pos hc]
   | false=>exact ih
  ·rw[if_neg hc,List.lookup_cons,List.lookup_cons]
   cases hx:x == n with
   | true=>
    have e:x=n:=eq_of_beq hx
    subst e
    show some k=some (if _ then _ else _)
    rw[if_neg hc]
   | false=>exact ih
theorem kX {scope:Scope}{env:Env}(h:∀ y∈scope.names,y.2=.free->∃ c,env.cells.lookup y.1=some c) :
  ∃ cl',closureFor scope env=pure cl'/\(∀ x c,cl'.lookup x=some c->env.cells.lookup x=some c)/\∀ y∈scope.names,y.2=.free->∃ c,cl'.lookup y.1=some c:=by
 have key:∀ (names:List (Str×NameKind)) (acc:List (Str×Addr)),(∀ y∈names,y.2=.free->∃ c,env.cells.lookup y.1=some c)->(∀ x c,acc.lookup x=some c->env.cells.lookup x=some c)->
   ∃ cl',(forIn names acc fun (p:Str×NameKind) (r:List (Str×Addr))=>(if (p.2 == NameKind.free)=true then do let a <- cellOf env p.1;pure (ForInStep.yield ((p.1,a)::r)) else pure (ForInStep.yield r):Sem (ForInStep (List (Str×Addr)))))=pure cl'/\(∀ x c,cl'.lookup x=some c->env.cells.lookup x=some c)/\
    (∀ y∈names,y.2=.free->∃ c,cl'.lookup y.1=some c)/\∀ x c,acc.lookup x=some c->∃ c',cl'.lookup x=some c':=by
  intro names
  induction names with
  | nil=>intro acc _ h2;exact⟨acc,rfl,h2,fun y hy=>absurd hy (by simp),fun x c e=>⟨c,e⟩⟩
  | cons p names ih=>
   intro acc h1 h2
   rw[List.forIn_cons]
   by_cases hp:p.2=.free
   ·obtain⟨c,hc⟩:=h1 p (by simp) hp
    have hb:(p.2 == NameKind.free)=true:=by rw[hp];rfl
    have h2':∀ x c',((p.1,c)::acc).lookup x=some c'->env.cells.lookup x=some c':=by
     intro x c' e
     rw[List.lookup_cons] at e
     cases hx:x == p.1 with
     | true=>
      rw[hx] at e
      cases e
      rw[eq_of_beq hx]
      exact hc
     | false=>rw[hx] at e;exact h2 x c' e
    obtain⟨cl',e1,e2,e3,e4⟩:=ih ((p.1,c)::acc) (fun y hy=>h1 y (List.mem_cons_of_mem _ hy)) h2'
    refine⟨cl',?_,e2,fun y hy hf=>?_,fun x c' e=>?_⟩
    ·rw[if_pos hb]
     have:cellOf env p.1=pure c:=by unfold cellOf;rw[hc]
     rw[this]
     exact e1
    ·rcases List.mem_cons.mp hy with rfl|hy
     ·exact e4 y.1 c (by rw[List.lookup_cons];simp)
     ·exact e3 y hy hf
    ·rcases hx:x == p.1 with _|_
     ·exact e4 x c' (by rw[List.lookup_cons,hx];exact e)
     ·exact e4 x c (by rw[List.lookup_cons,hx])
   ·have hb:¬ (p.2 == NameKind.free)=true:=fun z=>hp (eq_of_beq z)
    obtain⟨cl',e1,e2,e3,e4⟩:=ih acc (fun y hy=>h1 y (List.mem_cons_of_mem _ hy)) h2
    refine⟨cl',?_,e2,fun y hy hf=>?_,e4⟩
    ·rw[if_neg hb]
     exact e1
    ·rcases List.mem_cons.mp hy with rfl|hy
     ·exact absurd hf hp
     ·exact e3 y hy hf
 obtain⟨cl',e1,e2,e3,_⟩:=key scope.names [] h (fun x c e=>by cases e)
 refine⟨cl',?_,e2,e3⟩
 unfold closureFor
 exact congrArg (fun (m:Sem (List (Str×Addr)))=>m >>= fun r=>pure r) e1
structure ScOk (Z:Sg)(G:Gm)(scope:Scope)(G':Gm)(fr:List Nat):Prop where
 cm:G.cm=true
 kind:scope.kind=.function
 tr:G'.tr=false
 df:G'.df=false
 kdl:G'.kd.length=G'.N.length
 nocell:∀ y∈scope.names,y.2≠.cell
 loc:∀ y∈scope.names,y.2=.local->scope.names.lookup y.1=some .local
 fre:∀ y∈scope.names,y.2=.free->∃ i:Nat,G.N[i]? = some y.1/\(G.kd[i]? = some .cell∨G.kd[i]? = some .free)
 frs:∀ (j:Nat) (i:Nat),fr[j]? = some i->∃ x,G.N[i]? = some x/\G'.N[j]? = some x/\scope.names.lookup x=some .free/\(G.kd[i]? = some .cell∨G.kd[i]? = some .free)/\G'.kd[j]? = some (if (G.kd[i]? == some .cell)=true then .cell else .free)
 fle:fr.length<=G'.N.length
 tgs:∀ (j:Nat) (x:Str),fr.length<=j->G'.N[j]? = some x->scope.names.lookup x=some .local/\G'.kd[j]? = some .local
 noD:∀ x∈G'.N,(x == ("__debug__" : Str))=false/\(x == ("__classdict__" : Str))=false
 nod:G'.N.Nodup
 gl:∀ n∈G'.gl,∃ x,Z.name n=some x/\scope.names.lookup x=some .globalImplicit
theorem ji {Z:Sg}{G:Gm}{scope:Scope}{G':Gm}{fr:List Nat}(h:cZ Z G scope G' fr=true):ScOk Z G scope G' fr:=by
 unfold cZ at h
 simp only[Bool.and_eq_true] at h
 obtain⟨⟨⟨⟨⟨⟨⟨⟨⟨⟨⟨⟨⟨h0,h1⟩,h1'⟩,h2⟩,h3⟩,h4⟩,h5⟩,h6⟩,h7⟩,h8⟩,h9⟩,h10⟩,h11⟩,h12⟩:=h
 rw[List.all_eq_true] at h4 h5 h6 h7 h9 h10 h12
 refine⟨h0,eq_of_beq h1,by simpa using h1',by simpa using h2,eq_of_beq h3,fun y hy=>by simpa using h4 y hy,fun y hy e=>?_,fun y hy e=>?_,fun j i e=>?_,of_decide_eq_true h8,fun j x hj e=>?_,fun x hx=>by simpa using h10 x hx,of_decide_eq_true h11,fun n hn=>?_⟩
 ·have:=h5 y hy
  rw[e] at this
  simpa using this
 ·have:=h6 y hy
  rw[e] at this
  simp only[bne_self_eq_false,Bool.false_or,List.any_eq_true,Bool.and_eq_true,Bool.or_eq_true] at this
  obtain⟨i,_,hi,hk⟩:=this
  exact⟨i,eq_of_beq hi,hk.elim (fun z=>.inl (eq_of_beq z)) fun z=>.inr (eq_of_beq z)⟩
 ·have hj:j < fr.length:=(List.getElem?_eq_some_iff.mp e).1
  have:=h7 j (List.mem_range.mpr hj)
  simp only[e,Option.bind_some,Bool.and_eq_true,Bool.or_eq_true] at this
  obtain⟨⟨⟨a1,a2⟩,a3⟩,a4⟩:=this
  have a1':=eq_of_beq a1
  have a2':=eq_of_beq a2
  cases q:G'.N[j]? with
  | none=>rw[q] at a2';cases a2'
  | some x=>
   rw[q] at a2' a1'
   exact⟨x,a1'.symm,rfl,a2',a3.elim (fun z=>.inl (eq_of_beq z)) fun z=>.inr (eq_of_beq z),eq_of_beq a4⟩
 ·have hlt:j < G'.N.length:=(List.getElem?_eq_some_iff.mp e).1
  have hm:j∈(List.range G'.N.length).drop fr.length:=by
   rw[List.mem_drop_iff_getElem]
   exact⟨j - fr.length,by simp;omega,by simp;omega⟩
  have:=h9 j hm
  rw[e] at this
  simp only[Option.bind_some,Bool.and_eq_true] at this
  exact⟨eq_of_beq this.1,eq_of_beq this.2⟩
 ·have:=h12 n hn
  cases q:Z.name n with
  | none=>rw[q] at this;cases this
  | some x=>
   rw[q] at this
   exact⟨x,rfl,eq_of_beq this⟩
noncomputable def frN (G:Gm)(fr:List Nat):List (Str×Nat):=fr.map fun i=>(G.N.getD i "",i)
theorem yG {scope:Scope}{G':Gm}{fr:List Nat}(s:ScOk Z G scope G' fr):(frN G fr).map (·.1)++G'.N.drop fr.length=G'.N:=by
 have e:(frN G fr).map (·.1)=G'.N.take fr.length:=by
  apply List.ext_getElem?
  intro j
  unfold frN
  rw[List.map_map,List.getElem?_map,List.getElem?_take]
  cases q:fr[j]? with
  | none=>
   have:¬ j < fr.length:=by
    intro z
    rw[List.getElem?_eq_getElem z] at q
    cases q
   rw[if_neg this]
   rfl
  | some i=>
   have:j < fr.length:=(List.getElem?_eq_some_iff.mp q).1
   rw[if_pos this]
   obtain⟨x,h1,h2,_⟩:=s.frs j i q
   rw[h2]
   show some (G.N.getD i "")=some x
   rw[List.getD_eq_getElem?_getD,h1]
   rfl
 rw[e,List.take_append_drop]
theorem fT (g:GOk Z CX cl xp X ex G)(ok:X.Ok){scope:Scope}{G':Gm}{fr:List Nat}(s:ScOk Z G scope G' fr):∃ cl',CompSc X scope cl' (frN G fr) (G'.N.drop fr.length):=by
 have hfree:∀ y∈scope.names,y.2=.free->∃ c,X.env.cells.lookup y.1=some c:=fun y hy hf=>by
  obtain⟨i,h1,h2⟩:=s.fre y hy hf
  have hk:=g.kd i y.1 h1
  exact ok.has y.1 (h2.elim (fun z=>.inl (hk.trans z)) fun z=>.inr (hk.trans z))
 obtain⟨cl',e1,e2,e3⟩:=kX hfree
 refine⟨cl',e1,s.kind,s.nocell,s.loc,e2,fun x hx=>?_,fun p hp=>?_⟩
 ·have hl:=dP (env:=X.env) (x:=x) scope.names
  have hx':((scope.names.lookup x).map fun k=>if (k == NameKind.free&&X.env.scope.kind == .function&&X.env.kindOf x == some .cell)=true then NameKind.cell else k)=some .cell∨
    ((scope.names.lookup x).map fun k=>if (k == NameKind.free&&X.env.scope.kind == .function&&X.env.kindOf x == some .cell)=true then NameKind.cell else k)=some .free:=by
   rcases hx with hx|hx
   ·exact .inl (hl.symm.trans hx)
   ·exact .inr (hl.symm.trans hx)
  cases q:scope.names.lookup x with
  | none=>rw[q] at hx';rcases hx' with z|z<;>cases z
  | some k=>
   have hm:(x,k)∈scope.names:=PySem.mem_of_lookup q
   have hk:k=.free:=by
    rw[q] at hx'
    rcases hx' with z|z
    ·have z':(if (k == NameKind.free&&X.env.scope.kind == .function&&X.env.kindOf x == some .cell)=true then NameKind.cell else k)=.cell:=Option.some.inj z
     split at z'
     ·rename_i hc
      simp only[Bool.and_eq_true] at hc
      exact eq_of_beq hc.1.1
     ·exact absurd z' (s.nocell _ hm)
    ·have z':(if (k == NameKind.free&&X.env.scope.kind == .function&&X.env.kindOf x == some .cell)=true then NameKind.cell else k)=.free:=Option.some.inj z
     split at z'
     ·cases z'
     ·exact z'
   exact e3 (x,k) hm hk
 ·unfold frN at hp
  rw[List.mem_map] at hp
  obtain⟨i,hi,rfl⟩:=hp
  obtain⟨j,hj⟩:=List.getElem?_of_mem hi
  obtain⟨x,h1,h2,h3,h4,h5⟩:=s.frs j i hj
  have hn:G.N.getD i "" = x:=by rw[List.getD_eq_getElem?_getD,h1];rfl
  show X.N[i]? = some (G.N.getD i "")/\_
  rw[hn]
  have hk:=g.kd i x h1
  refine⟨by rw[g.N];exact h1,h4.elim (fun z=>.inl (hk.trans z)) fun z=>.inr (hk.trans z),?_⟩
  have hl:=dP (env:=X.env) (x:=x) scope.names
  rw[h3] at hl
  have hl':(relabel scope X.env).names.lookup x=some (if (NameKind.free == NameKind.free&&X.env.scope.kind == .function&&X.env.kindOf x == some .cell)=true then NameKind.cell else NameKind.free):=hl
  rw[hl']
  split
  ·exact .inl rfl
  ·exact .inr rfl
theorem c5 (g:GOk Z CX cl xp X ex G){scope:Scope}{G':Gm}{fr:List Nat}(s:ScOk Z G scope G' fr)(cl':List (Str×Addr))(C:Addr)(s3:Shared)(H3:Hp)(fp:List Addr) :
  GOk Z CX cl xp (cxC X scope cl' ((frN G fr).map (·.1)++G'.N.drop fr.length) C s3 H3 fp) (fun _=>False) G' where
 N:=yG s
 nod:=s.nod
 calm:=fun _=>g.calm s.cm
 fk:=s.kind
 un:=g.un
 own:=fun _=>PassesOwn.never
 kd:=fun j x hx=>by
  show (relabel scope X.env).names.lookup x=_
  have hl:=dP (env:=X.env) (x:=x) scope.names
  by_cases hj:j < fr.length
  ·obtain⟨y,h1,h2,h3,h4,h5⟩:=s.frs j fr[j] (by simp[hj])
   rw[hx] at h2
   cases h2
   rw[h3] at hl
   rw[h5]
   refine hl.trans ?_
   have hk:=g.kd fr[j] x h1
   show some (if (NameKind.free == NameKind.free&&X.env.scope.kind == .function&&X.env.kindOf x == some .cell)=true then NameKind.cell else NameKind.free)=_
   rw[hk,g.fk]
   rfl
  ·obtain⟨h1,h2⟩:=s.tgs j x (by omega) hx
   rw[h1] at hl
   rw[h2]
   exact hl
 noD:=fun j x hx=>s.noD x (List.mem_of_getElem? hx)
 gl:=fun n hn x e=>by
  obtain⟨y,h1,h2⟩:=s.gl n hn
  rw[e] at h1
  cases h1
  show (relabel scope X.env).names.lookup x=_
  have hl:=dP (env:=X.env) (x:=x) scope.names
  rw[h2] at hl
  exact hl
 nam:=g.nam
 df:=fun z=>by rw[s.df] at z;cases z
 blt:=g.blt
 cst:=g.cst
 fns:=fun f hf _ x hx=>g.fns f hf (.inl s.cm) x hx
 fio:=fun f hf _ x hx=>g.fio f hf s.cm x hx
 xcv:=g.xcv
 xcl:=g.xcl
 xmt:=g.xmt
 xrs:=g.xrs
 rse:=fun _ _ _ _ _ z=>z.elim
 tr:=fun z=>by rw[s.tr] at z;cases z
 exs:=⟨fun _ _ _=>False,fun pins σ H s e s' _ h=>(g.exn _ _ _ _ _ h).elim,fun c _ z=>z.elim⟩
 hid:=g.hid
 exn:=g.exn
end
abbrev nox:EX->Prop:=fun _=>False
theorem PO'.noX {α:Type}{ex:EX->Prop}{x:Res α}{k:α->Prop}(h:PO' ex (L2.noX x) k):PO' nox x k:=by
 cases x with
 | ok a=>exact h
 | error e=>exact False.elim h
section
variable {K:PySem.W.Frag}{S:Addr->Prop}{H:Hp}{σ:St}{τ:Ev}{ex:EX->Prop}{cl:Nat->List D->Res D}{G G':Gm}{fr:List Nat}
noncomputable def blk (G':Gm)(fr:List Nat)(τ:Ev):Ev:=fr.map (bo τ)++List.replicate (G'.N.length - fr.length) none
theorem sA (hl:fr.length<=G'.N.length):(blk G' fr τ).length=G'.N.length:=by
 unfold blk
 rw[List.length_append,List.length_map,List.length_replicate]
 omega
theorem sC (Tg:List Str)(σ:St):(stC (frN G fr) Tg σ).length=fr.length+Tg.length:=by
 unfold stC frN
 rw[List.length_append,List.length_map,List.length_map,List.length_replicate]
theorem pL {j:Nat}{d:D}(h:bo (blk G' fr τ) j=some d):∃ i,fr[j]? = some i/\bo τ i=some d:=by
 unfold bo blk at h
 by_cases hj:j < fr.length
 ·rw[List.getElem?_append_left (by simpa using hj),List.getElem?_map,List.getElem?_eq_getElem hj] at h
  exact⟨fr[j],by simp[hj],h⟩
 ·rw[List.getElem?_append_right (by simpa using hj),List.getElem?_replicate] at h
  split at h<;>cases h
theorem sE {vs:List Nat}{σ':St}(hl:fr.length<=G'.N.length)(hs:Slots K S H σ τ (fr++vs))(hn:σ'.length=G'.N.length)(hσ:∀ j,j < fr.length->σ'[j]? = (stC (frN G fr) (G'.N.drop fr.length) σ)[j]?):SlA K S H σ' (blk G' fr τ):=by
 refine⟨by rw[sA hl,hn],fun j d h=>?_⟩
 obtain⟨i,hi,hd⟩:=pL h
 have hj:j < fr.length:=(List.getElem?_eq_some_iff.mp hi).1
 obtain⟨v,h1,h2⟩:=hs i (List.mem_append_left _ (List.mem_of_getElem? hi)) d hd
 refine⟨v,?_,h2⟩
 rw[hσ j hj]
 unfold stC frN
 rw[List.getElem?_append_left (by simpa using hj),List.getElem?_map,List.getElem?_map,hi]
 show some ((σ[i]?).join)=some (some v)
 rw[h1]
 rfl
noncomputable def cR (cl:Nat->List D->Res D)(T:Tg)(I:List IR)(E:IR)(τ0:Ev)(x:D):Res (Option D):=bnd (dz T x τ0) fun τ1=>bnd (eU cl I τ1) fun r=>if r=true then bnd (evR cl E τ1) fun d=>.ok (some d) else .ok none
theorem dQ {vs:List Nat}{fs:Ev->Res (List D)}{T:Tg}{I:List IR}{E:IR}{Kt:D->Prop}{Q:VK}(hl:fr.length<=G'.N.length)(ha:∀ i∈tgs T,fr.length<=i)(hs:Slots K S H σ τ (fr++vs))
  (q:PO' ex (bnd (fs τ) fun its=>grd (dN its.length) (bnd (noX (cy (cR cl T I E (blk G' fr τ)) its)) fun ds=>.ok (.lst true ds))) Kt)
  (fin:∀ A ys ds H',bO H H'->H A=none->H' A=some (.lst ys)->HReps K (fun a=>nw S H a/\a≠A) H' ys ds->Kt (.lst true ds)->Q (.ref A) H') :
  oC (RI K ex vs fs) (stC (frN G fr) (G'.N.drop fr.length)) (gT K T) (RT K nox (bQ I) (eU cl I)) (RD K nox (vars E) (evR cl E)) σ H Q:=by
 refine yC (.refl _) hs.right (PO'.bnd q) fun its J H1 e1 _ w1 q1 A hA=>?_
 obtain⟨gd,q1⟩:=PO'.grd q1
 have q2:=PO'.noX (PO'.bnd q1)
 have hsz:=gc gd
 have hHA:H A=none:=e1.free hA
 -- what is read stands apart from the new list
 have tight:∀ a,nw S H a->H1 a≠none->nw S H a/\a≠A:=fun a h1 h2=>⟨h1,fun z=>h2 (by rw[z];exact hA)⟩
 have w2:Wlk K (fun a=>nw S H a/\a≠A) H1 J its:=w1.step (fun a xs h r=>⟨tight a h r.some,r⟩) fun a xs h=>h
 have hs2:Slots K (fun a=>nw S H a/\a≠A) H1 σ τ (fr++vs):=fun i hi d z=>by
  obtain⟨v,h1,h2⟩:=(hs.go e1) i hi d z
  exact⟨v,h1,h2.step (fun a xs h r=>⟨tight a h r.some,r⟩) fun a xs h=>h⟩
 refine⟨fun i m σ' H'=>m=its.length - i/\i<=its.length/\∃ ys acc,H' A=some (.lst ys)/\HReps K (fun a=>nw S H a/\a≠A) H' ys acc/\ys.length<=i/\bO H1 H'/\σ'.length=G'.N.length/\
   (∀ j,j < fr.length->σ'[j]? = (stC (frN G fr) (G'.N.drop fr.length) σ)[j]?)/\PO' nox (cy (cR cl T I E (blk G' fr τ)) (its.drop i)) fun ds=>Kt (.lst true (acc++ds)),⟨its.length,by simp,Nat.zero_le _,[],[],bN,.nil,Nat.le_refl _,.upd hA,?_,fun _ _=>rfl,?_⟩,?_⟩
 ·rw[sC,List.length_drop];omega
 ·rw[List.drop_zero]
  exact q2.mono fun ds z=>z.ok
 ·rintro i m σ' H' ⟨rfl,hi,ys,acc,hy,my,ly,e2,hn,hσ,q3⟩
  by_cases hlt:i < its.length
  ·refine .inr ⟨(w2.mono (fun _ z=>z) e2).go hlt,fun x H2 hy2=>?_⟩
   obtain⟨eH,mx⟩:=(w2.mono (fun _ z=>z) e2).yld hy2 (d:=its[i]) (by simp[hlt])
   have hy:=eH _ _ hy
   have my:=my.mono (fun _ z=>z) eH
   have e2:=e2.trans eH
   have hd:its.drop i=its[i]::its.drop (i+1):=List.drop_eq_getElem_cons hlt
   rw[hd] at q3
   have q4:=PO'.bnd q3
   have q5:PO' nox (dz T its[i] (blk G' fr τ)) _:=PO'.bnd q4
   have sl:SlA K (fun a=>nw S H a/\a≠A) H2 σ' (blk G' fr τ):=sE (G:=G) (vs:=vs) (σ:=σ) hl (fun i hi d z=>by
    obtain⟨v,h1,h2⟩:=hs2 i hi d z
    exact⟨v,h1,h2.mono (fun _ z=>z) e2⟩) hn hσ
   refine lX T sl mx q5 fun τ' σ2 sl2 hn' hk q6=>?_
   have hn2:σ2.length=G'.N.length:=hn'.trans hn
   have hσ2:∀ j,j < fr.length->σ2[j]? = (stC (frN G fr) (G'.N.drop fr.length) σ)[j]?:=fun j hj=>by
    rw[hk j (fun z=>by have:=ha j z;omega)]
    exact hσ j hj
   have sl3:∀ is,Slots K (fun a=>nw S H a/\a≠A) H2 σ2 τ' is:=fun is i _ d z=>sl2.2 i d z
   refine jh (.refl _) (sl3 _) (PO'.bnd q6) fun r H4 e4 _ q7=>?_
   cases r with
   | false=>
    rw[if_neg Bool.false_ne_true] at q7 ⊢
    have q8:PO' nox (cy (cR cl T I E (blk G' fr τ)) (its.drop (i+1))) fun ds=>Kt (.lst true (acc++ds)):=q7
    refine⟨its.length - (i+1),by omega,rfl,hlt,ys,acc,e4 _ _ hy,my.mono (fun _ z=>z) e4,by omega,e2.trans e4,hn2,hσ2,q8⟩
   | true=>
    rw[if_pos rfl] at q7 ⊢
    refine cz e4 (sl3 _) (PO'.bnd q7) fun d v H5 e5 e5' m5 q8=>?_
    have q9:PO' nox (bnd (cy (cR cl T I E (blk G' fr τ)) (its.drop (i+1))) fun r=>.ok (d::r)) fun ds=>Kt (.lst true (acc++ds)):=q8
    have q10:=PO'.bnd q9
    have hy5:H5 A=some (.lst ys):=e5 _ _ hy
    refine⟨ys,hy5,by omega,its.length - (i+1),by omega,rfl,hlt,ys++[v],acc++[d],bN,?_,by rw[List.length_append,List.length_singleton];omega,?_,hn2,hσ2,?_⟩
    ·have hl5:∀ a (xs:LD),(nw S H a/\a≠A)->Rd H5 a xs.o->(nw S H a/\a≠A)/\Rd (upd H5 A (.lst (ys++[v]))) a xs.o:=fun a xs h r=>by
      refine⟨h,?_⟩
      unfold Rd
      rw[aD h.2]
      exact r
     have ht5:∀ a xs,SqE K H5 a xs->SqE K (upd H5 A (.lst (ys++[v]))) a xs:=fun a xs h=>h.upd hy5
     have m6:HRep K (fun a=>nw S H a/\a≠A) H5 v d:=m5.step (fun a xs h r=>⟨by
      rcases h with h|h
      ·exact h
      ·have:H a=none:=e1.free (e2.free h)
       exact⟨.inr this,fun z=>by rw[z,hy] at h;cases h⟩,r⟩) fun a xs h=>h
     exact(((my.mono (fun _ z=>z) e5).step hl5 ht5)).append (.cons (m6.step hl5 ht5) .nil)
    ·exact fun b o hb=>by
      have:b≠A:=by rintro rfl;rw[hA] at hb;cases hb
      rw[aD this]
      exact e5 _ _ (e2 _ _ hb)
    ·refine q10.mono fun ds z=>?_
     have z':=z.ok
     rw[List.append_assoc]
     exact z'
  ·have e:i=its.length:=by omega
   subst e
   refine .inl ⟨(w2.mono (fun _ z=>z) e2).stop rfl,?_⟩
   rw[List.drop_length] at q3
   have q4:=q3.ok
   rw[List.append_nil] at q4
   exact fin A ys acc H' (e1.trans e2) hHA hy my q4
end
section
variable {Z:Sg}{CX:CXT}{cl:Nat->List D->Res D}{xp:XK->Hp->EX->Prop}{X:Cx}{ex:EX->Prop}{G G':Gm}{fr:List Nat}
theorem gQ {T:Tg}{s:Sr}{I:List IR}{E:IR}:evR cl (.comp G' fr T s I E)=fun τ=>bnd (eV cl s τ) fun its=>grd (dN its.length) (bnd (noX (cy (cR cl T I E (blk G' fr τ)) its)) fun ds=>.ok (.lst true ds)):=rfl
theorem we (g:GOk Z CX cl xp X ex G){scope:Scope}{tg iter elt:Expr}{ifs:List Expr}{pos:Pos}{T:Tg}{s:Sr}{I:List IR}{E:IR}(hs:ScOk Z G scope G' fr)(hT:dH G' T tg=true)(ha:∀ i∈tgs T,fr.length<=i)
  (hi:PI X tg iter (RI X.K ex (fq s) (eV cl s))) (ht:∀ X',GOk Z CX cl xp X' nox G'->PTs X' ifs (RT X'.K nox (bQ I) (eU cl I))) (he:∀ X',GOk Z CX cl xp X' nox G'->PE X' elt (RD X'.K nox (vars E) (evR cl E)))
  (hf:∀ x,foldedSetIterable iter X.env x=pure x):PE X (.ListComp elt [⟨tg,iter,ifs,0⟩] scope pos) (RD X.K ex (fr++fq s) (evR cl (.comp G' fr T s I E))):=by
 intro pins s' σ H Q Iv h
 obtain⟨cl',S⟩:=fT g Iv.ok hs
 have p:=lH (pos:=pos) (elt:=elt) (ifs:=ifs) (tg:=tg) (g:=gT X.K T) (tt:=RT X.K nox (bQ I) (eU cl I)) (te:=RD X.K nox (vars E) (evR cl E)) (g.calm hs.cm) S hi (fun C s H fp=>pgT (c5 g hs cl' C s H fp) T tg hT) (fun C s H fp=>ht _ (c5 g hs cl' C s H fp)) (fun C s H fp=>he _ (c5 g hs cl' C s H fp)) hf
 refine p pins s' σ H Q Iv ?_
 obtain⟨S0,τ,hsl,q⟩:=h
 rw[gQ] at q
 exact dQ hs.fle ha hsl q fun A ys ds H' e hA hA' m k=>k _ _ e (.lst (.inr hA) (.inl hA') (m.mono (fun _ z=>z.1) (.refl _)))
end
section
variable {Z:Sg}{CX:CXT}{cl:Nat->List D->Res D}{xp:XK->Hp->EX->Prop}
theorem nL {e:Expr}{a:IR}{G:Gm}(h:chk Z G a e=true)(env:Env)(x:Value):foldedSetIterable e env x=pure x:=by
 induction e using zE<;>first|rfl|(induction a using zI<;>cases h)
theorem dD {e:Expr}{a:Sr}{G:Gm}(h:dM Z G a e=true)(env:Env)(x:Value):foldedSetIterable e env x=pure x:=by
 cases a with
 | val a=>exact nL (show chk Z G a e=true from h) env x
 | _=>induction e using zE<;>first|rfl|cases h
theorem both {X:Cx}{ex:EX->Prop}{e:Expr}{is:List Nat}{f:Ev->Res D}(h:PE X e (RD X.K ex is f))(he:∀ whole,isTrue e X.env whole=(do let v <- whole;standAt e.pos;holding [v] (truthy v)):=by intro _;rfl) :
  PE X e (RD X.K ex is f)/\PT X e (RT X.K ex is fun τ=>bnd (f τ) cF):=⟨h,yk h he⟩
mutual
theorem snd:∀ (a:IR) (X:Cx) (ex:EX->Prop) (G:Gm) (e:Expr),GOk Z CX cl xp X ex G->chk Z G a e=true->PE X e (RD X.K ex (vars a) (evR cl a))/\PT X e (RT X.K ex (vars a) fun τ=>bnd (evR cl a τ) cF)
 | .c d,X,ex,G,e,g,h=>by
  induction e using zE with
  | Constant k j pos=>exact both (s_c h)
  | _=>first|exact ae h|cases h
 | .g n d,X,ex,G,e,g,h=>by
  induction e using zE with
  | Name x pos=>
   have h':(cU Z G n x&&Z.kst.any fun p=>p.1 == n&&nC p.2 d)=true:=h
   rw[Bool.and_eq_true] at h'
   exact both (s_g g h'.1 h'.2)
  | _=>first|exact ae h|cases h
 | .v i,X,ex,G,e,g,h=>by
  induction e using zE with
  | Name x pos=>exact both (s_v g h)
  | _=>first|exact ae h|cases h
 | .bin op a b,X,ex,G,e,g,h=>by
  induction e using zE with
  | BinOp l o r pos=>
   have h':(o == bop op&&chk Z G a l&&chk Z G b r)=true:=h
   simp only[Bool.and_eq_true] at h'
   have e1:o=bop op:=eq_of_beq h'.1.1
   subst e1
   exact both (yl (snd a X ex G l g h'.1.2).1 (snd b X ex G r g h'.2).1)
  | _=>first|exact ae h|cases h
 | .cmp op a b,X,ex,G,e,g,h=>by
  induction e using zE with
  | Compare l os rs pos=>
   match os,rs,h with
   | [o],[r],h=>
    have h':(o == cop op&&chk Z G a l&&chk Z G b r&&!behindInMarks o r)=true:=h
    simp only[Bool.and_eq_true] at h'
    have e1:o=cop op:=eq_of_beq h'.1.1.1
    subst e1
    exact ym g (snd a X ex G l g h'.1.1.2).1 (snd b X ex G r g h'.1.2).1 (by simpa using h'.2)
   | [],_,h=>first|exact ae h|cases h
   | [_],[],h=>first|exact ae h|cases h
   | [_],_::_::_,h=>first|exact ae h|cases h
   | _::_::_,_,h=>first|exact ae h|cases h
  | _=>first|exact ae h|cases h
 | .chain op op' a b c,X,ex,G,e,g,h=>by
  induction e using zE with
  | Compare l os rs pos=>
   match os,rs,h with
   | [o,o'],[m,r],h=>
    have h':(o == cop op&&o' == cop op'&&chk Z G a l&&chk Z G b m&&chk Z G c r&&!lastMarks [o,o'] [m,r])=true:=h
    simp only[Bool.and_eq_true] at h'
    have e1:o=cop op:=eq_of_beq h'.1.1.1.1.1
    have e2:o'=cop op':=eq_of_beq h'.1.1.1.1.2
    subst e1 e2
    exact sx g (snd a X ex G l g h'.1.1.1.2).1 (snd b X ex G m g h'.1.1.2).1 (snd c X ex G r g h'.1.2).1 (by simpa using h'.2)
   | [],_,h=>first|exact ae h|cases h
   | [_],_,h=>first|exact ae h|cases h
   | [_,_],[],h=>first|exact ae h|cases h
   | [_,_],[_],h=>first|exact ae h|cases h
   | [_,_],_::_::_::_,h=>first|exact ae h|cases h
   | _::_::_::_,_,h=>first|exact ae h|cases h
  | _=>first|exact ae h|cases h
 | .and_ a b,X,ex,G,e,g,h=>by
  induction e using zE with
  | BoolOp o es pos=>
   match o,es,h with
   | .And,[l,r],h=>
    have h':(chk Z G a l&&chk Z G b r)=true:=h
    rw[Bool.and_eq_true] at h'
    obtain⟨pa,ta⟩:=snd a X ex G l g h'.1
    obtain⟨pb,tb⟩:=snd b X ex G r g h'.2
    exact⟨tO pa (nW pb),tP ta (rn tb)⟩
   | .And,l::r::r'::rest,h=>
    have h':(chk Z G a l&&chk Z G b (.BoolOp .And (r::r'::rest) pos))=true:=h
    rw[Bool.and_eq_true] at h'
    obtain⟨pa,ta⟩:=snd a X ex G l g h'.1
    obtain⟨pb,tb⟩:=snd b X ex G _ g h'.2
    exact⟨tO pa pb,tP ta (pG (e:=l) tb)⟩
   | .And,[],h=>first|exact ae h|cases h
   | .And,[_],h=>first|exact ae h|cases h
   | .Or,_,h=>first|exact ae h|cases h
  | _=>first|exact ae h|cases h
 | .or_ a b,X,ex,G,e,g,h=>by
  induction e using zE with
  | BoolOp o es pos=>
   match o,es,h with
   | .Or,[l,r],h=>
    have h':(chk Z G a l&&chk Z G b r)=true:=h
    rw[Bool.and_eq_true] at h'
    obtain⟨pa,ta⟩:=snd a X ex G l g h'.1
    obtain⟨pb,tb⟩:=snd b X ex G r g h'.2
    exact⟨yn pa (nW pb),yp ta (u5 tb)⟩
   | .Or,l::r::r'::rest,h=>
    have h':(chk Z G a l&&chk Z G b (.BoolOp .Or (r::r'::rest) pos))=true:=h
    rw[Bool.and_eq_true] at h'
    obtain⟨pa,ta⟩:=snd a X ex G l g h'.1
    obtain⟨pb,tb⟩:=snd b X ex G _ g h'.2
    exact⟨yn pa pb,yp ta (pG (e:=l) tb)⟩
   | .Or,[],h=>first|exact ae h|cases h
   | .Or,[_],h=>first|exact ae h|cases h
   | .And,_,h=>first|exact ae h|cases h
  | _=>first|exact ae h|cases h
 | .not_ a,X,ex,G,e,g,h=>by
  induction e using zE with
  | UnaryOp o l pos=>
   cases o with
   | Not=>
    obtain⟨pa,ta⟩:=snd a X ex G l g h
    exact yo pa ta
   | _=>first|exact ae h|cases h
  | _=>first|exact ae h|cases h
 | .tup es,X,ex,G,e,g,h=>by
  induction e using zE with
  | Tuple l n pos=>exact both (yq (jj es X ex G l g h))
  | _=>first|exact ae h|cases h
 | .lst es,X,ex,G,e,g,h=>by
  induction e using zE with
  | List l pos=>exact both (yr (jj es X ex G l g h))
  | _=>first|exact ae h|cases h
 | .idx a i,X,ex,G,e,g,h=>by
  induction e using zE with
  | Subscript o s pos=>
   have h':(cY s&&chk Z G a o&&chk Z G i s)=true:=by
    cases s<;>first|exact h|(rename_i l u st p;cases st<;>exact h)
   simp only[Bool.and_eq_true] at h'
   exact both (yt (snd a X ex G o g h'.1.2).1 (snd i X ex G s g h'.2).1 h'.1.1)
  | _=>first|exact ae h|cases h
 | .sl a lo hi,X,ex,G,e,g,h=>by
  induction e using zE with
  | Subscript o s pos=>
   match s,h with
   | .Slice l u none p,h=>
    have h':(chk Z G a o&&kU Z G lo l&&kU Z G hi u)=true:=h
    simp only[Bool.and_eq_true] at h'
    exact both (A0 (snd a X ex G o g h'.1.1).1 (sF lo X ex G l g h'.1.2) (sF hi X ex G u g h'.2))
   | .Slice _ _ (some _) _,h=>first|exact ae h|cases h
   | .BoolOp ..,h=>first|exact ae h|cases h
   | .NamedExpr ..,h=>first|exact ae h|cases h
   | .BinOp ..,h=>first|exact ae h|cases h
   | .UnaryOp ..,h=>first|exact ae h|cases h
   | .Lambda ..,h=>first|exact ae h|cases h
   | .IfExp ..,h=>first|exact ae h|cases h
   | .Dict ..,h=>first|exact ae h|cases h
   | .Set ..,h=>first|exact ae h|cases h
   | .ListComp ..,h=>first|exact ae h|cases h
   | .SetComp ..,h=>first|exact ae h|cases h
   | .DictComp ..,h=>first|exact ae h|cases h
   | .GeneratorExp ..,h=>first|exact ae h|cases h
   | .Await ..,h=>first|exact ae h|cases h
   | .Yield ..,h=>first|exact ae h|cases h
   | .YieldFrom ..,h=>first|exact ae h|cases h
   | .Compare ..,h=>first|exact ae h|cases h
   | .Call ..,h=>first|exact ae h|cases h
   | .FormattedValue ..,h=>first|exact ae h|cases h
   | .JoinedStr ..,h=>first|exact ae h|cases h
   | .Constant ..,h=>first|exact ae h|cases h
   | .Attribute ..,h=>first|exact ae h|cases h
   | .Subscript ..,h=>first|exact ae h|cases h
   | .Starred ..,h=>first|exact ae h|cases h
   | .Name ..,h=>first|exact ae h|cases h
   | .List ..,h=>first|exact ae h|cases h
   | .Tuple ..,h=>first|exact ae h|cases h
  | _=>first|exact ae h|cases h
 | .call f es,X,ex,G,e,g,h=>by
  induction e using zE with
  | Call fn args kws pos=>
   induction fn using zE with
   | Name x p=>
    cases kws with
    | nil=>
     have h':(cU Z G f x&&Z.fnc G f&&cA Z G es args)=true:=h
     simp only[Bool.and_eq_true] at h'
     exact both (s_call g h'.1.1 h'.1.2 h'.2 (jj es X ex G args g h'.2))
    | cons _ _=>first|exact ae h|cases h
   | _=>first|exact ae h|cases h
  | _=>first|exact ae h|cases h
 | .bi f es,X,ex,G,e,g,h=>by
  induction e using zE with
  | Call fn args kws pos=>
   induction fn using zE with
   | Name x p=>
    cases kws with
    | nil=>
     cases args with
     | nil=>first|exact ae h|cases h
     | cons a args=>
      have h':(x == dY f&&G.glc (iF f)&&cA Z G es (a::args))=true:=h
      simp only[Bool.and_eq_true] at h'
      have e1:x=dY f:=eq_of_beq h'.1.1
      subst e1
      exact both (A1 g h'.1.2 h'.2 (jj es X ex G _ g h'.2))
    | cons _ _=>cases args<;>first|exact ae h|cases h
   | _=>first|exact ae h|cases h
  | _=>first|exact ae h|cases h
 | .dnew,X,ex,G,e,g,h=>by
  have h:dcv e=true:=by induction e using zE<;>exact h
  obtain⟨pos,rfl⟩:=pE h
  exact both v8
 | .dget a k,X,ex,G,e,g,h=>by
  have h:sbx e (fun o s=>cY s&&chk Z G a o&&chk Z G k s)=true:=by induction e using zE<;>exact h
  obtain⟨o,s,pos,rfl,q1⟩:=vZ h
  simp only[Bool.and_eq_true] at q1
  exact both (v9 g (snd a X ex G o g q1.1.2).1 (snd k X ex G s g q1.2).1 q1.1.1)
 | .fld a x cs,X,ex,G,e,g,h=>by
  have h:atv e (fun o y=>y == x&&isNm o&&cs.all (fun c=>Z.rc.any fun p=>p.2 == (c,x))&&chk Z G a o)=true:=by induction e using zE<;>exact h
  obtain⟨o,y,p,rfl,q1⟩:=v5 h
  simp only[Bool.and_eq_true] at q1
  have e1:y=x:=eq_of_beq q1.1.1.1
  subst e1
  exact both (yy g q1.1.1.2 q1.1.2 (snd a X ex G o g q1.2).1)
 | .lidx a b,X,ex,G,e,g,h=>by
  have h:mt1 e (fun o y l s=>y == "index"&&isNm o&&l&&notStar s&&chk Z G a o&&chk Z G b s)=true:=by induction e using zE<;>exact h
  obtain⟨o,y,apos,s,cpos,rfl,q1⟩:=v7 h
  simp only[Bool.and_eq_true] at q1
  have e1:y = "index":=eq_of_beq q1.1.1.1.1.1
  subst e1
  exact both (wb g q1.1.1.1.1.2 q1.1.1.1.2 q1.1.1.2 (snd a X ex G o g q1.1.2).1 (snd b X ex G s g q1.2).1)
 | .lset a,X,ex,G,e,g,h=>by
  have h:lrv e (fun x y e=>x == "len"&&G.gl.contains 0&&y == "set"&&G.gl.contains 12&&(notStar e&&G.cm)&&chk Z G a e)=true:=by induction e using zE<;>exact h
  obtain⟨x,p,y,p',e',q',q,rfl,h⟩:=v3 h
  have h:(x == "len"&&G.gl.contains 0&&y == "set"&&G.gl.contains 12&&(notStar e'&&G.cm)&&chk Z G a e')=true:=h
  simp only[Bool.and_eq_true] at h
  have e1:x = "len":=eq_of_beq h.1.1.1.1.1
  have e2:y = "set":=eq_of_beq h.1.1.1.2
  subst e1 e2
  exact both (wa g h.1.1.1.1.2 h.1.1.2 h.1.2.1 h.1.2.2 (snd a X ex G e' g h.2).1)
 | .isx a ns tb,X,ex,G,e,g,h=>by
  induction e using zE with
  | Call fn args kws pos=>
   induction fn using zE with
   | Name x p=>
    match args,kws,h with
    | [o,y],[],h=>
     have h':(x == "isinstance"&&G.gl.contains 14&&notStar o&&pC Z G ns y&&tb.all (vX Z ns)&&chk Z G a o)=true:=h
     simp only[Bool.and_eq_true] at h'
     have e1:x = "isinstance":=eq_of_beq h'.1.1.1.1.1
     subst e1
     exact both (yv g h'.1.1.1.1.2 h'.1.1.1.2 h'.1.1.2 h'.1.2 (snd a X ex G o g h'.2).1)
    | [],_,h=>first|exact ae h|cases h
    | [_],_,h=>first|exact ae h|cases h
    | _::_::_::_,k,h=>cases k<;>first|exact ae h|cases h
    | [_,_],_::_,h=>first|exact ae h|cases h
   | _=>first|exact ae h|cases h
  | _=>first|exact ae h|cases h
 | .isi a k,X,ex,G,e,g,h=>by
  induction e using zE with
  | Call fn args kws pos=>
   induction fn using zE with
   | Name x p=>
    match args,kws,h with
    | [o,.Name y p'],[],h=>
     have h':(x == "isinstance"&&G.gl.contains 14&&y == eW k&&G.gl.contains (lT k)&&notStar o&&chk Z G a o)=true:=h
     simp only[Bool.and_eq_true] at h'
     have e1:x = "isinstance":=eq_of_beq h'.1.1.1.1.1
     have e2:y=eW k:=eq_of_beq h'.1.1.1.2
     subst e1 e2
     exact both (yu g h'.1.1.1.1.2 h'.1.1.2 h'.1.2 (snd a X ex G o g h'.2).1)
    | [],_,h=>first|exact ae h|cases h
    | [_],_,h=>first|exact ae h|cases h
    | _::b::_::_,k,h=>cases b<;>cases k<;>first|exact ae h|cases h
    | [_,.Name _ _],_::_,h=>first|exact ae h|cases h
    | [_,.BoolOp ..],_,h=>first|exact ae h|cases h
    | [_,.NamedExpr ..],_,h=>first|exact ae h|cases h
    | [_,.BinOp ..],_,h=>first|exact ae h|cases h
    | [_,.UnaryOp ..],_,h=>first|exact ae h|cases h
    | [_,.Lambda ..],_,h=>first|exact ae h|cases h
    | [_,.IfExp ..],_,h=>first|exact ae h|cases h
    | [_,.Dict ..],_,h=>first|exact ae h|cases h
    | [_,.Set ..],_,h=>first|exact ae h|cases h
    | [_,.ListComp ..],_,h=>first|exact ae h|cases h
    | [_,.SetComp ..],_,h=>first|exact ae h|cases h
    | [_,.DictComp ..],_,h=>first|exact ae h|cases h
    | [_,.GeneratorExp ..],_,h=>first|exact ae h|cases h
    | [_,.Await ..],_,h=>first|exact ae h|cases h
    | [_,.Yield ..],_,h=>first|exact ae h|cases h
    | [_,.YieldFrom ..],_,h=>first|exact ae h|cases h
    | [_,.Compare ..],_,h=>first|exact ae h|cases h
    | [_,.Call ..],_,h=>first|exact ae h|cases h
    | [_,.FormattedValue ..],_,h=>first|exact ae h|cases h
    | [_,.JoinedStr ..],_,h=>first|exact ae h|cases h
    | [_,.Constant ..],_,h=>first|exact ae h|cases h
    | [_,.Attribute ..],_,h=>first|exact ae h|cases h
    | [_,.Subscript ..],_,h=>first|exact ae h|cases h
    | [_,.Starred ..],_,h=>first|exact ae h|cases h
    | [_,.Slice ..],_,h=>first|exact ae h|cases h
    | [_,.List ..],_,h=>first|exact ae h|cases h
    | [_,.Tuple ..],_,h=>first|exact ae h|cases h
   | _=>first|exact ae h|cases h
  | _=>first|exact ae h|cases h
 | .comp G' fr tg src ifs elt,X,ex,G,e,g,h=>by
  induction e using zE with
  | ListComp el gens scope pos=>
   have h:nE gens (fun t it fs=>cZ Z G scope G' fr&&dH G' tg t&&(tgs tg).all (fun i=>decide (fr.length<=i))&&(dM Z G src it&&gb src t)&&cA Z G' ifs fs&&chk Z G' elt el)=true:=h
   obtain⟨t,it,fs,rfl,h⟩:=jd h
   have h':(cZ Z G scope G' fr&&dH G' tg t&&(tgs tg).all (fun i=>decide (fr.length<=i))&&(dM Z G src it&&gb src t)&&cA Z G' ifs fs&&chk Z G' elt el)=true:=h
   simp only[Bool.and_eq_true] at h'
   exact both (we g (ji h'.1.1.1.1.1) h'.1.1.1.1.2 (fun i hi=>of_decide_eq_true (List.all_eq_true.mp h'.1.1.1.2 i hi)) (sH src X ex G it t g h'.1.1.2.1 h'.1.1.2.2)
    (fun X' g'=>sG ifs X' nox G' fs g' h'.1.2) (fun X' g'=>(snd elt X' nox G' el g' h'.2).1) (fun x=>dD h'.1.1.2.1 X.env x))
  | _=>first|exact ae h|cases h
theorem jj:∀ (as:List IR) (X:Cx) (ex:EX->Prop) (G:Gm) (l:List Expr),GOk Z CX cl xp X ex G->cA Z G as l=true->PA X l (RA X.K ex (bQ as) (cG cl as))
 | [],X,ex,G,l,g,h=>by
  cases l with
  | nil=>exact iY dw fun σ H Q ⟨S,τ,hs,q⟩=>q.ok _ _ (.refl _) .nil
  | cons _ _=>first|exact ae h|cases h
 | a::as,X,ex,G,l,g,h=>by
  cases l with
  | nil=>first|exact ae h|cases h
  | cons e l=>
   have h':(notStar e&&chk Z G a e&&cA Z G as l)=true:=h
   simp only[Bool.and_eq_true] at h'
   refine iY (cq (snd a X ex G e g h'.1.2).1 (jj as X ex G l g h'.2) (aE h'.1.1 _ _)) fun σ H Q ⟨S,τ,hs,q⟩=>?_
   refine cz (.refl _) hs.left (PO'.bnd q) fun x v H1 e1 _ m1 q1=>?_
   refine kW e1 hs.right (PO'.bnd q1) fun ds vs H2 e2 e2' m2 q2=>?_
   exact q2.ok _ _ e2 (.cons (m1.later e2') m2)
theorem sF:∀ (o:Option IR) (X:Cx) (ex:EX->Prop) (G:Gm) (e:Option Expr),GOk Z CX cl xp X ex G->kU Z G o e=true->PO X e (ROp X.K ex (oU o) (i6 cl o))
 | none,X,ex,G,e,g,h=>by
  cases e with
  | none=>
   intro pins s σ H Q I ⟨S,τ,hs,q⟩
   exact rF pins s σ H Q I (q.ok H (.refl _))
  | some _=>first|exact ae h|cases h
 | some a,X,ex,G,e,g,h=>by
  cases e with
  | none=>first|exact ae h|cases h
  | some e=>
   intro pins s σ H Q I ⟨S,τ,hs,q⟩
   refine rG (snd a X ex G e g h).1 pins s σ H Q I ?_
   refine cz (.refl _) hs (PO'.bnd q) fun x v H1 e1 _ m1 q1=>?_
   induction x using zD with
   | int i=>cases m1.intR;exact⟨i,rfl,q1.ok _ e1⟩
   | _=>exact q1.no.elim
theorem sG:∀ (as:List IR) (X:Cx) (ex:EX->Prop) (G:Gm) (l:List Expr),GOk Z CX cl xp X ex G->cA Z G as l=true->PTs X l (RT X.K ex (bQ as) (eU cl as))
 | [],X,ex,G,l,g,h=>by
  cases l with
  | nil=>intro pins s σ H Q I ⟨S,τ,hs,q⟩;exact rN pins s σ H Q I (q.ok H (.refl _))
  | cons _ _=>first|exact ae h|cases h
 | a::as,X,ex,G,l,g,h=>by
  cases l with
  | nil=>first|exact ae h|cases h
  | cons e l=>
   have h':(notStar e&&chk Z G a e&&cA Z G as l)=true:=h
   simp only[Bool.and_eq_true] at h'
   intro pins s σ H Q I ⟨S,τ,hs,q⟩
   refine oB (snd a X ex G e g h'.1.2).2 (sG as X ex G l g h'.2) pins s σ H Q I ?_
   refine jh (.refl _) hs.left (PO'.bnd q) fun r H2 e2 _ k=>?_
   cases r with
   | true=>rw[if_pos rfl] at k ⊢;exact jh e2 hs.right k fun b H3 e3 _ z=>z H3 e3
   | false=>rw[if_neg Bool.false_ne_true] at k ⊢;exact k.ok H2 e2
theorem sH:∀ (s:Sr) (X:Cx) (ex:EX->Prop) (G:Gm) (e tg:Expr),GOk Z CX cl xp X ex G->dM Z G s e=true->gb s tg=true->PI X tg e (RI X.K ex (fq s) (eV cl s))
 | .rng1 n,X,ex,G,e,tg,g,h,ht=>by
  induction e using zE with
  | Call fn args kws pos=>
   induction fn using zE with
   | Name x p=>
    match args,kws,h with
    | [a],[],h=>
     have h':(x == "range"&&G.gl.contains 15&&notStar a&&chk Z G n a)=true:=h
     simp only[Bool.and_eq_true] at h'
     have e1:x = "range":=eq_of_beq h'.1.1.1
     subst e1
     exact wd g h'.1.1.2 h'.1.2 (snd n X ex G a g h'.2).1
    | [],_,h=>first|exact ae h|cases h
    | [_],_::_,h=>first|exact ae h|cases h
    | _::_::_,_,h=>first|exact ae h|cases h
   | _=>first|exact ae h|cases h
  | _=>first|exact ae h|cases h
 | .val a,X,ex,G,e,tg,g,h,ht=>yD (snd a X ex G e g h).1
 | .zip a b,X,ex,G,e,tg,g,h,ht=>by
  induction tg using zE with
  | Tuple tes tc tp=>
   induction e using zE with
   | Call fn args kws pos=>
    induction fn using zE with
    | Name x p=>
     match args,kws,h with
     | [l,r],[],h=>
      have h':(x == "zip"&&G.gl.contains 17&&notStar l&&notStar r&&chk Z G a l&&chk Z G b r)=true:=h
      simp only[Bool.and_eq_true] at h'
      have e1:x = "zip":=eq_of_beq h'.1.1.1.1.1
      subst e1
      exact yF g h'.1.1.1.1.2 h'.1.1.1.2 h'.1.1.2 (snd a X ex G l g h'.1.2).1 (snd b X ex G r g h'.2).1
     | [],_,h=>first|exact ae h|cases h
     | [_],_,h=>first|exact ae h|cases h
     | [_,_],_::_,h=>first|exact ae h|cases h
     | _::_::_::_,_,h=>first|exact ae h|cases h
    | _=>first|exact ae h|cases h
   | _=>first|exact ae h|cases h
  | _=>exact ae ht
end
end
inductive Rps (K:PySem.W.Frag)(F:Addr->Prop)(H:Hp):St->Ev->List Addr->Prop where
 | nil:Rps K F H [] [] []
 | none {o:Option V}{σ:St}{τ:Ev}{f:List Addr}:Rps K F H σ τ f->Rps K F H (o::σ) (.none::τ) f
 | some {v:V}{d:D}{f:List Addr}{σ:St}{τ:Ev}{g:List Addr}:MRep K F H v d f->Rps K F H σ τ g->Rps K F H (.some v::σ) (.some d::τ) (f++g)
section
variable {K:PySem.W.Frag}{F F':Addr->Prop}{H H':Hp}{σ:St}{τ:Ev}{f:List Addr}
theorem Rps.step (hl:∀ a (u:LD),F a->Rd H a u.o->F' a/\Rd H' a u.o)(ht:∀ a xs,SqE K H a xs->SqE K H' a xs):∀ {σ:St}{τ:Ev}{f:List Addr},(∀ a∈f,¬ F a->H a≠Option.none->¬ F' a/\H' a=H a)->Rps K F H σ τ f->Rps K F' H' σ τ f
 | _,_,_,_,.nil=>.nil
 | _,_,_,k,.none h=>.none (Rps.step hl ht k h)
 | _,_,_,k,.some m h=>.some (m.step hl ht fun a ha=>k a (List.mem_append_left _ ha)) (Rps.step hl ht (fun a ha=>k a (List.mem_append_right _ ha)) h)
theorem Rps.own:∀ {σ:St}{τ:Ev}{f:List Addr},Rps K F H σ τ f->∀ a∈f,¬ F a/\∃ u,H a=.some u
 | _,_,_,.nil=>fun _ h=>absurd h (by simp)
 | _,_,_,.none h=>Rps.own h
 | _,_,_,.some m h=>fun a ha=>by
  rcases List.mem_append.mp ha with ha|ha
  ·exact m.own a ha
  ·exact Rps.own h a ha
theorem cV {o:Option D}{τ:Ev}{i:Nat}:bo (o::τ) (i+1)=bo τ i:=by unfold bo;simp
theorem dn {o:Option D}{τ:Ev}:bo (o::τ) 0=o:=by unfold bo;simp
theorem Rps.at:∀ {σ:St}{τ:Ev}{f:List Addr}{i:Nat}{d:D},Rps K F H σ τ f->bo τ i=.some d->∃ v fv g,σ[i]? = .some (.some v)/\MRep K F H v d fv/\Rps K F H σ (τ.set i .none) g/\f.Perm (fv++g)
 | _,_,_,i,d,.nil,h=>by simp[bo] at h
 | _,_,_,0,d,.none _,h=>by rw[dn] at h;cases h
 | _,_,_,0,d,.some m h',h=>by
  rw[dn] at h
  cases h
  exact⟨_,_,_,rfl,m,.none h',.refl _⟩
 | _,_,_,i+1,d,.none h',h=>by
  rw[cV] at h
  obtain⟨v,fv,g,h1,h2,h3,h4⟩:=Rps.at h' h
  exact⟨v,fv,g,by simpa using h1,h2,.none h3,h4⟩
 | _,_,_,i+1,d,.some (f:=f0) m h',h=>by
  rw[cV] at h
  obtain⟨v,fv,g,h1,h2,h3,h4⟩:=Rps.at h' h
  refine⟨v,fv,f0++g,by simpa using h1,h2,.some m h3,?_⟩
  refine(List.Perm.append_left f0 h4).trans ?_
  rw[<- List.append_assoc,<- List.append_assoc]
  exact List.Perm.append_right g List.perm_append_comm
theorem Rps.put:∀ {σ:St}{τ:Ev}{f:List Addr} (i:Nat) {v:V}{d:D}{fv:List Addr},Rps K F H σ τ f->MRep K F H v d fv->∃ g h,Rps K F H (σ.set i (.some v)) (τ.set i (.some d)) g/\(g++h).Perm (fv++f)
 | _,_,_,i,v,d,fv,.nil,m=>⟨[],_,.nil,.refl _⟩
 | _,_,_,0,v,d,fv,.none h,m=>⟨_,[],.some m h,by rw[List.append_nil]⟩
 | _,_,_,0,v,d,fv,.some (f:=f0) (g:=g0) m' h,m=>⟨_,f0,.some m h,by rw[List.append_assoc];exact List.Perm.append_left _ List.perm_append_comm⟩
 | _,_,_,i+1,v,d,fv,.none h,m=>by
  obtain⟨g,h',h1,h2⟩:=Rps.put i h m
  exact⟨g,h',.none h1,h2⟩
 | _,_,_,i+1,v,d,fv,.some (f:=f0) (g:=g0) m' h,m=>by
  obtain⟨g,h',h1,h2⟩:=Rps.put i h m
  refine⟨f0++g,h',.some m' h1,?_⟩
  rw[List.append_assoc]
  refine(List.Perm.append_left f0 h2).trans ?_
  rw[<- List.append_assoc,<- List.append_assoc]
  exact List.Perm.append_right g0 List.perm_append_comm
theorem Rps.slots {S:Addr->Prop}{is:List Nat}(h:Rps K F H σ τ f)(hF:∀ a,F a->S a)(hf:∀ a∈f,S a):Slots K S H σ τ is:=fun i hi d z=>by
 obtain⟨v,fv,g,h1,h2,h3,h4⟩:=h.at z
 exact⟨v,h1,h2.read hF fun a ha=>hf a (h4.mem_iff.mpr (List.mem_append_left _ ha))⟩
theorem Rps.freeze (is:List Nat):∀ {σ:St}{τ:Ev}{f:List Addr} (k:Nat),Rps K F H σ τ f->∃ fi g,f.Perm (fi++g)/\(∀ F':Addr->Prop,(∀ a,F a->F' a)->(∀ a∈fi,F' a)->(∀ a∈g,¬ F a->¬ F' a)->Rps K F' H σ (fN is k τ) g)/\
  ∀ F':Addr->Prop,(∀ a,F a->F' a)->(∀ a∈fi,F' a)->∀ i,is.contains (k+i)=true->∀ d,bo τ i=.some d->∃ v,σ[i]? = .some (.some v)/\HRep K F' H v d
 | _,_,_,k,.nil=>⟨[],[],.refl _,fun _ _ _ _=>.nil,fun _ _ _ i _ d z=>by simp[bo] at z⟩
 | _,_,_,k,.none h=>by
  obtain⟨fi,g,h1,h2,h3⟩:=Rps.freeze is (k+1) h
  refine⟨fi,g,h1,fun F' a b c=>?_,fun F' a b i hi d z=>?_⟩
  ·unfold fN
   have e:(if is.contains k=true then Option.map er (Option.none:Option D) else Option.none)=Option.none:=by split<;>rfl
   rw[e]
   exact .none (h2 F' a b c)
  ·cases i with
   | zero=>rw[dn] at z;cases z
   | succ i=>
    rw[cV] at z
    obtain⟨v,q1,q2⟩:=h3 F' a b i (by rw[show k+1+i=k+(i+1) by omega];exact hi) d z
    exact⟨v,by simpa using q1,q2⟩
 | _,_,_,k,.some (v:=v) (d:=d0) (f:=f0) (g:=g0) m h=>by
  obtain⟨fi,g,h1,h2,h3⟩:=Rps.freeze is (k+1) h
  by_cases hc:is.contains k=true
  ·refine⟨f0++fi,g,by rw[List.append_assoc];exact List.Perm.append_left _ h1,fun F' a b c=>?_,fun F' a b i hi d z=>?_⟩
   ·unfold fN
    rw[if_pos hc]
    exact .some (f:=[]) ((m.read a fun x hx=>b x (List.mem_append_left _ hx)).frozen) (h2 F' a (fun x hx=>b x (List.mem_append_right _ hx)) c)
   ·cases i with
    | zero=>
     rw[dn] at z
     cases z
     exact⟨v,rfl,m.read a fun x hx=>b x (List.mem_append_left _ hx)⟩
    | succ i=>
     rw[cV] at z
     obtain⟨v,q1,q2⟩:=h3 F' a (fun x hx=>b x (List.mem_append_right _ hx)) i (by rw[show k+1+i=k+(i+1) by omega];exact hi) d z
     exact⟨v,by simpa using q1,q2⟩
  ·refine⟨fi,f0++g,?_,fun F' a b c=>?_,fun F' a b i hi d z=>?_⟩
   ·refine(List.Perm.append_left f0 h1).trans ?_
    rw[<- List.append_assoc,<- List.append_assoc]
    exact List.Perm.append_right g List.perm_append_comm
   ·unfold fN
    rw[if_neg hc]
    exact .some (m.step (fun x xs q r=>⟨a x q,r⟩) (fun x xs q=>q) fun x hx n _=>⟨c x (List.mem_append_left _ hx) n,rfl⟩) (h2 F' a b fun x hx=>c x (List.mem_append_right _ hx))
   ·cases i with
    | zero=>exact absurd hi hc
    | succ i=>
     rw[cV] at z
     obtain⟨v,q1,q2⟩:=h3 F' a b i (by rw[show k+1+i=k+(i+1) by omega];exact hi) d z
     exact⟨v,by simpa using q1,q2⟩
end
structure Stp (F:Addr->Prop)(H:Hp)(f:List Addr)(F':Addr->Prop)(H':Hp):Prop where
 same:bO H H'
 inn:∀ a,F a->F' a
 out:∀ a,F' a->F a∨a∈f∨H a=none
structure Ow (K:PySem.W.Frag)(F:Addr->Prop)(H:Hp)(f:List Addr)(F':Addr->Prop)(H':Hp)(σ:St)(v:V)(d:D)(fv:List Addr)(τ':Ev)(f':List Addr):Prop where
 stp:Stp F H f F' H'
 fok:FOk F' H'
 rep:MRep K F' H' v d fv
 rps:Rps K F' H' σ τ' f'
 nod:(fv++f').Nodup
 mem:∀ a∈fv++f',a∈f∨H a=none
structure Ows (K:PySem.W.Frag)(F:Addr->Prop)(H:Hp)(f:List Addr)(F':Addr->Prop)(H':Hp)(σ:St)(v:List V)(d:List D)(fv:List Addr)(τ':Ev)(f':List Addr):Prop where
 stp:Stp F H f F' H'
 fok:FOk F' H'
 rep:MReps K F' H' v d fv
 rps:Rps K F' H' σ τ' f'
 nod:(fv++f').Nodup
 mem:∀ a∈fv++f',a∈f∨H a=none
section
variable {K:PySem.W.Frag}{F F' F'':Addr->Prop}{H H' H'':Hp}{f f':List Addr}
theorem Stp.refl:Stp F H f F H:=⟨.refl _,fun _ h=>h,fun _ h=>.inl h⟩
theorem Stp.trans (a:Stp F H f F' H')(b:Stp F' H' f' F'' H'')(hf:∀ x∈f',x∈f∨H x=none):Stp F H f F'' H'':=⟨a.same.trans b.same,fun x h=>b.inn x (a.inn x h),fun x h=>by
 rcases b.out x h with h|h|h
 ·exact a.out x h
 ·rcases hf x h with h|h
  ·exact .inr (.inl h)
  ·exact .inr (.inr h)
 ·exact .inr (.inr (a.same.free h))⟩
theorem MRep.stp {v:V}{d:D}{fv:List Addr}(m:MRep K F H v d fv)(s:Stp F H f F' H')(h:∀ a∈fv,a∉f):MRep K F' H' v d fv:=
 m.step (fun a xs q r=>⟨s.inn a q,s.same.rd r⟩) (fun a xs q=>s.same.seqT q) fun a ha n hn=>by
  obtain⟨_,xs,e⟩:=m.own a ha
  refine⟨fun z=>?_,(s.same _ _ e).trans e.symm⟩
  rcases s.out a z with z|z|z
  ·exact n z
  ·exact h a ha z
  ·exact hn z
theorem MReps.stp {v:List V}{d:List D}{fv:List Addr}(m:MReps K F H v d fv)(s:Stp F H f F' H')(h:∀ a∈fv,a∉f):MReps K F' H' v d fv:=
 m.step (fun a xs q r=>⟨s.inn a q,s.same.rd r⟩) (fun a xs q=>s.same.seqT q) fun a ha n hn=>by
  obtain⟨_,xs,e⟩:=m.own a ha
  refine⟨fun z=>?_,(s.same _ _ e).trans e.symm⟩
  rcases s.out a z with z|z|z
  ·exact n z
  ·exact h a ha z
  ·exact hn z
end
def RO (K:PySem.W.Frag)(ex:EX->Prop)(g:Ev->Res (D×Ev)):TE:=fun σ H Q=>∃ F τ f,FOk F H/\Rps K F H σ τ f/\f.Nodup/\PO' ex (g τ) fun p=>∀ v H' F' fv f',Ow K F H f F' H' σ v p.1 fv p.2 f'->Q v H'
def ROs (K:PySem.W.Frag)(ex:EX->Prop)(g:Ev->Res (List D×Ev)):TA:=fun σ H Q=>∃ F τ f,FOk F H/\Rps K F H σ τ f/\f.Nodup/\PO' ex (g τ) fun p=>∀ v H' F' fv f',Ows K F H f F' H' σ v p.1 fv p.2 f'->Q v H'
abbrev Kn (K:PySem.W.Frag)(S:Addr->Prop)(H:Hp)(Q:VK):List D->Prop:=fun ds=>∀ p ys H',bO H H'->H p=none->H' p=some (.lst ys)->HReps K (fun a=>nw S H a/\a≠p) H' ys ds->Q (.ref p) H'
def RN (K:PySem.W.Frag)(ex:EX->Prop)(is:List Nat)(f:Ev->Res (List D)):TE:=fun σ H Q=>∃ S τ,Slots K S H σ τ is/\PO' ex (f τ) (Kn K S H Q)
noncomputable def eR:D->Res (List D)
 | .lst _ ds=>.ok ds
 | _=>stk
section
variable {K:PySem.W.Frag}{F F':Addr->Prop}{H H':Hp}{σ:St}{τ:Ev}{f:List Addr}{ex:EX->Prop}{S:Addr->Prop}
theorem pM {vs ws:List V}{ds:List D}{p:Addr}{H2:Hp}(m:HReps K (nw S H) H2 vs ds)(hp:H2 p=none):HReps K (fun a=>nw S H a/\a≠p) (upd H2 p (.lst ws)) vs ds:=
 m.step (fun a xs h r=>by
  have hne:a≠p:=fun z=>r.some (by rw[z];exact hp)
  refine⟨⟨h,hne⟩,?_⟩
  unfold Rd
  rw[aD hne]
  exact r) fun a xs h=>(bO.upd hp).seqT h
theorem grow (P:Addr->Prop)(fok:FOk F H)(r:Rps K F H σ τ f)(e:bO H H') :
  FOk (fun a=>F a∨(P a/\H a=none/\H' a≠none)) H'/\Rps K (fun a=>F a∨(P a/\H a=none/\H' a≠none)) H' σ τ f/\Stp F H f (fun a=>F a∨(P a/\H a=none/\H' a≠none)) H':=by
 refine⟨fun a h=>?_,r.step (fun a xs q rd=>⟨.inl q,e.rd rd⟩) (fun a xs q=>e.seqT q) fun a ha n hn=>⟨fun z=>?_,?_⟩,⟨e,fun a h=>.inl h,fun a h=>?_⟩⟩
 ·rcases h with h|h
  ·intro z
   exact fok a h (e.free z)
  ·exact h.2.2
 ·rcases z with z|z
  ·exact n z
  ·exact hn z.2.1
 ·obtain⟨_,xs,q⟩:=r.own a ha
  exact(e _ _ q).trans q.symm
 ·rcases h with h|h
  ·exact .inl h
  ·exact .inr (.inr h.2.1)
theorem fZ (fok:FOk F H)(r:Rps K F H σ τ f)(e:bO H H'):FOk F H'/\Rps K F H' σ τ f/\Stp F H f F H':=by
 refine⟨fun a h z=>fok a h (e.free z),r.step (fun a xs q rd=>⟨q,e.rd rd⟩) (fun a xs q=>e.seqT q) fun a ha n hn=>⟨n,?_⟩,⟨e,fun a h=>h,fun a h=>.inl h⟩⟩
 obtain⟨_,xs,q⟩:=r.own a ha
 exact(e _ _ q).trans q.symm
theorem dZ (is:List Nat)(fok:FOk F H)(r:Rps K F H σ τ f)(nd:f.Nodup):∃ F1 g,FOk F1 H/\Rps K F1 H σ (frz is τ) g/\g.Nodup/\Stp F H f F1 H/\(∀ a∈g,a∈f)/\Slots K F1 H σ τ is:=by
 obtain⟨fi,g,h1,h2,h3⟩:=r.freeze is 0
 have nd':(fi++g).Nodup:=h1.nodup_iff.mp nd
 have dis:∀ a∈g,a∉fi:=fun a ha hb=>(List.nodup_append.mp nd').2.2 a hb a ha rfl
 have inF:∀ a∈fi,a∈f:=fun a ha=>h1.mem_iff.mpr (List.mem_append_left _ ha)
 have inG:∀ a∈g,a∈f:=fun a ha=>h1.mem_iff.mpr (List.mem_append_right _ ha)
 refine⟨fun a=>F a∨a∈fi,g,fun a h=>?_,h2 _ (fun a h=>.inl h) (fun a h=>.inr h) (fun a ha n z=>?_),(List.nodup_append.mp nd').2.1,⟨.refl _,fun a h=>.inl h,fun a h=>?_⟩,inG,fun i hi d z=>?_⟩
 ·rcases h with h|h
  ·exact fok a h
  ·obtain⟨_,xs,q⟩:=r.own a (inF a h)
   rw[q];simp
 ·rcases z with z|z
  ·exact n z
  ·exact dis a ha z
 ·rcases h with h|h
  ·exact .inl h
  ·exact .inr (.inl (inF a h))
 ·exact h3 _ (fun a h=>.inl h) (fun a h=>.inr h) i (by simpa using hi) d z
theorem cw {is:List Nat}(r:Rps K F H σ τ f):Slots K (fun _=>True) H σ τ is:=r.slots (fun _ _=>trivial) fun _ _=>trivial
theorem HRep.fix {v:V}{d:D}(m:HRep K (L2.nw F H) H' v d):HRep K (fun a=>F a∨(True/\H a=none/\H' a≠none)) H' v d:=m.step (fun a xs h r=>⟨h.elim (fun z=>.inl z) fun z=>.inr ⟨trivial,z,r.some⟩,r⟩) fun a xs h=>h
end
section
variable {X:Cx}{ex:EX->Prop}{cl:Nat->List D->Res D}
theorem o_v {i:Nat}{e:Expr}(he:PE X e (nV i))(mv:Bool):PE X e (RO X.K ex (evO cl mv (.v i))):=by
 refine b8 he fun σ H Q ⟨F,τ,f,fok,r,nd,q⟩=>?_
 rw[yf] at q
 cases z:bo τ i with
 | none=>rw[z] at q;exact q.no.elim
 | some d=>
  rw[z] at q
  obtain⟨v,fv,g,h1,h2,h3,h4⟩:=r.at z
  have nd':(fv++g).Nodup:=h4.nodup_iff.mp nd
  cases mv with
  | true=>
   have q':=(show PO' ex (.ok (d,τ.set i none):Res (D×Ev)) _ from q).ok
   exact⟨v,h1,q' v H F fv g ⟨.refl,fok,h2,h3,nd',fun a ha=>.inl (h4.mem_iff.mpr ha)⟩⟩
  | false=>
   have q':=(show PO' ex (.ok (er d,τ.set i (some (er d))):Res (D×Ev)) _ from q).ok
   have dis:∀ a∈g,a∉fv:=fun a ha hb=>(List.nodup_append.mp nd').2.2 a hb a ha rfl
   have m1:MRep X.K (fun a=>F a∨a∈fv) H v (er d) []:=(h2.read (fun a h=>.inl h) (fun a h=>.inr h)).frozen
   have r1:Rps X.K (fun a=>F a∨a∈fv) H σ (τ.set i none) g:=h3.step (fun a xs h r=>⟨.inl h,r⟩) (fun a xs h=>h) fun a ha n _=>⟨fun z=>z.elim n (dis a ha),rfl⟩
   obtain⟨g',h',r2,p2⟩:=r1.put i m1
   have hσ:σ.set i (some v)=σ:=by
    apply List.ext_getElem?
    intro j
    rw[List.getElem?_set]
    by_cases hj:i=j
    ·subst hj
     have hlt:i < σ.length:=(List.getElem?_eq_some_iff.mp h1).1
     rw[if_pos rfl,if_pos hlt,h1]
    ·rw[if_neg hj]
   rw[hσ,List.set_set] at r2
   rw[List.nil_append] at p2
   have nd2:(g'++h').Nodup:=p2.nodup_iff.mpr (List.nodup_append.mp nd').2.1
   refine⟨v,h1,q' v H _ [] g' ⟨⟨.refl _,fun a h=>.inl h,fun a h=>?_⟩,fun a h=>?_,m1,r2,(List.nodup_append.mp nd2).1,fun a ha=>?_⟩⟩
   ·exact h.elim (fun z=>.inl z) fun z=>.inr (.inl (h4.mem_iff.mpr (List.mem_append_left _ z)))
   ·rcases h with h|h
    ·exact fok a h
    ·obtain⟨_,xs,e⟩:=h2.own a h
     rw[e];simp
   ·have:a∈g:=p2.mem_iff.mp (List.mem_append_left _ (by simpa using ha))
    exact .inl (h4.mem_iff.mpr (List.mem_append_right _ this))
theorem o_tup {l:List Expr}{n:Nat}{pos:Pos}{g:Ev->Res (List D×Ev)}(h:PA X l (ROs X.K ex g)):PE X (.Tuple l n pos) (RO X.K ex fun τ=>bnd (g τ) fun p=>grd (cQ p.1.length) (.ok (.tup p.1,p.2))):=by
 refine b8 (kI h) fun σ H Q ⟨F,τ,f,fok,r,nd,q⟩=>⟨F,τ,f,fok,r,nd,(PO'.bnd q).mono fun p hp vs H1 F1 fv f1 o=>?_⟩
 obtain⟨gd,hp⟩:=PO'.grd hp
 refine⟨by rw[o.rep.length];exact cS gd,fun p' hp'=>hp.ok _ _ F1 fv f1 ?_⟩
 have e:bO H1 (upd H1 p' (.tup vs)):=.upd hp'
 obtain⟨k1,k2,k3⟩:=fZ o.fok o.rps e
 refine⟨o.stp.trans k3 (fun x hx=>o.mem x (List.mem_append_right _ hx)),k1,.tup (.inl (.inl bN)) (o.rep.stp k3 fun a ha hb=>(List.nodup_append.mp o.nod).2.2 a ha a hb rfl),k2,o.nod,o.mem⟩
theorem o_lst {l:List Expr}{pos:Pos}{g:Ev->Res (List D×Ev)}(h:PA X l (ROs X.K ex g)):PE X (.List l pos) (RO X.K ex fun τ=>bnd (g τ) fun p=>grd (cQ p.1.length) (.ok (.lst true p.1,p.2))):=by
 refine b8 (oq h) fun σ H Q ⟨F,τ,f,fok,r,nd,q⟩=>⟨F,τ,f,fok,r,nd,(PO'.bnd q).mono fun p hp vs H1 F1 fv f1 o=>?_⟩
 obtain⟨gd,hp⟩:=PO'.grd hp
 refine⟨by rw[o.rep.length];exact cS gd,fun p' hp'=>hp.ok _ _ F1 (p'::fv) f1 ?_⟩
 have e:bO H1 (upd H1 p' (.lst vs)):=.upd hp'
 obtain⟨k1,k2,k3⟩:=fZ o.fok o.rps e
 refine⟨o.stp.trans k3 (fun x hx=>o.mem x (List.mem_append_right _ hx)),k1,.lstO (fun z=>o.fok _ z hp') bN (o.rep.stp k3 fun a ha hb=>(List.nodup_append.mp o.nod).2.2 a ha a hb rfl),k2,?_,fun a ha=>?_⟩
 ·rw[List.cons_append,List.nodup_cons]
  refine⟨fun z=>?_,o.nod⟩
  rcases List.mem_append.mp z with z|z
  ·obtain⟨_,xs,e⟩:=o.rep.own _ z
   rw[hp'] at e;cases e
  ·obtain⟨_,xs,e⟩:=o.rps.own _ z
   rw[hp'] at e;cases e
 ·rw[List.cons_append] at ha
  rcases List.mem_cons.mp ha with rfl|ha
  ·exact .inr (o.stp.same.free hp')
  ·exact o.mem a ha
theorem wg:PA X [] (ROs X.K ex fun τ=>.ok ([],τ)):=iY dw fun σ H Q ⟨F,τ,f,fok,r,nd,q⟩=>q.ok [] H F [] f ⟨.refl,fok,.nil,r,nd,fun a ha=>.inl ha⟩
theorem sI {e:Expr}{l:List Expr}{ga:Ev->Res (D×Ev)}{gs:Ev->Res (List D×Ev)}(hn:notStar e=true)(ha:PE X e (RO X.K ex ga))(hr:PA X l (ROs X.K ex gs)) :
  PA X (e::l) (ROs X.K ex fun τ=>bnd (ga τ) fun p=>bnd (gs p.2) fun q=>.ok (p.1::q.1,q.2)):=by
 refine iY (cq ha hr (aE hn _ _)) fun σ H Q ⟨F,τ,f,fok,r,nd,q⟩=>⟨F,τ,f,fok,r,nd,(PO'.bnd q).mono fun p hp v H1 F1 fv f1 o=>?_⟩
 refine⟨F1,p.2,f1,o.fok,o.rps,(List.nodup_append.mp o.nod).2.1,(PO'.bnd hp).mono fun p' hp' vs H2 F2 fvs f2 o2=>?_⟩
 have dis:∀ a∈fv,a∉f1:=fun a h1 h2=>(List.nodup_append.mp o.nod).2.2 a h1 a h2 rfl
 have m2:=o.rep.stp o2.stp dis
 refine hp'.ok (v::vs) H2 F2 (fv++fvs) f2 ⟨o.stp.trans o2.stp (fun x hx=>o.mem x (List.mem_append_right _ hx)),o2.fok,.cons m2 o2.rep,o2.rps,?_,fun a ha=>?_⟩
 ·rw[List.append_assoc]
  refine List.nodup_append.mpr ⟨(List.nodup_append.mp o.nod).1,o2.nod,fun a h1 b h2 e=>?_⟩
  subst e
  rcases o2.mem a h2 with z|z
  ·exact dis a h1 z
  ·obtain⟨_,xs,e⟩:=o.rep.own a h1
   rw[z] at e;cases e
 ·rw[List.append_assoc] at ha
  rcases List.mem_append.mp ha with ha|ha
  ·exact o.mem a (List.mem_append_left _ ha)
  ·rcases o2.mem a ha with z|z
   ·exact o.mem a (List.mem_append_right _ z)
   ·exact .inr (o.stp.same.free z)
end
section
variable {Z:Sg}{CX:CXT}{cl:Nat->List D->Res D}{xp:XK->Hp->EX->Prop}{X:Cx}{ex:EX->Prop}{G:Gm}
def spP (K:PySem.W.Frag)(ex:EX->Prop)(cl:Nat->List D->Res D)(f:Nat)(vs:List V)(H:Hp)(Q:VK):Prop:=∃ F ds,FOk F H/\HReps K F H vs ds/\PO' ex (cl f (ers ds)) fun d=>∀ v H' F' fv,Out K F H F' H' v d fv->Q v H'
theorem pN (g:GOk Z CX cl xp X ex G){f:Nat}{x:Str}{p pos:Pos}{es:List IR}{args:List Expr}{t:TA}(h1:cU Z G f x=true)(h2:Z.fnc G f=true)(hst:cA Z G es args=true)(h:PA X args t)
  (h0:args=[]->∀ σ H (Q:List V->Hp->Prop),t σ H Q->Q [] H):PE X (.Call (.Name x p) args [] pos) (fun σ H Q=>t σ H fun vs H1=>spP X.K ex cl f vs H1 Q):=by
 obtain⟨k1,k2,k3,k4⟩:=ez g h1
 obtain⟨k,fa',fd,ps,hm,hkp,hb,F,hr,hlen⟩:=(g.fns f (fR h2).1 (fR h2).2 x k2).ex
 obtain⟨E,hP,hE⟩:=g.exs
 intro pins s σ H Q I q
 have fin:∀ (us:List Value) (s1:Shared) (vs:List V) (H1:Hp),Inv X pins σ H1 s1->Vals vs us->spP X.K ex cl f vs H1 Q->wpAny (model X.prog X.w) X.A (call (.ref fa') us) (EP X pins σ Q) X.xe s1:=by
  intro us s1 vs H1 I1 r ⟨Fc,ds,fok,m,q1⟩
  have hl:=hlen ex _ _ q1
  rw[dh] at hl
  refine jg F hr hb hP g.hid I1 r (by rw[m.length];exact hl) fok m ?_
  cases z:cl f (ers ds) with
  | error er=>
   rw[z] at q1
   cases er with
   | stuck=>exact q1.no.elim
   | exc c=>exact hE c _ q1
  | ok d=>
   rw[z] at q1
   exact q1.ok
 refine wpAny_Call_Name_kw (eG I k1 hm ?_ k4)
 cases args with
 | nil=>
  cases es with
  | cons _ _=>cases hst
  | nil=>exact PySem.W.callWith_K0 I.kIn hkp (fin [] s [] H I .nil (h0 rfl σ H _ q))
 | cons e l=>
  cases es with
  | nil=>cases hst
  | cons a es=>
   have hst':(notStar e&&chk Z G a e&&cA Z G es l)=true:=hst
   simp only[Bool.and_eq_true] at hst'
   refine PySem.W.callWith_K (h₀:=X.base) I.ok.mod.kin hkp (thn (h pos pins s σ H _ I q) fun us s1 ⟨vs,H1,I1,r,q1⟩=>⟨I1.kIn,?_⟩) (aE hst'.1.1 l X.env) (cW Z G (es:=es) pos X.env hst'.2)
   exact fin us s1 vs H1 I1 r q1
theorem MRep.lfree_nil {K:PySem.W.Frag}{F F':Addr->Prop}{H:Hp}{v:V}{d:D}{fv:List Addr}(m:MRep K F H v d fv)(n:b9 d=true):MRep K F' H v d []:=(m.read (S:=fun _=>True) (fun _ _=>trivial) fun _ _=>trivial).free n
theorem o_call (g:GOk Z CX cl xp X ex G){f:Nat}{x:Str}{p pos:Pos}{es:List IR}{args:List Expr}(h1:cU Z G f x=true)(h2:Z.fnc G f=true)(hst:cA Z G es args=true)(mv:Bool) :
  PE X (.Call (.Name x p) args [] pos) (RO X.K ex (evO cl mv (.call f es))):=by
 have pa:=jj es X ex G args g hst
 have pe:=pN (p:=p) (pos:=pos) g h1 h2 hst pa (fun e σ H Q ⟨S,τ,hs,q⟩=>by
  subst e
  cases es with
  | nil=>exact q.ok [] H (.refl _) .nil
  | cons _ _=>cases hst)
 refine b8 pe fun σ H Q ⟨F,τ,fo,fok,r,nd,q⟩=>?_
 have q':PO' ex (bnd (cG cl es τ) fun ds=>bnd (cl f (ers ds)) fun d=>if b9 d=true then .ok (d,τ) else .ok (d,frz (bQ es) τ)) (fun p=>∀ v H' F' fv f',Ow X.K F H fo F' H' σ v p.1 fv p.2 f'->Q v H'):=q
 -- read without giving up
 have borrow:(∀ ds,cG cl es τ=.ok ds->PO' ex (cl f (ers ds)) fun d=>b9 d=true/\∀ v H' F' fv f',Ow X.K F H fo F' H' σ v d fv τ f'->Q v H')->PO' ex (cG cl es τ) (fun _=>True)->RA X.K ex (bQ es) (cG cl es) σ H (fun vs H1=>spP X.K ex cl f vs H1 Q):=by
  intro hk hok
  refine kW (.refl _) (cw r) hok.eq fun ds vs H1 e1 _ m1 q1=>?_
  refine⟨fun a=>H1 a≠none,ds,fun a h=>h,m1.step (fun a xs h rd=>⟨rd.some,rd⟩) fun a xs h=>h,(hk ds q1.1).mono fun d hd v H' F' fv o=>?_⟩
  obtain⟨k1,k2,k3⟩:=fZ fok r (e1.trans o.same)
  exact hd.2 v H' F [] fo ⟨k3,k1,o.rep.lfree_nil hd.1,k2,by simpa using nd,fun a ha=>.inl (by simpa using ha)⟩
 cases z:cG cl es τ with
 | error er=>
  rw[z] at q'
  cases er with
  | stuck=>exact q'.no.elim
  | exc c=>exact borrow (fun ds h=>by rw[z] at h;cases h) (by rw[z];exact q')
 | ok ds=>
  rw[z] at q'
  have q1:PO' ex (bnd (cl f (ers ds)) fun d=>if b9 d=true then .ok (d,τ) else .ok (d,frz (bQ es) τ)) (fun p=>∀ v H' F' fv f',Ow X.K F H fo F' H' σ v p.1 fv p.2 f'->Q v H'):=q'
  cases zc:cl f (ers ds) with
  | error er=>
   rw[zc] at q1
   cases er with
   | stuck=>exact q1.no.elim
   | exc c=>exact borrow (fun ds' h=>by rw[z] at h;cases h;rw[zc];exact q1) (by rw[z];trivial)
  | ok d=>
   rw[zc] at q1
   have q2:PO' ex (if b9 d=true then .ok (d,τ) else .ok (d,frz (bQ es) τ)) (fun p=>∀ v H' F' fv f',Ow X.K F H fo F' H' σ v p.1 fv p.2 f'->Q v H'):=q1
   by_cases hl:b9 d=true
   ·rw[if_pos hl] at q2
    exact borrow (fun ds' h=>by rw[z] at h;cases h;rw[zc];exact⟨hl,q2.ok⟩) (by rw[z];trivial)
   ·rw[if_neg hl] at q2
    obtain⟨F1,gg,b1,b2,b3,b4,b5,b6⟩:=dZ (bQ es) fok r nd
    refine kW (Kt:=fun ds'=>ds'=ds) (.refl _) b6 (by rw[z];rfl) fun ds' vs H1 e1 _ m1 e=>?_
    subst e
    have hm:HReps X.K (fun a=>F1 a∨(True/\H a=none/\H1 a≠none)) H1 vs ds':=m1.step (fun a xs h r=>⟨h.elim (fun z=>.inl z) fun z=>.inr ⟨trivial,z,r.some⟩,r⟩) fun a xs h=>h
    obtain⟨c1,c2,c3⟩:=grow (fun _=>True) b1 b2 e1
    refine⟨_,ds',c1,hm,?_⟩
    rw[zc]
    intro v H' F' fv o
    have s1:Stp (fun a=>F1 a∨(True/\H a=none/\H1 a≠none)) H1 gg F' H':=⟨o.same,o.inn,fun a h=>(o.out a h).elim (fun z=>.inl z) fun z=>.inr (.inr z)⟩
    have r2:Rps X.K F' H' σ (frz (bQ es) τ) gg:=c2.step (fun a xs q rd=>⟨o.inn a q,o.same.rd rd⟩) (fun a xs q=>o.same.seqT q) fun a ha n hn=>by
     obtain⟨_,xs,e⟩:=c2.own a ha
     refine⟨fun z=>?_,(o.same _ _ e).trans e.symm⟩
     rcases o.out a z with z|z
     ·exact n z
     ·exact hn z
    refine q2.ok v H' F' fv gg ⟨(b4.trans c3 (fun x hx=>.inl (b5 x hx))).trans s1 (fun x hx=>.inl (b5 x hx)),o.fok,o.rep,r2,?_,fun a ha=>?_⟩
    ·refine List.nodup_append.mpr ⟨o.nod,b3,fun a h1 b h2 e=>?_⟩
     subst e
     obtain⟨_,xs,e⟩:=c2.own a h2
     rw[o.new a h1] at e
     cases e
    ·rcases List.mem_append.mp ha with ha|ha
     ·exact .inr (e1.free (o.new a ha))
     ·exact .inl (b5 a ha)
theorem cL {a:IR}{e:Expr}(he:PE X e (RD X.K ex (vars a) (evR cl a)))(hN:cH a=true->PE X e (RN X.K ex (vars a) fun τ=>bnd (evR cl a τ) eR)):PE X e (RO X.K ex fun τ=>bnd (evR cl a τ) fun d=>.ok (cp a d τ)):=by
 intro pins s σ H Q I h
 obtain⟨F,τ,fo,fok,r,nd,q⟩:=h
 replace q:PO' ex (bnd (evR cl a τ) fun d=>.ok (cp a d τ)) (fun p=>∀ v H' F' fv f',Ow X.K F H fo F' H' σ v p.1 fv p.2 f'->Q v H'):=q
 have rd:RD X.K ex (vars a) (evR cl a) σ H Q->wpAny (model X.prog X.w) X.A (eval e X.env) (EP X pins σ Q) X.xe s:=fun h=>he pins s σ H Q I h
 cases z:evR cl a τ with
 | error er=>
  rw[z] at q
  cases er with
  | stuck=>exact q.no.elim
  | exc c=>exact rd ⟨fun _=>True,τ,cw r,by rw[z];exact q⟩
 | ok d=>
  rw[z] at q
  have q1:∀ v H' F' fv f',Ow X.K F H fo F' H' σ v (cp a d τ).1 fv (cp a d τ).2 f'->Q v H':=q
  by_cases hl:b9 d=true
  ·unfold cp at q1
   rw[if_pos hl] at q1
   refine rd ⟨fun _=>True,τ,cw r,?_⟩
   rw[z]
   intro v H' e m
   obtain⟨k1,k2,k3⟩:=fZ fok r e
   exact q1 v H' F [] fo ⟨k3,k1,m.free hl,k2,by simpa using nd,fun a ha=>.inl (by simpa using ha)⟩
  ·have other:cp a d τ=(er d,frz (vars a) τ)->wpAny (model X.prog X.w) X.A (eval e X.env) (EP X pins σ Q) X.xe s:=fun hk=>by
    rw[hk] at q1
    obtain⟨F1,gg,b1,b2,b3,b4,b5,b6⟩:=dZ (vars a) fok r nd
    refine rd ⟨F1,τ,b6,?_⟩
    rw[z]
    intro v H' e m
    obtain⟨c1,c2,c3⟩:=grow (fun _=>True) b1 b2 e
    exact q1 v H' _ [] gg ⟨b4.trans c3 (fun x hx=>.inl (b5 x hx)),c1,m.fix.frozen,c2,by simpa using b3,fun a ha=>.inl (b5 a (by simpa using ha))⟩
   by_cases hn:cH a=true
   ·induction d using zD with
    | lst o ds=>
     by_cases hi:bR ds=true
     ·have hk:cp a (.lst o ds) τ=(.lst true ds,τ):=by
       unfold cp
       rw[if_neg hl,hn]
       show (if bR ds=true then _ else _)=_
       rw[if_pos hi]
      rw[hk] at q1
      refine hN hn pins s σ H Q I ⟨fun _=>True,τ,cw r,?_⟩
      show PO' ex (bnd (evR cl a τ) eR) _
      rw[z]
      intro p ys H' e hp hy m
      obtain⟨k1,k2,k3⟩:=fZ fok r e
      refine q1 (.ref p) H' F [p] fo ⟨k3,k1,.lstO (fun zz=>fok p zz hp) hy (m.free hi),k2,?_,fun a ha=>?_⟩
      ·rw[List.singleton_append,List.nodup_cons]
       refine⟨fun zz=>?_,nd⟩
       obtain⟨_,xs,e⟩:=r.own p zz
       rw[hp] at e;cases e
      ·rw[List.singleton_append] at ha
       rcases List.mem_cons.mp ha with rfl|ha
       ·exact .inr hp
       ·exact .inl ha
     ·have hk:cp a (.lst o ds) τ=(.lst true (ers ds),frz (vars a) τ):=by
       unfold cp
       rw[if_neg hl,hn]
       show (if bR ds=true then _ else _)=_
       rw[if_neg hi]
      rw[hk] at q1
      obtain⟨F1,gg,b1,b2,b3,b4,b5,b6⟩:=dZ (vars a) fok r nd
      refine hN hn pins s σ H Q I ⟨F1,τ,b6,?_⟩
      show PO' ex (bnd (evR cl a τ) eR) _
      rw[z]
      intro p ys H' e hp hy m
      obtain⟨c1,c2,c3⟩:=grow (fun a=>a≠p) b1 b2 e
      have m2:HReps X.K (fun a=>F1 a∨(a≠p/\H a=none/\H' a≠none)) H' ys ds:=m.step (fun a xs h r=>⟨h.1.elim (fun z=>.inl z) fun z=>.inr ⟨h.2,z,r.some⟩,r⟩) fun a xs h=>h
      refine q1 (.ref p) H' _ [p] gg ⟨b4.trans c3 (fun x hx=>.inl (b5 x hx)),c1,.lstO (fun zz=>?_) hy m2.frozen,c2,?_,fun a ha=>?_⟩
      ·rcases zz with zz|zz
       ·exact b1 p zz hp
       ·exact zz.1 rfl
      ·rw[List.singleton_append,List.nodup_cons]
       refine⟨fun zz=>?_,b3⟩
       obtain⟨_,xs,e⟩:=b2.own p zz
       rw[hp] at e;cases e
      ·rw[List.singleton_append] at ha
       rcases List.mem_cons.mp ha with rfl|ha
       ·exact .inr hp
       ·exact .inl (b5 a ha)
    | _=>
     refine other ?_
     unfold cp
     rw[if_neg hl,hn]
   ·have hn':cH a=false:=by simpa using hn
    refine other ?_
    unfold cp
    rw[if_neg hl,hn']
theorem yI {a b:Expr}{pos:Pos}{va vb:List Nat}{fa fb:Ev->Res D}(ha:PE X a (RD X.K ex va fa))(hb:PE X b (RD X.K ex vb fb)) :
  PE X (.BinOp a .Add b pos) (RN X.K ex (va++vb) fun τ=>bnd (bnd (fa τ) fun x=>bnd (fb τ) fun y=>opB .add x y) eR):=by
 refine b8 (oh lO ha hb) fun σ H Q ⟨S,τ,hs,q⟩=>?_
 refine cz (.refl _) hs.left (PO'.bnd (PO'.bnd q)) fun x v H1 e1 _ m1 q1=>?_
 refine cz e1 hs.right (PO'.bnd q1) fun y w H2 e2 e2' m2 q2=>?_
 have stuck:∀ {P:Prop},opB .add x y=stk->P:=fun z=>by rw[z] at q2;exact q2.no.elim
 induction x using zD with
 | int a=>induction y using zD with
  | int b=>exact q2.ok.no.elim
  | _=>exact stuck rfl
 | str a=>induction y using zD with
  | str b=>exact(PO'.grd q2).2.ok.no.elim
  | _=>exact stuck rfl
 | lst o a=>induction y using zD with
  | lst o' b=>
   obtain⟨p,xs,rfl,h1,n1⟩:=m1.lstL
   obtain⟨p',ys,rfl,h2,n2⟩:=m2.lstL
   obtain⟨gd,q3⟩:=PO'.grd q2
   have g':=cS gd
   have l1:=n1.length
   have l2:=n2.length
   have h1':Ls X.K H2 p xs:=h1.elim (fun z=>.inl (e2'.rd z)) .inr
   exact⟨p,p',xs,ys,rfl,rfl,h1',h2,by omega,fun z hz=>q3.ok.ok z _ _ (e2.trans (.upd hz)) (e2.free hz) bN (pM ((n1.later e2').append n2) hz)⟩
  | _=>exact stuck rfl
 | _=>exact stuck rfl
theorem yJ {a b:Expr}{pos:Pos}{va vb:List Nat}{fa fb:Ev->Res D}(ha:PE X a (RD X.K ex va fa))(hb:PE X b (RD X.K ex vb fb)) :
  PE X (.BinOp a .Mult b pos) (RN X.K ex (va++vb) fun τ=>bnd (bnd (fa τ) fun x=>bnd (fb τ) fun y=>opB .mul x y) eR):=by
 refine b8 (oh r6 ha hb) fun σ H Q ⟨S,τ,hs,q⟩=>?_
 refine cz (.refl _) hs.left (PO'.bnd (PO'.bnd q)) fun x v H1 e1 _ m1 q1=>?_
 refine cz e1 hs.right (PO'.bnd q1) fun y w H2 e2 e2' m2 q2=>?_
 have stuck:∀ {P:Prop},opB .mul x y=stk->P:=fun z=>by rw[z] at q2;exact q2.no.elim
 induction y using zD with
 | int b=>
  cases m2
  induction x using zD with
  | int a=>exact(PO'.grd q2).2.ok.no.elim
  | str a=>exact(PO'.grd q2).2.ok.no.elim
  | _=>exact stuck rfl
 | _=>induction x using zD<;>exact stuck rfl
theorem A2 {a:Expr}{lo hi:Option Expr}{pos p2:Pos}{va vl vh:List Nat}{fa:Ev->Res D}{fl fh:Ev->Res (Option Int)}(ha:PE X a (RD X.K ex va fa))(hl:PO X lo (ROp X.K ex vl fl))(hh:PO X hi (ROp X.K ex vh fh)) :
  PE X (.Subscript a (.Slice lo hi none p2) pos) (RN X.K ex (va++vl++vh) fun τ=>bnd (bnd (fa τ) fun x=>bnd (fl τ) fun l=>bnd (fh τ) fun h=>jH x l h) eR):=by
 refine b8 (jz lG ha hl hh) fun σ H Q ⟨S,τ,hs,q⟩=>?_
 refine cz (.refl _) hs.left.left (PO'.bnd (PO'.bnd q)) fun x v H1 e1 _ m1 q1=>?_
 refine sv e1 hs.left.right (PO'.bnd q1) fun l H2 e2 e2' q2=>?_
 refine sv e2 hs.right (PO'.bnd q2) fun h H3 e3 e3' q3=>?_
 induction x using zD with
 | lst o ds=>
  obtain⟨p,xs,rfl,h1,n1⟩:=m1.lstR
  exact⟨p,xs,rfl,(e2'.trans e3').seq h1,fun z hz=>q3.ok.ok z _ _ (e3.trans (.upd hz)) (e3.free hz) bN (pM (lQ l h (n1.later (e2'.trans e3'))) hz)⟩
 | str _=>exact(PO'.grd q3).2.ok.no.elim
 | _=>exact q3.no.elim
theorem ie (hc:X.calm=true):c8 X (.type "list") (fun xs H Q=>(∃ p ys,xs=[.ref p]/\(SqL X.K H p ys∨SqT X.K H p ys)/\∀ l,H l=none->Q (.ref l) (upd H l (.lst ys)))∨∃ (p:Addr) (kvs:List (Key×V)),xs=[.ref p]/\Rd H p (.dK kvs)/\∀ l,H l=none->Q (.ref l) (upd H l (.lst (kvs.map fun q=>kV q.1)))):=by
 intro pins s σ H xs us Q I r h
 rcases h with h|h
 ·exact dS pins s σ H xs us Q I r h
 ·exact gD hc pins s σ H xs us Q I r h
theorem wj (g:GOk Z CX cl xp X ex G){p pos:Pos}{es:List IR}{a:Expr}{args:List Expr}(hg:G.glc (iF .list)=true)(hst:cA Z G es (a::args)=true)(h:PA X (a::args) (RA X.K ex (bQ es) (cG cl es))) :
  PE X (.Call (.Name (dY .list) p) (a::args) [] pos) (RN X.K ex (bQ es) fun τ=>bnd (bnd (cG cl es τ) fun ds=>dG .list ds) eR):=by
 obtain⟨k1,k2,k3,k4⟩:=eQ g (ph .list) (pj hg)
 cases es with
 | nil=>cases hst
 | cons b es=>
  have hst':(notStar a&&chk Z G b a&&cA Z G es args)=true:=hst
  simp only[Bool.and_eq_true] at hst'
  refine b8 (iw (ie (g.calm (pq hg))) k1 k2 (lR .list) h k3 k4 (aE hst'.1.1 args X.env) (cW Z G (es:=es) pos X.env hst'.2)) fun σ H Q ⟨S,τ,hs,q⟩=>?_
  refine kW (.refl _) hs (PO'.bnd (PO'.bnd q)) fun ds vs H1 e1 _ m1 q1=>?_
  have stuck:∀ {P:Prop},dG .list ds=stk->P:=fun z=>by rw[z] at q1;exact q1.no.elim
  match ds,m1 with
  | [],_=>exact stuck rfl
  | d::_::_,_=>exact stuck (by induction d using zD<;>rfl)
  | [d],m1=>
   obtain⟨x,rfl,hd⟩:=m1.one1
   induction d using zD with
   | tup ds=>
    obtain⟨a,ys,rfl,q',m⟩:=hd.tupR
    exact .inl ⟨a,ys,rfl,.inr q',fun z hz=>q1.ok.ok z _ _ (e1.trans (.upd hz)) (e1.free hz) bN (pM m hz)⟩
   | lst o ds=>
    obtain⟨a,ys,rfl,q',m⟩:=hd.lstR
    exact .inl ⟨a,ys,rfl,.inl q',fun z hz=>q1.ok.ok z _ _ (e1.trans (.upd hz)) (e1.free hz) bN (pM m hz)⟩
   | dct o ks ds=>
    cases hd with
    | dct h0 h1 h2 h3=>
     subst h2
     exact .inr ⟨_,_,rfl,h1,fun l hl=>q1.ok.ok l _ _ (e1.trans (.upd hl)) (e1.free hl) bN (pM (fx _) hl)⟩
   | _=>exact stuck rfl
end
section
variable {Z:Sg}{CX:CXT}{cl:Nat->List D->Res D}{xp:XK->Hp->EX->Prop}
theorem lZ {X:Cx}{ex:EX->Prop}{G:Gm}(g:GOk Z CX cl xp X ex G){i:Nat}{x:Str}{pos:Pos}(h:fy G i x=true):PE X (.Name x pos) (nV i):=by
 unfold fy at h
 rw[Bool.and_eq_true] at h
 have hx:G.N[i]? = some x:=eq_of_beq h.1
 have hk:=g.kd i x hx
 have hv:Vis X.env.scope x:=by
  have h2:=h.2
  rw[Bool.or_eq_true,Bool.or_eq_true] at h2
  rcases h2 with (h2|h2)|h2
  ·exact .inl (hk.trans (eq_of_beq h2))
  ·exact .inr (.inl (hk.trans (eq_of_beq h2)))
  ·exact .inr (.inr (hk.trans (eq_of_beq h2)))
 exact iT (i:=i) (by rw[g.N];exact hx) hv (g.noD i x hx).1 (g.noD i x hx).2
theorem wk {X:Cx}{ex:EX->Prop}{G G':Gm}{fr:List Nat}(g:GOk Z CX cl xp X ex G){scope:Scope}{tg iter elt:Expr}{ifs:List Expr}{pos:Pos}{T:Tg}{s:Sr}{I:List IR}{E:IR}(hs:ScOk Z G scope G' fr)(hT:dH G' T tg=true)(ha:∀ i∈tgs T,fr.length<=i)
  (hi:dM Z G s iter=true/\gb s tg=true) (ht:cA Z G' I ifs=true) (he:chk Z G' E elt=true) :
  PE X (.ListComp elt [⟨tg,iter,ifs,0⟩] scope pos) (RN X.K ex (vars (.comp G' fr T s I E)) fun τ=>bnd (evR cl (.comp G' fr T s I E) τ) eR):=by
 intro pins s' σ H Q Iv h
 obtain⟨cl',S⟩:=fT g Iv.ok hs
 have p:=lH (pos:=pos) (elt:=elt) (ifs:=ifs) (tg:=tg) (g:=gT X.K T) (tt:=RT X.K nox (bQ I) (eU cl I)) (te:=RD X.K nox (vars E) (evR cl E)) (g.calm hs.cm) S (sH s X ex G iter tg g hi.1 hi.2) (fun C s H fp=>pgT (c5 g hs cl' C s H fp) T tg hT)
  (fun C s H fp=>sG I _ nox G' ifs (c5 g hs cl' C s H fp) ht) (fun C s H fp=>(snd E _ nox G' elt (c5 g hs cl' C s H fp) he).1) (fun x=>dD hi.1 X.env x)
 refine p pins s' σ H Q Iv ?_
 obtain⟨S0,τ,hsl,q⟩:=h
 have q':=PO'.bnd (show PO' ex (bnd (evR cl (.comp G' fr T s I E) τ) eR) _ from q)
 rw[gQ] at q'
 exact dQ hs.fle ha hsl q' fun A ys ds H' e hA hA' m k=>k.ok A ys H' e hA hA' m
theorem snN:∀ (a:IR) (X:Cx) (ex:EX->Prop) (G:Gm) (e:Expr),GOk Z CX cl xp X ex G->chk Z G a e=true->cH a=true->PE X e (RN X.K ex (vars a) fun τ=>bnd (evR cl a τ) eR):=by
 intro a X ex G e g h n
 cases a with
 | bin op a b=>
  cases op with
  | add=>
   induction e using zE with
   | BinOp l o r pos=>
    have h':(o == bop .add&&chk Z G a l&&chk Z G b r)=true:=h
    simp only[Bool.and_eq_true] at h'
    have e1:o=bop .add:=eq_of_beq h'.1.1
    subst e1
    exact yI (snd a X ex G l g h'.1.2).1 (snd b X ex G r g h'.2).1
   | _=>first|exact ae h|cases h
  | mul=>
   induction e using zE with
   | BinOp l o r pos=>
    have h':(o == bop .mul&&chk Z G a l&&chk Z G b r)=true:=h
    simp only[Bool.and_eq_true] at h'
    have e1:o=bop .mul:=eq_of_beq h'.1.1
    subst e1
    exact yJ (snd a X ex G l g h'.1.2).1 (snd b X ex G r g h'.2).1
   | _=>first|exact ae h|cases h
  | _=>cases n
 | sl a lo hi=>
  induction e using zE with
  | Subscript o s pos=>
   induction s using zE with
   | Slice l u st p=>
    cases st with
    | none=>
     have h':(chk Z G a o&&kU Z G lo l&&kU Z G hi u)=true:=h
     simp only[Bool.and_eq_true] at h'
     exact A2 (snd a X ex G o g h'.1.1).1 (sF lo X ex G l g h'.1.2) (sF hi X ex G u g h'.2)
    | some _=>first|exact ae h|cases h
   | _=>first|exact ae h|cases h
  | _=>first|exact ae h|cases h
 | bi f es=>
  cases f with
  | list=>
   induction e using zE with
   | Call fn args kws pos=>
    induction fn using zE with
    | Name x p=>
     cases kws with
     | nil=>
      cases args with
      | nil=>first|exact ae h|cases h
      | cons a args=>
       have h':(x == dY .list&&G.glc (iF .list)&&cA Z G es (a::args))=true:=h
       simp only[Bool.and_eq_true] at h'
       have e1:x=dY .list:=eq_of_beq h'.1.1
       subst e1
       exact wj g h'.1.2 h'.2 (jj es X ex G _ g h'.2)
     | cons _ _=>cases args<;>first|exact ae h|cases h
    | _=>first|exact ae h|cases h
   | _=>first|exact ae h|cases h
  | _=>cases n
 | comp G' fr tg src ifs elt=>
  induction e using zE with
  | ListComp el gens scope pos=>
   have h:nE gens (fun t it fs=>cZ Z G scope G' fr&&dH G' tg t&&(tgs tg).all (fun i=>decide (fr.length<=i))&&(dM Z G src it&&gb src t)&&cA Z G' ifs fs&&chk Z G' elt el)=true:=h
   obtain⟨t,it,fs,rfl,h⟩:=jd h
   have h':(cZ Z G scope G' fr&&dH G' tg t&&(tgs tg).all (fun i=>decide (fr.length<=i))&&(dM Z G src it&&gb src t)&&cA Z G' ifs fs&&chk Z G' elt el)=true:=h
   simp only[Bool.and_eq_true] at h'
   exact wk g (ji h'.1.1.1.1.1) h'.1.1.1.1.2 (fun i hi=>of_decide_eq_true (List.all_eq_true.mp h'.1.1.1.2 i hi)) h'.1.1.2 h'.1.2 h'.2
  | _=>first|exact ae h|cases h
 | _=>cases n
theorem o_dnew {X:Cx}{ex:EX->Prop}{pos:Pos}(mv:Bool):PE X (.Dict [] [] pos) (RO X.K ex (evO cl mv .dnew)):=by
 refine b8 jE fun σ H Q ⟨F,τ,fo,fok,r,nd,q⟩=>fun p hp=>?_
 have q':∀ v H' F' fv f',Ow X.K F H fo F' H' σ v (.dct true [] []) fv τ f'->Q v H':=q
 have e:bO H (upd H p (.dK [])):=.upd hp
 obtain⟨k1,k2,k3⟩:=fZ fok r e
 have nF:¬ F p:=fun z=>fok p z hp
 have nfo:p∉fo:=fun z=>by
  obtain⟨_,u,eu⟩:=r.own p z
  rw[hp] at eu;cases eu
 exact q' _ _ F [p] fo ⟨k3,k1,.dctO (kvs:=[]) nF bN rfl .nil,k2,by rw[List.singleton_append,List.nodup_cons];exact⟨nfo,nd⟩,fun a ha=>by
  rcases List.mem_append.mp ha with ha|ha
  ·rw[List.mem_singleton.mp ha];exact .inr hp
  ·exact .inl ha⟩
mutual
theorem snO:∀ (a:IR) (mv:Bool) (X:Cx) (ex:EX->Prop) (G:Gm) (e:Expr),GOk Z CX cl xp X ex G->chk Z G a e=true->PE X e (RO X.K ex (evO cl mv a))
 | .v i,mv,X,ex,G,e,g,h=>by
  induction e using zE with
  | Name x pos=>exact o_v (lZ g h) mv
  | _=>first|exact ae h|cases h
 | .tup es,mv,X,ex,G,e,g,h=>by
  induction e using zE with
  | Tuple l n pos=>exact o_tup (wm es mv X ex G l g h)
  | _=>first|exact ae h|cases h
 | .lst es,mv,X,ex,G,e,g,h=>by
  induction e using zE with
  | List l pos=>exact o_lst (wm es mv X ex G l g h)
  | _=>first|exact ae h|cases h
 | .call f es,mv,X,ex,G,e,g,h=>by
  induction e using zE with
  | Call fn args kws pos=>
   induction fn using zE with
   | Name x p=>
    cases kws with
    | nil=>
     have h':(cU Z G f x&&Z.fnc G f&&cA Z G es args)=true:=h
     simp only[Bool.and_eq_true] at h'
     exact o_call g h'.1.1 h'.1.2 h'.2 mv
    | cons _ _=>first|exact ae h|cases h
   | _=>first|exact ae h|cases h
  | _=>first|exact ae h|cases h
 | .c d,mv,X,ex,G,e,g,h=>cL (snd _ X ex G e g h).1 (snN _ X ex G e g h)
 | .g n d,mv,X,ex,G,e,g,h=>cL (snd _ X ex G e g h).1 (snN _ X ex G e g h)
 | .bin op a b,mv,X,ex,G,e,g,h=>cL (snd _ X ex G e g h).1 (snN _ X ex G e g h)
 | .cmp op a b,mv,X,ex,G,e,g,h=>cL (snd _ X ex G e g h).1 (snN _ X ex G e g h)
 | .chain op op' a b c,mv,X,ex,G,e,g,h=>cL (snd _ X ex G e g h).1 (snN _ X ex G e g h)
 | .and_ a b,mv,X,ex,G,e,g,h=>cL (snd _ X ex G e g h).1 (snN _ X ex G e g h)
 | .or_ a b,mv,X,ex,G,e,g,h=>cL (snd _ X ex G e g h).1 (snN _ X ex G e g h)
 | .not_ a,mv,X,ex,G,e,g,h=>cL (snd _ X ex G e g h).1 (snN _ X ex G e g h)
 | .idx a i,mv,X,ex,G,e,g,h=>cL (snd _ X ex G e g h).1 (snN _ X ex G e g h)
 | .sl a lo hi,mv,X,ex,G,e,g,h=>cL (snd _ X ex G e g h).1 (snN _ X ex G e g h)
 | .bi f es,mv,X,ex,G,e,g,h=>cL (snd _ X ex G e g h).1 (snN _ X ex G e g h)
 | .isx a ns tb,mv,X,ex,G,e,g,h=>cL (snd _ X ex G e g h).1 (snN _ X ex G e g h)
 | .isi a k,mv,X,ex,G,e,g,h=>cL (snd _ X ex G e g h).1 (snN _ X ex G e g h)
 | .fld a x cs,mv,X,ex,G,e,g,h=>cL (snd _ X ex G e g h).1 (snN _ X ex G e g h)
 | .lidx a b,mv,X,ex,G,e,g,h=>cL (snd _ X ex G e g h).1 (snN _ X ex G e g h)
 | .dget a k,mv,X,ex,G,e,g,h=>cL (snd _ X ex G e g h).1 (snN _ X ex G e g h)
 | .lset a,mv,X,ex,G,e,g,h=>cL (snd _ X ex G e g h).1 (snN _ X ex G e g h)
 | .dnew,mv,X,ex,G,e,g,h=>by
  have h:dcv e=true:=by induction e using zE<;>exact h
  obtain⟨pos,rfl⟩:=pE h
  exact o_dnew mv
 | .comp G' fr tg src ifs elt,mv,X,ex,G,e,g,h=>cL (snd _ X ex G e g h).1 (snN _ X ex G e g h)
theorem wm:∀ (as:List IR) (mv:Bool) (X:Cx) (ex:EX->Prop) (G:Gm) (l:List Expr),GOk Z CX cl xp X ex G->cA Z G as l=true->PA X l (ROs X.K ex (ic cl mv as))
 | [],mv,X,ex,G,l,g,h=>by
  cases l with
  | nil=>exact wg
  | cons _ _=>first|exact ae h|cases h
 | a::as,mv,X,ex,G,l,g,h=>by
  cases l with
  | nil=>first|exact ae h|cases h
  | cons e l=>
   have h':(notStar e&&chk Z G a e&&cA Z G as l)=true:=h
   simp only[Bool.and_eq_true] at h'
   exact sI h'.1.1 (snO a mv X ex G e g h'.1.2) (wm as mv X ex G l g h'.2)
end
end
structure Bs (io:Option Nat) where
 F:Addr->Prop
 H:Hp
 L:Addr->LD->Prop
 T:Addr->List V ⊕ EX->Prop
 N:Option Addr:=none
structure Frm (K:PySem.W.Frag){io:Option Nat}(B:Bs io)(F:Addr->Prop)(H:Hp)(σ:St)(τ:Ev)(f:List Addr):Prop where
 fok:FOk F H
 rps:Rps K F H σ τ f
 nod:f.Nodup
 same:bO B.H H
 own:∀ a∈f,B.H a=none
 inn:∀ a,B.F a->F a
 out:∀ a,F a->B.F a∨B.H a=none
 pin:∀ a xs,B.L a xs->F a/\Rd H a xs.o
 pit:∀ a xs,B.T a xs->SqE K H a xs
 nm:∀ j a,io=some j->B.N=some a->σ[j]? = some (some (.ref a))
def Fk (K:PySem.W.Frag){io:Option Nat}(B:Bs io)(Dn:Ends):Fl->Prop
 | .nx τ=>∀ σ H F f,Frm K B F H σ τ f->Dn.nx σ H
 | .bk τ=>∀ σ H F f,Frm K B F H σ τ f->Dn.bk σ H
 | .ct τ=>∀ σ H F f,Frm K B F H σ τ f->Dn.ct σ H
 | .rt d=>∀ v H F fv,Out K B.F B.H F H v d fv->Dn.rt v H
 | .ri d ks es=>∀ v H F fv kvs a,(∀ a',B.N=some a'->a'=a)->Out K B.F B.H F H v d fv->¬ F a->a∉fv->H a=some (.dK kvs)->kvs.map (·.1)=ks->HReps K F H (kvs.map (·.2)) es->Dn.rt v H
def RS (K:PySem.W.Frag)(io:Option Nat)(ex:EX->Prop)(g:Ev->Res Fl):TS:=fun Dn σ H=>∃ (B:Bs io),∃ F τ f,Frm K B F H σ τ f/\PO' ex (g τ) (Fk K B Dn)
section
variable {K:PySem.W.Frag}{io:Option Nat}{B:Bs io}{F F':Addr->Prop}{H H':Hp}{σ:St}{τ τ':Ev}{f f':List Addr}{ex:EX->Prop}
theorem Frm.stp (m:Frm K B F H σ τ f)(s:Stp F H f F' H')(fok:FOk F' H')(r:Rps K F' H' σ τ' f')(nd:f'.Nodup)(hm:∀ a∈f',a∈f∨H a=none):Frm K B F' H' σ τ' f' where
 fok:=fok
 rps:=r
 nod:=nd
 same:=m.same.trans s.same
 own:=fun a ha=>(hm a ha).elim (m.own a) fun z=>m.same.free z
 inn:=fun a h=>s.inn a (m.inn a h)
 out:=fun a h=>by
  rcases s.out a h with h|h|h
  ·exact m.out a h
  ·exact .inr (m.own a h)
  ·exact .inr (m.same.free h)
 pin:=fun a xs h=>⟨s.inn a (m.pin a xs h).1,s.same.rd (m.pin a xs h).2⟩
 pit:=fun a xs h=>s.same.seqT (m.pit a xs h)
 nm:=m.nm
theorem Frm.ow {v:V}{d:D}{fv:List Addr}(m:Frm K B F H σ τ f)(o:Ow K F H f F' H' σ v d fv τ' f'):Frm K B F' H' σ τ' f'/\∀ a∈fv,B.H a=none:=
 ⟨m.stp o.stp o.fok o.rps (List.nodup_append.mp o.nod).2.1 fun a ha=>o.mem a (List.mem_append_right _ ha),fun a ha=>(o.mem a (List.mem_append_left _ ha)).elim (m.own a) fun z=>m.same.free z⟩
theorem Frm.grow (m:Frm K B F H σ τ f)(e:bO H H'):Frm K B F H' σ τ f:=by
 obtain⟨k1,k2,k3⟩:=fZ m.fok m.rps e
 exact m.stp k3 k1 k2 m.nod fun a ha=>.inl ha
theorem Frm.ro {g:Ev->Res (D×Ev)}{Kt:D×Ev->Prop}{Q:VK}(m:Frm K B F H σ τ f)(h:PO' ex (g τ) Kt)(k:∀ p v H' F' fv f',Ow K F H f F' H' σ v p.1 fv p.2 f'->Kt p->Q v H'):RO K ex g σ H Q:=
 ⟨F,τ,f,m.fok,m.rps,m.nod,h.mono fun p hp v H' F' fv f' o=>k p v H' F' fv f' o hp⟩
theorem Frm.rt {is:List Nat}{g:Ev->Res Bool}{Kt:Bool->Prop}{Q:Bool->Hp->Prop}(m:Frm K B F H σ τ f)(h:PO' ex (g τ) Kt)(k:∀ b H',Frm K B F H' σ τ f->bO H H'->Kt b->Q b H'):RT K ex is g σ H Q:=
 jh (.refl _) (cw m.rps) h fun b H2 e2 _ hb=>k b H2 (m.grow e2) e2 hb
theorem Frm.rd {is:List Nat}{g:Ev->Res D}{Kt:D->Prop}{Q:VK}(m:Frm K B F H σ τ f)(h:PO' ex (g τ) Kt)(k:∀ d v H',Frm K B F H' σ τ f->bO H H'->HRep K (nw (fun _=>True) H) H' v d->Kt d->Q v H'):RD K ex is g σ H Q:=
 cz (.refl _) (cw m.rps) h fun b v H2 e2 _ mv hb=>k b v H2 (m.grow e2) e2 mv hb
mutual
theorem pO:∀ (t:Tg) {σ:St}{τ:Ev}{f:List Addr}{v:V}{d:D}{fv:List Addr}{Kt:Ev->Prop}{Q:St->Hp->Prop},Rps K F H σ τ f->MRep K F H v d fv->(fv++f).Nodup->PO' ex (dz t d τ) Kt->
  (∀ τ' σ' f',Rps K F H σ' τ' f'->f'.Nodup->(∀ a∈f',a∈fv++f)->(∀ j,j∉tgs t->σ'[j]? = σ[j]?)->Kt τ'->Q σ' H)->gT K t v σ H Q
 | .nm i,σ,τ,f,v,d,fv,Kt,Q,r,m,nd,h,k=>by
  obtain⟨g,h',r2,p2⟩:=r.put i m
  have nd2:(g++h').Nodup:=p2.nodup_iff.mpr nd
  exact k (τ.set i (some d)) (σ.set i (some v)) g r2 (List.nodup_append.mp nd2).1 (fun a ha=>p2.mem_iff.mp (List.mem_append_left _ ha)) (fun j hj=>List.getElem?_set_ne (fun z=>hj (by rw[<- z];exact List.mem_singleton.mpr rfl))) h.ok
 | .tp ts,σ,τ,f,v,d,fv,Kt,Q,r,m,nd,h,k=>by
  cases m with
  | tup h1 h2=>
   obtain⟨gd,h⟩:=PO'.grd h
   have g':=of_decide_eq_true gd
   exact⟨_,_,rfl,.inl h1,by rw[h2.length];exact g',fC ts r h2 nd h k⟩
  | lstS h0 h1 h2=>
   obtain⟨gd,h⟩:=PO'.grd h
   have g':=of_decide_eq_true gd
   exact⟨_,_,rfl,.inr (.inl h1),by rw[h2.length];exact g',fC ts r h2 nd h k⟩
  | lstK h1 h2=>
   obtain⟨gd,h⟩:=PO'.grd h
   have g':=of_decide_eq_true gd
   exact⟨_,_,rfl,.inr h1.sq,by rw[h2.length];exact g',fC ts r h2 nd h k⟩
  | lstO h0 h1 h2=>
   obtain⟨gd,h⟩:=PO'.grd h
   have g':=of_decide_eq_true gd
   rw[List.cons_append,List.nodup_cons] at nd
   exact⟨_,_,rfl,.inr (.inl (.inl h1)),by rw[h2.length];exact g',fC ts r h2 nd.2 h fun τ' σ' f' a1 a2 a3 a5 a4=>k τ' σ' f' a1 a2 (fun x hx=>by rw[List.cons_append];exact List.mem_cons_of_mem _ (a3 x hx)) a5 a4⟩
  | _=>exact h.no.elim
theorem fC:∀ (ts:List Tg) {σ:St}{τ:Ev}{f:List Addr}{vs:List V}{ds:List D}{fv:List Addr}{Kt:Ev->Prop}{Q:St->Hp->Prop},Rps K F H σ τ f->MReps K F H vs ds fv->(fv++f).Nodup->PO' ex (fg ts ds τ) Kt->
  (∀ τ' σ' f',Rps K F H σ' τ' f'->f'.Nodup->(∀ a∈f',a∈fv++f)->(∀ j,j∉jS ts->σ'[j]? = σ[j]?)->Kt τ'->Q σ' H)->gTs K ts vs σ H Q
 | [],σ,τ,f,vs,ds,fv,Kt,Q,r,m,nd,h,k=>by
  cases m with
  | nil=>exact⟨rfl,k τ σ f r (by simpa using nd) (fun a ha=>by simpa using ha) (fun _ _=>rfl) h.ok⟩
  | cons _ _=>exact h.no.elim
 | t::ts,σ,τ,f,vs,ds,fv,Kt,Q,r,m,nd,h,k=>by
  cases m with
  | nil=>exact h.no.elim
  | cons m1 m2=>
   rename_i v d f1 vs ds f2
   have nd':(f2++(f1++f)).Nodup:=by
    refine(List.Perm.nodup_iff ?_).mp nd
    rw[<- List.append_assoc]
    exact List.Perm.append_right f List.perm_append_comm
   refine⟨_,_,rfl,pO t r m1 (List.nodup_append.mp nd').2.1 (PO'.bnd h) fun τ' σ' f' r' nf' hm' hj' h'=>?_⟩
   refine fC ts r' m2 (List.nodup_append.mpr ⟨(List.nodup_append.mp nd').1,nf',fun a h1 b h2 e=>(List.nodup_append.mp nd').2.2 a h1 b (hm' b h2) e⟩) h' fun τ'' σ'' f'' r'' nf'' hm'' hj'' h''=>k τ'' σ'' f'' r'' nf'' (fun a ha=>?_) (fun j hj=>(hj'' j fun z=>hj (List.mem_append_right _ z)).trans (hj' j fun z=>hj (List.mem_append_left _ z))) h''
   rcases List.mem_append.mp (hm'' a ha) with z|z
   ·exact List.mem_append_left _ (List.mem_append_right _ z)
   ·rcases List.mem_append.mp (hm' a z) with z|z
    ·exact List.mem_append_left _ (List.mem_append_left _ z)
    ·exact List.mem_append_right _ z
end
theorem Frm.gT {t:Tg}{v:V}{d:D}{fv:List Addr}{Kt:Ev->Prop}{Q:St->Hp->Prop}(m:Frm K B F H σ τ f)(mv:MRep K F H v d fv)(nd:(fv++f).Nodup)(hb:∀ a∈fv,B.H a=none)(hio:∀ j∈tgs t,io≠some j)(h:PO' ex (dz t d τ) Kt)
  (k:∀ τ' σ' f',Frm K B F H σ' τ' f'->Kt τ'->Q σ' H):L2.gT K t v σ H Q:=
 pO t m.rps mv nd h fun τ' σ' f' r' nf' hm hj h'=>k τ' σ' f' ⟨m.fok,r',nf',m.same,fun a ha=>(List.mem_append.mp (hm a ha)).elim (hb a) (m.own a),m.inn,m.out,m.pin,m.pit,fun j a e1 e2=>(hj j fun z=>hio j z e1).trans (m.nm j a e1 e2)⟩ h'
theorem Frm.write {i:Nat}{ds ds':List D}{w:V}{d:D}{fv:List Addr}{l:Addr}{xs ys:List V}(m:Frm K B F H σ τ f)(hs:bo τ i=some (.lst true ds))(hσ:σ[i]? = some (some (.ref l)))(hl:H l=some (.lst xs))(mw:MRep K F H w d fv)(nd:(fv++f).Nodup)(hb:∀ a∈fv,B.H a=none)
  (hy:∀ fi,MReps K F H xs ds fi->∃ fl h,MReps K F H ys ds' fl/\(fl++h).Perm (fv++fi)):∃ f',Frm K B F (upd H l (.lst ys)) σ (τ.set i (some (.lst true ds'))) f':=by
 obtain⟨v,fs,g,h1,h2,h3,h4⟩:=m.rps.at hs
 rw[hσ] at h1
 cases h1
 cases h2 with
 | @lstO a xs' ds0 fi hF hH hm=>
  rw[hl] at hH
  cases hH
  obtain⟨fl,h,hm',hp⟩:=hy fi hm
  have ndf:((l::fi)++g).Nodup:=h4.nodup_iff.mp m.nod
  have nda:(fv++((l::fi)++g)).Nodup:=(List.Perm.append_left fv h4).nodup_iff.mp nd
  have lg:l∉g:=by
   rw[List.cons_append,List.nodup_cons] at ndf
   exact fun z=>ndf.1 (List.mem_append_right _ z)
  have lfi:l∉fi:=by
   rw[List.cons_append,List.nodup_cons] at ndf
   exact fun z=>ndf.1 (List.mem_append_left _ z)
  have lfv:l∉fv:=fun z=>(List.nodup_append.mp nda).2.2 l z l (by simp) rfl
  have inFl:∀ a∈fl,a∈fv++fi:=fun a ha=>hp.mem_iff.mp (List.mem_append_left _ ha)
  have lfl:l∉fl:=fun z=>(List.mem_append.mp (inFl l z)).elim lfv lfi
  have sl:∀ a (u:LD),F a->Rd H a u.o->F a/\Rd (upd H l (.lst ys)) a u.o:=fun a xs h r=>by
   refine⟨h,?_⟩
   have:a≠l:=fun z=>hF (by rw[<- z];exact h)
   unfold Rd
   rw[aD this]
   exact r
  have st:∀ a xs,SqE K H a xs->SqE K (upd H l (.lst ys)) a xs:=fun a xs h=>h.upd hl
  have r1:Rps K F (upd H l (.lst ys)) σ (τ.set i none) g:=h3.step sl st fun a ha n _=>⟨n,aD fun z=>lg (by rw[<- z];exact ha)⟩
  have m1:MRep K F (upd H l (.lst ys)) (.ref l) (.lst true ds') (l::fl):=.lstO hF bN (hm'.step sl st fun a ha n _=>⟨n,aD fun z=>lfl (by rw[<- z];exact ha)⟩)
  obtain⟨g',h',r2,p2⟩:=r1.put i m1
  have hσ':σ.set i (some (.ref l))=σ:=by
   apply List.ext_getElem?
   intro j
   rw[List.getElem?_set]
   by_cases hj:i=j
   ·subst hj
    have hlt:i < σ.length:=(List.getElem?_eq_some_iff.mp hσ).1
    rw[if_pos rfl,if_pos hlt,hσ]
   ·rw[if_neg hj]
  rw[hσ',List.set_set] at r2
  have ndl:((l::fl)++g).Nodup:=by
   rw[List.cons_append,List.nodup_cons]
   refine⟨fun z=>(List.mem_append.mp z).elim lfl lg,List.nodup_append.mpr ⟨?_,(List.nodup_append.mp ndf).2.1,fun a h1 b h2 e=>?_⟩⟩
   ·have:(fl++h).Nodup:=hp.nodup_iff.mpr (List.nodup_append.mpr ⟨(List.nodup_append.mp nda).1,(List.nodup_cons.mp (List.nodup_append.mp ndf).1).2,fun a h1 b h2 e=>(List.nodup_append.mp nda).2.2 a h1 b (List.mem_append_left _ (List.mem_cons_of_mem _ h2)) e⟩)
    exact(List.nodup_append.mp this).1
   ·subst e
    rcases List.mem_append.mp (inFl a h1) with z|z
    ·exact(List.nodup_append.mp nda).2.2 a z a (List.mem_append_right _ h2) rfl
    ·exact(List.nodup_append.mp ndf).2.2 a (List.mem_cons_of_mem _ z) a h2 rfl
  have nd2:(g'++h').Nodup:=p2.nodup_iff.mpr ndl
  have lB:B.H l=none:=m.own l (h4.mem_iff.mpr (by simp))
  refine⟨g',fun a h=>?_,r2,(List.nodup_append.mp nd2).1,fun b o hbo=>?_,fun a ha=>?_,m.inn,m.out,fun a xs h=>⟨(m.pin a xs h).1,(sl a xs (m.pin a xs h).1 (m.pin a xs h).2).2⟩,fun a xs h=>st a xs (m.pit a xs h),m.nm⟩
  ·have:a≠l:=fun z=>hF (by rw[<- z];exact h)
   rw[aD this]
   exact m.fok a h
  ·have:b≠l:=fun z=>by rw[z,lB] at hbo;cases hbo
   rw[aD this]
   exact m.same _ _ hbo
  ·have:a∈(l::fl)++g:=p2.mem_iff.mp (List.mem_append_left _ ha)
   rcases List.mem_append.mp this with z|z
   ·rcases List.mem_cons.mp z with rfl|z
    ·exact lB
    ·rcases List.mem_append.mp (inFl a z) with z|z
     ·exact hb a z
     ·exact m.own a (h4.mem_iff.mpr (List.mem_append_left _ (List.mem_cons_of_mem _ z)))
   ·exact m.own a (h4.mem_iff.mpr (List.mem_append_right _ z))
theorem MReps.snoc {w:V}{d:D}{fv:List Addr}(mw:MRep K F H w d fv){xs:List V}{ds:List D}{fi:List Addr}(m:MReps K F H xs ds fi):∃ fl h,MReps K F H (xs++[w]) (ds++[d]) fl/\(fl++h).Perm (fv++fi):=
 ⟨fi++(fv++[]),[],m.append (.cons mw .nil),by rw[List.append_nil,List.append_nil];exact List.perm_append_comm⟩
end
noncomputable def notTuple:Expr->Bool
 | .Tuple ..=>false
 | _=>true
noncomputable def jk:Expr->Bool
 | .ListComp ..=>false
 | .SetComp ..=>false
 | .DictComp ..=>false
 | _=>true
noncomputable def isName:Expr->Bool
 | .Name ..=>true
 | _=>false
noncomputable def isTup:Expr->Bool
 | .Tuple ..=>true
 | _=>false
noncomputable def wo (G:Gm)(i:Nat)(x:Str):Bool:=(G.N[i]? == some x&&(G.kd[i]? == some .local||(G.df&&G.kd[i]? == some .cell)))&&G.io != some i
noncomputable def rev:Stmt->(Option Expr->Bool)->Bool
 | .Raise e none _,k=>k e
 | _,_=>false
theorem wq {s:Stmt}{k:Option Expr->Bool}(h:rev s k=true):∃ e pos,s=.Raise e none pos/\k e=true:=by
 unfold rev at h
 split at h
 ·exact⟨_,_,rfl,h⟩
 ·cases h
noncomputable def rsx:Option Expr->(Str->Expr->Bool)->Bool
 | some (.Call (.Name x _) [a] [] _),k=>k x a
 | _,_=>false
theorem wt {e:Option Expr}{k:Str->Expr->Bool}(h:rsx e k=true):∃ x np a cpos,e=some (.Call (.Name x np) [a] [] cpos)/\k x a=true:=by
 unfold rsx at h
 split at h
 ·exact⟨_,_,_,_,rfl,h⟩
 ·cases h
noncomputable def tcv:Stmt->(Str->Str->List Expr->Str->Str->Stmt->List Stmt->Bool)->Bool
 | .Try [.Assign [.Name xi _] (.Call (.Name xf _) args [] _) _] [.ExceptHandler (some (.Name xc _)) (some y) (b0::r) _] [] [] _,k=>k xi xf args xc y b0 r
 | _,_=>false
theorem wu {s:Stmt}{k:Str->Str->List Expr->Str->Str->Stmt->List Stmt->Bool}(h:tcv s k=true):∃ xi pi xf pf args pc pa xc np y b0 r hp pos,s=.Try [.Assign [.Name xi pi] (.Call (.Name xf pf) args [] pc) pa] [.ExceptHandler (some (.Name xc np)) (some y) (b0::r) hp] [] [] pos/\k xi xf args xc y b0 r=true:=by
 unfold tcv at h
 split at h
 ·exact⟨_,_,_,_,_,_,_,_,_,_,_,_,_,_,rfl,h⟩
 ·cases h
mutual
noncomputable def nM (Z:Sg)(G:Gm):IS->Stmt->Bool
 | .asg tg e,.Assign [t] v _=>dH G tg t&&chk Z G e v&&(isName t||(isTup t&&notTuple v))
 | .dsetx i k e,.Assign [.Subscript (.Name x _) s _] v _=>fy G i x&&cY s&&chk Z G k s&&chk Z G e v&&!(vars e).contains i
 | .ins i k e,.Expr (.Call (.Attribute (.Name x _) name apos) [s,v] [] cpos) _=>fy G i x&&name == "insert"&&apos.endLine == cpos.line&&(notStar s&&notStar v)&&chk Z G k s&&chk Z G e v
 | .app i e,.Expr (.Call (.Attribute (.Name x _) name apos) [v] [] cpos) _=>fy G i x&&name == "append"&&apos.endLine == cpos.line&&notStar v&&chk Z G e v
 | .exp e,.Expr v _=>jk v&&chk Z G e v
 | .ret e,.Return (some v) _=>chk Z G e v
 | .if_ t a b,.If c x y _=>chk Z G t c&&c6 Z G a x&&c6 Z G b y
 | .for_ tg s body,.For t it b [] _=>((G.cm&&G.rs)&&dH G tg t)&&(dM Z G s it&&gb s t)&&c6 Z G body b
 | .while_ t body,.While c b [] _=>(G.rs&&chk Z G t c)&&c6 Z G body b
 | .never,_=>true
 | .raisef n c x e,s=>rev s fun o=>rsx o fun x' a=>x' == c&&G.rs&&G.cm&&cU Z G n c&&Z.rc.contains (n,c,x)&&cA Z {G with rs:=false,tr:=false} [e] [a]
 | .tryc i f es n cs k hd,s=>tcv s fun xi xf args xc y b0 r=>G.tr&&G.cm&&wo G i xi&&cU Z G f xf&&Z.fnc G f&&cA Z {G with rs:=false,tr:=false} es args&&cU Z G n xc&&cs.all (fun c=>Z.xm.contains (c,n))&&(G.N[k]? == some y&&G.io != some k)&&G.kd[k]? == some .local&&c6 Z {G with cm:=false,rs:=false,tr:=false} hd (b0::r)
 | _,_=>false
noncomputable def c6 (Z:Sg)(G:Gm):List IS->List Stmt->Bool
 | [],[]=>true
 | a::as,s::ss=>nM Z G a s&&c6 Z G as ss
 | _,_=>false
end
noncomputable def tQ:IS->Bool
 | _=>false
theorem kY {Z:Sg}{G:Gm}{a:IS}{as:List IS}{s:Stmt}{ss:List Stmt}(h:tQ a=false):c6 Z G (a::as) (s::ss)=(nM Z G a s&&c6 Z G as ss):=by
 induction a using zT<;>first|rfl|cases h
section
variable {Z:Sg}{CX:CXT}{cl:Nat->List D->Res D}{xp:XK->Hp->EX->Prop}{X:Cx}{ex:EX->Prop}{G:Gm}
theorem tR {tg:Tg}{t:Expr}(ht:dH G tg t=true){ga:Ev->Res (D×Ev)}{Dn:Ends}{σ:St}{H:Hp}(h:RS X.K G.io ex (fun τ=>bnd (ga τ) fun p=>bnd (dz tg p.1 p.2) fun τ'=>.ok (.nx τ')) Dn σ H):ve (RO X.K ex ga) (gT X.K tg) Dn σ H:=by
 obtain⟨B,F,τ,f,m,q⟩:=h
 refine m.ro (PO'.bnd q) fun p v H' F' fv f' o hp=>?_
 obtain⟨m',hb⟩:=m.ow o
 exact m'.gT o.rep o.nod hb (fB tg t ht) (PO'.bnd hp) fun τ' σ' f'' m'' h'=>h'.ok _ _ _ _ m''
theorem st_asg (g:GOk Z CX cl xp X ex G){tg:Tg}{e:IR}{t v:Expr}{pos:Pos}(ht:dH G tg t=true)(hv:chk Z G e v=true)(hc:(isName t||(isTup t&&notTuple v))=true):PS X (.Assign [t] v pos) (RS X.K G.io ex (evS cl (.asg tg e))):=by
 have pe:=snO e false X ex G v g hv
 have pg:=pgT g tg t ht
 induction t using zE with
 | Name x px=>
  cases tg with
  | tp _=>cases ht
  | nm i=>
   have ht':(G.N[i]? == some x&&(G.kd[i]? == some .local||(G.df&&G.kd[i]? == some .cell)))=true:=(Bool.and_eq_true_iff.mp ht).1
   rw[Bool.and_eq_true,Bool.or_eq_true,Bool.and_eq_true] at ht'
   have hx:G.N[i]? = some x:=eq_of_beq ht'.1
   have hk:=g.kd i x hx
   have hloc:Loc X.env.scope x:=ht'.2.elim (fun z=>.inl (hk.trans (eq_of_beq z))) fun z=>.inr (hk.trans (eq_of_beq z.2))
   have hfn:X.fn x=true∨X.env.scope.names.lookup x=some .local:=ht'.2.elim (fun z=>.inr (hk.trans (eq_of_beq z))) fun z=>.inl (g.df z.1 x)
   have plain:swapsWith v (some (.Name x px)) pos.line X.env=pure false->PS X (.Assign [.Name x px] v pos) (RS X.K G.io ex (evS cl (.asg (.nm i) e))):=fun hs=>
    de (vg (i:=i) (by rw[g.N];exact g.nod) (by rw[g.N];exact hx) hloc pe hs hfn) fun Dn σ H h=>tR ht h
   induction v using zE with
   | ListComp el gens scope vpos=>
    have hsw:swapsWith (.ListComp el gens scope vpos) (some (.Name x px)) pos.line X.env=pure (X.env.blockKind == .function&&X.env.kindOf x == some .local&&px.line == vpos.line&&!(scope.names.any fun (n,k)=>n == x&&(k == .local||k == .cell))):=rfl
    cases hb:(X.env.blockKind == .function&&X.env.kindOf x == some .local&&px.line == vpos.line&&!(scope.names.any fun (n,k)=>n == x&&(k == .local||k == .cell))) with
    | false=>exact plain (by rw[hsw,hb])
    | true=>
     rw[hb] at hsw
     have hlx:X.env.kindOf x=some .local:=by
      simp only[Bool.and_eq_true] at hb
      exact eq_of_beq hb.1.1.2
     cases e with
     | comp G' fr T src ifs elt=>
      have hv:nE gens (fun t it fs=>cZ Z G scope G' fr&&dH G' T t&&(tgs T).all (fun i=>decide (fr.length<=i))&&(dM Z G src it&&gb src t)&&cA Z G' ifs fs&&chk Z G' elt el)=true:=hv
      obtain⟨t,it,fs,rfl,hv⟩:=jd hv
      have h':(cZ Z G scope G' fr&&dH G' T t&&(tgs T).all (fun i=>decide (fr.length<=i))&&(dM Z G src it&&gb src t)&&cA Z G' ifs fs&&chk Z G' elt el)=true:=hv
      simp only[Bool.and_eq_true] at h'
      have hs:=ji h'.1.1.1.1.1
      have hT:=h'.1.1.1.1.2
      have ha:∀ i∈tgs T,fr.length<=i:=fun i hi=>of_decide_eq_true (List.all_eq_true.mp h'.1.1.1.2 i hi)
      intro pins s' σ H Dn Iv h
      obtain⟨cl',S⟩:=fT g Iv.ok hs
      have p:=rO (py:=px) (spos:=pos) (i:=i) (pos:=vpos) (elt:=el) (ifs:=fs) (tg:=t) (g:=gT X.K T) (tt:=RT X.K nox (bQ ifs) (eU cl ifs)) (te:=RD X.K nox (vars elt) (evR cl elt)) (g.calm hs.cm) (by rw[g.N];exact g.nod) (by rw[g.N];exact hx) hlx S (sH src X ex G it t g h'.1.1.2.1 h'.1.1.2.2) (fun C s H fp=>pgT (c5 g hs cl' C s H fp) T t hT)
       (fun C s H fp=>sG ifs _ nox G' fs (c5 g hs cl' C s H fp) h'.1.2) (fun C s H fp=>(snd elt _ nox G' el (c5 g hs cl' C s H fp) h'.2).1) hsw (fun x=>dD h'.1.1.2.1 X.env x)
      refine p pins s' σ H Dn Iv ?_
      obtain⟨B,F,τ,f,m,q⟩:=h
      -- as one that is kept
      have q0:PO' ex (bnd (bnd (evR cl (.comp G' fr T src ifs elt) τ) fun d=>.ok (cp (.comp G' fr T src ifs elt) d τ)) fun p=>bnd (dz (.nm i) p.1 p.2) fun τ'=>.ok (.nx τ')) (Fk X.K B Dn):=q
      have q1:=PO'.bnd (PO'.bnd q0)
      have fin:∀ (d:D) (v:V) (H':Hp) (F':Addr->Prop) (fv f':List Addr),Ow X.K F H f F' H' σ v (cp (.comp G' fr T src ifs elt) d τ).1 fv (cp (.comp G' fr T src ifs elt) d τ).2 f'->(∀ (p:D×Ev),p=cp (.comp G' fr T src ifs elt) d τ->PO' ex (bnd (dz (.nm i) p.1 p.2) fun τ'=>.ok (.nx τ')) (Fk X.K B Dn))->Dn.nx (σ.set i (some v)) H':=by
       intro d v H' F' fv f' o hp
       obtain⟨m',hb'⟩:=m.ow o
       have:=m'.gT (t:=.nm i) (Q:=Dn.nx) o.rep o.nod hb' (fB _ _ ht) (PO'.bnd (hp _ rfl)) fun τ' σ' f'' m'' h'=>h'.ok _ _ _ _ m''
       exact this
      cases z:evR cl (.comp G' fr T src ifs elt) τ with
      | error er=>
       rw[z] at q1
       cases er with
       | stuck=>exact q1.no.elim
       | exc c=>
        refine dQ (S:=fun _=>True) (τ:=τ) (ex:=ex) (Kt:=fun _=>False) hs.fle ha (cw m.rps) ?_ fun A ys ds H' e hA hA' mm k=>k.elim
        show PO' ex (evR cl (.comp G' fr T src ifs elt) τ) _
        rw[z]
        exact q1
      | ok d=>
       rw[z] at q1
       have q2:=q1.ok.ok
       obtain⟨o',ds,rfl⟩:∃ o ds,d=.lst o ds:=by
        have zz:=z
        rw[gQ] at zz
        obtain⟨its,_,zz⟩:=dC zz
        obtain⟨_,zz⟩:=kR zz
        obtain⟨ds,_,zz⟩:=dC zz
        cases zz
        exact⟨true,ds,rfl⟩
       by_cases hi:bR ds=true
       ·have hkp:cp (.comp G' fr T src ifs elt) (.lst o' ds) τ=(.lst true ds,τ):=by
         unfold cp
         rw[if_neg (show ¬ b9 (.lst o' ds)=true by intro z;cases z)]
         show (if bR ds=true then _ else _)=_
         rw[if_pos hi]
        refine dQ (S:=fun _=>True) (τ:=τ) (ex:=ex) (Kt:=fun d'=>∃ o'',d'=.lst o'' ds) hs.fle ha (cw m.rps) ?_ fun A ys ds' H' e hA hA' mm k=>?_
        ·show PO' ex (evR cl (.comp G' fr T src ifs elt) τ) _
         rw[z]
         exact⟨o',rfl⟩
        ·obtain⟨o'',k⟩:=k
         cases k
         obtain⟨k1,k2,k3⟩:=fZ m.fok m.rps e
         refine fin (.lst o' ds) (.ref A) H' F [A] f ?_ (fun p hp=>by subst hp;exact q2)
         rw[hkp]
         refine⟨k3,k1,.lstO (fun zz=>m.fok A zz hA) hA' (mm.free hi),k2,?_,fun a ha=>?_⟩
         ·rw[List.singleton_append,List.nodup_cons]
          refine⟨fun zz=>?_,m.nod⟩
          obtain⟨_,xs,e⟩:=m.rps.own A zz
          rw[hA] at e;cases e
         ·rw[List.singleton_append] at ha
          rcases List.mem_cons.mp ha with rfl|ha
          ·exact .inr hA
          ·exact .inl ha
       ·have hkp:cp (.comp G' fr T src ifs elt) (.lst o' ds) τ=(.lst true (ers ds),frz (vars (.comp G' fr T src ifs elt)) τ):=by
         unfold cp
         rw[if_neg (show ¬ b9 (.lst o' ds)=true by intro z;cases z)]
         show (if bR ds=true then _ else _)=_
         rw[if_neg hi]
        obtain⟨F1,gg,b1,b2,b3,b4,b5,b6⟩:=dZ (vars (.comp G' fr T src ifs elt)) m.fok m.rps m.nod
        refine dQ (S:=F1) (τ:=τ) (ex:=ex) (Kt:=fun d'=>∃ o'',d'=.lst o'' ds) hs.fle ha b6 ?_ fun A ys ds' H' e hA hA' mm k=>?_
        ·show PO' ex (evR cl (.comp G' fr T src ifs elt) τ) _
         rw[z]
         exact⟨o',rfl⟩
        ·obtain⟨o'',k⟩:=k
         cases k
         obtain⟨c1,c2,c3⟩:=grow (fun a=>a≠A) b1 b2 e
         have m2:HReps X.K (fun a=>F1 a∨(a≠A/\H a=none/\H' a≠none)) H' ys ds:=mm.step (fun a xs h r=>⟨h.1.elim (fun z=>.inl z) fun z=>.inr ⟨h.2,z,r.some⟩,r⟩) fun a xs h=>h
         refine fin (.lst o' ds) (.ref A) H' (fun a=>F1 a∨(a≠A/\H a=none/\H' a≠none)) [A] gg ?_ (fun p hp=>by subst hp;exact q2)
         rw[hkp]
         refine⟨b4.trans c3 (fun x hx=>.inl (b5 x hx)),c1,.lstO (fun zz=>?_) hA' m2.frozen,c2,?_,fun a ha=>?_⟩
         ·rcases zz with zz|zz
          ·exact b1 A zz hA
          ·exact zz.1 rfl
         ·rw[List.singleton_append,List.nodup_cons]
          refine⟨fun zz=>?_,b3⟩
          obtain⟨_,xs,e⟩:=b2.own A zz
          rw[hA] at e;cases e
         ·rw[List.singleton_append] at ha
          rcases List.mem_cons.mp ha with rfl|ha
          ·exact .inr hA
          ·exact .inl (b5 a ha)
     | _=>first|exact ae hv|cases hv
   | SetComp _ _ _ _=>cases e<;>first|exact ae hv|cases hv
   | DictComp _ _ _ _ _=>cases e<;>first|exact ae hv|cases hv
   | _=>exact plain rfl
 | Tuple ts k px=>
  have hc':notTuple v=true:=hc
  refine de (vf pe pg ?_ ?_ rfl) fun Dn σ H h=>tR ht h
  ·induction v using zE<;>rfl
  ·induction v using zE<;>first|rfl|cases hc'
 | _=>cases hc
end
theorem SqE.updD {K:PySem.W.Frag}{H:Hp}{a l:Addr}{xs:List V ⊕ EX}{ys zs:List (Key×V)}(hl:H l=some (.dK ys))(h:SqE K H a xs):SqE K (L2.upd H l (.dK zs)) a xs:=by
 exact h.cl (oQ (fun o' z=>by rw[hl] at z;cases z) fun xs z=>by rcases z with z|⟨o',z⟩<;>(rw[hl] at z;cases z))
theorem MReps.noO {K:PySem.W.Frag}{F:Addr->Prop}{H:Hp}{vs:List V}{ds:List D}{f:List Addr}(h:MReps K F H vs ds f)(n:dt ds=true):f=[]:=by
 refine MReps.rec (motive_1:=fun _ d f _=>nk d=true->f=[]) (motive_2:=fun _ d f _=>dt d=true->f=[]) (fun _=>rfl) (fun _ _=>rfl) (fun _ _=>rfl) (fun _ _=>rfl) (fun _ _=>rfl) (fun _ _ i z=>i z) (fun _ _ _ _ _=>rfl) (fun _ _ _ _=>rfl) (fun _ _ _ _ z=>ae z) (fun _ _ _ _ _ _=>rfl) (fun _ _ _ _ _ z=>ae z) (fun _=>rfl) (fun {v d f vs ds g} _ _ i j z=>?_) h n
 have z':=Bool.and_eq_true_iff.mp (show (nk d&&dt ds)=true from z)
 rw[i z'.1,j z'.2]
 rfl
theorem pP {K:PySem.W.Frag}{F:Addr->Prop}{H:Hp}{σ:St}{τ:Ev}{f:List Addr}{i:Nat}{ks:List Key}{ds:List D}(r:Rps K F H σ τ f)(hs:bo τ i=some (.dct true ks ds))(n:dt ds=true) :
  ∃ l kvs g,σ[i]? = some (some (.ref l))/\¬ F l/\H l=some (.dK kvs)/\kvs.map (·.1)=ks/\MReps K F H (kvs.map (·.2)) ds []/\Rps K F H σ (τ.set i none) g/\f.Perm (l::g):=by
 obtain⟨v,fs,g,h1,h2,h3,h4⟩:=r.at hs
 cases h2 with
 | @dctO a kvs _ _ fi hF hH hk hm=>
  have e:=hm.noO n
  subst e
  exact⟨a,kvs,g,h1,hF,hH,hk,hm,h3,h4⟩
theorem Frm.writeD {K:PySem.W.Frag}{io:Option Nat}{B:Bs io}{F:Addr->Prop}{H:Hp}{σ:St}{τ:Ev}{f g:List Addr}{i:Nat}{l:Addr}{kvs kvs':List (Key×V)}{ks':List Key}{ds':List D}(m:Frm K B F H σ τ f)(hσ:σ[i]? = some (some (.ref l)))(hF:¬ F l)(hl:H l=some (.dK kvs))(hr:Rps K F H σ (τ.set i none) g)(h4:f.Perm (l::g))
  (hk:kvs'.map (·.1)=ks') (hm:MReps K F H (kvs'.map (·.2)) ds' []):∃ f',Frm K B F (upd H l (.dK kvs')) σ (τ.set i (some (.dct true ks' ds'))) f':=by
 have nd0:(l::g).Nodup:=h4.nodup_iff.mp m.nod
 have lg:l∉g:=(List.nodup_cons.mp nd0).1
 have sl:∀ a (u:LD),F a->Rd H a u.o->F a/\Rd (upd H l (.dK kvs')) a u.o:=fun a xs h r=>by
  refine⟨h,?_⟩
  have:a≠l:=fun z=>hF (by rw[<- z];exact h)
  unfold Rd
  rw[aD this]
  exact r
 have st:∀ a xs,SqE K H a xs->SqE K (upd H l (.dK kvs')) a xs:=fun a xs h=>h.updD hl
 have r1:Rps K F (upd H l (.dK kvs')) σ (τ.set i none) g:=hr.step sl st fun a ha n _=>⟨n,aD fun z=>lg (by rw[<- z];exact ha)⟩
 have m1:MRep K F (upd H l (.dK kvs')) (.ref l) (.dct true ks' ds') [l]:=.dctO hF bN hk (hm.step sl st cT)
 obtain⟨g',h',r2,p2⟩:=r1.put i m1
 have hσ':σ.set i (some (.ref l))=σ:=by
  apply List.ext_getElem?
  intro j
  rw[List.getElem?_set]
  by_cases hj:i=j
  ·subst hj
   rw[if_pos rfl,if_pos (List.getElem?_eq_some_iff.mp hσ).1,hσ]
  ·rw[if_neg hj]
 rw[hσ',List.set_set] at r2
 have nd2:(g'++h').Nodup:=p2.nodup_iff.mpr nd0
 have lB:B.H l=none:=m.own l (h4.mem_iff.mpr (by simp))
 refine⟨g',fun a h=>?_,r2,(List.nodup_append.mp nd2).1,fun b o hbo=>?_,fun a ha=>m.own a (h4.mem_iff.mpr (p2.mem_iff.mp (List.mem_append_left _ ha))),m.inn,m.out,fun a xs h=>⟨(m.pin a xs h).1,(sl a xs (m.pin a xs h).1 (m.pin a xs h).2).2⟩,fun a xs h=>st a xs (m.pit a xs h),m.nm⟩
 ·have:a≠l:=fun z=>hF (by rw[<- z];exact h)
  rw[aD this]
  exact m.fok a h
 ·have:b≠l:=fun z=>by rw[z,lB] at hbo;cases hbo
  rw[aD this]
  exact m.same _ _ hbo
section
variable {K:PySem.W.Frag}{S:Addr->Prop}{H:Hp}
theorem has_any (kvs:List (Key×V))(q:Key):(kvs.any fun kv=>decide (kv.1=q))=jJ (kvs.map (·.1)) q:=by
 unfold jJ
 rw[List.any_map]
 rfl
theorem put_k (kvs:List (Key×V))(q:Key)(v:V):(putK kvs q v).map (·.1)=e9 (kvs.map (·.1)) q:=by
 unfold putK e9
 rw[has_any]
 by_cases h:jJ (kvs.map (·.1)) q=true
 ·rw[if_pos h,if_pos h,List.map_map]
  refine List.map_congr_left fun kv _=>?_
  show (if kv.1=q then (kv.1,v) else kv).1=kv.1
  split<;>rfl
 ·rw[if_neg h,if_neg h,List.map_append]
  rfl
theorem yL (q:Key){v:V}{d:D}(mv:HRep K S H v d){kvs:List (Key×V)}{ds:List D}(m:HReps K S H (kvs.map (·.2)) ds):HReps K S H ((putK kvs q v).map (·.2)) (ff (kvs.map (·.1)) ds q d):=by
 unfold putK ff
 rw[has_any]
 by_cases h:jJ (kvs.map (·.1)) q=true
 ·rw[if_pos h,if_pos h,List.map_map]
  clear h
  induction kvs generalizing ds with
  | nil=>
   cases m
   exact .nil
  | cons p kvs ih=>
   rw[List.map_cons] at m
   cases ds with
   | nil=>exact absurd m.length (by simp)
   | cons e ds=>
    cases m with
    | cons m1 m2=>
     rw[List.map_cons,List.map_cons,List.zipWith_cons_cons]
     refine .cons ?_ (ih m2)
     show HRep K S H (if p.1=q then (p.1,v) else p).2 (if p.1=q then d else e)
     split
     ·exact mv
     ·exact m1
 ·rw[if_neg h,if_neg h,List.map_append]
  exact m.append (.cons mv .nil)
end
section
variable {Z:Sg}{CX:CXT}{cl:Nat->List D->Res D}{xp:XK->Hp->EX->Prop}{X:Cx}{ex:EX->Prop}{G:Gm}
theorem gU (is:List Nat):∀ (τ:Ev) (k i:Nat),is.contains (k+i)=false->bo (fN is k τ) i=bo τ i
 | [],k,i,h=>rfl
 | o::τ,k,0,h=>by
  unfold fN
  rw[dn,dn,if_neg (by rw[show k=k+0 from rfl,h];simp)]
 | o::τ,k,i+1,h=>by
  unfold fN
  rw[cV,cV]
  exact gU is τ (k+1) i (by rw[<- h];congr 1;omega)
theorem st_dsetx (g:GOk Z CX cl xp X ex G){i:Nat}{k e:IR}{x:Str}{p sp pos:Pos}{s v:Expr}(h1:fy G i x=true)(h2:cY s=true)(h3:chk Z G k s=true)(h4:chk Z G e v=true)(h5:(vars e).contains i=false) :
  PS X (.Assign [.Subscript (.Name x p) s sp] v pos) (RS X.K G.io ex (evS cl (.dsetx i k e))):=by
 have hu:=g.un
 refine de (rR (by omega) (lZ g h1) (snd k X ex G s g h3).1 (snd e X ex G v g h4).1 (by induction v using zE<;>rfl)) fun Dn σ H h=>?_
 obtain⟨B,F,τ,f,m,q⟩:=h
 have q0:PO' ex (bnd (evR cl e τ) fun d=>match bo τ i with|some (.dct true ks ds)=>bnd (evR cl k (frz (vars e) τ)) fun y=>(match ib y with|some q=>grd (dt ds&&dN ks.length) (.ok (.nx ((frz (vars e) τ).set i (some (.dct true (e9 ks q) (ers (ff ks ds q d)))))))|none=>stk)|_=>stk) (Fk X.K B Dn):=q
 obtain⟨F1,gg,b1,b2,b3,b4,b5,b6⟩:=dZ (vars e) m.fok m.rps m.nod
 refine cz (.refl _) b6 (PO'.bnd q0) fun d w H1 e1 _ mw q1=>?_
 obtain⟨c1,c2,c3⟩:=grow (fun _=>True) b1 b2 e1
 have m1:Frm X.K B (fun b=>F1 b∨(True/\H b=none/\H1 b≠none)) H1 σ (frz (vars e) τ) gg:=m.stp (b4.trans c3 (fun x hx=>.inl (b5 x hx))) c1 c2 b3 fun b hb=>.inl (b5 b hb)
 have mw:=mw.fix
 cases z0:bo τ i with
 | none=>rw[z0] at q1;exact q1.no.elim
 | some d0=>
  rw[z0] at q1
  induction d0 using zD with
  | dct ow ks ds=>
   cases ow with
   | false=>exact q1.no.elim
   | true=>
    have zf:bo (frz (vars e) τ) i=some (.dct true ks ds):=(gU (vars e) τ 0 i (by rw[Nat.zero_add];exact h5)).trans z0
    obtain⟨v0,hv0,_⟩:∃ v0,σ[i]? = some (some v0)/\True:=by
     obtain⟨v0,_,_,h,_⟩:=m1.rps.at zf
     exact⟨v0,h,trivial⟩
    refine⟨v0,hv0,m1.rd (PO'.bnd q1) fun y w2 H2 m2 e2 mw2 q2=>?_⟩
    cases hk:ib y with
    | none=>simp only[hk] at q2;exact q2.no.elim
    | some qk=>
     simp only[hk] at q2
     obtain⟨gd,q2⟩:=PO'.grd q2
     rw[Bool.and_eq_true] at gd
     obtain⟨l,kvs,g0,hσ,hF,hl,hks,hm,hr,hp⟩:=pP m2.rps zf gd.1
     rw[hv0] at hσ
     cases hσ
     subst hks
     have hm2:=(yL qk (mw.mono (fun _ h=>h) e2) (hm.read (fun _ h=>h) fun _ h=>absurd h (by simp))).frozen
     obtain⟨f',m3⟩:=m2.writeD hv0 hF hl hr hp (put_k kvs qk w) hm2
     have hlen:kvs.length < sizeLine:=by
      have:=gc gd.2
      rwa [List.length_map] at this
     exact⟨l,_,rfl,.inl ⟨kvs,qk,hl,lW mw2 hk,hlen,rfl⟩,q2.ok _ _ _ _ m3⟩
  | _=>exact q1.no.elim
end
section
variable {K:PySem.W.Frag}{F:Addr->Prop}{H:Hp}
theorem MRep.parts {v:V}{o:Bool}{es:List D}{fv:List Addr}(h:MRep K F H v (.lst o es) fv):∃ b zs fe h',v=.ref b/\SqL K H b zs/\MReps K F H zs es fe/\(fe++h').Perm fv:=by
 cases h with
 | lstS h0 h1 h2=>exact⟨_,_,[],[],rfl,.inl h1,h2,.refl _⟩
 | lstK h1 h2=>exact⟨_,_,[],[],rfl,h1.sq,h2,.refl _⟩
 | @lstO a xs ds f h0 h1 h2=>exact⟨a,_,f,[a],rfl,.inl (.inl h1),h2,List.perm_append_comm (l₁:=f) (l₂:=[a])⟩
theorem MReps.split (n:Nat){vs:List V}{ds:List D}{f:List Addr}(h:MReps K F H vs ds f):∃ f1 f2,MReps K F H (vs.take n) (ds.take n) f1/\MReps K F H (vs.drop n) (ds.drop n) f2/\f1++f2=f:=by
 revert n
 refine MReps.ind (P:=fun vs ds f=>∀ n,∃ f1 f2,MReps K F H (vs.take n) (ds.take n) f1/\MReps K F H (vs.drop n) (ds.drop n) f2/\f1++f2=f) (fun n=>⟨[],[],by rw[List.take_nil,List.take_nil];exact .nil,by rw[List.drop_nil,List.drop_nil];exact .nil,rfl⟩) (fun v d f vs ds g a b j n=>?_) h
 cases n with
 | zero=>exact⟨[],f++g,.nil,.cons a b,rfl⟩
 | succ n=>
  obtain⟨f1,f2,h1,h2,h3⟩:=j n
  exact⟨f++f1,f2,.cons a h1,h2,by rw[List.append_assoc,h3]⟩
end
section
variable {Z:Sg}{CX:CXT}{cl:Nat->List D->Res D}{xp:XK->Hp->EX->Prop}{X:Cx}{ex:EX->Prop}{G:Gm}
theorem pQ {K:PySem.W.Frag}{F:Addr->Prop}{H:Hp}{σ:St}{τ:Ev}{f:List Addr}{i:Nat}{ds:List D}(r:Rps K F H σ τ f)(hs:bo τ i=some (.lst true ds)):∃ l xs,σ[i]? = some (some (.ref l))/\H l=some (.lst xs)/\xs.length=ds.length:=by
 obtain⟨v,fs,g,h1,h2,h3,h4⟩:=r.at hs
 cases h2 with
 | lstO hF hH hm=>exact⟨_,_,h1,hH,hm.length⟩
theorem st_ins (g:GOk Z CX cl xp X ex G){i:Nat}{k e:IR}{x:Str}{p apos cpos pos:Pos}{s v:Expr}(h1:fy G i x=true)(h2:(apos.endLine == cpos.line)=true)(h3:notStar s=true)(h3':notStar v=true)(h4:chk Z G k s=true)(h5:chk Z G e v=true) :
  PS X (.Expr (.Call (.Attribute (.Name x p) "insert" apos) [s,v] [] cpos) pos) (RS X.K G.io ex (evS cl (.ins i k e))):=by
 have pa:PA X [s,v] (eX (RD X.K ex (vars k) (evR cl k)) (eX (RO X.K ex (evO cl false e)) mU)):=cq (snd k X ex G s g h4).1 (cq (snO e false X ex G v g h5) dw (aE h3' _ _)) (aE h3 _ _)
 have hfew:((backTo cpos (starEach [s,v] X.env)).all (fun x=>!x.1)&&(backToKw cpos (keywordEach [] X.env)).all (fun x=>x.1.isSome)&&decide ([s,v].length+([]:List Keyword).length+(if ([]:List Keyword).isEmpty then 0 else 1) < 30))=true:=by
  rw[aE h3,aE h3']
  rfl
 refine de (iV (oy PySem.F.plainAttrs_list PySem.F.slot_list_insert PySem.F.type_list_insert vL (lZ g h1) pa rfl hfew h2 (aE h3 _ _) (by rw[aE h3'];rfl))) fun Dn σ H h=>?_
 obtain⟨B,F,τ,f,m,q⟩:=h
 have q0:PO' ex (match bo τ i with|some (.lst _ _)=>(bnd (evR cl k τ) fun y=>bnd (evO cl false e τ) fun p=>(match y,bo p.2 i with|.int z,some (.lst true ds)=>grd (decide (0<=z/\z.toNat<=ds.length)&&dN ds.length) (.ok (.nx (p.2.set i (some (.lst true (ds.take z.toNat++p.1::ds.drop z.toNat))))))|_,_=>stk))|_=>stk) (Fk X.K B Dn):=q
 cases z0:bo τ i with
 | none=>rw[z0] at q0;exact q0.no.elim
 | some d0=>
  rw[z0] at q0
  induction d0 using zD with
  | lst o0 ds0=>
   obtain⟨v0,fv0,g0,a1,a2,a3,a4⟩:=m.rps.at z0
   obtain⟨l,xs0,_,_,rfl,hq,_⟩:=a2.parts
   refine⟨.ref l,a1,.inl ⟨rfl,xs0,hq⟩,m.rd (PO'.bnd q0) fun y w H1 m1 e1 mw q1=>?_⟩
   refine m1.ro (PO'.bnd q1) fun p v H' F' fv f' o hp=>?_
   obtain⟨m',hb⟩:=m1.ow o
   induction y using zD with
   | int z=>
    cases mw.intR
    cases zs:bo p.2 i with
    | none=>simp only[zs] at hp;exact hp.no.elim
    | some d=>
     simp only[zs] at hp
     induction d using zD with
     | lst ow ds=>
      cases ow with
      | false=>exact hp.no.elim
      | true=>
       obtain⟨gd,hp⟩:=PO'.grd hp
       rw[Bool.and_eq_true] at gd
       have gz:0<=z/\z.toNat<=ds.length:=of_decide_eq_true gd.1
       obtain⟨l',xs,hσ,hl,hlen⟩:=pQ m'.rps zs
       rw[a1] at hσ
       cases hσ
       obtain⟨f'',m3⟩:=m'.write (ys:=xs.take z.toNat++v::xs.drop z.toNat) (ds':=ds.take z.toNat++p.1::ds.drop z.toNat) zs a1 hl o.rep o.nod hb fun fi hm=>by
        obtain⟨f1,f2,s1,s2,s3⟩:=hm.split z.toNat
        refine⟨f1++(fv++f2),[],s1.append (.cons o.rep s2),?_⟩
        rw[List.append_nil,<- s3,<- List.append_assoc,<- List.append_assoc]
        exact List.Perm.append_right _ List.perm_append_comm
       exact⟨l,xs,z,v,rfl,rfl,hl,gz.1,by rw[hlen];exact gz.2,by rw[hlen];exact gc gd.2,hp.ok _ _ _ _ m3⟩
     | _=>exact hp.no.elim
   | _=>exact hp.no.elim
  | _=>exact q0.no.elim
end
theorem jX {K:PySem.W.Frag}{h:Heap}{C:Addr}(X:K.In h)(q:nG K C=true):∃ bm N nm qn bs hdct sn sub ab col dd k0 k1 k2 k3 k5,
  h.get? C=some (excClassObj nm qn C N bs bm hdct sn sub ab col dd k0 k1 k2 k3 k5 "ValueError.__new__")/\OwnTail h bmV bm:=by
 unfold nG at q;split at q
 ·rename_i dd cd sl ho;split at q
  ·rename_i C' bm k0 k1 k2 k3 n k5 hm hs;simp only[Bool.and_eq_true,beq_iff_eq,Bool.not_eq_true'] at q
   obtain⟨⟨⟨rfl,rfl⟩,hdel⟩,ht⟩:=q;obtain⟨nm,bs,mro,ns,qn,hd,sn,sub,ab,col,del⟩:=cd
   dsimp only at hm hdel;subst hm hdel
   obtain⟨l⟩:=sl
   have hs:l=[k0,k1,k2,k3,some (.builtin "ValueError.__new__"),k5]:=hs
   subst hs
   exact⟨bm,ns,nm,qn,bs,hd,sn,sub,ab,col,dd,k0,k1,k2,k3,k5,X _ _ ho,PySem.W.tail_of_in X ht⟩
  ·cases q
 ·cases q
section
variable {X:Cx}{pins:List (Addr×Obj)}{σ:St}{H:Hp}{s:Shared}
theorem wx {M:Model}{A:Around}{E:Value->Shared->Prop}{i:Nat}{x:Str}{v:V}{Q:Unit->Shared->Prop}(I:Inv X pins σ H s)(hN:X.N.Nodup)(hi:X.N[i]? = some x)(hk:X.env.kindOf x=some .local)(hσ:σ[i]? = some (some v))
  (h:∀ s',Inv X pins (σ.set i none) H s'->Q () s'):wpAny M A (unbindName X.env x) Q E s:=by
 obtain⟨m,hn,hl⟩:=id I.loc
 have hcls:(X.env.scope.kind == .class||(X.env.scope.kind == .module&&X.env.locals != X.env.globals))=false:=by rw[I.ok.kind];rfl
 have cne:=I.cne
 obtain⟨u,_,q⟩:=hl i x v hi hσ (.inl hk)
 have hv:m x=some u:=by
  rcases q with ⟨_,e⟩|⟨k,_⟩
  ·exact e
  ·rw[hk] at k;rcases k with k|k<;>cases k
 refine wpAny_unbindName_local hk hn hv hcls fun h' w hn' hs=>?_
 obtain⟨oL,_,_,hoL,_⟩:=id hn
 refine h _ ⟨I.ok,I.os,I.bare,⟨fun b o e n hb hx=>?_,fun b o e n hb hx=>?_,I.base.free,fun b o e hx=>?_,I.base.tups,I.base.frzs,I.base.tbls⟩,⟨_,hn',fun j y v' e1 e2 e3=>?_⟩,fun y c e=>?_,I.free,I.freeC,fun p hp=>?_,fun b ob e=>?_,by simpa using I.len⟩
 ·exact(hs.2 b (Nat.ne_of_lt (Nat.lt_of_lt_of_le (Heap.lt_size e) I.ok.above))).trans (I.base.keep b o e n hb hx)
 ·obtain⟨sl,e1⟩:=I.base.slot b o e n hb hx
  exact⟨sl,(hs.2 b (Nat.ne_of_lt (Nat.lt_of_lt_of_le (Heap.lt_size e) I.ok.above))).trans e1⟩
 ·obtain⟨o',e1⟩:=I.base.there b o e hx
  exact⟨o',(hs.2 b (Nat.ne_of_lt (Nat.lt_of_lt_of_le (Heap.lt_size e) I.ok.above))).trans e1⟩
 ·have hj:j≠i:=by
   rintro rfl
   have hlt:j < σ.length:=(List.getElem?_eq_some_iff.mp hσ).1
   rw[List.getElem?_set_self hlt] at e2
   cases e2
  rw[List.getElem?_set_ne (Ne.symm hj)] at e2
  obtain⟨u',r',q⟩:=hl j y v' e1 e2 e3
  refine⟨u',r',?_⟩
  rcases q with ⟨k,e⟩|⟨k,c,e,z⟩
  ·refine .inl ⟨k,?_⟩
   have:y≠x:=fun e=>hj (gj hN e1 (e ▸ hi))
   simp[this,e]
  ·exact .inr ⟨k,c,e,z.sameBut hs (cne y c e)⟩
 ·obtain⟨w',z⟩:=I.cell y c e
  exact⟨w',z.sameBut hs (cne y c e)⟩
 ·obtain⟨e,n,ne,nf,d⟩:=I.pin p hp
  exact⟨(hs.2 p.1 ne).trans e,n,ne,nf,d⟩
 ·refine(I.hok b ob e).stay (fun c w' hc q=>(hs.2 c ?_).trans q) (fun _ q=>q) fun _ _ q=>q
  rintro rfl
  rcases hc with rfl|hc
  ·rw[I.free] at e;cases e
  ·rw[I.free] at hc;cases hc
theorem wy {M:Model}{A:Around}{E:Value->Shared->Prop}{i:Nat}{x:Str}{pos:Pos}{Q:Unit->Shared->Prop}(I:Inv X pins σ H s)(hN:X.N.Nodup)(hi:X.N[i]? = some x)(hk:X.env.kindOf x=some .local)
  (h:∀ s',Inv X pins (σ.set i none) H s'->Q () s'):wpAny M A (do bindName X.env x .none;unbindBehindTheSuite X.env x pos) Q E s:=by
 have hiσ:i < σ.length:=by rw[I.len];exact(List.getElem?_eq_some_iff.mp hi).1
 unfold bindName unbindBehindTheSuite
 refine wpAny_bind (wpAny_bind (wpAny_holding (wpAny_point (wpAny_bind (ef (v:=.non) I hN hi (.inl hk) rfl (fun s1 I1=>wpAny_point (wpAny_onRaise (wx I1 hN hi hk (v:=.non) (by rw[List.getElem?_set_self hiσ]) fun s2 I2=>?_))) (.inr hk))))))
 rw[List.set_set] at I2
 exact h s2 I2
theorem Inv.track {a:Addr}{o:Obj}{u:HO}(I:Inv X pins σ H s)(ha:s.heap.get? a=some o)(n:H a=none)(hu:cu X.prog X.w (upd H a (.frz o u)) s.heap a u)(n0:∀ ob,X.s₀.heap.get? a=some ob->X.H₀ a=none->a∉X.ex->False)
  (n0':X.H₀ a=none) (nl:a≠X.env.locals) (nc:∀ x c,X.env.cells.lookup x=some c->c≠a) (np:∀ p∈X.pn++pins,p.1≠a):Inv X pins σ (upd H a (.frz o u)) s:=by
 refine⟨I.ok,I.os,I.bare,⟨I.base.keep,I.base.slot,fun b ob e z hx=>?_,I.base.there,fun b xs e=>?_,fun b ob v e=>?_,fun b ps e=>?_⟩,I.loc,I.cell,?_,fun x c e=>?_,fun p hp=>?_,fun b ob e=>?_,I.len⟩
 ·have:b≠a:=by rintro rfl;exact n0 ob e z hx
  rw[aD this]
  exact I.base.free b ob e z hx
 ·have:b≠a:=by rintro rfl;rw[n0'] at e;cases e
  rw[aD this];exact I.base.tups b xs e
 ·have:b≠a:=by rintro rfl;rw[n0'] at e;cases e
  rw[aD this];exact I.base.frzs b ob v e
 ·have:b≠a:=by rintro rfl;rw[n0'] at e;cases e
  obtain⟨more,z⟩:=I.base.tbls b ps e
  exact⟨more,by rw[aD this];exact z⟩
 ·rw[aD (Ne.symm nl)];exact I.free
 ·rw[aD (nc x c e)];exact I.freeC x c e
 ·obtain⟨e,z,r⟩:=I.pin p hp
  exact⟨e,by rw[aD (np p hp)];exact z,r⟩
 ·by_cases hb:b=a
  ·subst hb
   rw[bN] at e
   cases e
   exact⟨ha,hu⟩
  ·rw[aD hb] at e
   exact(I.hok b ob e).stay (fun _ _ _ z=>z) (fun c z=>by rw[aD (bS z n)];exact z) fun c xs z=>by rw[aD (bS z n)];exact z
theorem l0 {H1 H':Hp}{s1 s':Shared}{B:Heap}{a:Addr}{cls:Value}{a0:Option Addr}{h5:Heap}(I:Inv X pins σ H1 s1)(os:s'.os=s1.os)(bare:AllBare s'.gens)(un:Un (frs X.stack) [] H1 H' s1.heap s'.heap)(hB:HOk X.prog X.w H' B)(sm:bO H1 H')
  (kB:∀ b o,s1.heap.get? b=some o->H1 b=none->b∉frs X.stack->B.get? b=some o) (fl:Heap.FlyingD B X.stack a cls a0 h5) (up:s'.heap.UpToSlots h5):Inv X pins σ H' {s' with heap:=h5}:=by
 refine I.call' (s':={s' with heap:=h5}) os ⟨fun b o e n nf _=>fl.1 _ _ (kB b o e n nf),fun b o e n hf _=>?_,un.free,fun b o e _=>?_,fun b xs e=>sm _ _ e,fun b o u e=>sm _ _ e,fun b ps e=>⟨#[],by rw[sm _ _ e];simp⟩⟩ (hB.kept fl.1) bare (fun b z=>absurd z (by simp))
 ·obtain⟨sl,h1⟩:=un.slot b o e n hf (by simp)
  obtain⟨_,o',ho',nf⟩:=I.stack.mem hf
  rw[e] at ho'
  cases ho'
  obtain⟨sl',h2⟩:=up b _ h1 nf
  exact⟨sl',h2⟩
 ·cases q:H1 b with
  | none=>
   by_cases hf:b∈frs X.stack
   ·obtain⟨sl,h1⟩:=un.slot b o e q hf (by simp)
    obtain⟨_,o',ho',nf⟩:=I.stack.mem hf
    rw[e] at ho'
    cases ho'
    obtain⟨sl',h2⟩:=up b _ h1 nf
    exact⟨_,h2⟩
   ·exact⟨_,fl.1 _ _ (kB b o e q hf)⟩
  | some u=>
   obtain⟨ob,ho⟩:=(hB b u (sm _ _ q)).at
   exact⟨_,fl.1 _ _ ho⟩
end
theorem jl {M:Model}{A:Around}{E:Value->Shared->Prop}{s:Shared}{base:Heap}{l:List Env}{e:Addr}{cls:Value}{a0:Option Addr}{Q:Unit->Shared->Prop}(hh:Heap.FlyingD base l e cls a0 s.heap)
  (hQ:∀ h',Heap.FlyingD base l e cls a0 h'->s.heap.UpToSlots h'->Q () {s with heap:=h'}):wpAny M A (setFlight (.ref e) none) Q E s:=by
 obtain⟨f1,f2,f3,f4⟩:=hh
 exact c9 f1 f3 f4.at fun h' k1 k2 k3 k4=>hQ h' ⟨k1,f2,k2,k3⟩ fun b o hb hn=>⟨o.slots,k4 b o hb hn⟩
theorem Rps.drop {K:PySem.W.Frag}{F:Addr->Prop}{H:Hp}{o:Option V}:∀ {σ:St}{τ:Ev}{f:List Addr} (i:Nat),Rps K F H σ τ f->f.Nodup->∃ g,Rps K F H (σ.set i o) (τ.set i Option.none) g/\g.Nodup/\∀ a∈g,a∈f
 | _,_,_,i,.nil,nd=>⟨[],.nil,nd,fun _ h=>h⟩
 | _,_,_,0,.none h,nd=>⟨_,.none h,nd,fun _ h=>h⟩
 | _,_,_,0,.some m h,nd=>⟨_,.none h,(List.nodup_append.mp nd).2.1,fun _ h=>List.mem_append_right _ h⟩
 | _,_,_,i+1,.none h,nd=>by
  obtain⟨g,h1,h2,h3⟩:=Rps.drop (o:=o) i h nd
  exact⟨g,.none h1,h2,h3⟩
 | _,_,_,i+1,.some (f:=f0) m h,nd=>by
  obtain⟨nd1,nd2,nd3⟩:=List.nodup_append.mp nd
  obtain⟨g,h1,h2,h3⟩:=Rps.drop (o:=o) i h nd2
  exact⟨f0++g,.some m h1,List.nodup_append.mpr ⟨nd1,h2,fun a ha b hb=>nd3 a ha b (h3 b hb)⟩,fun a ha=>(List.mem_append.mp ha).elim (List.mem_append_left _) fun z=>List.mem_append_right _ (h3 a z)⟩
theorem jY {K:PySem.W.Frag}{F:Addr->Prop}{H:Hp}:∀ {σ:St}{n:Nat},σ.length=n->Rps K F H σ (List.replicate n none) []
 | [],0,_=>.nil
 | _::σ,n+1,h=>.none (jY (by simpa using h))
noncomputable def d8 (X:Cx)(a:Addr):Cx:={X with A:=X.A.mark (some (.ref a)),calm:=false,xe:=fun _ _=>False}
section
variable {X:Cx}{pins pins':List (Addr×Obj)}{σ:St}{H:Hp}{s:Shared}{E:Value->Shared->Prop}{a:Addr}
theorem iH (I:Inv X pins σ H s):Inv (d8 X a) pins σ H s:=
 ⟨⟨I.ok.mod,I.ok.kind,I.ok.glob,I.ok.blt,I.ok.above,I.ok.inj,I.ok.has,I.ok.cab,(fun z=>nomatch z),I.ok.frames,I.ok.stk,I.ok.exf,I.ok.bs,I.ok.bsz,I.ok.noex,I.ok.exfs,I.ok.funs,I.ok.frf⟩,I.os,I.bare,I.base,I.loc,I.cell,I.free,I.freeC,I.pin,I.hok,I.len⟩
theorem jZ (ok:X.Ok)(I:Inv (d8 X a) pins σ H s):Inv X pins σ H s:=
 ⟨ok,I.os,I.bare,I.base,I.loc,I.cell,I.free,I.freeC,I.pin,I.hok,I.len⟩
end
section
variable {Z:Sg}{CX:CXT}{cl:Nat->List D->Res D}{xp:XK->Hp->EX->Prop}{X:Cx}{ex:EX->Prop}{G:Gm}{pins:List (Addr×Obj)}{a:Addr}
theorem l5 (g:GOk Z CX cl xp X ex G):GOk Z CX cl xp X.nox nox {G with rs:=false,tr:=false} where
 N:=g.N
 nod:=g.nod
 calm:=g.calm
 fk:=g.fk
 un:=g.un
 own:=fun z=>by cases z
 kd:=g.kd
 noD:=g.noD
 gl:=g.gl
 nam:=g.nam
 df:=g.df
 blt:=g.blt
 cst:=g.cst
 fns:=g.fns
 fio:=g.fio
 xcv:=g.xcv
 xcl:=g.xcl
 xmt:=g.xmt
 xrs:=g.xrs
 rse:=fun z=>by cases z
 tr:=fun z=>by cases z
 exs:=⟨fun _ _ _=>False,fun pins σ H s e s' _ h=>(g.exn _ _ _ _ _ h).elim,fun c _ z=>z.elim⟩
 hid:=g.hid
 exn:=g.exn
theorem nN (g:GOk Z CX cl xp X ex G)(hpl:∀ f∈Z.fns,f∈Z.pl->∀ x,Z.name f=some x->FnC X.prog X.w X.K X.mg X.base CX (X.A.mark (some (.ref a))) cl xp f x):GOk Z CX cl xp (d8 X a) nox {G with cm:=false,rs:=false,tr:=false} where
 N:=g.N
 nod:=g.nod
 calm:=fun z=>by cases z
 fk:=g.fk
 un:=g.un
 own:=fun z=>by cases z
 kd:=g.kd
 noD:=g.noD
 gl:=g.gl
 nam:=g.nam
 df:=g.df
 blt:=g.blt
 cst:=g.cst
 fns:=fun f hf h x hx=>hpl f hf (h.elim (fun z=>by cases z) id) x hx
 fio:=fun f hf h=>by cases h
 xcv:=g.xcv
 xcl:=g.xcl
 xmt:=g.xmt
 xrs:=g.xrs
 rse:=fun z=>by cases z
 tr:=fun z=>by cases z
 exs:=⟨fun _ _ _=>False,fun pins σ H s e s' _ h=>(g.exn _ _ _ _ _ h).elim,fun c _ z=>z.elim⟩
 hid:=g.hid
 exn:=g.exn
theorem wz {c x:Str}{d:D}{k:Fl->Prop}(h:PO' ex (nj c x d) k):∃ ts:List Str,d=.tup (ts.map .str)/\ex ⟨c,x,ts⟩:=by
 induction d using zD with
 | tup ds=>
  have h':PO' ex (match cJ ds with|some ts=>.error (.exc ⟨c,x,ts⟩)|none=>stk) k:=h
  cases z:cJ ds with
  | none=>rw[z] at h';exact h'.no.elim
  | some ts=>
   rw[z] at h'
   exact⟨ts,by rw[dX z],h'⟩
 | _=>exact h.no.elim
theorem nO (g:GOk Z CX cl xp X ex G){n:Nat}{c x:Str}{e:IR}{a:Expr}{np cpos pos:Pos}(hrs:G.rs=true)(hcm:G.cm=true)(hx:cU Z G n c=true)(hc:(n,c,x)∈Z.rc)(hst:cA Z {G with rs:=false,tr:=false} [e] [a]=true) :
  PS X (.Raise (some (.Call (.Name c np) [a] [] cpos)) none pos) (RS X.K G.io ex (evS cl (.raisef n c x e))):=by
 obtain⟨k1,k2,k3,k4⟩:=ez g hx
 intro pins s σ H Dn I ⟨B,F,τ,f,m,q⟩
 have q:PO' ex (bnd (noX (evR cl e τ)) (nj c x)) (Fk X.K B Dn):=q
 have pa:=jj [e] X.nox nox _ [a] (l5 g) hst
 cases z:evR cl e τ with
 | error er=>rw[z] at q;exact q.no.elim
 | ok d=>
  rw[z] at q
  have q:PO' ex (nj c x d) (Fk X.K B Dn):=q
  obtain⟨ts,rfl,hex⟩:=wz q
  obtain⟨C,hm,hj,hrun⟩:=(g.rse hrs hcm n ⟨c,x,ts⟩ hc hex).ex
  obtain⟨bm,N,nm,qn,bs,hdct,sn,sub,ab,col,dd,k0,k1',k2',k3',k5,e1,e4⟩:=jX I.ok.mod.kin hj
  refine nB (C:=C) (nm:=nm) (q:=qn) (N:=N) (bs:=bs) (bm:=bm) (hdct:=hdct) (sn:=sn) (sub:=sub) (ab:=ab) (col:=col) (dd:=dd) (k0:=k0) (k1:=k1') (k2:=k2') (k3:=k3') (k5:=k5) (newId:="ValueError.__new__")
   (e4.hasType PySem.F.excBase_ValueError.hasBase) (I.ok.hd (g.calm hcm)) (cW Z _ cpos X.env hst) (eG I k1 hm ⟨rfl,?_⟩ k4)
  have hra:RA X.K nox (bQ [e]) (cG cl [e]) σ H (fun vs H'=>∃ t,vs=[.ref t]/\SqT X.K H' t (ts.map .str)):=by
   refine⟨fun _=>True,τ,cw m.rps,?_⟩
   show PO' nox (bnd (evR cl e τ) fun d=>bnd (cG cl [] τ) fun ds=>.ok (d::ds)) _
   rw[z]
   intro vs H' _ r
   obtain⟨v,rfl,hr⟩:=r.one1
   obtain⟨t,xs,rfl,h1,h2⟩:=hr.tupR
   rw[h2.strs] at h1
   exact⟨t,rfl,h1⟩
  have hst':(notStar a&&chk Z {G with rs:=false,tr:=false} e a&&cA Z {G with rs:=false,tr:=false} [] [])=true:=hst
  simp only[Bool.and_eq_true] at hst'
  have e0:=aE hst'.1.1 [] X.env
  have pa':=pa cpos pins s σ H _ (I.wish _) hra
  rw[show starEach [a] X.nox.env=(false,eval a X.env)::starEach [] X.env from e0] at pa'
  rw[e0]
  refine Calls.evalArgs_plain (wpAny_mono pa' (fun us s2 ⟨vs,H1,I1,r,t,hv,hq⟩=>⟨rfl,I1.unwish.bk _ _ e1,?_⟩) fun _ _ y=>y.elim)
  subst hv
  obtain⟨u,rfl,ru⟩:=vals1 r
  cases ru
  refine wpAny_mono (hrun pins σ H1 s2 t I1.unwish hq) (fun v s3 ⟨e,oe,t',h1,h2,h3,h4,h5,h6⟩=>⟨e,oe,t',h1,h2 _ _ e1,h3,h4,h5,h6⟩) fun _ _ y=>y
theorem pR {k:Nat}{f:Nat}{fa:Addr}{fd:FuncData}{ps:List Str}{E:XK}{pins:List (Addr×Obj)}{σ:St}{H:Hp}{s:Shared}{Q:VK}{E':Value->Shared->Prop}{us:List Value}{vs:List V}{ds:List D}{Fc:Addr->Prop}
  (F:FnOk X.prog X.w X.K X.mg X.base CX k fa fd ps (spF X.K cl xp f ps)) (hr:Room k X.A) (hb:Binds X.K fd ps [])
  (hh:∀ (outer:List Env) (H:Hp) (s:Shared) (E:XK) (e:Value) (s':Shared),HOk X.prog X.w H s.heap->(∀ b∈frs outer,H b=none)->CX outer (cg s.heap H) s E e s'->CX outer H s E e s')
  (I:Inv X pins σ H s) (hx:∀ (e:Value) (s':Shared),CX X.stack H s E e s'->E' e s') (r:Vals vs us) (hl:vs.length=ps.length) (fok:FOk Fc H) (m:HReps X.K Fc H vs ds)
  (q:PO' (xp E (cg s.heap H)) (cl f (ers ds)) fun d=>∀ v H' F' fv,Out X.K Fc H F' H' v d fv->Q v H'):wpAny (model X.prog X.w) X.A (call (.ref fa) us) (EP X pins σ Q) E' s:=by
 have hsp:spF X.K cl xp f ps vs (cg s.heap H) (fun v H'=>Pers s.heap (cg s.heap H) H'->Q v (ei H H')) E:=
  ⟨hl,kT _ _,_,ds,fun a h=>h.2,je I.hok m,q.mono fun d hd v H' F' fv o p=>hd v _ _ fv (jf I.hok fok p o)⟩
 have hl2:(us++([]:List Value)).length=ps.length:=by rw[List.append_nil,<- r.length];exact hl
 have bd:=hb s us I.kIn hl2
 rw[List.append_nil] at bd
 refine wpAny_call (codeAny_mono (F.run X.A X.stack s (cg s.heap H) ⟨us,[]⟩ us vs _ E hr I.env0h bd r hsp) fun r' s' hq=>?_)
 cases r' with
 | error e=>exact hx e s' (hh X.stack H s E e s' I.hok I.env0.frf hq)
 | ok fl=>
  cases fl with
  | ret u=>
   obtain⟨v,H',a1,a2,a3,a4,a5,a6⟩:=hq
   exact I.after (Q:=Q) ⟨v,ei H H',a1,a2,jc I.hok a3,jb I.hok a4 (dJ a3) (fs:=frs X.stack) (fun b o _ e n f=>a3.keep b o e n f (by simp)) I.env0.frf,a5,a6 (dJ a3)⟩
  | next=>exact False.elim hq
  | brk=>exact False.elim hq
  | cont=>exact False.elim hq
theorem jm (g:GOk Z CX cl xp X ex G)(tr:TrOk Z CX cl xp X){f:Nat}{x:Str}{p pos:Pos}{es:List IR}{args:List Expr}(h1:cU Z G f x=true)(h2:Z.fnc G f=true)(hst:cA Z {G with rs:=false,tr:=false} es args=true)
  {pins:List (Addr×Obj)}{s:Shared}{σ:St}{H:Hp} (I:Inv X pins σ H s) {τ:Ev}{S:Addr->Prop} (hs:Slots X.K S H σ τ (bQ es)) {ds:List D} (hd:cG cl es τ=.ok ds) {Q:VK}{E':Value->Shared->Prop}
  (hok:∀ vs H1,bO H H1->HReps X.K (nw S H) H1 vs ds->∃ Fc,FOk Fc H1/\HReps X.K Fc H1 vs ds/\∀ d,cl f (ers ds)=.ok d->∀ v H' F' fv,Out X.K Fc H1 F' H' v d fv->Q v H')
  (hsk:cl f (ers ds)≠stk) (hxc:∀ c,cl f (ers ds)=.error (.exc c)->∃ C,PySem.W.nsIn X.K mainGlobals c.c=some (some (.ref C))/\∀ (H1:Hp) (s1:Shared) (e:Value) (s':Shared),bO H H1->Inv X pins σ H1 s1->CX1 X.prog X.w X.stack H1 s1 (fun cls dx H'=>cls=.ref C/\XF X.K H' dx c) e s'->E' e s') :
  wpAny (model X.prog X.w) X.A (eval (.Call (.Name x p) args [] pos) X.env) (EP X pins σ Q) E' s:=by
 obtain⟨k1,k2,k3,k4⟩:=ez g h1
 obtain⟨k,fa',fd,ps,hm,hkp,hb,F,hr,hlen⟩:=(g.fns f (fR h2).1 (fR h2).2 x k2).ex
 have pa:=jj es X.nox nox _ args (l5 g) hst
 have hlp:ds.length=ps.length:=by
  rw[<- dh]
  refine hlen (fun _=>True) (ers ds) (fun _=>True) ?_
  cases z:cl f (ers ds) with
  | ok d=>trivial
  | error er=>
   cases er with
   | stuck=>exact absurd z hsk
   | exc c=>trivial
 have fin:∀ (us:List Value) (s1:Shared) (vs:List V) (H1:Hp),Inv X pins σ H1 s1->Vals vs us->bO H H1->HReps X.K (nw S H) H1 vs ds->wpAny (model X.prog X.w) X.A (call (.ref fa') us) (EP X pins σ Q) E' s1:=by
  intro us s1 vs H1 I1 r e1 m0
  obtain⟨Fc,fok,mm,hq⟩:=hok vs H1 e1 m0
  have hl:vs.length=ps.length:=by rw[mm.length];exact hlp
  cases z:cl f (ers ds) with
  | error er=>
   cases er with
   | stuck=>exact absurd z hsk
   | exc c=>
    obtain⟨C,hC,hx⟩:=hxc c z
    exact pR (E:=fun cls dx H'=>cls=.ref C/\XF X.K H' dx c) F hr hb g.hid I1 (fun e s' h'=>hx H1 s1 e s' e1 I1 (tr.cx _ _ _ _ _ _ h')) r hl fok mm (by rw[z];exact tr.xp c C _ hC)
  | ok d=>
   refine wpAny_mono (jg (X:=X.nox) (Q:=Q) (E:=fun _ _ _=>False) F hr hb (fun pins' σ' H' s' e s'' I' h'=>(g.exn _ _ _ _ _ h').elim) g.hid (I1.wish _) r hl fok mm (by rw[z];exact fun v H' F' fv o=>hq d z v H' F' fv o)) (fun _ _ ⟨v,H',I',rv,q⟩=>⟨v,H',I'.unwish,rv,q⟩) fun _ _ y=>y.elim
 have hra:RA X.K nox (bQ es) (cG cl es) σ H (fun vs H1=>bO H H1/\HReps X.K (nw S H) H1 vs ds):=by
  refine⟨S,τ,hs,?_⟩
  rw[hd]
  exact fun vs H' e r=>⟨e,r⟩
 refine wpAny_Call_Name_kw (eG I k1 hm ?_ k4)
 cases args with
 | nil=>
  cases es with
  | cons _ _=>cases hst
  | nil=>
   cases hd
   exact PySem.W.callWith_K0 I.kIn hkp (fin [] s [] H I .nil (.refl _) .nil)
 | cons e l=>
  cases es with
  | nil=>cases hst
  | cons a es=>
   have hst':(notStar e&&chk Z {G with rs:=false,tr:=false} a e&&cA Z {G with rs:=false,tr:=false} es l)=true:=hst
   simp only[Bool.and_eq_true] at hst'
   refine PySem.W.callWith_K (h₀:=X.base) I.ok.mod.kin hkp (wpAny_mono (pa pos pins s σ H _ (I.wish _) hra) (fun us s1 ⟨vs,H1,I1,r,q1⟩=>⟨I1.unwish.kIn,?_⟩) fun _ _ y=>y.elim) (aE hst'.1.1 l X.env) (cW Z _ (es:=es) pos X.env hst'.2)
   exact fin us s1 vs H1 I1.unwish r q1.1 q1.2
end
section
variable {Z:Sg}{CX:CXT}{cl:Nat->List D->Res D}{xp:XK->Hp->EX->Prop}{X:Cx}{ex:EX->Prop}{G:Gm}{pins:List (Addr×Obj)}
theorem pS (g:GOk Z CX cl xp X ex G)(tr:TrOk Z CX cl xp X){H1:Hp}{s1 s':Shared}{σ:St}{e:Value}{B:Bs G.io}{F:Addr->Prop}{τ:Ev}{f:List Addr}(m:Frm X.K B F H1 σ τ f)(I2:Inv X pins σ H1 s1)
  {hd:List IS}{n k:Nat}{c:EX}{x y:Str}{np hpos:Pos}{b0:Stmt}{suite:List Stmt}{Dn:Ends}{C C':Addr} (hc:CX1 X.prog X.w X.stack H1 s1 (fun cls dx H'=>cls=.ref C/\XF X.K H' dx c) e s')
  (h2:cU Z G n x=true) (hn:PySem.W.nsIn X.K mainGlobals c.c=some (some (.ref C))) (hnm:nameIn X.K C=some c.c) (hm:X.mg x=some (.ref C')) (hex:PySem.W.exmOne X.K (.ref C) (.ref C')=some true) (h4:G.N[k]? = some y) (h5:G.kd[k]? = some .local) (hko:G.io≠some k)
  (hsuite:∀ a:Addr,PSs (d8 X a) (b0::suite) (RS X.K G.io nox (cb cl hd)))
  (q:PO' ex (bnd (noX (cb cl hd (τ.set k (some (.exc c))))) fun|.nx τ'=>.ok (.nx (τ'.set k none))|_=>stk) (Fk X.K B Dn)) :
  wpAny (model X.prog X.w) X.A (noteFrame e X.env) (fun _ s2=>wpAny (model X.prog X.w) X.A (setFlight e none) (fun _ s3=>wpAny (model X.prog X.w) X.A (handleBy e X.env [.ExceptHandler (some (.Name x np)) (some y) (b0::suite) hpos]) (SP X pins Dn) X.xe s3) X.xe s2) X.xe s':=by
 have hst:=tr.st
 have hfr:=tr.fr
 have lt:=tr.lt
 obtain⟨a,cls,a0,H',Bh,he,os,bare,un,hB,sm,kB,fl,hE⟩:=hc
 obtain rfl:cls=.ref C:=(hE H' (.refl _)).1
 subst he
 obtain⟨k1,k2,k3,k4⟩:=ez g h2
 have hk:X.env.kindOf y=some .local:=(g.kd k y h4).trans h5
 have hNd:X.N.Nodup:=by rw[g.N];exact g.nod
 have hi:X.N[k]? = some y:=by rw[g.N];exact h4
 have ok:=I2.ok
 have fl0:Heap.FlyingD Bh (X.env::X.outer) a (.ref C) a0 s'.heap:=hst ▸ fl
 refine f9 (A:=X.A) (by rw[<- hst];exact ok.frames) hfr fl0 fun h4' held4 up4=>?_
 refine ja held4 fun h5' fl5 up5=>?_
 have I5:Inv X pins σ H' {s' with heap:=h5'}:=l0 I2 os bare un hB sm kB (show Heap.FlyingD Bh X.stack a (.ref C) a0 h5' from hst ▸ fl5) (up4.trans up5)
 have J5:Inv (d8 X a) pins σ H' {s' with heap:=h5'}:=iH I5
 refine wpAny_handleBy_cons (codeAny_handlers_test (eG J5 k1 hm ?_ k4)) (by intro q;cases q)
 obtain⟨oe5,he5,hc5⟩:=fl5.there
 refine(PySem.W.exm_one J5.kIn (IX.type ⟨oe5,he5,hc5⟩) hex).here ?_
 refine codeAny_handlers_suite_as ?_
 refine jl fl5 fun h6' fl6 up6=>?_
 have I6:Inv X pins σ H' {s' with heap:=h6'}:=l0 I2 os bare un hB sm kB (show Heap.FlyingD Bh X.stack a (.ref C) a0 h6' from hst ▸ fl6) ((up4.trans up5).trans up6)
 obtain⟨oe,vs,he6,hc6,hd6,hdx⟩:=fl6.first
 have na:H' a=none:=by
  cases z:H' a with
  | none=>rfl
  | some u=>
   obtain⟨ob,ho⟩:=(hB a u z).at
   rw[fl6.2.1] at ho;cases ho
 have nst:∀ b,b∉X.fs->b≠X.env.locals->b∉frs X.stack:=fun b h1 h2 z=>by
  rw[hst] at z
  unfold frs at z
  rcases List.mem_filterMap.mp z with ⟨env,hm,hf⟩
  rcases List.mem_cons.mp hm with rfl|hm
  ·rw[hfr] at hf;exact h2 (Option.some.inj hf).symm
  ·exact h1 (List.mem_filterMap.mpr ⟨env,hm,hf⟩)
 have nl:a≠X.env.locals:=by
  rintro rfl
  obtain⟨m,⟨o,es,ep,ho,hd,_⟩,_⟩:=I6.loc
  have ho:h6'.get? X.env.locals=some o:=ho
  rw[he6] at ho;cases ho
  rw[hd6] at hd;cases hd
 have I6t:Inv (d8 X a) pins σ (upd H' a (.frz oe XU)) {s' with heap:=h6'}:=by
  refine(iH I6).track he6 na ⟨trivial,⟨_,he6⟩,fun _ _ _ _=>trivial⟩ (fun ob e z hx=>?_) ?_ nl (fun y c e z=>?_) fun p hp z=>?_
  ·by_cases hf:a∈X.fs
   ·obtain⟨sl,e1⟩:=I6.base.slot a ob e z hf hx
    have e1:h6'.get? a=_:=e1
    obtain⟨_,o',ho',nf⟩:=ok.funs.mem hf
    rw[show X.s₀.heap.get? a=_ from e] at ho';cases ho'
    rw[he6] at e1;cases e1
    exact nf _ hd6
   ·have e1:=I2.base.keep a ob e z hf hx
    have e2:=I2.base.free a ob e z hx
    have:=kB a ob e1 e2 (nst a hf nl)
    rw[fl6.2.1] at this;cases this
  ·show X.H₀ a=none
   cases z:X.H₀ a with
   | none=>rfl
   | some u=>
    exfalso
    rcases lt a u z with ⟨ob,v,rfl⟩|⟨xs,rfl⟩
    ·have:=I6.base.frzs a ob v z;rw[na] at this;cases this
    ·have:=I6.base.tups a xs z;rw[na] at this;cases this
  ·subst z
   obtain⟨v,o,ho,hd⟩:=I6.cell y c e
   have ho:h6'.get? c=some o:=ho
   rw[he6] at ho;cases ho
   rw[hd6] at hd;cases hd
  ·subst z
   obtain⟨e1,e2,e3,e4,_⟩:=I2.pin p hp
   have:=kB p.1 p.2 e1 e2 (nst _ e4 e3)
   rw[fl6.2.1] at this;cases this
 refine ef (X:=d8 X a) (v:=.ref a) I6t hNd hi (.inl hk) rfl (fun s7 I7=>?_) (.inr hk)
 have sm0:bO H1 (upd H' a (.frz oe XU)):=by
  intro b o e
  have hb:=sm b o e
  rw[aD (bS hb na)]
  exact hb
 have xo:SqE X.K (upd H' a (.frz oe XU)) a (.inr c):=⟨C,oe,vs,hn,hnm,bN,hc6,hd6,by rw[hdx];exact(hE _ (bO.cl fun b o e=>by rw[aD (bS e na)];exact e)).2⟩
 have mg:=m.grow sm0
 obtain⟨g',h',r0,p0⟩:=mg.rps.put k (MRep.exc (F:=F) xo)
 have p0:(g'++h').Perm f:=p0
 have nd0:(g'++h').Nodup:=p0.nodup_iff.mpr mg.nod
 have frm:Frm X.K B F (upd H' a (.frz oe XU)) (σ.set k (some (.ref a))) (τ.set k (some (.exc c))) g':=
  ⟨mg.fok,r0,(List.nodup_append.mp nd0).1,mg.same,fun b hb=>mg.own b (p0.subset (List.mem_append_left _ hb)),mg.inn,mg.out,mg.pin,mg.pit,fun j a e1 e2=>(List.getElem?_set_ne (fun z=>hko (by rw[z];exact e1))).trans (mg.nm j a e1 e2)⟩
 have q2:PO' nox (cb cl hd (τ.set k (some (.exc c)))) (Fk X.K B {nx:=fun σ8 H8=>∃ F8 τ8 f8,Frm X.K B F8 H8 σ8 τ8 f8/\Fk X.K B Dn (.nx (τ8.set k none)),rt:=fun _ _=>False}):=by
  cases z:cb cl hd (τ.set k (some (.exc c))) with
  | error er=>rw[z] at q;exact q.no.elim
  | ok r=>
   rw[z] at q
   cases r with
   | nx τ8=>exact fun σ8 H8 F8 f8 m8=>⟨F8,τ8,f8,m8,q.ok⟩
   | _=>exact q.no.elim
 refine wpAny_mono (hsuite a pins s7 _ _ _ I7 ⟨B,F,_,g',frm,q2⟩) (fun fw s8 hs=>?_) fun _ _ z=>z.elim
 cases fw with
 | next=>
  obtain⟨σ8,H8,I8,F8,τ8,f8,m8,q8⟩:=hs
  refine wy (jZ ok I8) hNd hi hk fun s9 I9=>?_
  obtain⟨g8,r9,n9,m9⟩:=Rps.drop (o:=none) k m8.rps m8.nod
  exact⟨_,_,I9,q8 _ _ F8 g8 ⟨m8.fok,r9,n9,m8.same,fun b hb=>m8.own b (m9 b hb),m8.inn,m8.out,m8.pin,m8.pit,fun j a e1 e2=>(List.getElem?_set_ne (fun z=>hko (by rw[z];exact e1))).trans (m8.nm j a e1 e2)⟩⟩
 | brk=>obtain⟨_,_,_,z⟩:=hs;exact z.elim
 | cont=>obtain⟨_,_,_,z⟩:=hs;exact z.elim
 | ret u=>obtain⟨_,_,_,_,_,z⟩:=hs;exact z.elim
theorem Frm.put {io:Option Nat}{B:Bs io}{F:Addr->Prop}{H:Hp}{σ:St}{τ:Ev}{f fv:List Addr}{v:V}{d:D}(i:Nat)(m:Frm X.K B F H σ τ f)(mv:MRep X.K F H v d fv)(nd:(fv++f).Nodup)(hb:∀ a∈fv,B.H a=none)(hio:io≠some i):∃ f',Frm X.K B F H (σ.set i (some v)) (τ.set i (some d)) f':=by
 obtain⟨g',h',r0,p0⟩:=m.rps.put i mv
 have nd0:(g'++h').Nodup:=p0.nodup_iff.mpr nd
 exact⟨g',m.fok,r0,(List.nodup_append.mp nd0).1,m.same,fun b hb'=>(List.mem_append.mp (p0.subset (List.mem_append_left _ hb'))).elim (hb b) (m.own b),m.inn,m.out,m.pin,m.pit,fun j a e1 e2=>(List.getElem?_set_ne (fun z=>hio (by rw[z];exact e1))).trans (m.nm j a e1 e2)⟩
theorem st_tryc (g:GOk Z CX cl xp X ex G){i f n k:Nat}{es:List IR}{cs:List Str}{hd:List IS}{st:Stmt}
  (h:tcv st (fun xi xf args xc y b0 r=>G.tr&&G.cm&&wo G i xi&&cU Z G f xf&&Z.fnc G f&&cA Z {G with rs:=false,tr:=false} es args&&cU Z G n xc&&cs.all (fun c=>Z.xm.contains (c,n))&&(G.N[k]? == some y&&G.io != some k)&&G.kd[k]? == some .local&&c6 Z {G with cm:=false,rs:=false,tr:=false} hd (b0::r))=true)
  (hsuite:TrOk Z CX cl xp X->∀ (a:Addr) (ss:List Stmt),c6 Z {G with cm:=false,rs:=false,tr:=false} hd ss=true->PSs (d8 X a) ss (RS X.K G.io nox (cb cl hd))):PS X st (RS X.K G.io ex (evS cl (.tryc i f es n cs k hd))):=by
 obtain⟨xi,pi,xf,pf,args,pc,pa,xc,np,y,b0,r,hp,pos,rfl,h0⟩:=wu h
 simp only[Bool.and_eq_true] at h0
 obtain⟨⟨⟨⟨⟨⟨⟨⟨⟨⟨ht,hcm⟩,hi⟩,hf⟩,hfn⟩,hst⟩,hn⟩,hcs⟩,hk1,hko⟩,hk2⟩,hsu⟩:=h0
 have tr:=g.tr ht
 have hk1:=eq_of_beq hk1
 have hk2:=eq_of_beq hk2
 rw[List.all_eq_true] at hcs
 obtain⟨q1,q2,q3,q4⟩:=ez g hn
 have hi':(G.N[i]? == some xi&&(G.kd[i]? == some .local||(G.df&&G.kd[i]? == some .cell)))=true:=(Bool.and_eq_true_iff.mp hi).1
 have hio:G.io≠some i:=by simpa using(Bool.and_eq_true_iff.mp hi).2
 have hko:G.io≠some k:=by simpa using hko
 rw[Bool.and_eq_true,Bool.or_eq_true,Bool.and_eq_true] at hi'
 have hx:G.N[i]? = some xi:=eq_of_beq hi'.1
 have hkd:=g.kd i xi hx
 have hloc:Loc X.env.scope xi:=hi'.2.elim (fun z=>.inl (hkd.trans (eq_of_beq z))) fun z=>.inr (hkd.trans (eq_of_beq z.2))
 have hfn':X.fn xi=true∨X.env.scope.names.lookup xi=some .local:=hi'.2.elim (fun z=>.inr (hkd.trans (eq_of_beq z))) fun z=>.inl (g.df z.1 xi)
 intro pins s σ H Dn I ⟨B,F,τ,fo,m,q⟩
 have q:PO' ex (bnd (noX (cG cl es τ)) fun ds=>match cl f (ers ds) with
  | .ok d=>if b9 d=true then .ok (.nx (τ.set i (some d))) else .ok (.nx ((frz (bQ es) τ).set i (some d)))
  | .error (.exc c)=>grd (cs.contains c.c) (bnd (noX (cb cl hd (τ.set k (some (.exc c))))) fun
   | .nx τ'=>.ok (.nx (τ'.set k none))
   | _=>stk)
  | .error .stuck=>stk) (Fk X.K B Dn):=q
 cases zd:cG cl es τ with
 | error er=>rw[zd] at q;exact q.no.elim
 | ok ds=>
  rw[zd] at q
  have q:PO' ex (match cl f (ers ds) with
   | .ok d=>if b9 d=true then .ok (.nx (τ.set i (some d))) else .ok (.nx ((frz (bQ es) τ).set i (some d)))
   | .error (.exc c)=>grd (cs.contains c.c) (bnd (noX (cb cl hd (τ.set k (some (.exc c))))) fun
    | .nx τ'=>.ok (.nx (τ'.set k none))
    | _=>stk)
   | .error .stuck=>stk) (Fk X.K B Dn):=q
  refine wpAny_Try_except (wpAny_execs_cons (wpAny_Assign_Name ?_ rfl))
  have done:∀ {v:Value}{s1:Shared},EP X pins σ (fun v H'=>Dn.nx (σ.set i (some v)) H') v s1->wpAny (model X.prog X.w) X.A (storeName X.env xi v) (fun _ s2=>wpAny (model X.prog X.w) X.A (execs [] X.env) (fun fl s₁=>match fl with|.next=>wpAny (model X.prog X.w) X.A (execs [] X.env) (SP X pins Dn) X.xe s₁|fl=>SP X pins Dn fl s₁) (fun e s₁=>wpAny (model X.prog X.w) X.A (noteFrame e X.env) (fun _ s₂=>wpAny (model X.prog X.w) X.A (setFlight e none) (fun _ s₃=>wpAny (model X.prog X.w) X.A (handleBy e X.env [.ExceptHandler (some (.Name xc np)) (some y) (b0::r) hp]) (SP X pins Dn) X.xe s₃) X.xe s₂) X.xe s₁) s2) (fun e s₁=>wpAny (model X.prog X.w) X.A (noteFrame e X.env) (fun _ s₂=>wpAny (model X.prog X.w) X.A (setFlight e none) (fun _ s₃=>wpAny (model X.prog X.w) X.A (handleBy e X.env [.ExceptHandler (some (.Name xc np)) (some y) (b0::r) hp]) (SP X pins Dn) X.xe s₃) X.xe s₂) X.xe s₁) s1:=by
   intro v s1 ⟨x,H1,I1,r1,qq⟩
   exact ef I1 (by rw[g.N];exact g.nod) (by rw[g.N];exact hx) hloc r1 (fun s2 I2=>wpAny_execs_nil (wpAny_execs_nil ⟨_,_,I2,qq⟩)) hfn'
  have wide:∀ (vs:List V) (H1:Hp),HReps X.K (nw (fun _=>True) H) H1 vs ds->HReps X.K (fun a=>H1 a≠none) H1 vs ds:=fun vs H1 m0=>m0.step (fun a xs h rd=>⟨rd.some,rd⟩) fun a xs h=>h
  cases zc:cl f (ers ds) with
  | error er=>
   rw[zc] at q
   cases er with
   | stuck=>exact q.no.elim
   | exc c=>
    obtain⟨hcc,q⟩:=PO'.grd q
    have hc:(c.c,n)∈Z.xm:=by simpa using hcs c.c (by simpa using hcc)
    obtain⟨C,C',hC,_,hnm,hm,hex⟩:=g.xmt c.c n xc hc q2
    refine wpAny_mono (jm (p:=pf) (pos:=pc) (Q:=fun _ _=>False) g tr hf hfn hst I (cw m.rps) zd (fun vs H1 e1 m0=>⟨fun a=>H1 a≠none,fun a h=>h,wide vs H1 m0,fun d hd=>by rw[zc] at hd;cases hd⟩) (by rw[zc];intro z;cases z) (fun c' hc'=>?_)) (fun v s1 ⟨_,_,_,_,z⟩=>z.elim) fun _ _ z=>z
    rw[zc] at hc'
    cases hc'
    exact⟨C,hC,fun H1 s1 e s' e1 I1 hx=>pS g tr (m.grow e1) I1 hx hn hC hnm hm hex hk1 hk2 hko (fun a=>hsuite tr a _ hsu) q⟩
  | ok d=>
   rw[zc] at q
   have q:PO' ex (if b9 d=true then .ok (.nx (τ.set i (some d))) else .ok (.nx ((frz (bQ es) τ).set i (some d)))) (Fk X.K B Dn):=q
   have noexc:∀ c,cl f (ers ds)=.error (.exc c)->∀ {P:Prop},P:=fun c z=>by rw[zc] at z;cases z
   by_cases hl:b9 d=true
   ·rw[if_pos hl] at q
    have q:Fk X.K B Dn (.nx (τ.set i (some d))):=q.ok
    refine wpAny_mono (jm (p:=pf) (pos:=pc) g tr hf hfn hst I (cw m.rps) zd (fun vs H1 e1 m0=>⟨fun a=>H1 a≠none,fun a h=>h,wide vs H1 m0,fun d' hd v H' F' fv o=>?_⟩) (by rw[zc];intro z;cases z) (fun c' hc'=>noexc c' hc')) (fun v s1 z=>done z) fun _ _ z=>z
    rw[zc] at hd
    cases hd
    obtain⟨f',m'⟩:=(m.grow (e1.trans o.same)).put i (o.rep.lfree_nil hl) (by simpa using m.nod) (fun a ha=>absurd ha (by simp)) hio
    exact q _ _ _ _ m'
   ·rw[if_neg hl] at q
    have q:Fk X.K B Dn (.nx ((frz (bQ es) τ).set i (some d))):=q.ok
    obtain⟨F1,gg,b1,b2,b3,b4,b5,b6⟩:=dZ (bQ es) m.fok m.rps m.nod
    refine wpAny_mono (jm (p:=pf) (pos:=pc) g tr hf hfn hst I b6 zd (fun vs H1 e1 m0=>?_) (by rw[zc];intro z;cases z) (fun c' hc'=>noexc c' hc')) (fun v s1 z=>done z) fun _ _ z=>z
    have hmm:HReps X.K (fun a=>F1 a∨(True/\H a=none/\H1 a≠none)) H1 vs ds:=m0.step (fun a xs h r=>⟨h.elim (fun z=>.inl z) fun z=>.inr ⟨trivial,z,r.some⟩,r⟩) fun a xs h=>h
    obtain⟨c1,c2,c3⟩:=grow (fun _=>True) b1 b2 e1
    refine⟨_,c1,hmm,fun d' hd v H' F' fv o=>?_⟩
    rw[zc] at hd
    cases hd
    have s1:Stp (fun a=>F1 a∨(True/\H a=none/\H1 a≠none)) H1 gg F' H':=⟨o.same,o.inn,fun a h=>(o.out a h).elim (fun z=>.inl z) fun z=>.inr (.inr z)⟩
    have r2:Rps X.K F' H' σ (frz (bQ es) τ) gg:=c2.step (fun a xs q rd=>⟨o.inn a q,o.same.rd rd⟩) (fun a xs q=>o.same.seqT q) fun a ha n hn=>by
     obtain⟨_,xs,e⟩:=c2.own a ha
     refine⟨fun z=>?_,(o.same _ _ e).trans e.symm⟩
     rcases o.out a z with z|z
     ·exact n z
     ·exact hn z
    have ow:Ow X.K F H fo F' H' σ v d fv (frz (bQ es) τ) gg:=by
     refine⟨(b4.trans c3 (fun x hx=>.inl (b5 x hx))).trans s1 (fun x hx=>.inl (b5 x hx)),o.fok,o.rep,r2,?_,fun a ha=>?_⟩
     ·refine List.nodup_append.mpr ⟨o.nod,b3,fun a h1 b h2 e=>?_⟩
      subst e
      obtain⟨_,xs,e⟩:=c2.own a h2
      rw[o.new a h1] at e
      cases e
     ·rcases List.mem_append.mp ha with ha|ha
      ·exact .inr (e1.free (o.new a ha))
      ·exact .inl (b5 a ha)
    obtain⟨mo,hb⟩:=m.ow ow
    obtain⟨f',m'⟩:=mo.put i ow.rep ow.nod hb hio
    exact q _ _ _ _ m'
end
theorem yM {a b:Addr}{H:Hp}(h:b≠a):rm a H b=H b:=if_neg h
theorem l6 {a:Addr}{H:Hp}:rm a H a=none:=if_pos rfl
theorem sJ {a b:Addr}{H:Hp}{u:HO}(h:rm a H b=some u):H b=some u/\b≠a:=by
 by_cases e:b=a
 ·rw[e,l6] at h;cases h
 ·rw[yM e] at h;exact⟨h,e⟩
theorem yN {a:Addr}{H:Hp}:bO (rm a H) H:=fun b u h=>(sJ h).1
section
variable {Z:Sg}{CX:CXT}{cl:Nat->List D->Res D}{xp:XK->Hp->EX->Prop}{X:Cx}{ex:EX->Prop}{G:Gm}
theorem st_app (g:GOk Z CX cl xp X ex G){i:Nat}{e:IR}{x:Str}{p apos cpos pos:Pos}{v:Expr}(h1:fy G i x=true)(h2:(apos.endLine == cpos.line)=true)(h3:notStar v=true)(h4:chk Z G e v=true) :
  PS X (.Expr (.Call (.Attribute (.Name x p) "append" apos) [v] [] cpos) pos) (RS X.K G.io ex (evS cl (.app i e))):=by
 have pa:PA X [v] (eX (RO X.K ex (evO cl false e)) mU):=cq (snO e false X ex G v g h4) dw (aE h3 _ _)
 have hfew:((backTo cpos (starEach [v] X.env)).all (fun x=>!x.1)&&(backToKw cpos (keywordEach [] X.env)).all (fun x=>x.1.isSome)&&decide ([v].length+([]:List Keyword).length+(if ([]:List Keyword).isEmpty then 0 else 1) < 30))=true:=by
  rw[aE h3]
  rfl
 refine de (iV (oy PySem.F.plainAttrs_list PySem.F.slot_list_append PySem.F.type_list_append iy (lZ g h1) pa rfl hfew h2 (aE h3 _ _) rfl)) fun Dn σ H h=>?_
 obtain⟨B,F,τ,f,m,q⟩:=h
 have q0:PO' ex (match bo τ i with|some (.lst _ _)=>(bnd (evO cl false e τ) fun p=>(match bo p.2 i with|some (.lst true ds)=>grd (dN ds.length) (.ok (.nx (p.2.set i (some (.lst true (ds++[p.1]))))))|_=>stk))|_=>stk) (Fk X.K B Dn):=q
 cases z0:bo τ i with
 | none=>rw[z0] at q0;exact q0.no.elim
 | some d0=>
  rw[z0] at q0
  induction d0 using zD with
  | lst o0 ds0=>
   obtain⟨v0,fv0,g0,a1,a2,a3,a4⟩:=m.rps.at z0
   have hq:∃ l xs,v0=.ref l/\SqL X.K H l xs:=by
    cases a2 with
    | lstS _ b1 _=>exact⟨_,_,rfl,.inl b1⟩
    | lstK b1 _=>exact⟨_,_,rfl,b1.sq⟩
    | lstO _ b1 _=>exact⟨_,_,rfl,.inl (.inl b1)⟩
   obtain⟨l,xs0,rfl,hq⟩:=hq
   refine⟨.ref l,a1,.inl ⟨rfl,xs0,hq⟩,m.ro (PO'.bnd q0) fun p v H' F' fv f' o hp=>?_⟩
   obtain⟨m',hb⟩:=m.ow o
   cases zs:bo p.2 i with
   | none=>rw[zs] at hp;exact hp.no.elim
   | some d=>
    rw[zs] at hp
    induction d using zD with
    | lst ow ds=>
     cases ow with
     | false=>exact hp.no.elim
     | true=>
      obtain⟨gd,hp⟩:=PO'.grd hp
      obtain⟨l',xs,hσ,hl,hlen⟩:=pQ m'.rps zs
      rw[a1] at hσ
      cases hσ
      obtain⟨f'',m3⟩:=m'.write (ys:=xs++[v]) (ds':=ds++[p.1]) zs a1 hl o.rep o.nod hb fun fi hm=>hm.snoc o.rep
      exact⟨l,xs,v,rfl,rfl,hl,by rw[hlen];exact gc gd,hp.ok _ _ _ _ m3⟩
    | _=>exact hp.no.elim
  | _=>exact q0.no.elim
theorem Fk.rt_of {K:PySem.W.Frag}{io:Option Nat}{B:Bs io}{F F':Addr->Prop}{H H':Hp}{σ:St}{τ τ':Ev}{f f':List Addr}{v:V}{d:D}{fv:List Addr}(m:Frm K B F H σ τ f)(o:Ow K F H f F' H' σ v d fv τ' f'):Out K B.F B.H F' H' v d fv:=by
 obtain⟨m',hb⟩:=m.ow o
 exact⟨m'.fok,m'.same,o.rep,(List.nodup_append.mp o.nod).1,hb,m'.inn,m'.out⟩
theorem st_ret (g:GOk Z CX cl xp X ex G){e:IR}{v:Expr}{pos:Pos}(h:chk Z G e v=true):PS X (.Return (some v) pos) (RS X.K G.io ex (evS cl (.ret e))):=by
 refine de (u9 (snO e true X ex G v g h)) fun Dn σ H ⟨B,F,τ,f,m,q⟩=>?_
 exact m.ro (PO'.bnd q) fun p v H' F' fv f' o hp=>hp.ok _ _ _ _ (Fk.rt_of m o)
theorem st_exp (g:GOk Z CX cl xp X ex G){e:IR}{v:Expr}{pos:Pos}(hc:jk v=true)(h:chk Z G e v=true):PS X (.Expr v pos) (RS X.K G.io ex (evS cl (.exp e))):=by
 refine de (iV (snd e X ex G v g h).1 (by induction v using zE<;>first|rfl|cases hc)) fun Dn σ H ⟨B,F,τ,f,m,q⟩=>?_
 exact m.rd (PO'.bnd q) fun d v H' m' _ _ hd=>hd.ok _ _ _ _ m'
theorem st_if {c:Expr}{x y:List Stmt}{pos:Pos}{t:IR}{a b:List IS}(hc:PT X c (RT X.K ex (vars t) fun τ=>bnd (evR cl t τ) cF))(ha:PSs X x (RS X.K G.io ex (cb cl a)))(hb:PSs X y (RS X.K G.io ex (cb cl b))):PS X (.If c x y pos) (RS X.K G.io ex (evS cl (.if_ t a b))):=by
 refine de (xO hc ha hb) fun Dn σ H ⟨B,F,τ,f,m,q⟩=>?_
 refine m.rt (PO'.bnd q) fun r H' m' _ hr=>?_
 cases r with
 | true=>rw[if_pos rfl] at hr ⊢;exact⟨B,F,τ,f,m',hr⟩
 | false=>rw[if_neg Bool.false_ne_true] at hr ⊢;exact⟨B,F,τ,f,m',hr⟩
theorem st_while (g:GOk Z CX cl xp X ex G)(hrs:G.rs=true){c:Expr}{x:List Stmt}{pos:Pos}{t:IR}{a:List IS}(hc:PT X c (RT X.K ex (vars t) fun τ=>bnd (evR cl t τ) cF))(ha:PSs X x (RS X.K G.io ex (cb cl a))):PS X (.While c x [] pos) (RS X.K G.io ex (evS cl (.while_ t a))):=by
 refine de (n6 (g.own hrs) hc ha) fun Dn σ H ⟨B,F,τ,f,m,q⟩=>?_
 refine⟨fun n σ H=>∃ F τ f,Frm X.K B F H σ τ f/\PO' ex (cK (evT cl t) (cb cl a) n τ) (Fk X.K B Dn),⟨jM,F,τ,f,m,q⟩,?_⟩
 rintro n σ H ⟨F,τ,f,m,q⟩
 cases n with
 | zero=>exact q.no.elim
 | succ n=>
  refine m.rt (PO'.bnd q) fun r H' m' _ hr=>?_
  cases r with
  | false=>rw[if_neg Bool.false_ne_true] at hr ⊢;exact hr.ok _ _ _ _ m'
  | true=>
   rw[if_pos rfl] at hr ⊢
   refine⟨fun σ H=>∃ F τ f,Frm X.K B F H σ τ f/\PO' ex (cK (evT cl t) (cb cl a) n τ) (Fk X.K B Dn),fun σ' H' h=>⟨n,Nat.lt_succ_self n,h⟩,B,F,τ,f,m',(PO'.bnd hr).mono fun r hr=>?_⟩
   cases r with
   | nx τ'=>exact fun σ' H' F' f' m''=>⟨F',τ',f',m'',hr⟩
   | ct τ'=>exact fun σ' H' F' f' m''=>⟨F',τ',f',m'',hr⟩
   | bk τ'=>exact fun σ' H' F' f' m''=>hr.ok _ _ _ _ m''
   | rt d=>exact fun v H' F' fv o=>hr.ok _ _ _ _ o
   | ri d ks es=>exact hr.ok
theorem Frm.less {K:PySem.W.Frag}{io:Option Nat}{B:Bs io}{L:Addr->LD->Prop}{T:Addr->List V ⊕ EX->Prop}{F:Addr->Prop}{H:Hp}{σ:St}{τ:Ev}{f:List Addr}(m:Frm K (⟨B.F,B.H,fun a xs=>B.L a xs∨L a xs,fun a xs=>B.T a xs∨T a xs,B.N⟩:Bs io) F H σ τ f):Frm K B F H σ τ f:=
 ⟨m.fok,m.rps,m.nod,m.same,m.own,m.inn,m.out,fun a xs h=>m.pin a xs (.inl h),fun a xs h=>m.pit a xs (.inl h),m.nm⟩
theorem j0:∀ (ds:List D) (i:Nat),(ers ds).drop i=ers (ds.drop i):=by
 intro ds i
 rw[cO,cO,List.map_drop]
theorem j5 {J:It}{K:PySem.W.Frag}{io:Option Nat}{B:Bs io}{F:Addr->Prop}{H:Hp}{σ:St}{τ:Ev}{f:List Addr}{T:Tg}{body:List IS}{its:List D}{Dn:Ends}(hio:∀ j∈tgs T,io≠some j)(m:Frm K B F H σ τ f)(w:Wlk K F H J its)
  (q:PO' ex (forM (fun x τ=>bnd (dz T x τ) fun τ'=>cb cl body τ') (ers its) τ) (Fk K B Dn)) :
  ∃ W:Nat->Nat->St->Hp->Prop,(∃ m,W 0 m σ H)/\∀ i m σ H,W i m σ H->(J.stop i H/\Dn.nx σ H)∨(J.go i H/\∃ N:St->Hp->Prop,(∀ σ' H',N σ' H'->∃ m',m' < m/\W (i+1) m' σ' H')/\
   ∀ x H',J.yld i H x H'->gT K T x σ H' fun σ2 H2=>RS K io ex (cb cl body) {Dn with nx:=N,ct:=N,bk:=Dn.nx} σ2 H2):=by
 let B':Bs io:=⟨B.F,B.H,fun a xs=>B.L a xs∨(F a/\Rd H a xs.o),fun a xs=>B.T a xs∨SqE K H a xs,B.N⟩
 have m0:Frm K B' F H σ τ f:=⟨m.fok,m.rps,m.nod,m.same,m.own,m.inn,m.out,fun a xs h=>h.elim (m.pin a xs) id,fun a xs h=>h.elim (m.pit a xs) id,m.nm⟩
 let bd:D->Ev->Res Fl:=fun x τ=>bnd (dz T x τ) fun τ'=>cb cl body τ'
 refine⟨fun i n σ H=>n=its.length - i/\i<=its.length/\∃ F τ f,Frm K B' F H σ τ f/\PO' ex (forM bd ((ers its).drop i) τ) (Fk K B Dn),⟨its.length,by simp,Nat.zero_le _,F,τ,f,m0,by rw[List.drop_zero];exact q⟩,?_⟩
 rintro i n σ1 H1 ⟨rfl,hi,F1,τ1,f1,m1,q1⟩
 have w1:Wlk K F1 H1 J its:=w.step (fun a xs h r=>m1.pin a xs (.inr ⟨h,r⟩)) fun a xs h=>m1.pit a xs (.inr h)
 by_cases hlt:i < its.length
 ·refine .inr ⟨w1.go hlt,fun σ H=>∃ F τ f,Frm K B' F H σ τ f/\PO' ex (forM bd ((ers its).drop (i+1)) τ) (Fk K B Dn),fun σ' H' h=>⟨its.length - (i+1),by omega,rfl,hlt,h⟩,fun x H' y=>?_⟩
  obtain⟨eH,mx⟩:=w1.yld y (d:=its[i]) (by simp[hlt])
  have m1:=m1.grow eH
  have hd:(ers its).drop i=er its[i]::(ers its).drop (i+1):=by
   rw[j0,List.drop_eq_getElem_cons hlt,ers,j0]
  rw[hd] at q1
  have q2:=PO'.bnd q1
  refine m1.gT mx.frozen (by simpa using m1.nod) (fun a ha=>absurd ha (by simp)) hio (PO'.bnd q2) fun τ' σ' f' m' h'=>?_
  refine⟨B',F1,τ',f',m',h'.mono fun r hr=>?_⟩
  cases r with
  | nx τ'=>exact fun σ' H' F' f' m''=>⟨F',τ',f',m'',hr⟩
  | ct τ'=>exact fun σ' H' F' f' m''=>⟨F',τ',f',m'',hr⟩
  | bk τ'=>exact fun σ' H' F' f' m''=>hr.ok _ _ _ _ m''.less
  | rt d=>exact fun v H' F' fv o=>hr.ok _ _ _ _ o
  | ri d ks es=>exact hr.ok
 ·have e:i=its.length:=by omega
  subst e
  refine .inl ⟨w1.stop rfl,?_⟩
  have:(ers its).drop its.length=[]:=by rw[<- dh its,List.drop_length]
  rw[this] at q1
  exact q1.ok _ _ _ _ m1.less
theorem sL (a b:Int):ers (dy a b)=dy a b:=by
 unfold dy
 rw[cO,List.map_map]
 rfl
noncomputable def tT (cl:Nat->List D->Res D):Sr->Ev->Res (Int×Int)
 | .rng1 n,τ=>bnd (evR cl n τ) fun|.int i=>grd (fY i) (.ok (0,i))|_=>stk
 | _,_=>stk
def RIr (K:PySem.W.Frag)(ex:EX->Prop)(is:List Nat)(f:Ev->Res (Int×Int)):TI:=fun σ H R=>∃ S τ,Slots K S H σ τ is/\PO' ex (f τ) fun p=>∀ H',bO H H'->R (Itr p.1 (p.2 - p.1).toNat) H'
noncomputable def pT:Sr->Bool
 | .rng1 _=>true
 | _=>false
theorem pU {s:Sr}(h:pT s=true){τ:Ev}{k:List D->Prop}(q:PO' ex (eV cl s τ) k):PO' ex (tT cl s τ) fun p=>k (dy p.1 p.2):=by
 cases s with
 | rng1 n=>
  refine PO'.mk ((PO'.bnd (show PO' ex (bnd (evR cl n τ) fun|.int i=>grd (fY i) (.ok (dy 0 i))|_=>stk) k from q)).mono fun d hd=>?_)
  induction d using zD with
  | int i=>
   obtain⟨gd,hd⟩:=PO'.grd hd
   show PO' ex (grd (fY i) (.ok (0,i))) _
   unfold grd
   rw[if_pos gd]
   exact hd.ok
  | _=>exact hd.no.elim
 | _=>first|exact ae h|cases h
theorem A3:∀ (s:Sr) (X:Cx) (ex:EX->Prop) (G:Gm) (e tg:Expr),GOk Z CX cl xp X ex G->dM Z G s e=true->pT s=true->PI X tg e (RIr X.K ex (fq s) (tT cl s)):=by
 intro s X ex G e tg g h hr
 cases s with
 | rng1 n=>
  induction e using zE with
  | Call fn args kws pos=>
   induction fn using zE with
   | Name x p=>
    match args,kws,h with
    | [a],[],h=>
     have h':(x == "range"&&G.gl.contains 15&&notStar a&&chk Z G n a)=true:=h
     simp only[Bool.and_eq_true] at h'
     have e1:x = "range":=eq_of_beq h'.1.1.1
     subst e1
     obtain⟨k1,k2,_,_⟩:=eQ g (show cN[15]? = some ("range" : Str) from rfl) h'.1.1.2
     refine kJ (ik k1 k2 (cq (snd n X ex G a g h'.2).1 dw (aE h'.1.2 _ _)) (aE h'.1.2 _ _)) fun σ H Q ⟨S,τ,hs,q⟩=>?_
     refine cz (.refl _) hs (PO'.bnd q) fun x v H1 e1 _ m1 q1=>?_
     induction x using zD with
     | int i=>
      cases m1.intR
      obtain⟨gd,q1⟩:=PO'.grd q1
      have gd' : -(2 ^ 62)<=i/\i < 2 ^ 62:=of_decide_eq_true gd
      refine⟨i,rfl,gd'.1,gd'.2,?_⟩
      have:=q1.ok _ e1
      rw[show (0,i).2 - (0,i).1=i from Int.sub_zero i] at this
      exact this
     | _=>exact q1.no.elim
    | [],_,h=>first|exact ae h|cases h
    | [_],_::_,h=>first|exact ae h|cases h
    | _::_::_,_,h=>first|exact ae h|cases h
   | _=>first|exact ae h|cases h
  | _=>first|exact ae h|cases h
 | _=>cases hr
theorem st_for (g:GOk Z CX cl xp X ex G){t it:Expr}{x:List Stmt}{pos:Pos}{T:Tg}{s:Sr}{a:List IS}(hT':(G.cm=true/\G.rs=true)/\dH G T t=true)(hs':dM Z G s it=true/\gb s t=true)(ha:PSs X x (RS X.K G.io ex (cb cl a))):PS X (.For t it x [] pos) (RS X.K G.io ex (evS cl (.for_ T s a))):=by
 have hT:=hT'.2
 have hs:=hs'.1
 by_cases hr:pT s=true
 ·refine de (og (g.own hT'.1.2) (g.calm hT'.1.1) (A3 s X ex G it t g hs hr) (pgT g T t hT) ha (fun x=>dD hs X.env x)) fun Dn σ H ⟨B,F,τ,f,m,q⟩=>?_
  have q0:PO' ex (bnd (kQ cl s τ) fun p=>forM (fun x τ=>bnd (dz T x τ) fun τ'=>cb cl a τ') p.1 p.2) (Fk X.K B Dn):=q
  have base:PO' ex (eV cl s τ) fun its=>PO' ex (forM (fun x τ=>bnd (dz T x τ) fun τ'=>cb cl a τ') its τ) (Fk X.K B Dn):=by
   cases s with
   | rng1 u=>exact(PO'.bnd (show PO' ex (bnd (eV cl (.rng1 u) τ) fun its=>.ok (its,τ)) _ from PO'.bnd q0)).mono fun its h=>h.ok
   | _=>cases hr
  exact⟨fun _=>True,τ,cw m.rps,(pU hr base).mono fun p hp H1 e1=>j5 (fB T t hT) (m.grow e1) (.rng p.1 p.2) (by rw[sL];exact hp)⟩
 ·refine de (og (g.own hT'.1.2) (g.calm hT'.1.1) (sH s X ex G it t g hs hs'.2) (pgT g T t hT) ha (fun x=>dD hs X.env x)) fun Dn σ H ⟨B,F,τ,f,m,q⟩=>?_
  have q0:PO' ex (bnd (kQ cl s τ) fun p=>forM (fun x τ=>bnd (dz T x τ) fun τ'=>cb cl a τ') p.1 p.2) (Fk X.K B Dn):=q
  have q1:=PO'.bnd q0
  have hsrc:kQ cl s τ=(bnd (eV cl s τ) fun its=>.ok (ers its,frz (fq s) τ)):=by
   cases s with
   | val u=>rfl
   | zip u v=>rfl
   | _=>exact absurd rfl hr
  rw[hsrc] at q1
  obtain⟨F1,gg,b1,b2,b3,b4,b5,b6⟩:=dZ (fq s) m.fok m.rps m.nod
  refine yC (.refl _) b6 (PO'.bnd q1) fun its J H1 e1 _ w1 hk=>?_
  obtain⟨c1,c2,c3⟩:=grow (fun _=>True) b1 b2 e1
  have m2:Frm X.K B (fun a=>F1 a∨(True/\H a=none/\H1 a≠none)) H1 σ (frz (fq s) τ) gg:=m.stp (b4.trans c3 (fun x hx=>.inl (b5 x hx))) c1 c2 b3 fun a ha=>.inl (b5 a ha)
  exact j5 (fB T t hT) m2 (w1.step (fun a xs h r=>⟨h.elim (fun z=>.inl z) fun z=>.inr ⟨trivial,z,r.some⟩,r⟩) fun a xs h=>h) hk.ok
mutual
theorem snS:∀ (a:IS) (X:Cx) (ex:EX->Prop) (G:Gm) (s:Stmt),GOk Z CX cl xp X ex G->nM Z G a s=true->PS X s (RS X.K G.io ex (evS cl a))
 | .asg tg e,X,ex,G,s,g,h=>by
  induction s using zS with
  | Assign ts v pos=>
   match ts,h with
   | [t],h=>
    have h':(dH G tg t&&chk Z G e v&&(isName t||(isTup t&&notTuple v)))=true:=h
    simp only[Bool.and_eq_true] at h'
    exact st_asg g h'.1.1 h'.1.2 h'.2
   | [],h=>first|exact ae h|cases h
   | _::_::_,h=>first|exact ae h|cases h
  | _=>first|exact ae h|cases h
 | .dsetx i k e,X,ex,G,s,g,h=>by
  induction s using zS with
  | Assign ts v pos=>
   cases ts with
   | nil=>first|exact ae h|cases h
   | cons t ts=>
    cases ts with
    | cons _ _=>cases t<;>first|exact ae h|cases h|(rename_i o _ _;cases o<;>cases h)
    | nil=>
     induction t using zE with
     | Subscript o s sp=>
      induction o using zE with
      | Name x p=>
       have h':(fy G i x&&cY s&&chk Z G k s&&chk Z G e v&&!(vars e).contains i)=true:=h
       simp only[Bool.and_eq_true] at h'
       exact st_dsetx g h'.1.1.1.1 h'.1.1.1.2 h'.1.1.2 h'.1.2 (by simpa using h'.2)
      | _=>first|exact ae h|cases h
     | _=>first|exact ae h|cases h
  | _=>first|exact ae h|cases h
 | .ins i k e,X,ex,G,s,g,h=>by
  induction s using zS with
  | Expr v pos=>
   induction v using zE with
   | Call fn args kws cpos=>
    induction fn using zE with
    | Attribute o name apos=>
     induction o using zE with
     | Name x p=>
      match args,kws,h with
      | [s,v],[],h=>
       have h':(fy G i x&&name == "insert"&&apos.endLine == cpos.line&&(notStar s&&notStar v)&&chk Z G k s&&chk Z G e v)=true:=h
       simp only[Bool.and_eq_true] at h'
       have e1:name = "insert":=eq_of_beq h'.1.1.1.1.2
       subst e1
       exact st_ins g h'.1.1.1.1.1 h'.1.1.1.2 h'.1.1.2.1 h'.1.1.2.2 h'.1.2 h'.2
      | [],_,h=>first|exact ae h|cases h
      | [_],_,h=>first|exact ae h|cases h
      | [_,_],_::_,h=>first|exact ae h|cases h
      | _::_::_::_,_,h=>first|exact ae h|cases h
     | _=>first|exact ae h|cases h
    | _=>first|exact ae h|cases h
   | _=>first|exact ae h|cases h
  | _=>first|exact ae h|cases h
 | .app i e,X,ex,G,s,g,h=>by
  induction s using zS with
  | Expr v pos=>
   induction v using zE with
   | Call fn args kws cpos=>
    induction fn using zE with
    | Attribute o name apos=>
     induction o using zE with
     | Name x p=>
      match args,kws,h with
      | [v],[],h=>
       have h':(fy G i x&&name == "append"&&apos.endLine == cpos.line&&notStar v&&chk Z G e v)=true:=h
       simp only[Bool.and_eq_true] at h'
       have e1:name = "append":=eq_of_beq h'.1.1.1.2
       subst e1
       exact st_app g h'.1.1.1.1 h'.1.1.2 h'.1.2 h'.2
      | [],_,h=>first|exact ae h|cases h
      | [_],_::_,h=>first|exact ae h|cases h
      | _::_::_,_,h=>first|exact ae h|cases h
     | _=>first|exact ae h|cases h
    | _=>first|exact ae h|cases h
   | _=>first|exact ae h|cases h
  | _=>first|exact ae h|cases h
 | .exp e,X,ex,G,s,g,h=>by
  induction s using zS with
  | Expr v pos=>
   have h':(jk v&&chk Z G e v)=true:=by induction v using zE<;>first|exact h|(rename_i c _ _;cases c<;>exact h)
   simp only[Bool.and_eq_true] at h'
   exact st_exp g h'.1 h'.2
  | _=>first|exact ae h|cases h
 | .ret e,X,ex,G,s,g,h=>by
  induction s using zS with
  | Return v pos=>
   cases v with
   | none=>first|exact ae h|cases h
   | some v=>exact st_ret g h
  | _=>first|exact ae h|cases h
 | .if_ t a b,X,ex,G,s,g,h=>by
  induction s using zS with
  | If c x y pos=>
   have h':(chk Z G t c&&c6 Z G a x&&c6 Z G b y)=true:=h
   simp only[Bool.and_eq_true] at h'
   exact st_if (snd t X ex G c g h'.1.1).2 (kZ a X ex G x g h'.1.2) (kZ b X ex G y g h'.2)
  | _=>first|exact ae h|cases h
 | .for_ tg s body,X,ex,G,st,g,h=>by
  induction st using zS with
  | For t it b els pos=>
   cases els with
   | cons _ _=>first|exact ae h|cases h
   | nil=>
    have h':(((G.cm&&G.rs)&&dH G tg t)&&(dM Z G s it&&gb s t)&&c6 Z G body b)=true:=h
    simp only[Bool.and_eq_true] at h'
    exact st_for g h'.1.1 h'.1.2 (kZ body X ex G b g h'.2)
  | _=>first|exact ae h|cases h
 | .while_ t body,X,ex,G,s,g,h=>by
  induction s using zS with
  | While c b els pos=>
   cases els with
   | cons _ _=>first|exact ae h|cases h
   | nil=>
    have h':((G.rs&&chk Z G t c)&&c6 Z G body b)=true:=h
    simp only[Bool.and_eq_true] at h'
    exact st_while g h'.1.1 (snd t X ex G c g h'.1.2).2 (kZ body X ex G b g h'.2)
  | _=>first|exact ae h|cases h
 | .brk,X,ex,G,s,g,h=>by cases s<;>first|exact ae h|cases h
 | .cnt,X,ex,G,s,g,h=>by cases s<;>first|exact ae h|cases h
 | .pass,X,ex,G,s,g,h=>by cases s<;>first|exact ae h|cases h
 | .raisef n c x e,X,ex,G,s,g,h=>by
  obtain⟨o,pos,rfl,h0⟩:=wq (show rev s (fun o=>rsx o fun x' a=>x' == c&&G.rs&&G.cm&&cU Z G n c&&Z.rc.contains (n,c,x)&&cA Z {G with rs:=false,tr:=false} [e] [a])=true from h)
  obtain⟨x',np,a,cpos,rfl,h1⟩:=wt h0
  simp only[Bool.and_eq_true] at h1
  obtain⟨⟨⟨⟨⟨h1,h2⟩,h3⟩,h4⟩,h5⟩,h6⟩:=h1
  have h1:=eq_of_beq h1
  subst h1
  exact nO g h2 h3 h4 (by simpa using h5) h6
 | .tryc i f es n cs k hd,X,ex,G,s,g,h=>by
  have h1:tcv s (fun xi xf args xc y b0 r=>G.tr&&G.cm&&wo G i xi&&cU Z G f xf&&Z.fnc G f&&cA Z {G with rs:=false,tr:=false} es args&&cU Z G n xc&&cs.all (fun c=>Z.xm.contains (c,n))&&(G.N[k]? == some y&&G.io != some k)&&G.kd[k]? == some .local&&c6 Z {G with cm:=false,rs:=false,tr:=false} hd (b0::r))=true:=by induction s using zS<;>exact h
  exact st_tryc g h1 fun tr a ss hss=>kZ hd (d8 X a) nox {G with cm:=false,rs:=false,tr:=false} ss (nN g (tr.pl a)) hss
 | .never,X,ex,G,s,g,h=>de nX fun Dn σ H ⟨B,F,τ,f,m,q⟩=>q.no.elim
theorem kZ:∀ (as:List IS) (X:Cx) (ex:EX->Prop) (G:Gm) (ss:List Stmt),GOk Z CX cl xp X ex G->c6 Z G as ss=true->PSs X ss (RS X.K G.io ex (cb cl as))
 | [],X,ex,G,ss,g,h=>by
  cases ss with
  | nil=>exact eZ iU fun Dn σ H ⟨B,F,τ,f,m,q⟩=>q.ok _ _ _ _ m
  | cons _ _=>first|exact ae h|cases h
 | a::as,X,ex,G,ss,g,h=>by
  cases ss with
  | nil=>induction a using zT<;>first|exact ae h|cases h
  | cons s ss=>
   cases hal:tQ a with
   | true=>
    cases a with
    | _=>cases hal
   | false=>
    have h':(nM Z G a s&&c6 Z G as ss)=true:=by rw[<- kY hal];exact h
    simp only[Bool.and_eq_true] at h'
    refine eZ (gk (snS a X ex G s g h'.1) (kZ as X ex G ss g h'.2)) fun Dn σ H ⟨B,F,τ,f,m,q⟩=>?_
    refine⟨B,F,τ,f,m,(PO'.bnd q).mono fun r hr=>?_⟩
    cases r with
    | nx τ'=>exact fun σ' H' F' f' m'=>⟨B,F',τ',f',m',hr⟩
    | ct τ'=>exact hr.ok
    | bk τ'=>exact hr.ok
    | rt d=>exact hr.ok
    | ri d ks es=>exact hr.ok
end
end
section
variable {P:Program}{w:World}
theorem jn {outer:List Env}{H:Hp}{s:Shared}{E:XK}{e:Value}{s':Shared}(x:HOk P w H s.heap)(fr:∀ b∈frs outer,H b=none)(h:CX1 P w outer (cg s.heap H) s E e s'):CX1 P w outer H s E e s':=by
 obtain⟨a,cls,a0,H',B,h1,h2,h3,h4,h5,_,h6,h7,h8⟩:=h
 exact⟨a,cls,a0,ei H H',B,h1,h2,h3,jc x h4,jb x h5 (dJ h4) (fun b o _=>h6 b o) fr,jR,fun b o e n f=>h6 b o e (du n) f,h7,fun H'' k=>h8 H'' ((o9 x (dJ h4)).trans k)⟩
theorem gV {outer:List Env}{H:Hp}{s:Shared}{e:Value}{s':Shared}:¬ CX1 P w outer H s (fun _ _ _=>False) e s':=fun ⟨_,_,_,H',_,_,_,_,_,_,_,_,_,z⟩=>z H' (.refl _)
variable {K:PySem.W.Frag}{mg:Str->Option Value}{base:Heap}{N:List Str}{qual:Str}{scope:Scope}{f:Addr}{cd:Value}{A:Around}{outer:List Env}{s:Shared}{H:Hp}{E:XK}
theorem tU {H':Hp}{B:Heap}{s2:Shared}{a:Addr}{cls:Value}{a0:Option Addr}(lt:LTH H)(os:s2.os=s.os)(bare:AllBare s2.gens)(fl:Heap.FlyingD B outer a cls a0 s2.heap)(hB:HOk P w H' B)
  (kB:∀ b o,s.heap.get? b=some o->H b=none->b∉frs outer->B.get? b=some o) (hs:∀ b o,s.heap.get? b=some o->H b=none->b∈frs outer->∃ sl,s2.heap.get? b=some {o with slots:=sl})
  (fr:∀ b o,s.heap.get? b=some o->H b=none->H' b=none) (pz:∀ b o u,H b=some (.frz o u)->H' b=some (.frz o u)) (pt:∀ b xs,H b=some (.tup xs)->H' b=some (.tup xs)) (hE:∀ H'',Cl H' H''->E cls a0 H''):CX1 P w outer H s E (.ref a) s2:=by
 refine⟨a,cls,a0,H',B,rfl,os,bare,⟨fun b o e n nf _=>fl.1 _ _ (kB b o e n nf),fun b o e n hf _=>hs b o e n hf,fun b o e n _=>fr b o e n,fun b o e _=>?_,pt,pz,fun b ps e=>?_⟩,hB,fun b o e=>(lt b o e).elim (fun ⟨ob,u,z⟩=>by subst z;exact pz _ _ _ e) fun ⟨xs,z⟩=>by subst z;exact pt _ _ e,kB,fl,hE⟩
 ·cases q:H b with
  | none=>
   by_cases hf:b∈frs outer
   ·obtain⟨sl,h⟩:=hs b o e q hf
    exact⟨_,h⟩
   ·exact⟨_,fl.1 _ _ (kB b o e q hf)⟩
  | some u=>
   have:∃ u',H' b=some u':=by
    rcases lt b u q with ⟨ob,v,rfl⟩|⟨xs,rfl⟩
    ·exact⟨_,pz _ _ _ q⟩
    ·exact⟨_,pt _ _ q⟩
   obtain⟨u',hu⟩:=this
   obtain⟨ob,ho⟩:=(hB b u' hu).at
   exact⟨_,fl.1 _ _ ho⟩
 ·rcases lt b _ e with ⟨ob,v,z⟩|⟨xs,z⟩<;>cases z
theorem tV {b:Addr}{o:Obj}(e:s.heap.get? b=some o)(n:b∉frs outer):b∉frs (envOfC qual scope s.heap.objs.size f cd::outer):=fun z=>by
 unfold frs at z n
 rcases List.mem_filterMap.mp z with ⟨env,hm,hf⟩
 rcases List.mem_cons.mp hm with rfl|hm
 ·have h1:s.heap.objs.size=b:=Option.some.inj hf
  have h2:=Heap.lt_size e
  rw[h1] at h2
  exact Nat.lt_irrefl _ h2
 ·exact n (List.mem_filterMap.mpr ⟨env,hm,hf⟩)
theorem sM (lt:LTH H){ex:EX->Prop}(hE:∀ c C dx H',ex c->PySem.W.nsIn K mainGlobals c.c=some (some (.ref C))->XF K H' dx c->E (.ref C) dx H') :
  Passes (CX1 P w) (dF (CX1 P w) P w K mg base N qual scope f cd A outer s H E) (fun cls dx H'=>∃ c C,ex c/\PySem.W.nsIn K mainGlobals c.c=some (some (.ref C))/\cls=.ref C/\XF K H' dx c):=by
 intro pins σ H1 s1 e s' I ⟨a,cls,a0,H',B,he,os,bare,un,hB,_,kB,fl,hx⟩
 subst he
 have I':=I.call' os un (hB.kept fl.1) bare (fun b z=>absurd z (by simp))
 show wpAny _ _ (leaving _ (.ref a)) _ _ s'
 refine fQ (show (A.deeper (envOfC qual scope s.heap.objs.size f cd)).frames=some (envOfC qual scope s.heap.objs.size f cd::outer) from I.ok.frames) rfl fl fun h' fl' up=>?_
 refine tU lt I'.os I'.bare fl' hB (fun b o e n nf=>?_) (fun b o e n hf=>?_) (fun b o e n=>I'.base.free b o e n (by simp[dF])) I'.base.frzs I'.base.tups fun H'' k=>?_
 ·exact kB b o (I.base.keep b o e n nf (by simp[dF])) (I.base.free b o e n (by simp[dF])) (tV e nf)
 ·obtain⟨sl,h1⟩:=I'.base.slot b o e n hf (by simp[dF])
  obtain⟨_,o',ho',nf⟩:=I.ok.funs.mem hf
  have ho':s.heap.get? b=some o':=ho'
  rw[e] at ho'
  cases ho'
  obtain⟨sl',h2⟩:=up b _ h1 nf
  exact⟨sl',h2⟩
 ·obtain⟨c,C,hc,hn,rfl,xf⟩:=hx H'' k
  exact hE c C _ _ hc hn xf
theorem pV (lt:LTH H){pins:List (Addr×Obj)}{σ:St}{H1:Hp}{s1:Shared}{C e:Addr}{oe:Obj}{vs:Array Value}(hE:∀ H'',Cl H1 H''->E (.ref C) oe.dict H'')
  (I:Inv (dF (CX1 P w) P w K mg base N qual scope f cd A outer s H E) pins σ H1 s1) (he:s1.heap.get? e=some oe) (hc:oe.cls=.ref C) (hd:oe.data=.fields vs) (h1:vs[1]? = some .none) (hn:H1 e=none) (h0:s.heap.get? e=none) :
  (dF (CX1 P w) P w K mg base N qual scope f cd A outer s H E).xe (.ref e) s1:=by
 generalize hfs:frs (dF (CX1 P w) P w K mg base N qual scope f cd A outer s H E).stack=fs
 have hin:∀ env∈(dF (CX1 P w) P w K mg base N qual scope f cd A outer s H E).stack,∀ b,env.frame=some b->b∈e::fs:=fun env he b hb=>List.mem_cons_of_mem _ (hfs ▸ List.mem_filterMap.mpr ⟨env,he,hb⟩)
 have hen:(PySem.W.hideAll s1.heap (e::fs)).get? e=none:=PySem.W.hideAll_none _ List.mem_cons_self
 show wpAny _ _ (leaving _ (.ref e)) _ _ _
 refine eh (base:=PySem.W.hideAll s1.heap (e::fs)) (show (A.deeper (envOfC qual scope s.heap.objs.size f cd)).frames=some (envOfC qual scope s.heap.objs.size f cd::outer) from I.ok.frames) (PySem.W.funFrames_hide I.stack hin) rfl he (fun b o q=>PySem.W.of_hideAll _ q) hen hd h1 rfl fun h' ⟨k1,⟨_,_,k2⟩,k3,up⟩=>?_
 have fl:Heap.FlyingD (PySem.W.hideAll s1.heap (e::fs)) outer e oe.cls oe.dict h':=⟨k1,hen,k2,k3⟩
 have trk:∀ b u o,H1 b=some u->s1.heap.get? b=some o->(PySem.W.hideAll s1.heap (e::fs)).get? b=some o:=fun b u o hu ho=>PySem.W.hideAll_get _ ho fun z=>by
  rcases List.mem_cons.mp z with rfl|z
  ·rw[hn] at hu;cases hu
  ·rw[I.stkFree b (hfs ▸ z)] at hu;cases hu
 rw[hc] at fl
 refine tU (H':=H1) lt I.os I.bare fl (fun b o hb=>?_) (fun b o he' n nf=>?_) (fun b o he' n hf=>?_) (fun b o e n=>I.base.free b o e n (by simp[dF])) I.base.frzs I.base.tups hE
 ·refine(I.hok b o hb).stay (fun c u hc hu=>?_) (fun _ z=>z) fun _ _ z=>z
  rcases hc with rfl|hc
  ·exact trk _ _ _ hb hu
  ·exact trk _ _ _ hc hu
 ·refine PySem.W.hideAll_get _ (I.base.keep b o he' n nf (by simp[dF])) fun z=>?_
  rcases List.mem_cons.mp z with rfl|z
  ·rw[h0] at he';cases he'
  ·exact tV he' nf (hfs ▸ z)
 ·obtain⟨sl,h1⟩:=I.base.slot b o he' n hf (by simp[dF])
  obtain⟨_,o',ho',nf⟩:=I.ok.funs.mem hf
  have ho':s.heap.get? b=some o':=ho'
  rw[he'] at ho'
  cases ho'
  obtain⟨sl',h3⟩:=up b _ h1 nf
  exact⟨sl',h3⟩
end
noncomputable def fU (e:Addr)(o:Obj):HO:=.ext fun h=>h.get? e=some o
theorem l7 {P:Program}{w:World}{H:Hp}{h:Heap}{e:Addr}{o:Obj}(g:h.get? e=some o):cu P w H h e (fU e o):=⟨g,⟨_,g⟩,fun _ _ p k=>k _ p⟩
theorem wA {h:Heap}{d:Addr}{x:Str}{v:Value}(n:h.Ns1 d (fun y=>if y=x then some v else none)):∃ od,h.get? d=some od/\NsO od x v:=by
 obtain⟨o,es,ep,e1,r⟩:=n
 exact⟨o,e1,fun h' d' e'=>⟨o,es,ep,e',r⟩⟩
noncomputable abbrev hIn (H:Hp)(e:Addr)(o:Obj)(dx:Addr)(od:Obj):Hp:=upd (upd H e (fU e {o with dict:=some dx})) dx (.frz od XU)
def tIn (C:Addr)(x:Str):TS:=fun Dn σ H=>∃ e t o,σ[0]? = some (some (.ref e))/\σ[1]? = some (some (.ref t))/\H e=some (fU e o)/\o.cls=.ref C/\PySem.W.notCls o=true/\o.dict=none/\
 ∀ dx od,H dx=none->dx≠e->NsO od x (.ref t)->Dn.nx σ (hIn H e o dx od)
theorem yO {X:Cx}{C fI:Addr}{x self ring:Str}{p1 p2 p3 pos:Pos}(b:ExcI X.K C fI x)(ho:PE X (.Name self p1) (nV 0))(hv:PE X (.Name ring p3) (nV 1)) :
  PS X (.Assign [.Attribute (.Name self p1) x p2] (.Name ring p3) pos) (tIn C x):=by
 intro pins s σ H Dn I ⟨e,t,o,h0,h1,hH,hc,hn,hd,q⟩
 refine plainObj_wpAny_Assign_Attribute (thn (hv pins s σ H (fun v H1=>v=.ref t/\H1=H) I ⟨_,h1,rfl,rfl⟩) fun u s1 ⟨y,H1,I1,ry,ey,eH⟩=>?_) rfl
 subst ey eH
 cases ry
 refine thn (ho pins s1 σ H1 (fun v H2=>v=.ref e/\H2=H1) I1 ⟨_,h0,rfl,rfl⟩) fun ov s2 ⟨x',H2,I2,rx,ex,eH⟩=>?_
 subst ex eH
 cases rx
 refine sr b I2.kIn (I2.hok e _ hH).1 hc hn hd fun h' dx tk' n1 g1 ns kp=>?_
 obtain⟨od,god,hod⟩:=wA ns
 have hdx:H2 dx=none:=by
  cases z:H2 dx with
  | none=>rfl
  | some u=>
   obtain⟨ob,ho⟩:=(I2.hok dx u z).at
   rw[n1] at ho;cases ho
 have ne:dx≠e:=fun z=>by rw[z,hH] at hdx;cases hdx
 have old:∀ b,b≠e->b≠dx->hIn H2 e o dx od b=H2 b:=fun b h1 h2=>by rw[hIn,aD h2,aD h1]
 have at_e:hIn H2 e o dx od e=some (fU e {o with dict:=some dx}):=by rw[hIn,aD ne.symm,bN]
 have at_d:hIn H2 e o dx od dx=some (.frz od XU):=by rw[hIn,bN]
 have inh:∀ b ob,s2.heap.get? b=some ob->b≠dx:=fun b ob hb z=>by rw[z,n1] at hb;cases hb
 refine⟨σ,_,I2.un (t':=tk') ⟨fun b ob hb n _ _=>kp b ob (fun z=>by rw[z,hH] at n;cases n) hb,fun b ob hb n _ _=>⟨ob.slots,kp b ob (fun z=>by rw[z,hH] at n;cases n) hb⟩,fun b ob hb n _=>?_,fun b ob hb _=>?_,fun b xs z=>?_,fun b ob u z=>?_,fun b ps z=>⟨#[],?_⟩⟩ (fun b u z=>?_),q dx od hdx ne hod⟩
 ·rw[old b (fun z=>by rw[z,hH] at n;cases n) (inh b ob hb)];exact n
 ·by_cases hb':b=e
  ·subst hb';exact⟨_,g1⟩
  ·exact⟨_,kp b ob hb' hb⟩
 ·rw[old b (fun y=>by rw[y,hH] at z;cases z) (fun y=>by rw[y,hdx] at z;cases z)];exact z
 ·rw[old b (fun y=>by rw[y,hH] at z;cases z) (fun y=>by rw[y,hdx] at z;cases z)];exact z
 ·rw[old b (fun y=>by rw[y,hH] at z;cases z) (fun y=>by rw[y,hdx] at z;cases z)];simpa using z
 ·by_cases h1:b=e
  ·subst h1
   rw[at_e] at z
   cases z
   exact l7 g1
  ·by_cases h2:b=dx
   ·subst h2
    rw[at_d] at z
    cases z
    exact⟨god,trivial,⟨_,god⟩,fun _ _ _ _=>trivial⟩
   ·rw[old b h1 h2] at z
    refine(I2.hok b u z).stay (fun c v hc q=>kp c v ?_ q) (fun c y=>?_) fun c xs y=>?_
    ·rcases hc with rfl|hc
     ·exact h1
     ·exact fun y=>by rw[y,hH] at hc;cases hc
    ·rw[old c (fun w=>by rw[w,hH] at y;cases y) (fun w=>by rw[w,hdx] at y;cases y)];exact y
    ·rw[old c (fun w=>by rw[w,hH] at y;cases y) (fun w=>by rw[w,hdx] at y;cases y)];exact y
def yQ (C:Addr)(x:Str):Sp:=fun vs H Q _=>∃ e t o,vs=[.ref e,.ref t]/\H e=some (fU e o)/\o.cls=.ref C/\PySem.W.notCls o=true/\o.dict=none/\
 ∀ dx od,H dx=none->dx≠e->NsO od x (.ref t)->Q .non (hIn H e o dx od)
structure InitAt (K:PySem.W.Frag)(fI:Addr)(x:Str):Prop where
 ex:∃ (nm qual self ring:Str) (st:Stmt) (fd:FuncData) (p1 p2 p3 pos:Pos),Fun K nm qual st fI fd/\Binds K fd [self,ring] []/\FnScope [self,ring] [self,ring] (bP st)/\
  cE st=[.Assign [.Attribute (.Name self p1) x p2] (.Name ring p3) pos]/\(∀ y∈[self,ring],(bP st).names.lookup y=some .local/\(y == ("__debug__" : Str))=false/\(y == ("__classdict__" : Str))=false)
theorem sN {P:Program}{w:World}{K:PySem.W.Frag}{mg:Str->Option Value}{base:Heap}{CX:CXT}{C fI:Addr}{x:Str}(b:ExcI K C fI x)(h:InitAt K fI x):∃ fd self ring,Binds K fd [self,ring] []/\FnOk P w K mg base CX 1 fI fd [self,ring] (yQ C x):=by
 obtain⟨nm,qual,self,ring,st,fd,p1,p2,p3,pos,hF,hb,S,hbd,hy⟩:=h.ex
 obtain⟨oc,od,kV,doc,pm,an,cdv,ct,osl,rfl,lk,hcd⟩:=hF.ex
 refine⟨_,self,ring,hb,ou (k:=0) lk hcd S (by decide) (fun vs H Q E ⟨e,t,o,z,_⟩=>by rw[z];rfl) fun A outer s H vs Q E hr ⟨e,t,o,hvs,hH,hc,hn,hd,q⟩=>?_⟩
 subst hvs
 rw[hbd]
 obtain⟨s1,s2,s3⟩:=hy self (by simp)
 obtain⟨r1,r2,r3⟩:=hy ring (by simp)
 refine⟨_,gk (yO (X:=dF CX P w K mg base [self,ring] qual (bP st) fI cdv A outer s H E) b (iT rfl (.inl s1) s2 s3) (iT rfl (.inl r1) r2 r3)) iU,?_⟩
 exact⟨e,t,o,rfl,rfl,hH,hc,hn,hd,fun dx od h1 h2 h3=>q dx od h1 h2 h3⟩
theorem k9 {k:Nat}{A:Around}{C:Addr}{us:List Value}(r:Room k A)(h:A.handled=none)(hk:2<=k % 1000):Room 1 (A.under (.builtin "type.__call__" ⟨.ref C::us,[]⟩)):=by
 have e1:(A.under (.builtin "type.__call__" ⟨.ref C::us,[]⟩)).depth=A.depth+1:=by
  first|rfl|simp[Around.under,Code.weight,Code.isCreation,Code.isGuard,Code.isCaller,Code.frames,Code.isFrame,guardIds]
 have e2:(A.under (.builtin "type.__call__" ⟨.ref C::us,[]⟩)).units=A.units+1:=by
  first|rfl|simp[Around.under,Code.cUnits,Code.frames,Code.isFrame]
 exact⟨fun _=>h,by have:=r.dp;rw[e1];omega,by have:=r.un;rw[e2];omega⟩
section
variable {P:Program}{w:World}{K:PySem.W.Frag}{mg:Str->Option Value}{base:Heap}{N:List Str}{qual:Str}{scope:Scope}{f:Addr}{cd:Value}{A:Around}{outer:List Env}{s:Shared}{H:Hp}{E:XK}
theorem nP (lt:LTH H){c:EX}{C fI:Addr}{k:Nat}(hr:Room k (A.deeper (envOfC qual scope s.heap.objs.size f cd)))(hk:2<=k % 1000)(hcm:A.handled=none)(hm:mg c.c=some (.ref C))(hj:nG K C=true)(b:ExcI K C fI c.x)(ini:InitAt K fI c.x)
  (hE:∀ dx H',XF K H' dx c->E (.ref C) dx H'):RsOk (dF (CX1 P w) P w K mg base N qual scope f cd A outer s H E) c:=by
 obtain⟨fd,self,ring,hb,F⟩:=sN (P:=P) (w:=w) (mg:=mg) (base:=base) (CX:=CX1 P w) b ini
 refine⟨C,hm,hj,fun pins σ H1 s1 t I hq=>?_⟩
 obtain⟨bm,N',nm,qn,bs,hdct,sn,sub,ab,col,dd,k0,k1,k2,k3,k5,e1,T⟩:=jX I.kIn hj
 obtain⟨hp,g,d,tk,os⟩:=s1
 refine o7 PySem.F.excBase_ValueError T I.kIn b.init b.fn e1 (fun h' e mk=>?_) (show 1<=sizeLine by decide)
 obtain⟨t0,ge,nt0,gt0⟩:=mk.there
 have ne:H1 e=none:=by
  cases z:H1 e with
  | none=>rfl
  | some u=>
   obtain⟨ob,ho⟩:=(I.hok e u z).at
   rw[show hp.get? e=none from mk.new] at ho;cases ho
 have nin:∀ b ob,hp.get? b=some ob->b≠e:=fun b ob hb z=>by rw[z,mk.new] at hb;cases hb
 have sm:∀ b u,H1 b=some u->upd H1 e (fU e {cls:=.ref C,data:=.fields #[.ref t0,.none,.none,.none,.bool false,.none]}) b=some u:=fun b u z=>by rw[aD (bS z ne)];exact z
 have I2:Inv (dF (CX1 P w) P w K mg base N qual scope f cd A outer s H E) pins σ (upd H1 e (fU e {cls:=.ref C,data:=.fields #[.ref t0,.none,.none,.none,.bool false,.none]})) ⟨h',g,d,tk,os⟩:=by
  refine I.un (t':=tk) ⟨fun b ob hb n _ _=>mk.keeps b ob hb,fun b ob hb n _ _=>⟨ob.slots,mk.keeps b ob hb⟩,fun b ob hb n _=>?_,fun b ob hb _=>⟨_,mk.keeps b ob hb⟩,fun b xs z=>sm _ _ z,fun b ob u z=>sm _ _ z,fun b ps z=>⟨#[],by rw[sm _ _ z];simp⟩⟩ fun b u z=>?_
  ·rw[aD (nin b ob hb)];exact n
  ·by_cases hb':b=e
   ·subst hb'
    rw[bN] at z
    cases z
    exact l7 ge
   ·rw[aD hb'] at z
    exact(I.hok b u z).stay (fun c v _ q=>mk.keeps c v q) (fun c y=>sm _ _ y) fun c xs y=>sm _ _ y
 have hsp:yQ C c.x [.ref e,.ref t] (upd H1 e (fU e {cls:=.ref C,data:=.fields #[.ref t0,.none,.none,.none,.bool false,.none]})) (fun v H3=>v=.non/\∃ dx od,(upd H1 e (fU e {cls:=.ref C,data:=.fields #[.ref t0,.none,.none,.none,.bool false,.none]})) dx=none/\dx≠e/\NsO od c.x (.ref t)/\
   H3=hIn (upd H1 e (fU e {cls:=.ref C,data:=.fields #[.ref t0,.none,.none,.none,.bool false,.none]})) e {cls:=.ref C,data:=.fields #[.ref t0,.none,.none,.none,.bool false,.none]} dx od) (fun _ _ _=>False):=
  ⟨e,t,_,rfl,bN,rfl,rfl,rfl,fun dx od h1 h2 h3=>⟨rfl,dx,od,h1,h2,h3,rfl⟩⟩
 refine wpAny_call (codeAny_mono (F.run _ _ _ _ ⟨[.ref e,.ref t],[]⟩ [.ref e,.ref t] [.ref e,.ref t] _ _ (k9 hr hcm hk) (I2.env0.make C [.ref t] []) (hb _ [.ref e,.ref t] I2.kIn rfl) (.cons rfl (.cons rfl .nil)) hsp) fun r s' hq'=>?_)
 cases r with
 | error e'=>exact(gV hq').elim
 | ok fl=>
  cases fl with
  | next=>exact False.elim hq'
  | brk=>exact False.elim hq'
  | cont=>exact False.elim hq'
  | ret u=>
   obtain⟨v,H3,a1,a2,a3,a4,a5,rfl,dx,od,n1,n2,n3,rfl⟩:=hq'
   rw[aD n2] at n1
   have a5:u=.none:=a5
   have oth:∀ b,b≠e->hIn (upd H1 e (fU e {cls:=.ref C,data:=.fields #[.ref t0,.none,.none,.none,.bool false,.none]})) e {cls:=.ref C,data:=.fields #[.ref t0,.none,.none,.none,.bool false,.none]} dx od b=upd H1 dx (.frz od XU) b:=fun b hb=>by
    by_cases h2:b=dx
    ·subst h2;rw[hIn,bN,bN]
    ·rw[hIn,aD h2,aD hb,aD hb,aD h2]
   have hev:∀ b u,H1 b=some u->b≠e:=fun b u z=>bS z ne
   have I4:Inv (dF (CX1 P w) P w K mg base N qual scope f cd A outer s H E) pins σ (upd H1 dx (.frz od XU)) s':=by
    refine I.call' (ch:=[]) a1 ⟨fun b ob hb n nf _=>a3.keep b ob (mk.keeps b ob hb) (by rw[aD (nin b ob hb)];exact n) nf (by simp),fun b ob hb n nf _=>a3.slot b ob (mk.keeps b ob hb) (by rw[aD (nin b ob hb)];exact n) nf (by simp),
     fun b ob hb n _=>?_,fun b ob hb _=>a3.there b ob (mk.keeps b ob hb) (by simp),fun b xs z=>?_,fun b ob u z=>?_,fun b ps z=>?_⟩ (fun b u z=>?_) a2 (fun b z=>absurd z (by simp))
    ·have:=a3.free b ob (mk.keeps b ob hb) (by rw[aD (nin b ob hb)];exact n) (by simp)
     rw[oth b (nin b ob hb)] at this
     exact this
    ·have:=a3.tups b xs (sm _ _ z)
     rw[oth b (hev _ _ z)] at this
     exact this
    ·have:=a3.frzs b ob u (sm _ _ z)
     rw[oth b (hev _ _ z)] at this
     exact this
    ·obtain⟨more,this⟩:=a3.tbls b ps (sm _ _ z)
     rw[oth b (hev _ _ z)] at this
     exact⟨more,this⟩
    ·have hbe:b≠e:=by
      rintro rfl
      rw[aD (Ne.symm n2),ne] at z
      cases z
     have y:=a4 b u (by rw[oth b hbe];exact z)
     have noe:∀ c v,hIn (upd H1 e (fU e {cls:=.ref C,data:=.fields #[.ref t0,.none,.none,.none,.bool false,.none]})) e {cls:=.ref C,data:=.fields #[.ref t0,.none,.none,.none,.bool false,.none]} dx od c=some v->(∀ φ,v≠.ext φ)->c≠e:=fun c v hv hne z=>by
      rw[z,hIn,aD (Ne.symm n2),bN] at hv
      cases hv
      exact hne _ rfl
     refine y.stay (fun _ _ _ q=>q) (fun c q=>?_) fun c xs q=>?_
     ·rw[<- oth c (noe c _ q (fun φ w=>nomatch w))];exact q
     ·rw[<- oth c (noe c _ q (fun φ w=>nomatch w))];exact q
   have he:s'.heap.get? e=some {cls:=.ref C,dict:=some dx,data:=.fields #[.ref t0,.none,.none,.none,.bool false,.none]}:=by
    have y:=a4 e (fU e {cls:=.ref C,dict:=some dx,data:=.fields #[.ref t0,.none,.none,.none,.bool false,.none]}) (by rw[hIn,aD (Ne.symm n2),bN])
    exact y.1
   refine⟨a5,e,_,t0,rfl,fun b o hb=>I4.bk b o hb,he,rfl,rfl,pV lt (fun H'' kk=>hE _ _ (kk.xf ⟨dx,t,od,rfl,bN,n3,?_⟩)) I4 he rfl rfl rfl (by rw[aD (Ne.symm n2)];exact ne) ?_⟩
   ·exact(bO.upd n1).cl.sq hq
   ·cases z:s.heap.get? e with
    | none=>rfl
    | some ob=>
     obtain⟨o',z'⟩:=I.base.there e ob z (by simp[dF])
     rw[show hp.get? e=none from mk.new] at z'
     cases z'
end
def RSB (K:PySem.W.Frag){io:Option Nat}(B:Bs io)(ex:EX->Prop)(g:Ev->Res Fl):TS:=fun Dn σ H=>∃ F τ f,Frm K B F H σ τ f/\PO' ex (g τ) (Fk K B Dn)
noncomputable def pW (Z:Sg)(G:Gm):List IS->List Stmt->Bool
 | [],[]=>true
 | a::as,s::ss=>nM Z G a s&&pW Z G as ss
 | _,_=>false
section
variable {Z:Sg}{cl:Nat->List D->Res D}{X:Cx}{ex:EX->Prop}{G:Gm}
theorem snB (g:GOk Z (CX1 X.prog X.w) cl (xp1 X.K) X ex G)(hst:X.stack=X.env::X.outer)(hfr:X.env.frame=some X.env.locals)(lt:LTH X.H₀)(hpl:∀ a:Addr,∀ f∈Z.fns,f∈Z.pl->∀ x,Z.name f=some x->FnC X.prog X.w X.K X.mg X.base (CX1 X.prog X.w) (X.A.mark (some (.ref a))) cl (xp1 X.K) f x)
  {B0:Bs G.io} (hBN:B0.N=none) (hB0:B0.H=X.H₀) (hBF:FOk B0.F B0.H) (hBL:∀ a xs,¬ B0.L a xs) (hBT:∀ a xs,¬ B0.T a xs):∀ (as:List IS) (ss:List Stmt),pW Z G as ss=true->PSs X ss (RSB X.K B0 ex (cb cl as))
 | [],ss,h=>by
  cases ss with
  | nil=>exact eZ iU fun Dn σ H ⟨F,τ,f,m,q⟩=>q.ok _ _ _ _ m
  | cons _ _=>cases h
 | a::as,ss,h=>by
  cases ss with
  | nil=>cases h
  | cons s ss=>
   have h':(nM Z G a s&&pW Z G as ss)=true:=h
   rw[Bool.and_eq_true] at h'
   have p1:PS X s (RSB X.K B0 ex (evS cl a)):=by
    exact de (snS a X ex G s g h'.1) fun Dn σ H ⟨F,τ,f,m,q⟩=>⟨B0,F,τ,f,m,q⟩
   refine eZ (gk p1 (snB g hst hfr lt hpl hBN hB0 hBF hBL hBT as ss h'.2)) fun Dn σ H ⟨F,τ,f,m,q⟩=>?_
   refine⟨F,τ,f,m,(PO'.bnd q).mono fun r hr=>?_⟩
   cases r with
   | nx τ'=>exact fun σ' H' F' f' m'=>⟨F',τ',f',m',hr⟩
   | ct τ'=>exact hr.ok
   | bk τ'=>exact hr.ok
   | rt d=>exact hr.ok
   | ri d ks es=>exact hr.ok
end
noncomputable def j6 (Z:Sg)(fn:Fn)(ps:List Str)(st:Stmt):Bool:=
 (bP st).kind == .function&&!(bP st).isCoroutine&&!(bP st).isGenerator&&decide (fn.G.N.Nodup)&&fn.G.N.take ps.length == ps
&&ps.all (fun x=>(bP st).names.lookup x == some .local||(bP st).names.lookup x == some .cell)&&(bP st).names.all (fun y=>y.2 != .free)
&&(List.range fn.G.N.length).all (fun i=>(fn.G.N[i]?).bind ((bP st).names.lookup ·) == fn.G.kd[i]?)
&&fn.G.N.all (fun x=>!(x == "__debug__")&&!(x == "__classdict__"))
&&fn.G.gl.all (fun n=>match Z.name n with|some x=>(bP st).names.lookup x == some .globalImplicit|none=>false)
&&decide (ps.length=fn.np)
noncomputable def ck (Z:Sg)(fn:Fn)(ps:List Str)(st:Stmt):Bool:=j6 Z fn ps st&&(!fn.io&&pW Z fn.G fn.body (cE st))
structure DefHd (Z:Sg)(fn:Fn)(ps:List Str)(st:Stmt):Prop where
 sc:FnScope fn.G.N ps (bP st)
 kd:∀ (i:Nat) (x:Str),fn.G.N[i]? = some x->(bP st).names.lookup x=fn.G.kd[i]?
 noD:∀ x∈fn.G.N,(x == ("__debug__" : Str))=false/\(x == ("__classdict__" : Str))=false
 gl:∀ n∈fn.G.gl,∀ x,Z.name n=some x->(bP st).names.lookup x=some .globalImplicit
 np:ps.length=fn.np
structure DefSc (Z:Sg)(fn:Fn)(ps:List Str)(st:Stmt):Prop extends DefHd Z fn ps st where
 pl:fn.io=false
 body:pW Z fn.G fn.body (cE st)=true
structure DefSI (Z:Sg)(fn:Fn)(ps:List Str)(st:Stmt):Prop extends DefHd Z fn ps st where
 io:fn.io=true
 body:c6 Z fn.G fn.body (cE st)=true
 gio:fn.G.io=some (fn.np - 1)
 pos:0 < fn.np
 ntr:fn.G.tr=false
theorem j7 {Z:Sg}{fn:Fn}{ps:List Str}{st:Stmt}(h:j6 Z fn ps st=true):DefHd Z fn ps st:=by
 unfold j6 at h
 simp only[Bool.and_eq_true] at h
 obtain⟨⟨⟨⟨⟨⟨⟨⟨⟨⟨h1,h2⟩,h3⟩,h4⟩,h5⟩,h6⟩,h7⟩,h8⟩,h9⟩,h10⟩,h11⟩:=h
 rw[List.all_eq_true] at h6 h7 h8 h9 h10
 refine⟨⟨eq_of_beq h1,by simpa using h2,by simpa using h3,of_decide_eq_true h4,eq_of_beq h5,fun x hx=>?_,fun y hy=>by simpa using h7 y hy⟩,fun i x hx=>?_,fun x hx=>by simpa using h9 x hx,fun n hn x hx=>?_,of_decide_eq_true h11⟩
 ·have:=h6 x hx
  rw[Bool.or_eq_true] at this
  exact this.elim (fun z=>.inl (eq_of_beq z)) fun z=>.inr (eq_of_beq z)
 ·have hlt:i < fn.G.N.length:=(List.getElem?_eq_some_iff.mp hx).1
  have:=eq_of_beq (h8 i (List.mem_range.mpr hlt))
  rw[hx] at this
  exact this
 ·have:=h10 n hn
  rw[hx] at this
  exact eq_of_beq this
theorem j8 {Z:Sg}{fn:Fn}{ps:List Str}{st:Stmt}(h:ck Z fn ps st=true):DefSc Z fn ps st:=by
 unfold ck at h
 rw[Bool.and_eq_true,Bool.and_eq_true] at h
 exact⟨j7 h.1,by simpa using h.2.1,h.2.2⟩
noncomputable def inb (st:Stmt)(self ring x:Str):Bool:=match cE st with
 | [.Assign [.Attribute (.Name a _) y _] (.Name b _) _]=>a == self&&y == x&&b == ring
 | _=>false
theorem wB {st:Stmt}{self ring x:Str}(h:inb st self ring x=true):∃ p1 p2 p3 pos,cE st=[.Assign [.Attribute (.Name self p1) x p2] (.Name ring p3) pos]:=by
 unfold inb at h
 split at h
 ·rename_i e
  simp only[Bool.and_eq_true,beq_iff_eq] at h
  obtain⟨⟨rfl,rfl⟩,rfl⟩:=h
  exact⟨_,_,_,_,e⟩
 ·cases h
noncomputable def fnI (self ring:Str):Fn:={np:=2,G:={N:=[self,ring],kd:=[.local,.local],gl:=[],df:=true},body:=[]}
noncomputable def cst (s:Stmt):Stmt:=match s with
 | .ClassDef _ _ _ b _ _ _ _ _ _ _=>b.getD 0 (.Pass ⟨0,0,0,0⟩)
 | s=>s
theorem nQ {Z:Sg}{K:PySem.W.Frag}{fI:Addr}{nm qual self ring x:Str}{st:Stmt}{fd:FuncData}(h:(j6 Z (fnI self ring) [self,ring] st&&inb st self ring x)=true)(F:Fun K nm qual st fI fd)(hb:Binds K fd [self,ring] []):InitAt K fI x:=by
 rw[Bool.and_eq_true] at h
 have d:=j7 h.1
 obtain⟨p1,p2,p3,pos,e⟩:=wB h.2
 refine⟨nm,qual,self,ring,st,fd,p1,p2,p3,pos,F,hb,d.sc,e,fun y hy=>?_⟩
 obtain⟨h1,h2⟩:=d.noD y hy
 refine⟨?_,h1,h2⟩
 have e1:y=self∨y=ring:=by simpa using hy
 have k0:=d.kd 0 self rfl
 have k1:=d.kd 1 ring rfl
 rcases e1 with rfl|rfl
 ·exact k0
 ·exact k1
structure DefOI (K:PySem.W.Frag)(mg:Str->Option Value)(Z:Sg)(T:Tb)(f:Nat)(x:Str):Prop where
 ex:∃ (fn:Fn) (st:Stmt) (fa:Addr) (fd:FuncData) (ps:List Str),T f=some fn/\Fun K x x st fa fd/\mg x=some (.ref fa)/\Binds K fd ps []/\DefSI Z fn ps st
structure DefOk (K:PySem.W.Frag)(mg:Str->Option Value)(Z:Sg)(T:Tb)(f:Nat)(x:Str):Prop where
 ex:∃ (fn:Fn) (st:Stmt) (fa:Addr) (fd:FuncData) (ps:List Str),T f=some fn/\Fun K x x st fa fd/\mg x=some (.ref fa)/\Binds K fd ps []/\DefSc Z fn ps st
section
variable {P:Program}{w:World}{K:PySem.W.Frag}{mg:Str->Option Value}{base:Heap}{Z:Sg}{T:Tb}
def CVk (mg:Str->Option Value)(x:Str)(v:V):Prop:=(∃ C,v=.ref C/\mg x=some (.ref C))∨(∃ T,v=.ty T/\mg x=none/\bootBuiltins x=some (.type T))
structure TopOk (K:PySem.W.Frag)(mg:Str->Option Value)(Z:Sg)(T:Tb):Prop where
 nam:∀ n x,Z.name n=some x->x≠"__name__"/\(x == ("__debug__" : Str))=false
 blt:∀ (n:Nat) (x:Str),cN[n]? = some x->mg x=none
 cst:∀ n d x,(n,d)∈Z.kst->Z.name n=some x->∃ u v,mg x=some u/\RelV v u/\∀ S H,HRep K S H v d
 fns:∀ f∈Z.fns,∀ x,Z.name f=some x->DefOk K mg Z T f x
 fio:∀ f∈Z.fio,∀ x,Z.name f=some x->DefOI K mg Z T f x
 plc:∀ f∈Z.pl,∀ fn,T f=some fn->fn.G.cm=false
 xcv:∀ n∈Z.cls,∀ x,Z.name n=some x->∃ v,CVk mg x v
 xcl:∀ c n b x,(c,n,b)∈Z.xt->Z.name n=some x->∃ C,PySem.W.nsIn K mainGlobals c=some (some (.ref C))/\ExcAt K C/\∀ v,CVk mg x v->PySem.W.kitOne K (.ref C) (vv v)=some b
 xmt:∀ c n x,(c,n)∈Z.xm->Z.name n=some x->∃ C C',PySem.W.nsIn K mainGlobals c=some (some (.ref C))/\PySem.W.nsIn K mainGlobals x=some (some (.ref C'))/\nameIn K C=some c/\mg x=some (.ref C')/\PySem.W.exmOne K (.ref C) (.ref C')=some true
 xrs:∀ n c x,(n,c,x)∈Z.rc->∃ C fI,mg c=some (.ref C)/\PySem.W.nsIn K mainGlobals c=some (some (.ref C))/\nG K C=true/\ExcI K C fI x/\InitAt K fI x
theorem iI {F:Addr->Prop}{H:Hp}:∀ {vs:List V}{ds:List D} (n:Nat),HReps K F H vs ds->Rps K F H (vs.map some++List.replicate n none) ((ers ds).map some++List.replicate n none) []
 | [],[],n,.nil=>by
  induction n with
  | zero=>exact .nil
  | succ n ih=>exact .none ih
 | v::vs,d::ds,n,.cons h1 h2=>.some (f:=[]) h1.frozen (iI n h2)
structure Rm (n:Nat)(A:Around):Prop where
 dp:A.depth+3*(n+2)+5 < recursionLimit
 un:A.units+16*(n+2)+200 < cLine
theorem Rm.room {n:Nat}{A:Around}(r:Rm n A)(hn:n < 900)(h:A.handled=none):Room (n+2) A:=⟨fun _=>h,by have:=r.dp;rw[Nat.mod_eq_of_lt (by omega)];exact this,by have:=r.un;rw[Nat.mod_eq_of_lt (by omega)];exact this⟩
theorem Rm.roomp {n:Nat}{A:Around}(r:Rm n A)(hn:n < 900):Room (1002+n) A:=⟨fun z=>by omega,by have:=r.dp;rw[show (1002+n) % 1000=n+2 by omega];exact this,by have:=r.un;rw[show (1002+n) % 1000=n+2 by omega];exact this⟩
theorem Rm.of {n k:Nat}{A:Around}(r:Room k A)(h:k % 1000=n+2):Rm n A:=⟨by have:=r.dp;rw[h] at this;exact this,by have:=r.un;rw[h] at this;exact this⟩
theorem jo (t:TopOk K mg Z T){n k:Nat}{f:Nat}{fn:Fn}{x:Str}{st:Stmt}{fa:Addr}{fd:FuncData}{ps:List Str}(hk:k % 1000=n+2)(hn:n < 900)(h1:T f=some fn)(h2:Fun K x x st fa fd)(h5:DefSc Z fn ps st)(hp:k < 1000∨fn.G.cm=false)
  (ih:∀ (A:Around),Rm n A->∀ f∈Z.fns,(A.handled=none∨f∈Z.pl)->∀ x,Z.name f=some x->FnC P w K mg base (CX1 P w) A (ag T n) (xp1 K) f x)
  (ih2:∀ (A:Around),Rm n A->∀ f∈Z.fio,A.handled=none->∀ x,Z.name f=some x->FnI P w K mg base (CX1 P w) A (ag T n) f x) :
  FnOk P w K mg base (CX1 P w) (k+1) fa fd ps (spF K (ag T (n+1)) (xp1 K) f ps):=by
 have hcall:∀ ds,ag T (n+1) f ds=eL (ag T n) fn ds:=fun ds=>by
  show (match T f with|some fn=>(match fn.io with|false=>eL (ag T n) fn ds|true=>ft (ag T n) fn ds)|none=>stk)=_
  rw[h1]
  show (match fn.io with|false=>eL (ag T n) fn ds|true=>ft (ag T n) fn ds)=_
  rw[h5.pl]
 obtain⟨oc,od,kV,doc,pm,an,cdv,ct,osl,rfl,lk,hcd⟩:=h2.ex
 refine ou lk hcd h5.sc (by omega) (fun vs H Q E h=>h.1) fun A outer s H vs Q E hr hsp=>?_
 obtain⟨hl,lt,F,ds,fok,m,q⟩:=hsp
 have hcm:fn.G.cm=true->A.handled=none:=fun z=>hp.elim (fun h=>hr.hd h) fun h=>by rw[h] at z;cases z
 refine⟨_,snB (Z:=Z) (cl:=ag T n) (ex:=xp1 K E H) (G:=fn.G) (B0:=⟨F,H,fun _ _=>False,fun _ _=>False,none⟩) ?_ rfl rfl lt (fun a f' hf' hpl' x' hx'=>ih ((A.deeper (envOfC x (bP st) s.heap.objs.size fa cdv)).mark (some (.ref a))) ⟨(Rm.of hr hk).dp,(Rm.of hr hk).un⟩ f' hf' (.inr hpl') x' hx') rfl rfl fok (fun _ _ z=>z) (fun _ _ z=>z) fn.body (cE st) h5.body,?_⟩
 ·refine⟨rfl,h5.sc.nd,fun z=>by show A.handled.isNone=true;rw[hcm z];rfl,h5.sc.kind,?_,fun _=>PassesOwn.leaving,fun i y hy=>h5.kd i y hy,fun i y hy=>h5.noD y (List.mem_of_getElem? hy),fun m hm y hy=>h5.gl m hm y hy,t.nam,fun _ _=>rfl,t.blt,t.cst,?_,fun f' hf' z x' hx'=>ih2 _ (Rm.of hr hk) f' hf' (hcm z) x' hx',t.xcv,t.xcl,t.xmt,fun n c x h=>(t.xrs n c x h).imp fun C ⟨fI,h⟩=>⟨fI,h.2.1,h.2.2.2.1⟩,?_,?_,?_,?_,?_⟩
  ·have:=hr.un
   show (A.deeper _).units+42 < cLine
   omega
  ·exact fun f' hf' hc x' hx'=>ih _ (Rm.of hr hk) f' hf' (hc.elim (fun z=>.inl (hcm z)) .inr) x' hx'
  ·intro hrs hcm' m c hm hex
   obtain⟨C,fI,h1,h2,h3,h4,h5⟩:=t.xrs m c.c c.x hm
   exact nP lt hr (by omega) (hcm hcm') h1 h3 h4 h5 fun dx H' xf=>hex C dx H' h2 xf
  ·exact fun _=>⟨rfl,rfl,lt,fun a f' hf' hpl' x' hx'=>ih ((A.deeper (envOfC x (bP st) s.heap.objs.size fa cdv)).mark (some (.ref a))) ⟨(Rm.of hr hk).dp,(Rm.of hr hk).un⟩ f' hf' (.inr hpl') x' hx',fun _ _ _ _ _ _ z=>z,fun c C H' hC C'' dx H'' hC' xf=>by rw[hC] at hC';cases hC';exact⟨rfl,xf⟩⟩
  ·exact⟨_,sM (ex:=xp1 K E H) lt fun c C dx H' hc hn xf=>hc C dx H' hn xf,fun c H' hc C dx H'' hn xf=>⟨c,C,hc,hn,rfl,xf⟩⟩
  ·exact fun outer H s E e s' x fr h=>jn x fr h
  ·exact fun H outer s e s'=>gV
 ·rw[hcall] at q
  obtain⟨gd,q⟩:=PO'.grd q
  have gd':(ers ds).length=fn.np:=of_decide_eq_true gd
  have hn':fn.G.N.length - vs.length=fn.G.N.length - fn.np:=by rw[m.length,<- dh ds,gd']
  refine⟨F,(ers ds).map some++List.replicate (fn.G.N.length - fn.np) none,[],⟨fok,?_,List.nodup_nil,.refl _,fun a ha=>absurd ha (by simp),fun a h=>h,fun a h=>.inl h,fun a xs h=>h.elim,fun a xs h=>h.elim,fun _ _ _ z=>by cases z⟩,(PO'.bnd q).mono fun r hr=>?_⟩
  ·show Rps K F H (start fn.G.N vs) _ []
   unfold start
   rw[hn']
   exact iI _ m
  ·cases r with
   | nx τ'=>exact fun σ' H' F' f' m'=>hr.ok .non H' F' [] ⟨m'.fok,m'.same,.non,List.nodup_nil,fun a ha=>absurd ha (by simp),m'.inn,m'.out⟩
   | rt d=>exact fun v H' F' fv o=>hr.ok v H' F' fv o
   | bk τ'=>exact hr.no.elim
   | ct τ'=>exact hr.no.elim
   | ri d ks es=>exact hr.no.elim
theorem j9 {F:Addr->Prop}{H:Hp}{a:Addr}{d:D}(hd:MRep K F H (.ref a) d [a]):∀ {vs:List V}{ds:List D} (n:Nat),HReps K F H vs ds->Rps K F H ((vs++[V.ref a]).map some++List.replicate n none) ((ers ds++[d]).map some++List.replicate n none) [a]
 | [],[],n,.nil=>by
  have h0:Rps K F H (List.replicate n none) (List.replicate n none) []:=jY (by simp)
  exact .some (f:=[a]) (g:=[]) hd h0
 | v::vs,d::ds,n,.cons h1 h2=>.some (f:=[]) h1.frozen (j9 hd n h2)
theorem iJ (o:Bool)(ks:List Key)(es:List D):∀ ds:List D,rZ (ds++[.dct o ks es])=ds++[.dct true ks es]
 | []=>rfl
 | [d]=>rfl
 | d::d'::ds=>by
  show d::rZ (d'::ds++[.dct o ks es])=_
  rw[iJ o ks es (d'::ds)]
  rfl
theorem snI {CX:CXT}{cl:Nat->List D->Res D}{xp:XK->Hp->EX->Prop}{X:Cx}{ex:EX->Prop}{G:Gm}(g:GOk Z CX cl xp X ex G)(B:Bs G.io){as:List IS}{ss:List Stmt}(h:c6 Z G as ss=true):PSs X ss (RSB X.K B ex (cb cl as)):=
 eZ (kZ as X ex G ss g h) fun Dn σ H ⟨F,τ,f,m,q⟩=>⟨B,F,τ,f,m,q⟩
theorem pX (t:TopOk K mg Z T){n k:Nat}{f:Nat}{fn:Fn}{x:Str}{st:Stmt}{fa:Addr}{fd:FuncData}{ps:List Str}(hk:k % 1000=n+2)(hn:n < 900)(h1:T f=some fn)(h2:Fun K x x st fa fd)(h5:DefSI Z fn ps st)(hp:k < 1000)
  (ih:∀ (A:Around),Rm n A->∀ f∈Z.fns,(A.handled=none∨f∈Z.pl)->∀ x,Z.name f=some x->FnC P w K mg base (CX1 P w) A (ag T n) (xp1 K) f x)
  (ih2:∀ (A:Around),Rm n A->∀ f∈Z.fio,A.handled=none->∀ x,Z.name f=some x->FnI P w K mg base (CX1 P w) A (ag T n) f x) :
  FnOk P w K mg base (CX1 P w) (k+1) fa fd ps (spI K (ag T (n+1)) f ps):=by
 have hGi:=h5.gio
 have hpos:=h5.pos
 have htr:=h5.ntr
 have hcall:∀ ds,ag T (n+1) f ds=ft (ag T n) fn ds:=fun ds=>by
  show (match T f with|some fn=>(match fn.io with|false=>eL (ag T n) fn ds|true=>ft (ag T n) fn ds)|none=>stk)=_
  rw[h1]
  show (match fn.io with|false=>eL (ag T n) fn ds|true=>ft (ag T n) fn ds)=_
  rw[h5.io]
 obtain⟨oc,od,kV,doc,pm,an,cdv,ct,osl,rfl,lk,hcd⟩:=h2.ex
 refine ou lk hcd h5.sc (by omega) (fun vs H Q E h=>h.1) fun A outer s H vs Q E hr hsp=>?_
 obtain⟨hl,a,F,ws,ds,kvs,es,rfl,AI,d,ks',es',hc,hlf,q⟩:=hsp
 have hcm:A.handled=none:=hr.hd hp
 refine⟨_,snI (Z:=Z) (CX:=CX1 P w) (cl:=ag T n) (xp:=xp1 K) (ex:=nox) (G:=fn.G) ?_ ⟨F,rm a H,fun _ _=>False,fun _ _=>False,some a⟩ h5.body,?_⟩
 ·refine⟨rfl,h5.sc.nd,fun z=>by show A.handled.isNone=true;rw[hcm];rfl,h5.sc.kind,?_,fun _=>PassesOwn.leaving,fun i y hy=>h5.kd i y hy,fun i y hy=>h5.noD y (List.mem_of_getElem? hy),fun m hm y hy=>h5.gl m hm y hy,t.nam,fun _ _=>rfl,t.blt,t.cst,fun f' hf' hc x' hx'=>ih _ (Rm.of hr hk) f' hf' (.inl hcm) x' hx',fun f' hf' z x' hx'=>ih2 _ (Rm.of hr hk) f' hf' hcm x' hx',t.xcv,t.xcl,t.xmt,fun n c x h=>(t.xrs n c x h).imp fun C ⟨fI,h⟩=>⟨fI,h.2.1,h.2.2.2.1⟩,fun _ _ _ _ _ hex=>hex.elim,(fun z=>by rw[htr] at z;cases z),⟨fun _ _ _=>False,fun pins σ H s e s' _ h=>(gV h).elim,fun c H z=>z.elim⟩,fun outer H s E e s' x fr h=>jn x fr h,fun H outer s e s'=>gV⟩
  have:=hr.un
  show (A.deeper _).units+42 < cLine
  omega
 ·rw[hcall] at hc
  unfold ft at hc
  obtain⟨gd,hc⟩:=kR hc
  have gd':(ers ds++[D.dct false (kvs.map (·.1)) es]).length=fn.np:=of_decide_eq_true gd
  rw[iJ] at hc
  obtain⟨r,hr1,hc⟩:=dC hc
  have hlw:ws.length=fn.np - 1:=by
   rw[List.length_append,dh] at gd'
   rw[AI.ws.length,<- gd']
   simp
  have hn':fn.G.N.length - (ws++[V.ref a]).length=fn.G.N.length - fn.np:=by
   rw[List.length_append,hlw]
   show fn.G.N.length - (fn.np - 1+1)=_
   rw[Nat.sub_add_cancel hpos]
  have m0:MRep K F H (.ref a) (.dct true (kvs.map (·.1)) es) [a]:=.dctO AI.nF AI.at_ rfl (HReps.free AI.lf AI.vs)
  refine⟨F,(ers ds++[D.dct true (kvs.map (·.1)) es]).map some++List.replicate (fn.G.N.length - fn.np) none,[a],⟨AI.fok,?_,by simp,yN,fun b hb=>by rw[List.mem_singleton.mp hb];exact l6,fun b h=>h,fun b h=>.inl h,fun b xs h=>h.elim,fun b xs h=>h.elim,fun j b e1 e2=>?_⟩,?_⟩
  ·show Rps K F H (start fn.G.N (ws++[.ref a])) _ [a]
   unfold start
   rw[hn']
   exact j9 m0 _ AI.ws
  ·rw[hGi] at e1
   cases e1
   cases e2
   show (start fn.G.N (ws++[.ref a]))[fn.np - 1]? = _
   unfold start
   rw[<- hlw,List.map_append,List.append_assoc,List.getElem?_append_right (by simp)]
   simp
  ·rw[hr1]
   cases r with
   | ri d1 ks1 es1=>
    cases hc
    intro v H'' F'' fv kvs1 l hN ot hF hfv hH hks hvs
    have e:=hN a rfl
    subst e
    exact q v H'' F'' fv kvs1 ⟨ot,hF,hfv,hH,hks,hvs⟩
   | nx _=>cases hc
   | bk _=>cases hc
   | ct _=>cases hc
   | rt _=>cases hc
theorem gW (t:TopOk K mg Z T):∀ (n:Nat),n < 900->(∀ (A:Around),Rm n A->∀ f∈Z.fns,(A.handled=none∨f∈Z.pl)->∀ x,Z.name f=some x->FnC P w K mg base (CX1 P w) A (ag T n) (xp1 K) f x)/\
  ∀ (A:Around),Rm n A->∀ f∈Z.fio,A.handled=none->∀ x,Z.name f=some x->FnI P w K mg base (CX1 P w) A (ag T n) f x
 | 0,h9=>by
  refine⟨fun A hr f hf hc x hx=>?_,fun A hr f hf hc x hx=>?_⟩
  ·obtain⟨fn,st,fa,fd,ps,h1,h2,h3,h4,h5⟩:=(t.fns f hf x hx).ex
   have no:∀ vs H Q E,¬ spF K (ag T 0) (xp1 K) f ps vs H Q E:=fun vs H Q E ⟨_,_,F,ds,_,_,h⟩=>h
   exact⟨1002+0,fa,fd,ps,h3,h2.kp,h4,⟨fun vs H Q E h=>h.1,fun A outer s H args us vs Q E _ _ _ _ h=>(no _ _ _ _ h).elim⟩,hr.roomp h9,fun ex ds k h=>h.elim⟩
  ·obtain⟨fn,st,fa,fd,ps,h1,h2,h3,h4,h5⟩:=(t.fio f hf x hx).ex
   have no:∀ vs H Q E,¬ spI K (ag T 0) f ps vs H Q E:=fun vs H Q E ⟨_,a,F,ws,ds,kvs,es,_,_,d,ks',es',h,_⟩=>by cases h
   exact⟨0+2,fa,fd,ps,h3,h2.kp,h4,⟨fun vs H Q E h=>h.1,fun A outer s H args us vs Q E _ _ _ _ h=>(no _ _ _ _ h).elim⟩,hr.room h9 hc,fun ds r h=>by cases h⟩
 | n+1,h9=>by
  obtain⟨ih,ih2⟩:=gW t n (by omega)
  refine⟨fun A hr f hf hc x hx=>?_,fun A hr f hf hc x hx=>?_⟩
  ·obtain⟨fn,st,fa,fd,ps,h1,h2,h3,h4,h5⟩:=(t.fns f hf x hx).ex
   have hlen:∀ (ex:EX->Prop) ds (k:D->Prop),PO' ex (ag T (n+1) f ds) k->ds.length=ps.length:=fun ex ds k h=>by
    have hcall:ag T (n+1) f ds=eL (ag T n) fn ds:=by
     show (match T f with|some fn=>(match fn.io with|false=>eL (ag T n) fn ds|true=>ft (ag T n) fn ds)|none=>stk)=_
     rw[h1]
     show (match fn.io with|false=>eL (ag T n) fn ds|true=>ft (ag T n) fn ds)=_
     rw[h5.pl]
    rw[hcall] at h
    obtain⟨gd,_⟩:=PO'.grd h
    rw[of_decide_eq_true gd,h5.np]
   by_cases hpl:f∈Z.pl
   ·exact⟨1002+n+1,fa,fd,ps,h3,h2.kp,h4,jo t (k:=1002+n) (n:=n) (by omega) (by omega) h1 h2 h5 (.inr (t.plc f hpl fn h1)) ih ih2,hr.roomp h9,hlen⟩
   ·exact⟨n+2+1,fa,fd,ps,h3,h2.kp,h4,jo t (k:=n+2) (n:=n) (by omega) (by omega) h1 h2 h5 (.inl (by omega)) ih ih2,hr.room h9 (hc.elim id fun z=>absurd z hpl),hlen⟩
  ·obtain⟨fn,st,fa,fd,ps,h1,h2,h3,h4,h5⟩:=(t.fio f hf x hx).ex
   refine⟨n+2+1,fa,fd,ps,h3,h2.kp,h4,pX t (k:=n+2) (n:=n) (by omega) (by omega) h1 h2 h5 (by omega) ih ih2,hr.room h9 hc,fun ds r h=>?_⟩
   have hcall:ag T (n+1) f ds=ft (ag T n) fn ds:=by
    show (match T f with|some fn=>(match fn.io with|false=>eL (ag T n) fn ds|true=>ft (ag T n) fn ds)|none=>stk)=_
    rw[h1]
    show (match fn.io with|false=>eL (ag T n) fn ds|true=>ft (ag T n) fn ds)=_
    rw[h5.io]
   rw[hcall] at h
   obtain⟨gd,_⟩:=kR h
   rw[of_decide_eq_true gd,h5.np]
theorem sO (t:TopOk K mg Z T)(n:Nat)(hn:n < 900):∀ (A:Around),Rm n A->∀ f∈Z.fns,(A.handled=none∨f∈Z.pl)->∀ x,Z.name f=some x->FnC P w K mg base (CX1 P w) A (ag T n) (xp1 K) f x:=(gW t n hn).1
end
section
variable {P:Program}{w:World}{K:PySem.W.Frag}{mg:Str->Option Value}{base:Heap}{Z:Sg}{T:Tb}
theorem CVk.fn {mg:Str->Option Value}{x:Str}{v v':V}(h:CVk mg x v)(h':CVk mg x v'):v=v':=by
 rcases h with ⟨C,rfl,h1⟩|⟨T,rfl,h1,h2⟩<;>rcases h' with ⟨C',rfl,k1⟩|⟨T',rfl,k1,k2⟩
 ·rw[h1] at k1;cases k1;rfl
 ·rw[h1] at k1;cases k1
 ·rw[h1] at k1;cases k1
 ·rw[h2] at k2;cases k2;rfl
def spL (K:PySem.W.Frag)(cl:Nat->List D->Res D)(f:Nat)(ps:List Str):Sp:=fun vs H Q E=>vs.length=ps.length/\∃ F ds,FOk F H/\HReps K F H vs ds/\
 PO' nox (cl f (ers ds)) fun d=>∀ v H' F' fv,Out K F H F' H' v d fv->Q v H'
theorem pY {cl:Nat->List D->Res D}{k f:Nat}{fa:Addr}{fd:FuncData}{ps:List Str}(F:FnOk P w K mg base (CX1 P w) k fa fd ps (spF K cl (xp1 K) f ps)):FnOk P w K mg base (CX1 P w) k fa fd ps (spL K cl f ps):=by
 refine⟨fun vs H Q E h=>h.1,fun A outer s H args us vs Q E hr e0 bd r hsp=>?_⟩
 obtain⟨hl,Fc,ds,fok,m,q⟩:=hsp
 have e1:Env0 P w K mg base A outer s (cg s.heap H):=⟨e0.frames,e0.mod,fun b o e=>⟨(e0.bs b o e).1,du (e0.bs b o e).2⟩,e0.bsz,e0.funs,fun b hb=>du (e0.frf b hb),o8 e0.hok,e0.bare⟩
 have hq:PO' (xp1 K E (cg s.heap H)) (cl f (ers ds)) fun d=>∀ v H' F' fv,Out K Fc H F' H' v d fv->Q v H':=by
  cases z:cl f (ers ds) with
  | ok d=>rw[z] at q;exact q
  | error er=>
   rw[z] at q
   cases er with
   | stuck=>exact q.no.elim
   | exc c=>exact False.elim q
 have hs:spF K cl (xp1 K) f ps vs (cg s.heap H) (fun v H'=>Pers s.heap (cg s.heap H) H'->Q v (ei H H')) E:=
  ⟨hl,kT _ _,_,ds,fun a h=>h.2,je e0.hok m,hq.mono fun d hd v H' F' fv o p=>hd v _ _ fv (jf e0.hok fok p o)⟩
 refine codeAny_mono (F.run A outer s (cg s.heap H) args us vs _ E hr e1 bd r hs) fun r' s' hq=>?_
 cases r' with
 | error e=>exact jn e0.hok e0.frf hq
 | ok fl=>
  cases fl with
  | ret u=>
   obtain⟨v,H',a1,a2,a3,a4,a5,a6⟩:=hq
   exact⟨v,ei H H',a1,a2,jc e0.hok a3,jb e0.hok a4 (dJ a3) (fs:=frs outer) (fun b o _ e n f=>a3.keep b o e n f (by simp)) e0.frf,a5,a6 (dJ a3)⟩
  | next=>exact hq
  | brk=>exact hq
  | cont=>exact hq
theorem wC (t:TopOk K mg Z T)(n:Nat)(hn:n < 900){f:Nat}{fn:Fn}{x:Str}{st:Stmt}{fa:Addr}{fd:FuncData}{ps:List Str}(h1:T f=some fn)(h2:Fun K x x st fa fd)(h5:DefSc Z fn ps st):FnOk P w K mg base (CX1 P w) (n+2+1) fa fd ps (spL K (ag T (n+1)) f ps):=
 pY (jo t (k:=n+2) (n:=n) (by omega) hn h1 h2 h5 (.inl (by omega)) (sO t n hn) (gW t n hn).2)
theorem wF {f n:Nat}{x:Str}{a:Addr}{H:Hp}{ns:List Int}(hS:Ls K H a (ns.map V.int))(hl:ag T n f [.lst false (ns.map .int)]=.ok (.bl true)) :
  spL K (ag T n) f [x] [.ref a] H (fun v _=>v=.bl true) fun _ _ _=>False:=by
 have m:HReps K (fun a=>H a≠none) H [.ref a] [.lst false (ns.map .int)]:=by
  refine .cons ?_ .nil
  rcases hS with hS|hS
  ·exact .lst hS.some hS (HReps.ofInts ns)
  ·exact .lstK hS (HReps.ofInts ns)
 refine⟨rfl,fun a=>H a≠none,[.lst false (ns.map .int)],fun a h=>h,m,?_⟩
 have he:ers [.lst false (ns.map .int)]=[D.lst false (ns.map .int)]:=by
  rw[ers,ers,er,cO,List.map_map]
  rfl
 rw[he,hl]
 intro v H' F' fv o
 cases o.rep
 rfl
theorem pZ {l:PySem.W.OpenLaw}{q:Program}{loose:List Str}{XP:(Str->Option Value)->Heap->Prop}{YP:World->Heap->Prop}{d:DefRec}{K:Params->PySem.W.Frag}{T:Tb}{n f:Nat}{x:Str}(hn:l.most=some 63)(hdf:d.params.defaults=[])(hr:Room (n+2+1) callerA)
  (hY:∀ (w:World) (h:Heap),YP w h->(K w.params).In h)
  (F:∀ (w:World) (mg:Str->Option Value) (fa:Addr) (h:Heap),(K w.params).In h->h.Ns mainGlobals mg->mg d.name=some (.ref fa)->
   ∃ fd:FuncData,(∀ (s:Shared) (u:Value),BindsTo s fd ⟨[u],[]⟩ [(x,u)])/\∀ base:Heap,(K w.params).In base->base.Ns mainGlobals mg->FnOk l.prog w (K w.params) mg base (CX1 l.prog w) (n+2+1) fa fd [x] (spL (K w.params) (ag T (n+1)) f [x]))
  (hl:∀ ns:List Int,ns.length<=63->ag T (n+1) f [.lst false (ns.map .int)]=.ok (.bl true)) :
  PySem.W.WalkO q loose XP YP l.row.toRowW d [] (fun f vs=>PySem.call f vs):=
 L2.rM (n:=63) (k:=n+2+1) (x:=x) (CX:=fun w=>CX1 l.prog w) (sp:=fun w=>spL (K w.params) (ag T (n+1)) f [x]) hn (by decide) hdf hr hY F (fun w H a ns h1 _ hS=>wF hS (hl ns h1)) fun _ _ _ _ _ z=>gV z
end
namespace Ev
section
variable {α β:Type}{cl:Nat->List D->Res D}{τ:Ev}{mv:Bool}
theorem p4 {a:α}{f:α->Res β}:bnd (.ok a) f=f a:=rfl
theorem tX {x:Res α}:grd true x=x:=rfl
theorem r_c {d:D}:evR cl (.c d) τ=.ok d:=rfl
theorem r_g {n:Nat}{d:D}:evR cl (.g n d) τ=.ok d:=rfl
theorem r_v {i:Nat}:evR cl (.v i) τ=(match bo τ i with|some d=>.ok d|none=>stk):=rfl
noncomputable def yR (cl:Nat->List D->Res D)(op:BOp)(b:IR)(τ:Ev)(x:D):Res D:=bnd (evR cl b τ) (opB op x)
theorem aF {op:BOp}{b:IR}{x:D}:yR cl op b τ x=bnd (evR cl b τ) (opB op x):=rfl
theorem tY {op:BOp}{a b:IR}:evR cl (.bin op a b) τ=bnd (evR cl a τ) (yR cl op b τ):=rfl
noncomputable def blK (r:Bool):Res D:=.ok (.bl r)
theorem bp {r:Bool}:blK r=.ok (.bl r):=rfl
noncomputable def ka (op:COp)(x y:D):Res D:=bnd (opC op x y) blK
theorem ah {op:COp}{x y:D}:ka op x y=bnd (opC op x y) blK:=rfl
noncomputable def yS (cl:Nat->List D->Res D)(op:COp)(b:IR)(τ:Ev)(x:D):Res D:=bnd (evR cl b τ) (ka op x)
theorem aG {op:COp}{b:IR}{x:D}:yS cl op b τ x=bnd (evR cl b τ) (ka op x):=rfl
theorem tZ {op:COp}{a b:IR}:evR cl (.cmp op a b) τ=bnd (evR cl a τ) (yS cl op b τ):=rfl
noncomputable def wG (cl:Nat->List D->Res D)(op':COp)(c:IR)(τ:Ev)(y:D)(r:Bool):Res D:=if r=true then bnd (evR cl c τ) (ka op' y) else .ok (.bl false)
theorem aH {op':COp}{c:IR}{y:D}{r:Bool}:wG cl op' c τ y r=if r=true then bnd (evR cl c τ) (ka op' y) else .ok (.bl false):=rfl
noncomputable def wH (cl:Nat->List D->Res D)(op op':COp)(c:IR)(τ:Ev)(x y:D):Res D:=bnd (opC op x y) (wG cl op' c τ y)
theorem aI {op op':COp}{c:IR}{x y:D}:wH cl op op' c τ x y=bnd (opC op x y) (wG cl op' c τ y):=rfl
noncomputable def chK (cl:Nat->List D->Res D)(op op':COp)(b c:IR)(τ:Ev)(x:D):Res D:=bnd (evR cl b τ) (wH cl op op' c τ x)
theorem bq {op op':COp}{b c:IR}{x:D}:chK cl op op' b c τ x=bnd (evR cl b τ) (wH cl op op' c τ x):=rfl
theorem l8 {op op':COp}{a b c:IR}:evR cl (.chain op op' a b c) τ=bnd (evR cl a τ) (chK cl op op' b c τ):=rfl
noncomputable def p5 (cl:Nat->List D->Res D)(b:IR)(τ:Ev)(x:D)(r:Bool):Res D:=if r=true then evR cl b τ else .ok x
theorem ai {b:IR}{x:D}{r:Bool}:p5 cl b τ x r=if r=true then evR cl b τ else .ok x:=rfl
noncomputable def yT (cl:Nat->List D->Res D)(b:IR)(τ:Ev)(x:D):Res D:=bnd (cF x) (p5 cl b τ x)
theorem aJ {b:IR}{x:D}:yT cl b τ x=bnd (cF x) (p5 cl b τ x):=rfl
theorem t4 {a b:IR}:evR cl (.and_ a b) τ=bnd (evR cl a τ) (yT cl b τ):=rfl
noncomputable def wI (cl:Nat->List D->Res D)(b:IR)(τ:Ev)(x:D)(r:Bool):Res D:=if r=true then .ok x else evR cl b τ
theorem aK {b:IR}{x:D}{r:Bool}:wI cl b τ x r=if r=true then .ok x else evR cl b τ:=rfl
noncomputable def orK (cl:Nat->List D->Res D)(b:IR)(τ:Ev)(x:D):Res D:=bnd (cF x) (wI cl b τ x)
theorem br {b:IR}{x:D}:orK cl b τ x=bnd (cF x) (wI cl b τ x):=rfl
theorem yU {a b:IR}:evR cl (.or_ a b) τ=bnd (evR cl a τ) (orK cl b τ):=rfl
noncomputable def p6 (r:Bool):Res D:=.ok (.bl !r)
theorem aj {r:Bool}:p6 r=.ok (.bl !r):=rfl
noncomputable def yV (x:D):Res D:=bnd (cF x) p6
theorem aL {x:D}:yV x=bnd (cF x) p6:=rfl
theorem t5 {a:IR}:evR cl (.not_ a) τ=bnd (evR cl a τ) yV:=rfl
noncomputable def tupK (ds:List D):Res D:=grd (cQ ds.length) (.ok (.tup ds))
theorem aM {ds:List D}:tupK ds=grd (cQ ds.length) (.ok (.tup ds)):=rfl
theorem t6 {es:List IR}:evR cl (.tup es) τ=bnd (cG cl es τ) tupK:=rfl
noncomputable def lstK (ds:List D):Res D:=grd (cQ ds.length) (.ok (.lst true ds))
theorem aO {ds:List D}:lstK ds=grd (cQ ds.length) (.ok (.lst true ds)):=rfl
theorem t7 {es:List IR}:evR cl (.lst es) τ=bnd (cG cl es τ) lstK:=rfl
noncomputable def yW (cl:Nat->List D->Res D)(i:IR)(τ:Ev)(x:D):Res D:=bnd (evR cl i τ) (cX x)
theorem aP {i:IR}{x:D}:yW cl i τ x=bnd (evR cl i τ) (cX x):=rfl
theorem t9 {a i:IR}:evR cl (.idx a i) τ=bnd (evR cl a τ) (yW cl i τ):=rfl
noncomputable def wJ (cl:Nat->List D->Res D)(hi:Option IR)(τ:Ev)(x:D)(l:Option Int):Res D:=bnd (i6 cl hi τ) (jH x l)
theorem aQ {hi:Option IR}{x:D}{l:Option Int}:wJ cl hi τ x l=bnd (i6 cl hi τ) (jH x l):=rfl
noncomputable def slK (cl:Nat->List D->Res D)(lo hi:Option IR)(τ:Ev)(x:D):Res D:=bnd (i6 cl lo τ) (wJ cl hi τ x)
theorem bt {lo hi:Option IR}{x:D}:slK cl lo hi τ x=bnd (i6 cl lo τ) (wJ cl hi τ x):=rfl
theorem yX {a:IR}{lo hi:Option IR}:evR cl (.sl a lo hi) τ=bnd (evR cl a τ) (slK cl lo hi τ):=rfl
noncomputable def ua (cl:Nat->List D->Res D)(f:Nat)(ds:List D):Res D:=cl f (ers ds)
theorem ak {f:Nat}{ds:List D}:ua cl f ds=cl f (ers ds):=rfl
theorem p7 {f:Nat}{es:List IR}:evR cl (.call f es) τ=bnd (cG cl es τ) (ua cl f):=rfl
theorem yY {f:Bi}{es:List IR}:evR cl (.bi f es) τ=bnd (cG cl es τ) (dG f):=rfl
noncomputable def yZ (k:Kd)(x:D):Res D:=grd (ia x) (.ok (.bl (dW k x)))
theorem aR {k:Kd}{x:D}:yZ k x=grd (ia x) (.ok (.bl (dW k x))):=rfl
theorem y3 {x:Str}:ia (.str x)=true:=rfl
theorem y9 {ds:List D}:ia (.tup ds)=true:=rfl
theorem za {o:Bool}{ds:List D}:ia (.lst o ds)=true:=rfl
noncomputable def ub (cl:Nat->List D->Res D)(k:IR)(τ:Ev)(x:D):Res D:=bnd (evR cl k τ) (jK x)
theorem ao {k:IR}{x:D}:ub cl k τ x=bnd (evR cl k τ) (jK x):=rfl
theorem p8 {a k:IR}:evR cl (.dget a k) τ=bnd (evR cl a τ) (ub cl k τ):=rfl
theorem uc {a:IR}{x:Str}{cs:List Str}:evR cl (.fld a x cs) τ=bnd (evR cl a τ) (oS x cs):=rfl
theorem bu {x:Str}{cs:List Str}{c:EX}:oS x cs (.exc c)=grd (c.x == x&&cs.contains c.c) (.ok (.tup (c.ts.map .str))):=rfl
noncomputable def ud (cl:Nat->List D->Res D)(e:IR)(τ:Ev)(x:D):Res D:=grd (kP x) (bnd (evR cl e τ) (jL x))
theorem aq {e:IR}{o:Bool}{ds:List D}:ud cl e τ (.lst o ds)=bnd (evR cl e τ) (jL (.lst o ds)):=rfl
theorem p9 {a e:IR}:evR cl (.lidx a e) τ=bnd (evR cl a τ) (ud cl e τ):=rfl
theorem qa {a:IR}:evR cl (.lset a) τ=bnd (evR cl a τ) lL:=rfl
theorem ue {a:IR}{k:Kd}:evR cl (.isi a k) τ=bnd (evR cl a τ) (yZ k):=rfl
noncomputable def wL (ds:List D):Res D:=.ok (.lst true ds)
theorem aT {ds:List D}:wL ds=.ok (.lst true ds):=rfl
noncomputable def uf (cl:Nat->List D->Res D)(G:Gm)(fr:List Nat)(T:Tg)(I:List IR)(E:IR)(τ:Ev)(its:List D):Res D:=grd (dN its.length) (bnd (noX (cy (cR cl T I E (blk G fr τ)) its)) wL)
theorem ar {G:Gm}{fr:List Nat}{T:Tg}{I:List IR}{E:IR}{its:List D}:uf cl G fr T I E τ its=grd (dN its.length) (bnd (noX (cy (cR cl T I E (blk G fr τ)) its)) wL):=rfl
theorem qb {G:Gm}{fr:List Nat}{T:Tg}{s:Sr}{I:List IR}{E:IR}:evR cl (.comp G fr T s I E) τ=bnd (eV cl s τ) (uf cl G fr T I E τ):=rfl
theorem zb:cG cl [] τ=.ok []:=rfl
noncomputable def qc (d:D)(ds:List D):Res (List D):=.ok (d::ds)
theorem au {d:D}{ds:List D}:qc d ds=.ok (d::ds):=rfl
noncomputable def rsK (cl:Nat->List D->Res D)(es:List IR)(τ:Ev)(d:D):Res (List D):=bnd (cG cl es τ) (qc d)
theorem bw {es:List IR}{d:D}:rsK cl es τ d=bnd (cG cl es τ) (qc d):=rfl
theorem ze {e:IR}{es:List IR}:cG cl (e::es) τ=bnd (evR cl e τ) (rsK cl es τ):=rfl
noncomputable def zg:D->Res (Option Int)
 | .int i=>.ok (some i)
 | _=>stk
theorem qd {i:Int}:zg (.int i)=.ok (some i):=rfl
theorem zh:i6 cl none τ=.ok none:=rfl
theorem zi {e:IR}:i6 cl (some e) τ=bnd (evR cl e τ) zg:=rfl
theorem zj:eU cl [] τ=.ok true:=rfl
noncomputable def tsK (cl:Nat->List D->Res D)(es:List IR)(τ:Ev)(r:Bool):Res Bool:=if r=true then eU cl es τ else .ok false
theorem bx {es:List IR}{r:Bool}:tsK cl es τ r=if r=true then eU cl es τ else .ok false:=rfl
theorem zk {e:IR}{es:List IR}:eU cl (e::es) τ=bnd (bnd (evR cl e τ) cF) (tsK cl es τ):=rfl
noncomputable def ug:D->Res (List D)
 | .int i=>grd (fY i) (.ok (dy 0 i))
 | _=>stk
theorem l9 {i:Int}:ug (.int i)=grd (fY i) (.ok (dy 0 i)):=rfl
theorem zl {n:IR}:eV cl (.rng1 n) τ=bnd (evR cl n τ) ug:=rfl
noncomputable def zm (cl:Nat->List D->Res D)(τ:Ev)(b:IR)(x:D):Res (List D):=bnd (evR cl b τ) fun y=>rY x y
noncomputable def qe (x y:D):Res (List D):=rY x y
theorem aU {b:IR}{x:D}:zm cl τ b x=bnd (evR cl b τ) (qe x):=rfl
theorem kb {o o':Bool}{ds es:List D}:qe (.lst o ds) (.lst o' es)=.ok (fM ds es):=rfl
theorem kc {ds es:List D}:qe (.tup ds) (.tup es)=.ok (fM ds es):=rfl
theorem uh {a b:IR}:eV cl (.zip a b) τ=bnd (evR cl a τ) (zm cl τ b):=rfl
theorem ui {e:IR}:eV cl (.val e) τ=bnd (evR cl e τ) fL:=rfl
theorem zo {o:Bool}{ds:List D}:fL (.lst o ds)=.ok ds:=rfl
theorem zp {ds:List D}:fL (.tup ds)=.ok ds:=rfl
theorem zq {x:Str}:fL (.str x)=grd (cQ x.length) (.ok (dm x)):=rfl
theorem t_t {t:IR}:evT cl t τ=bnd (evR cl t τ) cF:=rfl
theorem o_v {i:Nat}:evO cl mv (.v i) τ=(match bo τ i with|some d=>if mv=true then .ok (d,τ.set i none) else .ok (er d,τ.set i (some (er d)))|none=>stk):=rfl
noncomputable def uj (p:List D×Ev):Res (D×Ev):=grd (cQ p.1.length) (.ok (.tup p.1,p.2))
theorem av {p:List D×Ev}:uj p=grd (cQ p.1.length) (.ok (.tup p.1,p.2)):=rfl
theorem o_tup {es:List IR}:evO cl mv (.tup es) τ=bnd (ic cl mv es τ) uj:=rfl
noncomputable def uk (p:List D×Ev):Res (D×Ev):=grd (cQ p.1.length) (.ok (.lst true p.1,p.2))
theorem aw {p:List D×Ev}:uk p=grd (cQ p.1.length) (.ok (.lst true p.1,p.2)):=rfl
theorem o_lst {es:List IR}:evO cl mv (.lst es) τ=bnd (ic cl mv es τ) uk:=rfl
noncomputable def jq (es:List IR)(τ:Ev)(d:D):Res (D×Ev):=if b9 d=true then .ok (d,τ) else .ok (d,frz (bQ es) τ)
theorem aa {es:List IR}{d:D}:jq es τ d=if b9 d=true then .ok (d,τ) else .ok (d,frz (bQ es) τ):=rfl
noncomputable def qf (cl:Nat->List D->Res D)(f:Nat)(es:List IR)(τ:Ev)(ds:List D):Res (D×Ev):=bnd (cl f (ers ds)) (jq es τ)
theorem af {f:Nat}{es:List IR}{ds:List D}:qf cl f es τ ds=bnd (cl f (ers ds)) (jq es τ):=rfl
theorem o_call {f:Nat}{es:List IR}:evO cl mv (.call f es) τ=bnd (cG cl es τ) (qf cl f es τ):=rfl
noncomputable def eB (e:IR)(τ:Ev)(d:D):Res (D×Ev):=.ok (cp e d τ)
theorem ay {e:IR}{d:D}:eB e τ d=.ok (cp e d τ):=rfl
theorem o_c {d:D}:evO cl mv (.c d) τ=bnd (evR cl (.c d) τ) (eB (.c d) τ):=rfl
theorem um {op:BOp}{a b:IR}:evO cl mv (.bin op a b) τ=bnd (evR cl (.bin op a b) τ) (eB (.bin op a b) τ):=rfl
theorem uo {op:COp}{a b:IR}:evO cl mv (.cmp op a b) τ=bnd (evR cl (.cmp op a b) τ) (eB (.cmp op a b) τ):=rfl
theorem uq {a b:IR}:evO cl mv (.and_ a b) τ=bnd (evR cl (.and_ a b) τ) (eB (.and_ a b) τ):=rfl
theorem ur {a i:IR}:evO cl mv (.idx a i) τ=bnd (evR cl (.idx a i) τ) (eB (.idx a i) τ):=rfl
theorem zr {a:IR}{lo hi:Option IR}:evO cl mv (.sl a lo hi) τ=bnd (evR cl (.sl a lo hi) τ) (eB (.sl a lo hi) τ):=rfl
theorem zt {f:Bi}{es:List IR}:evO cl mv (.bi f es) τ=bnd (evR cl (.bi f es) τ) (eB (.bi f es) τ):=rfl
theorem o_dnew:evO cl mv .dnew τ=.ok (.dct true [] [],τ):=rfl
theorem uu {a:IR}{x:Str}{cs:List Str}:evO cl mv (.fld a x cs) τ=bnd (evR cl (.fld a x cs) τ) (eB (.fld a x cs) τ):=rfl
theorem qg {G:Gm}{fr:List Nat}{T:Tg}{s:Sr}{I:List IR}{E:IR}:evO cl mv (.comp G fr T s I E) τ=bnd (evR cl (.comp G fr T s I E) τ) (eB (.comp G fr T s I E) τ):=rfl
theorem zu:ic cl mv [] τ=.ok ([],τ):=rfl
noncomputable def wM (d:D)(q:List D×Ev):Res (List D×Ev):=.ok (d::q.1,q.2)
theorem aV {d:D}{q:List D×Ev}:wM d q=.ok (d::q.1,q.2):=rfl
noncomputable def osK (cl:Nat->List D->Res D)(mv:Bool)(es:List IR)(p:D×Ev):Res (List D×Ev):=bnd (ic cl mv es p.2) (wM p.1)
theorem bz {es:List IR}{p:D×Ev}:osK cl mv es p=bnd (ic cl mv es p.2) (wM p.1):=rfl
theorem zv {e:IR}{es:List IR}:ic cl mv (e::es) τ=bnd (evO cl mv e τ) (osK cl mv es):=rfl
noncomputable def smK (d:D):Res (Option D):=.ok (some d)
theorem bA {d:D}:smK d=.ok (some d):=rfl
noncomputable def wN (cl:Nat->List D->Res D)(E:IR)(τ:Ev)(r:Bool):Res (Option D):=if r=true then bnd (evR cl E τ) smK else .ok none
theorem aW {E:IR}{r:Bool}:wN cl E τ r=if r=true then bnd (evR cl E τ) smK else .ok none:=rfl
noncomputable def bdK (cl:Nat->List D->Res D)(I:List IR)(E:IR)(τ:Ev):Res (Option D):=bnd (eU cl I τ) (wN cl E τ)
theorem bB {I:List IR}{E:IR}:bdK cl I E τ=bnd (eU cl I τ) (wN cl E τ):=rfl
theorem ma {T:Tg}{I:List IR}{E:IR}{x:D}:cR cl T I E τ x=bnd (dz T x τ) (bdK cl I E):=rfl
theorem qh {G:Gm}{fr:List Nat}:blk G fr τ=fr.map (bo τ)++List.replicate (G.N.length - fr.length) none:=rfl
theorem k_i {e:IR}{i:Int}:cp e (.int i) τ=(.int i,τ):=rfl
theorem k_s {e:IR}{x:Str}:cp e (.str x) τ=(.str x,τ):=rfl
theorem k_b {e:IR}{b:Bool}:cp e (.bl b) τ=(.bl b,τ):=rfl
theorem k_n {e:IR}:cp e .non τ=(.non,τ):=rfl
noncomputable def nxK (τ':Ev):Res Fl:=.ok (.nx τ')
theorem bC:nxK τ=.ok (.nx τ):=rfl
noncomputable def zw (tg:Tg)(p:D×Ev):Res Fl:=bnd (dz tg p.1 p.2) nxK
theorem aX {tg:Tg}{p:D×Ev}:zw tg p=bnd (dz tg p.1 p.2) nxK:=rfl
theorem st_asg {tg:Tg}{e:IR}:evS cl (.asg tg e) τ=bnd (evO cl false e τ) (zw tg):=rfl
noncomputable def wO (i:Nat)(p:D×Ev):Option D->Res Fl
 | some (.lst true ds)=>grd (dN ds.length) (.ok (.nx (p.2.set i (some (.lst true (ds++[p.1]))))))
 | _=>stk
noncomputable def wQ (i:Nat)(p:D×Ev):Res Fl:=wO i p (bo p.2 i)
theorem aY {i:Nat}{p:D×Ev}:wQ i p=wO i p (bo p.2 i):=rfl
noncomputable def zx (cl:Nat->List D->Res D)(i:Nat)(e:IR)(τ:Ev):Option D->Res Fl
 | some (.lst _ _)=>bnd (evO cl false e τ) (wQ i)
 | _=>stk
theorem qi {i:Nat}{e:IR}{o:Bool}{ds:List D}:zx cl i e τ (some (.lst o ds))=bnd (evO cl false e τ) (wQ i):=rfl
theorem qj {i:Nat}{p:D×Ev}{ds:List D}:wO i p (some (.lst true ds))=grd (dN ds.length) (.ok (.nx (p.2.set i (some (.lst true (ds++[p.1])))))):=rfl
noncomputable def sP (i:Nat)(p:D×Ev)(z:Int):Option D->Res Fl
 | some (.lst true ds)=>grd (decide (0<=z/\z.toNat<=ds.length)&&dN ds.length) (.ok (.nx (p.2.set i (some (.lst true (ds.take z.toNat++p.1::ds.drop z.toNat))))))
 | _=>stk
theorem ql {i:Nat}{p:D×Ev}{z:Int}{ds:List D}:sP i p z (some (.lst true ds))=grd (decide (0<=z/\z.toNat<=ds.length)&&dN ds.length) (.ok (.nx (p.2.set i (some (.lst true (ds.take z.toNat++p.1::ds.drop z.toNat)))))):=rfl
noncomputable def wR (i:Nat):D->D×Ev->Res Fl
 | .int z,p=>sP i p z (bo p.2 i)
 | _,_=>stk
theorem qm {i:Nat}{z:Int}{p:D×Ev}:wR i (.int z) p=sP i p z (bo p.2 i):=rfl
noncomputable def wU (cl:Nat->List D->Res D)(i:Nat)(e:IR)(τ:Ev)(y:D):Res Fl:=bnd (evO cl false e τ) (wR i y)
theorem aZ {i:Nat}{e:IR}{y:D}:wU cl i e τ y=bnd (evO cl false e τ) (wR i y):=rfl
noncomputable def zA (cl:Nat->List D->Res D)(i:Nat)(k e:IR)(τ:Ev):Option D->Res Fl
 | some (.lst _ _)=>bnd (evR cl k τ) (wU cl i e τ)
 | _=>stk
theorem qo {i:Nat}{k e:IR}{o:Bool}{ds:List D}:zA cl i k e τ (some (.lst o ds))=bnd (evR cl k τ) (wU cl i e τ):=rfl
theorem st_ins {i:Nat}{k e:IR}:evS cl (.ins i k e) τ=zA cl i k e τ (bo τ i):=by
 show (match bo τ i with|some (.lst _ _)=>(bnd (evR cl k τ) fun y=>bnd (evO cl false e τ) fun p=>(match y,bo p.2 i with|.int z,some (.lst true ds)=>grd (decide (0<=z/\z.toNat<=ds.length)&&dN ds.length) (.ok (Fl.nx (p.2.set i (some (.lst true (ds.take z.toNat++p.1::ds.drop z.toNat))))))|_,_=>stk))|_=>stk)=_
 cases bo τ i with
 | none=>rfl
 | some d=>
  induction d using zD with
  | lst o ds=>
   refine congrArg (bnd (evR cl k τ)) (funext fun y=>congrArg (bnd (evO cl false e τ)) (funext fun p=>?_))
   induction y using zD with
   | int z=>
    show (match D.int z,bo p.2 i with|.int z,some (.lst true ds)=>grd (decide (0<=z/\z.toNat<=ds.length)&&dN ds.length) (.ok (.nx (p.2.set i (some (.lst true (ds.take z.toNat++p.1::ds.drop z.toNat))))))|_,_=>stk)=sP i p z (bo p.2 i)
    cases bo p.2 i with
    | none=>rfl
    | some d2=>induction d2 using zD<;>first|rfl|(rename_i b _;cases b<;>rfl)
   | _=>rfl
  | _=>rfl
noncomputable def sQ (i:Nat)(e:IR)(τ:Ev)(d:D)(ks:List Key)(ds:List D):Option Key->Res Fl
 | some q=>grd (dt ds&&dN ks.length) (.ok (.nx ((frz (vars e) τ).set i (some (.dct true (e9 ks q) (ers (ff ks ds q d)))))))
 | none=>stk
noncomputable def A4 (cl:Nat->List D->Res D)(i:Nat)(k e:IR)(τ:Ev)(d:D):Option D->Res Fl
 | some (.dct true ks ds)=>bnd (evR cl k (frz (vars e) τ)) fun y=>sQ i e τ d ks ds (ib y)
 | _=>stk
noncomputable def zB (cl:Nat->List D->Res D)(i:Nat)(k e:IR)(τ:Ev)(d:D):Res Fl:=A4 cl i k e τ d (bo τ i)
theorem st_dsetx {i:Nat}{k e:IR}:evS cl (.dsetx i k e) τ=bnd (evR cl e τ) (zB cl i k e τ):=by
 show bnd (evR cl e τ) (fun d=>match bo τ i with|some (.dct true ks ds)=>bnd (evR cl k (frz (vars e) τ)) fun y=>(match ib y with|some q=>grd (dt ds&&dN ks.length) (.ok (Fl.nx ((frz (vars e) τ).set i (some (.dct true (e9 ks q) (ers (ff ks ds q d)))))))|none=>stk)|_=>stk)=_
 congr 1
theorem st_app {i:Nat}{e:IR}:evS cl (.app i e) τ=zx cl i e τ (bo τ i):=rfl
noncomputable def zC (τ:Ev)(d:D):Res Fl:=.ok (.nx τ)
theorem a8 {d:D}:zC τ d=.ok (.nx τ):=rfl
theorem st_exp {e:IR}:evS cl (.exp e) τ=bnd (evR cl e τ) (zC τ):=rfl
noncomputable def rtK (p:D×Ev):Res Fl:=.ok (.rt p.1)
theorem bD {p:D×Ev}:rtK p=.ok (.rt p.1):=rfl
theorem st_ret {e:IR}:evS cl (.ret e) τ=bnd (evO cl true e τ) rtK:=rfl
noncomputable def ifK (cl:Nat->List D->Res D)(a b:List IS)(τ:Ev)(r:Bool):Res Fl:=if r=true then cb cl a τ else cb cl b τ
theorem bE {a b:List IS}{r:Bool}:ifK cl a b τ r=if r=true then cb cl a τ else cb cl b τ:=rfl
theorem qp {n:Nat}{c x:Str}{e:IR}:evS cl (.raisef n c x e) τ=bnd (noX (evR cl e τ)) (nj c x):=rfl
noncomputable def qr (k:Nat):Fl->Res Fl
 | .nx τ'=>.ok (.nx (τ'.set k none))
 | _=>stk
theorem az {k:Nat}:qr k (.nx τ)=.ok (.nx (τ.set k none)):=rfl
noncomputable def md (cl:Nat->List D->Res D)(i:Nat)(es:List IR)(cs:List Str)(k:Nat)(h:List IS)(τ:Ev):Res D->Res Fl
 | .ok d=>if b9 d=true then .ok (.nx (τ.set i (some d))) else .ok (.nx ((frz (bQ es) τ).set i (some d)))
 | .error (.exc c)=>grd (cs.contains c.c) (bnd (noX (cb cl h (τ.set k (some (.exc c))))) (qr k))
 | .error .stuck=>stk
noncomputable def uv (cl:Nat->List D->Res D)(i f:Nat)(es:List IR)(cs:List Str)(k:Nat)(h:List IS)(τ:Ev)(ds:List D):Res Fl:=md cl i es cs k h τ (cl f (ers ds))
theorem aA {i f:Nat}{es:List IR}{cs:List Str}{k:Nat}{h:List IS}{ds:List D}:uv cl i f es cs k h τ ds=md cl i es cs k h τ (cl f (ers ds)):=rfl
theorem ke {i:Nat}{es:List IR}{cs:List Str}{k:Nat}{h:List IS}{d:D}:md cl i es cs k h τ (.ok d)=if b9 d=true then .ok (.nx (τ.set i (some d))) else .ok (.nx ((frz (bQ es) τ).set i (some d))):=rfl
theorem me {i:Nat}{es:List IR}{cs:List Str}{k:Nat}{h:List IS}{c:EX}:md cl i es cs k h τ (.error (.exc c))=grd (cs.contains c.c) (bnd (noX (cb cl h (τ.set k (some (.exc c))))) (qr k)):=rfl
theorem st_tryc {i f:Nat}{es:List IR}{n:Nat}{cs:List Str}{k:Nat}{h:List IS}:evS cl (.tryc i f es n cs k h) τ=bnd (noX (cG cl es τ)) (uv cl i f es cs k h τ):=by
 show bnd (noX (cG cl es τ)) _=bnd (noX (cG cl es τ)) _
 congr 1
theorem uw {α β:Type}{c:EX}{f:α->Res β}:bnd (.error (.exc c)) f=.error (.exc c):=rfl
theorem st_if {t:IR}{a b:List IS}:evS cl (.if_ t a b) τ=bnd (evT cl t τ) (ifK cl a b τ):=rfl
noncomputable def turn (cl:Nat->List D->Res D)(tg:Tg)(body:List IS)(x:D)(τ:Ev):Res Fl:=bnd (dz tg x τ) (cb cl body)
theorem cP {tg:Tg}{body:List IS}{x:D}:turn cl tg body x τ=bnd (dz tg x τ) (cb cl body):=rfl
noncomputable def zF (cl:Nat->List D->Res D)(tg:Tg)(body:List IS)(p:List D×Ev):Res Fl:=forM (turn cl tg body) p.1 p.2
theorem a9 {tg:Tg}{body:List IS}{p:List D×Ev}:zF cl tg body p=forM (turn cl tg body) p.1 p.2:=rfl
theorem st_for {tg:Tg}{s:Sr}{body:List IS}:evS cl (.for_ tg s body) τ=bnd (kQ cl s τ) (zF cl tg body):=rfl
theorem st_while {t:IR}{body:List IS}:evS cl (.while_ t body) τ=cK (evT cl t) (cb cl body) jM τ:=rfl
noncomputable def wV (f:Ev->Res Fl):Fl->Res Fl
 | .nx τ'=>f τ'
 | .ct τ'=>.ok (.ct τ')
 | .bk τ'=>.ok (.bk τ')
 | .rt d=>.ok (.rt d)
 | .ri d ks vs=>.ok (.ri d ks vs)
theorem zG:cb cl [] τ=.ok (.nx τ):=rfl
theorem zH {s:IS}{r:List IS}:cb cl (s::r) τ=bnd (evS cl s τ) (wV (cb cl r)):=rfl
theorem ux {f:Ev->Res Fl}:wV f (.nx τ)=f τ:=rfl
theorem uy {f:Ev->Res Fl}{d:D}:wV f (.rt d)=.ok (.rt d):=rfl
noncomputable def zJ (τ:Ev)(its:List D):Res (List D×Ev):=.ok (its,τ)
theorem ba {its:List D}:zJ τ its=.ok (its,τ):=rfl
noncomputable def uz (e:IR)(τ:Ev)(its:List D):Res (List D×Ev):=.ok (ers its,frz (vars e) τ)
theorem aB {e:IR}{its:List D}:uz e τ its=.ok (ers its,frz (vars e) τ):=rfl
theorem uA {n:IR}:kQ cl (.rng1 n) τ=bnd (eV cl (.rng1 n) τ) (zJ τ):=rfl
theorem uB {e:IR}:kQ cl (.val e) τ=bnd (eV cl (.val e) τ) (uz e τ):=rfl
noncomputable def zK (body:D->Ev->Res Fl)(xs:List D):Fl->Res Fl
 | .nx τ'=>forM body xs τ'
 | .ct τ'=>forM body xs τ'
 | .bk τ'=>.ok (.nx τ')
 | .rt d=>.ok (.rt d)
 | .ri d ks vs=>.ok (.ri d ks vs)
theorem uC {body:D->Ev->Res Fl}:forM body [] τ=.ok (.nx τ):=rfl
theorem zL {body:D->Ev->Res Fl}{x:D}{xs:List D}:forM body (x::xs) τ=bnd (body x τ) (zK body xs):=rfl
theorem zM {body:D->Ev->Res Fl}{xs:List D}:zK body xs (.nx τ)=forM body xs τ:=rfl
theorem zN {i:Nat}{d:D}:dz (.nm i) d τ=.ok (τ.set i (some d)):=rfl
theorem zO {ts:List Tg}{ds:List D}:dz (.tp ts) (.tup ds) τ=grd (decide (ds.length=ts.length)) (fg ts ds τ):=rfl
theorem uD:fg [] [] τ=.ok τ:=rfl
theorem uE {t:Tg}{ts:List Tg}{d:D}{ds:List D}:fg (t::ts) (d::ds) τ=bnd (dz t d τ) (fg ts ds):=rfl
theorem bF {o p:Option D}:(o::τ).set 0 p=p::τ:=rfl
theorem bG {o p:Option D}{i:Nat}:(o::τ).set (i+1) p=o::τ.set i p:=rfl
theorem uF {a b:Int}:opB .add (.int a) (.int b)=.ok (.int (a+b)):=rfl
theorem la {a b:Str}:opB .add (.str a) (.str b)=grd (cQ (a.length+b.length)) (.ok (.str (a++b))):=rfl
theorem qt {o o':Bool}{a b:List D}:opB .add (.lst o a) (.lst o' b)=grd (cQ (a.length+b.length)) (.ok (.lst true (a++b))):=rfl
theorem uG {a b:Int}:opB .sub (.int a) (.int b)=.ok (.int (a - b)):=rfl
theorem zP {a b:Int}:opB .mul (.int a) (.int b)=grd (decide (-(2 ^ 64) < a/\a < 2 ^ 64)||decide (-(2 ^ 64) < b/\b < 2 ^ 64)) (.ok (.int (a*b))):=rfl
theorem wW {a b:Int}:opB .fdiv (.int a) (.int b)=grd (decide (0 < b/\b < 1073741824)) (.ok (.int (a / b))):=rfl
theorem zQ {a b:Int}:opB .mod (.int a) (.int b)=grd (decide (0 < b)) (.ok (.int (a % b))):=rfl
theorem x_l {o:Bool}{ds:List D}{i:Int}:cX (.lst o ds) (.int i)=(match atI ds i with|some d=>.ok d|none=>stk):=rfl
theorem x_t {ds:List D}{i:Int}:cX (.tup ds) (.int i)=(match atI ds i with|some d=>.ok d|none=>stk):=rfl
theorem x_s {z:Str}{i:Int}:cX (.str z) (.int i)=grd (cQ z.length) (match atI z.cps.toList i with|some c=>.ok (.str ⟨#[c]⟩)|none=>stk):=rfl
theorem zR {o:Bool}{ds:List D}{lo hi:Option Int}:jH (.lst o ds) lo hi=.ok (.lst true (kN ds lo hi)):=rfl
theorem zU {z:Str}{lo hi:Option Int}:jH (.str z) lo hi=grd (cQ z.length) (.ok (.str (Txt.slice z lo hi))):=rfl
theorem zV {b:Bool}:cF (.bl b)=.ok b:=rfl
theorem zW {a b:D}:opC .eq a b=eqN 40 a b:=by cases a<;>cases b<;>rfl
noncomputable def zX (r:Bool):Res Bool:=.ok !r
theorem bb {r:Bool}:zX r=.ok !r:=rfl
theorem zY {a b:D}:opC .ne a b=bnd (eqN 40 a b) zX:=by cases a<;>cases b<;>rfl
theorem zZ {n:Nat}{a b:Int}:eqN (n+1) (.int a) (.int b)=.ok (a == b):=rfl
theorem Aa {n:Nat}{a b:Bool}:eqN (n+1) (.bl a) (.bl b)=.ok (a == b):=rfl
theorem Ab {n:Nat}{a b:List D}:eqN (n+1) (.tup a) (.tup b)=dj (eqN n) a b:=rfl
theorem Ac {n:Nat}{o o':Bool}{a b:List D}:eqN (n+1) (.lst o a) (.lst o' b)=dj (eqN n) a b:=rfl
theorem Ad {f:D->D->Res Bool}:dj f [] []=.ok true:=rfl
noncomputable def wX (x y:Bool):Res Bool:=.ok (x&&y)
theorem bc {x y:Bool}:wX x y=.ok (x&&y):=rfl
noncomputable def esK (f:D->D->Res Bool)(r s:List D)(x:Bool):Res Bool:=bnd (dj f r s) (wX x)
theorem bH {f:D->D->Res Bool}{r s:List D}{x:Bool}:esK f r s x=bnd (dj f r s) (wX x):=rfl
theorem Ae {f:D->D->Res Bool}{a b:D}{r s:List D}:dj f (a::r) (b::s)=bnd (f a b) (esK f r s):=rfl
theorem Af {a b:Int}:opC .lt (.int a) (.int b)=.ok (decide (a < b)):=rfl
theorem Ag {a b:Int}:opC .le (.int a) (.int b)=.ok (decide (a<=b)):=rfl
theorem Ah {a b:Int}:opC .gt (.int a) (.int b)=.ok (decide (b < a)):=rfl
theorem uH {y x:Str}:opC .in_ (.str y) (.str x)=.ok (jI x y):=rfl
theorem Ai {a:D}:opC .is_ a .non=.ok (iB a):=by cases a<;>rfl
theorem n_t {ds:List D}:iB (.tup ds)=false:=rfl
theorem n_l {o:Bool}{ds:List D}:iB (.lst o ds)=false:=rfl
theorem uI {x:Str}:dG .len [.str x]=grd (cQ x.length) (.ok (.int x.length)):=rfl
theorem uJ {ds:List D}:dG .len [.tup ds]=.ok (.int ds.length):=rfl
theorem uK {o:Bool}{ds:List D}:dG .len [.lst o ds]=.ok (.int ds.length):=rfl
theorem qu {a b:Int}:dG .min2 [.int a,.int b]=.ok (.int (if b < a then b else a)):=rfl
theorem mh {b:Bool}:dG .int [.bl b]=.ok (.int (if b then 1 else 0)):=rfl
theorem mi {o:Bool}{ds:List D}:dG .tuple [.lst o ds]=.ok (.tup ds):=rfl
theorem kf {o:Bool}{ds:List D}:dG .list [.lst o ds]=.ok (.lst true ds):=rfl
theorem kg {o:Bool}{ks:List Key}{ds:List D}:dG .list [.dct o ks ds]=.ok (.lst true (ks.map rX)):=rfl
theorem gX (ns:List Str):cJ (ns.map .str)=some ns:=by
 induction ns with
 | nil=>rfl
 | cons n ns ih=>
  show (cJ (ns.map .str)).map (n::·)=_
  rw[ih]
  rfl
theorem mj (ns:List Bool):dq (ns.map .bl)=some ns:=by
 induction ns with
 | nil=>rfl
 | cons n ns ih=>
  show (dq (ns.map .bl)).map (n::·)=_
  rw[ih]
  rfl
theorem qv {o:Bool}{bs:List Bool}:dG .any [.lst o (bs.map .bl)]=.ok (.bl (bs.any id)):=by
 show (match dq (bs.map .bl) with|some bs=>.ok (.bl (bs.any id))|none=>stk)=(_:Res D)
 rw[mj]
theorem qw {o:Bool}{bs:List Bool}:dG .all [.lst o (bs.map .bl)]=.ok (.bl (bs.all id)):=by
 show (match dq (bs.map .bl) with|some bs=>.ok (.bl (bs.all id))|none=>stk)=(_:Res D)
 rw[mj]
theorem qx {x:Str}:dW .str (.str x)=true:=rfl
theorem qy {x:List D}:dW .tuple (.tup x)=true:=rfl
theorem kh {ds:List D}:dW .str (.tup ds)=false:=rfl
theorem ki {o:Bool}{ds:List D}:dW .str (.lst o ds)=false:=rfl
theorem kj {ds:List D}:dW .int (.tup ds)=false:=rfl
theorem kl {o:Bool}{ds:List D}:dW .int (.lst o ds)=false:=rfl
theorem iK {ds:List D}:dW .bool (.tup ds)=false:=rfl
theorem iL {o:Bool}{ds:List D}:dW .bool (.lst o ds)=false:=rfl
theorem iM {ds:List D}:dW .list (.tup ds)=false:=rfl
theorem iN {o:Bool}{ds:List D}:dW .list (.lst o ds)=true:=rfl
theorem gY {o:Bool}{ds:List D}:dW .tuple (.lst o ds)=false:=rfl
theorem wY (ns:List Int):bR (ns.map .int)=true:=by
 rw[dU,List.all_map,List.all_eq_true]
 intro x _
 rfl
theorem nR (ns:List Str):bR (ns.map .str)=true:=by
 rw[dU,List.all_map,List.all_eq_true]
 intro x _
 rfl
theorem bT {i:Int}:er (.int i)=.int i:=by rw[er]
theorem bU {i:Str}:er (.str i)=.str i:=by rw[er]
theorem bV {i:Bool}:er (.bl i)=.bl i:=by rw[er]
theorem bW {ds:List D}:er (.tup ds)=.tup (ers ds):=by rw[er]
theorem bX {o:Bool}{ds:List D}:er (.lst o ds)=.lst false (ers ds):=by rw[er]
theorem ers_n:ers []=[]:=by rw[ers]
theorem bI {d:D}{ds:List D}:ers (d::ds)=er d::ers ds:=by rw[ers]
theorem qz (ns:List Int):ers (ns.map .int)=ns.map .int:=cM (wY ns)
theorem qA (ns:List Str):ers (ns.map .str)=ns.map .str:=cM (nR ns)
theorem uL {i:Int}:b9 (.int i)=true:=rfl
theorem uM {i:Bool}:b9 (.bl i)=true:=rfl
theorem uN {o:Bool}{ds:List D}:b9 (.lst o ds)=false:=rfl
theorem qB:bR []=true:=rfl
theorem qC {d:D}{ds:List D}:bR (d::ds)=(b9 d&&bR ds):=rfl
noncomputable def qD:Fl->Res D
 | .nx _=>.ok .non
 | .rt d=>.ok d
 | _=>stk
theorem run {fn:Fn}{ds:List D}(h:ds.length=fn.np):eL cl fn ds=bnd (cb cl fn.body (ds.map some++List.replicate (fn.G.N.length - fn.np) none)) qD:=by
 unfold eL
 rw[decide_eq_true h]
 rfl
theorem qE:qD (.nx τ)=.ok .non:=rfl
theorem qF {d:D}:qD (.rt d)=.ok d:=rfl
theorem call {T:Tb}{n f:Nat}{fn:Fn}{ds:List D}(h:T f=some fn)(h0:fn.io=false):ag T (n+1) f ds=eL (ag T n) fn ds:=by
 show (match T f with|some fn=>(match fn.io with|false=>eL (ag T n) fn ds|true=>ft (ag T n) fn ds)|none=>stk)=_
 rw[h]
 show (match fn.io with|false=>eL (ag T n) fn ds|true=>ft (ag T n) fn ds)=_
 rw[h0]
theorem go {T:Tb}{n f:Nat}{fn:Fn}{ds:List D}{m k:Nat}{body:List IS}(h:T f=some fn)(h0:fn.io=false)(h1:fn.np=m)(h2:fn.G.N.length=k)(h3:fn.body=body)(hl:ds.length=m) :
  ag T (n+1) f ds=bnd (cb (ag T n) body (ds.map some++List.replicate (k - m) none)) qD:=by
 rw[call h h0,run (by rw[hl,h1]),h1,h2,h3]
end
end Ev
namespace Ev
section
variable {cl:Nat->List D->Res D}{τ:Ev}
theorem line:sizeLine=16777216:=sizeLine_eq
theorem qG {a b:Int}(h1 : -18446744073709551616 < a)(h2:a < 18446744073709551616):opB .mul (.int a) (.int b)=.ok (.int (a*b)):=by
 rw[zP,decide_eq_true (show -(2 ^ 64) < a/\a < 2 ^ 64 from ⟨by omega,by omega⟩)]
 rfl
theorem qH {a b:Int}(h1:0 < b)(h2:b < 1073741824):opB .fdiv (.int a) (.int b)=.ok (.int (a / b)):=by
 rw[wW,decide_eq_true ⟨h1,h2⟩]
 rfl
theorem uO {a b:Int}(h1:0 < b):opB .mod (.int a) (.int b)=.ok (.int (a % b)):=by
 rw[zQ,decide_eq_true h1]
 rfl
theorem jr {n:Nat}(h:n<=16777216):cQ n=true:=decide_eq_true (by rw[line];exact h)
theorem lb {n:Nat}(h:n < 16777216):dN n=true:=decide_eq_true (by rw[line];exact h)
theorem ml {i:Int}(h1 : -4611686018427387904<=i)(h2:i < 4611686018427387904):fY i=true:=decide_eq_true ⟨by omega,by omega⟩
theorem gh {α β:Type}(f:α->β)(xs:List α)(i:Int):atI (xs.map f) i=(atI xs i).map f:=by
 unfold atI
 rw[List.length_map]
 cases ixN xs.length i with
 | none=>rfl
 | some j=>exact List.getElem?_map ..
theorem eE {α:Type}{xs:List α}{i:Int}(d:α)(h0:0<=i)(h1:i < xs.length):atI xs i=some (xs.getD i.toNat d):=by
 unfold atI ixN
 rw[if_pos h0,if_pos h1]
 show xs[i.toNat]? = _
 have:i.toNat < xs.length:=by omega
 rw[List.getD_eq_getElem?_getD,List.getElem?_eq_getElem this]
 rfl
theorem x_i {o:Bool}{xs:List Int}{i:Int}(h0:0<=i)(h1:i < xs.length):cX (.lst o (xs.map .int)) (.int i)=.ok (.int (xs.getD i.toNat 0)):=by
 rw[x_l,gh,eE 0 h0 h1]
 rfl
theorem qI {o:Bool}{xs:List Str}{i:Int}(h0:0<=i)(h1:i < xs.length):cX (.lst o (xs.map .str)) (.int i)=.ok (.str (xs.getD i.toNat ⟨#[]⟩)):=by
 rw[x_l,gh,eE ⟨#[]⟩ h0 h1]
 rfl
theorem x_c {z:Str}{i:Int}(h0:0<=i)(h1:i < z.length)(hz:z.length<=16777216):cX (.str z) (.int i)=.ok (.str ⟨#[z.cps.toList.getD i.toNat 0]⟩):=by
 rw[x_s,jr hz]
 have hl:z.cps.toList.length=z.length:=by simp[Str.length]
 rw[eE 0 h0 (by rw[hl];exact h1)]
 rfl
noncomputable def fz:Bool->Option D->Option D
 | true,some d=>some (er d)
 | true,none=>none
 | false,o=>o
theorem Aj {d:D}:fz true (some d)=some (er d):=rfl
theorem Ak {o:Option D}:fz false o=o:=rfl
theorem uP {is:List Nat}{k:Nat}{o:Option D}{τ:Ev}:fN is k (o::τ)=fz (is.contains k) o::fN is (k+1) τ:=by
 show (if is.contains k then o.map er else o)::fN is (k+1) τ=_
 cases is.contains k<;>cases o<;>rfl
theorem bY {d:D}:vars (.c d)=[]:=rfl
theorem bZ {i:Nat}:vars (.v i)=[i]:=rfl
theorem bf {o:BOp}{a b:IR}:vars (.bin o a b)=vars a++vars b:=rfl
theorem bg {es:List IR}:vars (.tup es)=bQ es:=rfl
theorem bh {es:List IR}:vars (.lst es)=bQ es:=rfl
theorem aC {f:Nat}{es:List IR}:vars (.call f es)=bQ es:=rfl
theorem bJ {f:Bi}{es:List IR}:vars (.bi f es)=bQ es:=rfl
theorem bj {a i:IR}:vars (.idx a i)=vars a++vars i:=rfl
theorem bK:bQ []=[]:=rfl
theorem bL {e:IR}{es:List IR}:bQ (e::es)=vars e++bQ es:=rfl
theorem mn {G:Gm}{fr:List Nat}{t:Tg}{s:Sr}{i:List IR}{e:IR}:cH (.comp G fr t s i e)=true:=rfl
theorem qJ {a b:IR}:cH (.bin .add a b)=true:=rfl
theorem mq {es:List IR}:cH (.bi .list es)=true:=rfl
theorem qK {a i:IR}:cH (.idx a i)=false:=rfl
theorem Al {e:IR}{o:Bool}{ds:List D}{τ:Ev}:cp e (.lst o ds) τ=cond (cH e) (cond (bR ds) (.lst true ds,τ) (.lst true (ers ds),frz (vars e) τ)) (.lst false (ers ds),frz (vars e) τ):=by
 unfold cp
 rw[if_neg (show ¬ b9 (.lst o ds)=true by intro z;cases z)]
 cases cH e
 ·exact Prod.ext (by show er (.lst o ds)=_;rw[er];rfl) rfl
 ·show (if bR ds=true then _ else _)=_
  cases bR ds<;>rfl
theorem Am {e:IR}{ds:List D}{τ:Ev}:cp e (.tup ds) τ=cond (bR ds) (.tup ds,τ) (.tup (ers ds),frz (vars e) τ):=by
 unfold cp
 cases h:bR ds with
 | true=>rw[if_pos (show b9 (.tup ds)=true from h)];rfl
 | false=>
  rw[if_neg (show ¬ b9 (.tup ds)=true by intro z;rw[show b9 (.tup ds)=bR ds from rfl,h] at z;cases z)]
  cases cH e<;>exact Prod.ext (by show er (.tup ds)=_;rw[er];rfl) rfl
theorem mr {body:D->Ev->Res Fl}(P:Nat->Ev->Prop):∀ (its:List D) (k:Nat) (τ:Ev),P k τ->(∀ (i:Nat) (x:D) (τ:Ev),its[i]? = some x->P (k+i) τ->∃ τ',body x τ=.ok (.nx τ')/\P (k+i+1) τ')->∃ τ',forM body its τ=.ok (.nx τ')/\P (k+its.length) τ'
 | [],k,τ,h,_=>⟨τ,rfl,h⟩
 | x::xs,k,τ,h,hb=>by
  obtain⟨τ1,e1,h1⟩:=hb 0 x τ rfl h
  obtain⟨τ2,e2,h2⟩:=mr P xs (k+1) τ1 h1 fun i y σ hy hp=>by
   obtain⟨τ',e',h'⟩:=hb (i+1) y σ (by simpa using hy) (by rw[show k+(i+1)=k+1+i by omega];exact hp)
   exact⟨τ',e',by rw[show k+1+i+1=k+(i+1)+1 by omega];exact h'⟩
  refine⟨τ2,?_,by rw[List.length_cons,show k+(xs.length+1)=k+1+xs.length by omega];exact h2⟩
  rw[zL,e1,p4,zM,e2]
theorem dB {body:D->Ev->Res Fl}(P:Nat->Ev->Prop){its:List D}{τ:Ev}(h:P 0 τ)(hb:∀ (i:Nat)(x:D)(τ:Ev),its[i]? = some x->P i τ->∃ τ',body x τ=.ok (.nx τ')/\P (i+1) τ'):∃ τ',forM body its τ=.ok (.nx τ')/\P its.length τ':=by
 obtain⟨τ',h1,h2⟩:=mr P its 0 τ h fun i x τ hx hp=>by
  rw[Nat.zero_add] at hp ⊢
  exact hb i x τ hx hp
 exact⟨τ',h1,by rw[Nat.zero_add] at h2;exact h2⟩
theorem c7 {α β:Type}{g:D->Res (Option D)}(emb:α->D)(out:α->β)(emb':β->D):∀ (xs:List α),(∀ x∈xs,g (emb x)=.ok (some (emb' (out x))))->cy g (xs.map emb)=.ok ((xs.map out).map emb')
 | [],_=>rfl
 | x::xs,h=>by
  show bnd (g (emb x)) _=_
  rw[h x (by simp)]
  show bnd (cy g (xs.map emb)) _=_
  rw[c7 emb out emb' xs fun y hy=>h y (List.mem_cons_of_mem _ hy)]
  rfl
theorem bM {α:Type}{a:α}:noX (.ok a:Res α)=.ok a:=rfl
end
end Ev
end L2
namespace L2.Ev
theorem rs0 {o:Option D}{τ:Ev}:bo (o::τ) 0=o:=rfl
theorem rss {o:Option D}{τ:Ev}{i:Nat}:bo (o::τ) (i+1)=bo τ i:=rfl
theorem rfn {is:List Nat}{k:Nat}:fN is k []=[]:=rfl
theorem rct {a k:Nat}{l:List Nat}:List.contains (a::l) k=((k == a)||l.contains k):=rfl
theorem rcn {k:Nat}:List.contains [] k=false:=rfl
theorem fzI {b:Bool}{i:Int}:fz b (some (.int i))=some (.int i):=by cases b<;>rfl
theorem fzS {b:Bool}{i:PySem.Str}:fz b (some (.str i))=some (.str i):=by cases b<;>rfl
theorem fzN {b:Bool}:fz b none=none:=by cases b<;>rfl
end L2.Ev
namespace L2
open PySem
namespace Ev
theorem ti1 {P:D}:cX (.tup [P]) (.int 0)=.ok P:=rfl
theorem ti2 {P Q:D}:cX (.tup [P,Q]) (.int 0)=.ok P:=rfl
theorem ti3 {P Q:D}:cX (.tup [P,Q]) (.int 1)=.ok Q:=rfl
theorem ti4 {P Q R:D}:cX (.tup [P,Q,R]) (.int 0)=.ok P:=rfl
theorem ti5 {P Q R:D}:cX (.tup [P,Q,R]) (.int 1)=.ok Q:=rfl
theorem ti6 {P Q R:D}:cX (.tup [P,Q,R]) (.int 2)=.ok R:=rfl
theorem ti7 {o:Bool}{P Q:D}:cX (.lst o [P,Q]) (.int 0)=.ok P:=rfl
theorem ti8 {o:Bool}{P Q:D}:cX (.lst o [P,Q]) (.int 1)=.ok Q:=rfl
end Ev
theorem ev0:type_of% (And.intro (And.intro (And.intro (And.intro (And.intro (And.intro (And.intro @Ev.p4 @Ev.tX) (And.intro @Ev.r_c (And.intro @Ev.r_g @Ev.r_v))) (And.intro (And.intro @Ev.tY (And.intro @Ev.tZ @Ev.l8)) (And.intro @Ev.t4 (And.intro @Ev.yU @Ev.t5)))) (And.intro (And.intro (And.intro @Ev.t6 @Ev.t7) (And.intro @Ev.t9 (And.intro @Ev.yX @Ev.p7))) (And.intro (And.intro @Ev.yY (And.intro @Ev.y3 @Ev.y9)) (And.intro @Ev.za (And.intro @Ev.p8 @Ev.uc))))) (And.intro (And.intro (And.intro (And.intro @Ev.p9 @Ev.qa) (And.intro @Ev.ue (And.intro @Ev.qb @Ev.zb))) (And.intro (And.intro @Ev.ze (And.intro @Ev.qd @Ev.zh)) (And.intro @Ev.zi (And.intro @Ev.zj @Ev.zk)))) (And.intro (And.intro (And.intro @Ev.l9 (And.intro @Ev.zl @Ev.kb)) (And.intro @Ev.kc (And.intro @Ev.uh @Ev.ui))) (And.intro (And.intro @Ev.zo (And.intro @Ev.zp @Ev.zq)) (And.intro @Ev.t_t (And.intro @Ev.o_v @Ev.o_tup)))))) (And.intro (And.intro (And.intro (And.intro (And.intro @Ev.o_lst @Ev.o_call) (And.intro @Ev.o_c (And.intro @Ev.um @Ev.uo))) (And.intro (And.intro @Ev.uq (And.intro @Ev.ur @Ev.zr)) (And.intro @Ev.zt (And.intro @Ev.o_dnew @Ev.uu)))) (And.intro (And.intro (And.intro @Ev.qg (And.intro @Ev.zu @Ev.zv)) (And.intro @Ev.ma (And.intro @Ev.qh @Ev.k_i))) (And.intro (And.intro @Ev.k_s (And.intro @Ev.k_b @Ev.k_n)) (And.intro @Ev.st_asg (And.intro @Ev.qi @Ev.qj))))) (And.intro (And.intro (And.intro (And.intro @Ev.ql @Ev.qm) (And.intro @Ev.qo (And.intro @Ev.st_ins @Ev.st_dsetx))) (And.intro (And.intro @Ev.st_app (And.intro @Ev.st_exp @Ev.st_ret)) (And.intro @Ev.qp (And.intro @Ev.ke @Ev.me)))) (And.intro (And.intro (And.intro @Ev.st_tryc (And.intro @Ev.uw @Ev.st_if)) (And.intro @Ev.st_for (And.intro @Ev.st_while @Ev.zG))) (And.intro (And.intro @Ev.zH (And.intro @Ev.ux @Ev.uy)) (And.intro @Ev.uA (And.intro @Ev.uB @Ev.uC))))))) (And.intro (And.intro (And.intro (And.intro (And.intro (And.intro @Ev.zN @Ev.zO) (And.intro @Ev.uD (And.intro @Ev.uE @Ev.uF))) (And.intro (And.intro @Ev.la (And.intro @Ev.qt @Ev.uG)) (And.intro @Ev.x_t (And.intro @Ev.zR @Ev.zU)))) (And.intro (And.intro (And.intro @Ev.zV @Ev.zW) (And.intro @Ev.zY (And.intro @Ev.zZ @Ev.Aa))) (And.intro (And.intro @Ev.Ab (And.intro @Ev.Ac @Ev.Ad)) (And.intro @Ev.Ae (And.intro @Ev.Af @Ev.Ag))))) (And.intro (And.intro (And.intro (And.intro @Ev.Ah @Ev.uH) (And.intro @Ev.Ai (And.intro @Ev.n_t @Ev.n_l))) (And.intro (And.intro @Ev.uI (And.intro @Ev.uJ @Ev.uK)) (And.intro @Ev.qu (And.intro @Ev.mh @Ev.mi)))) (And.intro (And.intro (And.intro @Ev.kf (And.intro @Ev.kg @Ev.qv)) (And.intro @Ev.qw (And.intro @Ev.qx @Ev.qy))) (And.intro (And.intro @Ev.kh (And.intro @Ev.ki @Ev.kj)) (And.intro @Ev.kl (And.intro @Ev.iK @Ev.iL)))))) (And.intro (And.intro (And.intro (And.intro (And.intro @Ev.iM @Ev.iN) (And.intro @Ev.gY (And.intro @Ev.qz @Ev.qA))) (And.intro (And.intro @Ev.uL (And.intro @Ev.uM @Ev.uN)) (And.intro @Ev.qB (And.intro @Ev.qC @Ev.qE)))) (And.intro (And.intro (And.intro @Ev.qF (And.intro @Ev.qG @Ev.qH)) (And.intro @Ev.uO (And.intro @Ev.jr @Ev.lb))) (And.intro (And.intro @Ev.ml (And.intro @Ev.x_i @Ev.qI)) (And.intro @Ev.x_c (And.intro @Ev.Aj @Ev.Ak))))) (And.intro (And.intro (And.intro (And.intro @Ev.uP @Ev.mn) (And.intro @Ev.qJ (And.intro @Ev.mq @Ev.qK))) (And.intro (And.intro @Ev.Al (And.intro @Ev.Am @Ev.nR)) (And.intro @Bool.or_false (And.intro @Bool.or_true @List.replicate_succ.{0})))) (And.intro (And.intro (And.intro @List.replicate_zero.{0} (And.intro @List.length_cons.{0} @List.length_nil.{0})) (And.intro @Nat.zero_add (And.intro @decide_true @Bool.and_self))) (And.intro (And.intro @Bool.not_true (And.intro @Bool.not_false @beq_self_eq_true.{0})) (And.intro @if_true.{1} (And.intro @if_false.{1} @Bool.false_eq_true)))))))):=⟨⟨⟨⟨⟨⟨⟨@Ev.p4,@Ev.tX⟩,⟨@Ev.r_c,⟨@Ev.r_g,@Ev.r_v⟩⟩⟩,⟨⟨@Ev.tY,⟨@Ev.tZ,@Ev.l8⟩⟩,⟨@Ev.t4,⟨@Ev.yU,@Ev.t5⟩⟩⟩⟩,⟨⟨⟨@Ev.t6,@Ev.t7⟩,⟨@Ev.t9,⟨@Ev.yX,@Ev.p7⟩⟩⟩,⟨⟨@Ev.yY,⟨@Ev.y3,@Ev.y9⟩⟩,⟨@Ev.za,⟨@Ev.p8,@Ev.uc⟩⟩⟩⟩⟩,⟨⟨⟨⟨@Ev.p9,@Ev.qa⟩,⟨@Ev.ue,⟨@Ev.qb,@Ev.zb⟩⟩⟩,⟨⟨@Ev.ze,⟨@Ev.qd,@Ev.zh⟩⟩,⟨@Ev.zi,⟨@Ev.zj,@Ev.zk⟩⟩⟩⟩,⟨⟨⟨@Ev.l9,⟨@Ev.zl,@Ev.kb⟩⟩,⟨@Ev.kc,⟨@Ev.uh,@Ev.ui⟩⟩⟩,⟨⟨@Ev.zo,⟨@Ev.zp,@Ev.zq⟩⟩,⟨@Ev.t_t,⟨@Ev.o_v,@Ev.o_tup⟩⟩⟩⟩⟩⟩,⟨⟨⟨⟨⟨@Ev.o_lst,@Ev.o_call⟩,⟨@Ev.o_c,⟨@Ev.um,@Ev.uo⟩⟩⟩,⟨⟨@Ev.uq,⟨@Ev.ur,@Ev.zr⟩⟩,⟨@Ev.zt,⟨@Ev.o_dnew,@Ev.uu⟩⟩⟩⟩,⟨⟨⟨@Ev.qg,⟨@Ev.zu,@Ev.zv⟩⟩,⟨@Ev.ma,⟨@Ev.qh,@Ev.k_i⟩⟩⟩,⟨⟨@Ev.k_s,⟨@Ev.k_b,@Ev.k_n⟩⟩,⟨@Ev.st_asg,⟨@Ev.qi,@Ev.qj⟩⟩⟩⟩⟩,⟨⟨⟨⟨@Ev.ql,@Ev.qm⟩,⟨@Ev.qo,⟨@Ev.st_ins,@Ev.st_dsetx⟩⟩⟩,⟨⟨@Ev.st_app,⟨@Ev.st_exp,@Ev.st_ret⟩⟩,⟨@Ev.qp,⟨@Ev.ke,@Ev.me⟩⟩⟩⟩,⟨⟨⟨@Ev.st_tryc,⟨@Ev.uw,@Ev.st_if⟩⟩,⟨@Ev.st_for,⟨@Ev.st_while,@Ev.zG⟩⟩⟩,⟨⟨@Ev.zH,⟨@Ev.ux,@Ev.uy⟩⟩,⟨@Ev.uA,⟨@Ev.uB,@Ev.uC⟩⟩⟩⟩⟩⟩⟩,⟨⟨⟨⟨⟨⟨@Ev.zN,@Ev.zO⟩,⟨@Ev.uD,⟨@Ev.uE,@Ev.uF⟩⟩⟩,⟨⟨@Ev.la,⟨@Ev.qt,@Ev.uG⟩⟩,⟨@Ev.x_t,⟨@Ev.zR,@Ev.zU⟩⟩⟩⟩,⟨⟨⟨@Ev.zV,@Ev.zW⟩,⟨@Ev.zY,⟨@Ev.zZ,@Ev.Aa⟩⟩⟩,⟨⟨@Ev.Ab,⟨@Ev.Ac,@Ev.Ad⟩⟩,⟨@Ev.Ae,⟨@Ev.Af,@Ev.Ag⟩⟩⟩⟩⟩,⟨⟨⟨⟨@Ev.Ah,@Ev.uH⟩,⟨@Ev.Ai,⟨@Ev.n_t,@Ev.n_l⟩⟩⟩,⟨⟨@Ev.uI,⟨@Ev.uJ,@Ev.uK⟩⟩,⟨@Ev.qu,⟨@Ev.mh,@Ev.mi⟩⟩⟩⟩,⟨⟨⟨@Ev.kf,⟨@Ev.kg,@Ev.qv⟩⟩,⟨@Ev.qw,⟨@Ev.qx,@Ev.qy⟩⟩⟩,⟨⟨@Ev.kh,⟨@Ev.ki,@Ev.kj⟩⟩,⟨@Ev.kl,⟨@Ev.iK,@Ev.iL⟩⟩⟩⟩⟩⟩,⟨⟨⟨⟨⟨@Ev.iM,@Ev.iN⟩,⟨@Ev.gY,⟨@Ev.qz,@Ev.qA⟩⟩⟩,⟨⟨@Ev.uL,⟨@Ev.uM,@Ev.uN⟩⟩,⟨@Ev.qB,⟨@Ev.qC,@Ev.qE⟩⟩⟩⟩,⟨⟨⟨@Ev.qF,⟨@Ev.qG,@Ev.qH⟩⟩,⟨@Ev.uO,⟨@Ev.jr,@Ev.lb⟩⟩⟩,⟨⟨@Ev.ml,⟨@Ev.x_i,@Ev.qI⟩⟩,⟨@Ev.x_c,⟨@Ev.Aj,@Ev.Ak⟩⟩⟩⟩⟩,⟨⟨⟨⟨@Ev.uP,@Ev.mn⟩,⟨@Ev.qJ,⟨@Ev.mq,@Ev.qK⟩⟩⟩,⟨⟨@Ev.Al,⟨@Ev.Am,@Ev.nR⟩⟩,⟨@Bool.or_false,⟨@Bool.or_true,@List.replicate_succ.{0}⟩⟩⟩⟩,⟨⟨⟨@List.replicate_zero.{0},⟨@List.length_cons.{0},@List.length_nil.{0}⟩⟩,⟨@Nat.zero_add,⟨@decide_true,@Bool.and_self⟩⟩⟩,⟨⟨@Bool.not_true,⟨@Bool.not_false,@beq_self_eq_true.{0}⟩⟩,⟨@if_true.{1},⟨@if_false.{1},@Bool.false_eq_true⟩⟩⟩⟩⟩⟩⟩⟩
namespace Fr
end Fr
namespace Fr
open PySem
noncomputable def qL (f:Nat):Gm:={N:=["_law_own","_law_part"],kd:=[.local,.local],gl:=[f],df:=false}
noncomputable def bSame (f:Nat):List IS:=
 [(.if_ (.cmp .is_ (.v 1) (.c .non)) [(.ret (.cmp .is_ (.v 0) (.c .non)))] []),(.if_ (.or_ (.isi (.v 1) .bool) (.isi (.v 0) .bool)) [(.ret (.and_ (.isi (.v 1) .bool) (.and_ (.isi (.v 0) .bool) (.cmp .eq (.v 0) (.v 1)))))] []),(.if_ (.isi (.v 1) .str) [(.ret (.and_ (.isi (.v 0) .str) (.cmp .eq (.v 0) (.v 1))))] []),(.if_ (.isi (.v 1) .int) [(.ret (.and_ (.isi (.v 0) .int) (.cmp .eq (.v 0) (.v 1))))] []),(.if_ (.isi (.v 1) .tuple) [(.if_ (.not_ (.isi (.v 0) .tuple)) [(.ret (.c (.bl false)))] [])] [(.if_ (.not_ (.isi (.v 0) .list)) [(.ret (.c (.bl false)))] [])]),(.if_ (.cmp .ne (.bi .len [(.v 0)]) (.bi .len [(.v 1)])) [(.ret (.c (.bl false)))] []),(.ret (.bi .all [(.comp (qL f) [] (.tp [(.nm 0),(.nm 1)]) (.zip (.v 0) (.v 1)) [] (.call f [(.v 0),(.v 1)]))]))]
noncomputable def mz (f:Nat)(x:Str):Gm:={N:=[x],kd:=[.local],gl:=[f],df:=false}
noncomputable def bCopy (f:Nat)(x:Str):List IS:=
 [(.if_ (.isi (.v 0) .list) [(.ret (.comp (mz f x) [] (.nm 0) (.val (.v 0)) [] (.call f [(.v 0)])))] []),(.if_ (.isi (.v 0) .tuple) [(.ret (.bi .tuple [(.comp (mz f x) [] (.nm 0) (.val (.v 0)) [] (.call f [(.v 0)]))]))] []),(.ret (.v 0))]
end Fr
end L2
namespace Law
open PySem L2
noncomputable def top (i:Nat):Stmt:=PySem.Challenge.pw_flagroll_k37_rings.main.body.getD i (.Pass ⟨0,0,0,0⟩)
noncomputable def Z:Sg:={nm:=(["LETTERS","SALT_LENGTH","is_text_of","check_salt","switch_checked","check_new","check_switch_there","check_groups","check_holdouts","check_switches","tied_names","ring_from","check_rings","house_checked","_law_draw","_law_same","_law_copy","_law_names_of","_law_needs","_law_switches","_law_ringed","_law_is_ring","law","Ringed","RollError"]:List Str)++(["ValueError","Twice","NoSwitch","TooMuch"]:List Str),kst:=[(21,(.str "abcdefghijklmnopqrstuvwxyz")),(22,(.int 12))],fns:=[23,24,25,26,27,28,29,30,31,32,33,34,35,36,37,38,39,40,41,42,43],cls:=[45,46,47,48,49],xt:=[(Str.ofString "Ringed",45,true),(Str.ofString "Ringed",46,true),(Str.ofString "Ringed",47,false),(Str.ofString "Ringed",48,false),(Str.ofString "Ringed",49,false)],pl:=[],rc:=[(44,"Ringed","ring")],xm:=[(Str.ofString "Ringed",44)],fio:=[]}
noncomputable def b23:List IS:=
 [(.if_ (.not_ (.isi (.v 0) .str)) [(.ret (.c (.bl false)))] []),(.if_ (.not_ (.chain .le .le (.v 2) (.bi .len [(.v 0)]) (.v 3))) [(.ret (.c (.bl false)))] []),(.ret (.bi .all [(.comp {N:=["signs","sign"],kd:=[.cell,.local],gl:=[],df:=false} [1] (.nm 1) (.val (.v 0)) [] (.cmp .in_ (.v 1) (.v 0)))]))]
noncomputable def d23:Fn:={np:=4,G:={N:=["thing","signs","least","most"],kd:=[.local,.cell,.local,.local],gl:=[14,11,0,9],df:=true},body:=b23}
noncomputable def b24:List IS:=
 [(.if_ (.not_ (.call 23 [(.v 0),(.g 21 (.str "abcdefghijklmnopqrstuvwxyz")),(.c (.int 1)),(.g 22 (.int 12))])) [.never] [])]
noncomputable def d24:Fn:={np:=1,G:={N:=["salt"],kd:=[.local],gl:=[23,21,22],df:=true},body:=b24}
noncomputable def b25:List IS:=
 [(.exp (.call 24 [(.idx (.v 1) (.c (.int 0)))])),(.for_ (.tp [(.nm 2),(.nm 3)]) (.val (.idx (.v 1) (.c (.int 2)))) [.never,.never]),(.ret (.c (.bl true)))]
noncomputable def d25:Fn:={np:=2,G:={N:=["names","switch","conds","outcome","cond"],kd:=List.replicate 5 .local,gl:=[24],df:=true},body:=b25}
noncomputable def b26:List IS:=
 [(.if_ (.cmp .in_ (.v 0) (.v 1)) [.never] [])]
noncomputable def d26:Fn:={np:=2,G:={N:=["name","names_ahead"],kd:=[.local,.local],gl:=[],df:=true},body:=b26}
noncomputable def b27:List IS:=
 [(.if_ (.cmp .nin (.v 0) (.v 1)) [.never] [])]
noncomputable def d27:Fn:={np:=2,G:={N:=["name","names"],kd:=[.local,.local],gl:=[],df:=true},body:=b27}
noncomputable def b28:List IS:=
 [(.asg (.nm 1) (.lst [])),(.for_ (.tp [(.nm 2),(.nm 3)]) (.val (.v 0)) [.never,.never,.never])]
noncomputable def d28:Fn:={np:=1,G:={N:=["groups","names_ahead","name","rows","row","cond"],kd:=List.replicate 6 .local,gl:=[],df:=true},body:=b28}
noncomputable def b29:List IS:=
 [(.asg (.nm 2) (.lst [])),(.for_ (.tp [(.nm 3),(.nm 4),(.nm 5),(.nm 6)]) (.val (.v 0)) [.never,.never,.never,.never,.never,.never])]
noncomputable def d29:Fn:={np:=2,G:={N:=["holdouts","switch_names","names_ahead","name","salt","places","names","told_names","told_name"],kd:=List.replicate 9 .local,gl:=[],df:=true},body:=b29}
noncomputable def b30:List IS:=
 [(.asg (.nm 3) (.lst [])),(.for_ (.tp [(.nm 4),(.nm 5)]) (.val (.v 0)) [(.exp (.call 26 [(.v 4),(.v 3)])),(.app 3 (.v 4)),(.exp (.call 25 [(.v 1),(.idx (.v 5) (.c (.int 0)))])),(.for_ (.tp [(.nm 6),(.nm 7)]) (.val (.idx (.v 5) (.c (.int 1)))) [(.exp (.call 27 [(.v 6),(.v 2)]))])])]
noncomputable def d30:Fn:={np:=3,G:={N:=["switches","group_names","switch_names","names_ahead","name","entry","needed","face"],kd:=List.replicate 8 .local,gl:=[26,25,27],df:=true},body:=b30}
noncomputable def b31:List IS:=
 [(.asg (.nm 1) (.bi .list [(.v 0)])),(.while_ (.c (.bl true)) [(.asg (.nm 2) (.comp {N:=["needs","tied","name"],kd:=[.cell,.cell,.local],gl:=[10],df:=false} [0,1] (.nm 2) (.val (.v 1)) [(.bi .any [(.comp {N:=["tied","needed"],kd:=[.cell,.local],gl:=[],df:=false} [1] (.nm 1) (.val (.dget (.v 0) (.v 2))) [] (.cmp .in_ (.v 1) (.v 0)))])] (.v 2))),(.if_ (.cmp .eq (.v 2) (.v 1)) [(.ret (.v 1))] []),(.asg (.nm 1) (.v 2))])]
noncomputable def d31:Fn:={np:=1,G:={N:=["needs","tied","left"],kd:=[.cell,.cell,.local],gl:=[5],df:=true},body:=b31}
noncomputable def b32:List IS:=
 [(.asg (.nm 2) (.lst [])),(.asg (.nm 3) (.idx (.v 1) (.c (.int 0)))),(.while_ (.cmp .nin (.v 3) (.v 2)) [(.app 2 (.v 3)),(.asg (.nm 3) (.idx (.comp {N:=["tied","needed"],kd:=[.cell,.local],gl:=[],df:=false} [1] (.nm 1) (.val (.dget (.v 0) (.v 3))) [(.cmp .in_ (.v 1) (.v 0))] (.v 1)) (.c (.int 0))))]),(.ret (.bi .tuple [(.sl (.v 2) (some (.lidx (.v 2) (.v 3))) none)]))]
noncomputable def d32:Fn:={np:=2,G:={N:=["needs","tied","path","name"],kd:=[.local,.cell,.local,.local],gl:=[6],df:=true},body:=b32}
noncomputable def b33:List IS:=
 [(.asg (.nm 1) .dnew),(.for_ (.tp [(.nm 2),(.nm 3)]) (.val (.v 0)) [(.dsetx 1 (.v 2) (.comp {N:=["needed","face"],kd:=[.local,.local],gl:=[],df:=false} [] (.tp [(.nm 0),(.nm 1)]) (.val (.idx (.v 3) (.c (.int 1)))) [] (.v 0)))]),(.asg (.nm 4) (.call 31 [(.v 1)])),(.if_ (.cmp .ne (.v 4) (.lst [])) [(.raisef 44 "Ringed" "ring" (.call 32 [(.v 1),(.v 4)]))] [])]
noncomputable def d33:Fn:={np:=1,G:={N:=["switches","needs","name","entry","tied"],kd:=List.replicate 5 .local,gl:=[31,44,32],df:=true},body:=b33}
noncomputable def b34:List IS:=
 [(.asg (.nm 1) (.comp {N:=["name","entry"],kd:=[.local,.local],gl:=[],df:=false} [] (.tp [(.nm 0),(.nm 1)]) (.val (.idx (.v 0) (.c (.int 2)))) [] (.v 0))),(.exp (.call 28 [(.idx (.v 0) (.c (.int 0)))])),(.exp (.call 29 [(.idx (.v 0) (.c (.int 1))),(.v 1)])),(.exp (.call 30 [(.idx (.v 0) (.c (.int 2))),(.comp {N:=["name","rows"],kd:=[.local,.local],gl:=[],df:=false} [] (.tp [(.nm 0),(.nm 1)]) (.val (.idx (.v 0) (.c (.int 0)))) [] (.v 0)),(.v 1)])),(.exp (.call 33 [(.idx (.v 0) (.c (.int 2)))])),(.ret (.c (.bl true)))]
noncomputable def d34:Fn:={np:=1,G:={N:=["house","switch_names"],kd:=[.local,.local],gl:=[28,29,30,33],df:=true},body:=b34}
noncomputable def b35:List IS:=
 [(.asg (.nm 3) (.c (.int 0))),(.if_ (.cmp .gt (.bi .len [(.v 0)]) (.c (.int 0))) [(.asg (.nm 3) (.bin .mod (.idx (.v 0) (.bin .mod (.v 1) (.bi .len [(.v 0)]))) (.c (.int 2147483647))))] []),(.asg (.nm 4) (.bin .add (.bin .mul (.v 3) (.bin .add (.c (.int 742938285)) (.bin .mul (.bin .mul (.c (.int 9973)) (.v 1)) (.v 1)))) (.bin .mul (.v 1) (.c (.int 630360016))))),(.ret (.bin .mod (.bin .fdiv (.bin .mod (.v 4) (.c (.int 2147483647))) (.c (.int 97))) (.v 2)))]
noncomputable def d35:Fn:={np:=3,G:={N:=["_law_script","_law_k","_law_many","_law_cell","_law_mixed"],kd:=List.replicate 5 .local,gl:=[0],df:=true},body:=b35}
noncomputable def b36:List IS:=
 L2.Fr.bSame 36
noncomputable def d36:Fn:={np:=2,G:={N:=["_law_found","_law_due"],kd:=[.local,.local],gl:=[14,16,11,8,6,5,0,9,17],df:=true},body:=b36}
noncomputable def b37:List IS:=
 L2.Fr.bCopy 37 "_law_part"
noncomputable def d37:Fn:={np:=1,G:={N:=["_law_thing"],kd:=[.local],gl:=[14,5,6],df:=true},body:=b37}
noncomputable def b38:List IS:=
 [(.asg (.nm 2) (.c (.str "abcdefghijklmnopqrstuvwxyz"))),(.asg (.nm 3) (.call 35 [(.v 0),(.c (.int 0)),(.c (.int 26))])),(.asg (.nm 4) (.sl (.c (.str "bridges")) none (some (.call 35 [(.v 0),(.c (.int 1)),(.c (.int 8))])))),(.asg (.nm 5) (.call 35 [(.v 0),(.c (.int 2)),(.bin .add (.bi .len [(.v 4)]) (.c (.int 1)))])),(.asg (.nm 6) (.idx (.lst [(.c (.int 1)),(.c (.int 7)),(.c (.int 25)),(.c (.int 11))]) (.call 35 [(.v 0),(.c (.int 3)),(.c (.int 4))]))),(.ret (.comp {N:=["_law_body","_law_at","_law_letters","_law_start","_law_step","_law_j"],kd:=[.cell,.cell,.cell,.cell,.cell,.local],gl:=[],df:=false} [4,5,2,3,6] (.nm 5) (.rng1 (.v 1)) [] (.bin .add (.bin .add (.sl (.v 0) none (some (.v 1))) (.idx (.v 2) (.bin .mod (.bin .add (.v 3) (.bin .mul (.v 4) (.v 5))) (.c (.int 26))))) (.sl (.v 0) (some (.v 1)) none))))]
noncomputable def d38:Fn:={np:=2,G:={N:=["_law_script","_law_many","_law_letters","_law_start","_law_body","_law_at","_law_step"],kd:=[.local,.local,.cell,.cell,.cell,.cell,.cell],gl:=[35,0,15],df:=true},body:=b38}
noncomputable def b39:List IS:=
 [(.asg (.nm 3) (.lst [])),(.for_ (.nm 4) (.rng1 (.bi .len [(.v 1)])) [(.asg (.nm 5) (.lst [])),(.for_ (.nm 6) (.rng1 (.bi .min2 [(.call 35 [(.v 0),(.bin .add (.c (.int 60)) (.v 4)),(.c (.int 3))]),(.bin .add (.c (.int 1)) (.bi .int [(.cmp .lt (.bi .len [(.v 1)]) (.c (.int 7)))]))])) [(.if_ (.cmp .lt (.bin .add (.v 4) (.c (.int 1))) (.bi .len [(.v 1)])) [(.app 5 (.tup [(.idx (.v 1) (.bin .add (.bin .add (.v 4) (.c (.int 1))) (.call 35 [(.v 0),(.bin .add (.bin .add (.c (.int 80)) (.bin .mul (.c (.int 2)) (.v 4))) (.v 6)),(.bin .sub (.bin .sub (.bi .len [(.v 1)]) (.v 4)) (.c (.int 1)))]))),(.idx (.lst [(.c (.str "on")),(.c (.str "off"))]) (.v 6))]))] [])]),(.if_ (.cmp .lt (.v 4) (.v 2)) [(.asg (.nm 7) (.call 35 [(.v 0),(.bin .add (.c (.int 130)) (.v 4)),(.bin .add (.bi .len [(.v 5)]) (.c (.int 1)))])),(.ins 5 (.v 7) (.tup [(.idx (.v 1) (.bin .mod (.bin .add (.v 4) (.c (.int 1))) (.v 2))),(.c (.str "on"))]))] []),(.app 3 (.v 5))]),(.ret (.v 3))]
noncomputable def d39:Fn:={np:=3,G:={N:=["_law_script","_law_names","_law_ring","_law_needs_here","_law_s","_law_own","_law_j","_law_at"],kd:=List.replicate 8 .local,gl:=[15,0,2,35,8],df:=true},body:=b39}
noncomputable def b40:List IS:=
 [(.asg (.nm 1) (.bin .add (.c (.int 1)) (.call 35 [(.v 0),(.c (.int 4)),(.idx (.lst [(.c (.int 4)),(.c (.int 20))]) (.call 35 [(.v 0),(.c (.int 5)),(.c (.int 2))]))]))),(.asg (.nm 2) (.call 38 [(.v 0),(.v 1)])),(.asg (.nm 3) (.c (.int 0))),(.if_ (.cmp .gt (.call 35 [(.v 0),(.c (.int 6)),(.c (.int 3))]) (.c (.int 0))) [(.asg (.nm 3) (.bin .add (.c (.int 1)) (.call 35 [(.v 0),(.c (.int 7)),(.v 1)])))] []),(.asg (.nm 4) (.call 39 [(.v 0),(.v 2),(.v 3)])),(.asg (.nm 5) (.lst [])),(.for_ (.nm 6) (.rng1 (.v 1)) [(.asg (.nm 7) (.tup [(.tup [(.c (.str "ab")),(.c (.str "off")),(.lst []),(.tup [(.lst []),(.lst [(.tup [(.c (.int 0)),(.c (.int 10007))])])])]),(.idx (.v 4) (.v 6)),(.c (.bl false))])),(.ins 5 (.call 35 [(.v 0),(.bin .add (.c (.int 30)) (.v 6)),(.bin .add (.v 6) (.c (.int 1)))]) (.tup [(.idx (.v 2) (.v 6)),(.v 7)]))]),(.ret (.v 5))]
noncomputable def d40:Fn:={np:=1,G:={N:=["_law_script","_law_many","_law_names","_law_ring","_law_needs_here","_law_switches_here","_law_s","_law_entry"],kd:=List.replicate 8 .local,gl:=[35,38,39,15],df:=true},body:=b40}
noncomputable def b41:List IS:=
 [(.asg (.nm 1) (.bi .list [(.v 0)])),(.for_ (.nm 2) (.rng1 (.bi .len [(.v 0)])) [(.asg (.nm 3) (.comp {N:=["_law_name","_law_entry"],kd:=[.local,.local],gl:=[],df:=false} [] (.tp [(.nm 0),(.nm 1)]) (.val (.v 1)) [] (.v 0))),(.asg (.nm 1) (.comp {N:=["_law_names","_law_name","_law_entry"],kd:=[.cell,.local,.local],gl:=[10],df:=false} [3] (.tp [(.nm 1),(.nm 2)]) (.val (.v 1)) [(.bi .any [(.comp {N:=["_law_names","_law_other","_law_face"],kd:=[.cell,.local,.local],gl:=[],df:=false} [0] (.tp [(.nm 1),(.nm 2)]) (.val (.idx (.v 2) (.c (.int 1)))) [] (.cmp .in_ (.v 1) (.v 0)))])] (.tup [(.v 1),(.v 2)])))]),(.ret (.cmp .ne (.v 1) (.lst [])))]
noncomputable def d41:Fn:={np:=1,G:={N:=["_law_switches_here","_law_left","_law_turn","_law_names"],kd:=[.local,.local,.local,.cell],gl:=[5,15,0],df:=true},body:=b41}
noncomputable def b42:List IS:=
 [(.if_ (.or_ (.not_ (.isi (.v 1) .tuple)) (.or_ (.cmp .eq (.bi .len [(.v 1)]) (.c (.int 0))) (.not_ (.bi .all [(.comp {N:=["_law_name"],kd:=[.local],gl:=[14,11],df:=false} [] (.nm 0) (.val (.v 1)) [] (.isi (.v 0) .str))])))) [(.ret (.c (.bl false)))] []),(.if_ (.cmp .ne (.lset (.v 1)) (.bi .len [(.v 1)])) [(.ret (.c (.bl false)))] []),(.for_ (.nm 2) (.rng1 (.bi .len [(.v 1)])) [(.asg (.nm 3) (.idx (.v 1) (.bin .mod (.bin .add (.v 2) (.c (.int 1))) (.bi .len [(.v 1)])))),(.asg (.nm 4) (.c (.bl false))),(.for_ (.tp [(.nm 5),(.nm 6)]) (.val (.v 0)) [(.if_ (.cmp .eq (.v 5) (.idx (.v 1) (.v 2))) [(.asg (.nm 4) (.cmp .in_ (.v 3) (.comp {N:=["_law_other","_law_face"],kd:=[.local,.local],gl:=[],df:=false} [] (.tp [(.nm 0),(.nm 1)]) (.val (.idx (.v 6) (.c (.int 1)))) [] (.v 0))))] [])]),(.if_ (.not_ (.v 4)) [(.ret (.c (.bl false)))] [])]),(.ret (.c (.bl true)))]
noncomputable def d42:Fn:={np:=2,G:={N:=["_law_switches_here","_law_ring","_law_at","_law_after","_law_found","_law_name","_law_entry"],kd:=List.replicate 7 .local,gl:=[14,6,0,9,12,15],df:=true},body:=b42}
noncomputable def b43:List IS:=
 [(.asg (.nm 1) (.call 40 [(.v 0)])),(.asg (.nm 2) (.tup [(.lst []),(.lst []),(.v 1)])),(.asg (.nm 3) (.call 37 [(.v 2)])),(.asg (.nm 4) (.c .non)),(.asg (.nm 5) (.lst [])),(.asg (.nm 6) (.c .non)),(.tryc 6 34 [(.v 3)] 44 ["Ringed"] 7 [(.asg (.nm 4) (.fld (.v 7) "ring" [Str.ofString "Ringed"])),(.asg (.nm 5) (.lst [(.isx (.v 7) [45] [(Str.ofString "Ringed",true)]),(.isx (.v 7) [46] [(Str.ofString "Ringed",true)]),(.isx (.v 7) [47] [(Str.ofString "Ringed",false)]),(.isx (.v 7) [48] [(Str.ofString "Ringed",false)])])),(.asg (.nm 5) (.bin .add (.v 5) (.lst [(.isx (.v 7) [49] [(Str.ofString "Ringed",false)])])))]),(.if_ (.not_ (.call 36 [(.v 3),(.v 2)])) [(.ret (.c (.bl false)))] []),(.if_ (.not_ (.call 41 [(.v 1)])) [(.ret (.call 36 [(.v 6),(.c (.bl true))]))] []),(.ret (.and_ (.cmp .eq (.v 5) (.lst [(.c (.bl true)),(.c (.bl true)),(.c (.bl false)),(.c (.bl false)),(.c (.bl false))])) (.call 42 [(.v 1),(.v 4)])))]
noncomputable def d43:Fn:={np:=1,G:={N:=["_law_script","_law_switches_here","_law_house","_law_handed","_law_ring","_law_marks","_law_told","e"],kd:=List.replicate 8 .local,gl:=[40,37,44,34,14,45,46,47,48,49,36,41,42],df:=true,tr:=true},body:=b43}
noncomputable def T:Tb:=fun n=>match n with
 | 23=>some d23
 | 24=>some d24
 | 25=>some d25
 | 26=>some d26
 | 27=>some d27
 | 28=>some d28
 | 29=>some d29
 | 30=>some d30
 | 31=>some d31
 | 32=>some d32
 | 33=>some d33
 | 34=>some d34
 | 35=>some d35
 | 36=>some d36
 | 37=>some d37
 | 38=>some d38
 | 39=>some d39
 | 40=>some d40
 | 41=>some d41
 | 42=>some d42
 | 43=>some d43
 | _=>none
theorem c23:ck Z d23 ["thing","signs","least","most"] (top 17)=true:=by decide +kernel
theorem c24:ck Z d24 ["salt"] (top 30)=true:=by decide +kernel
theorem c25:ck Z d25 ["names","switch"] (top 35)=true:=by decide +kernel
theorem c26:ck Z d26 ["name","names_ahead"] (top 37)=true:=by decide +kernel
theorem c27:ck Z d27 ["name","names"] (top 38)=true:=by decide +kernel
theorem c28:ck Z d28 ["groups"] (top 40)=true:=by decide +kernel
theorem c29:ck Z d29 ["holdouts","switch_names"] (top 41)=true:=by decide +kernel
theorem c30:ck Z d30 ["switches","group_names","switch_names"] (top 42)=true:=by decide +kernel
theorem c31:ck Z d31 ["needs"] (top 43)=true:=by decide +kernel
theorem c32:ck Z d32 ["needs","tied"] (top 44)=true:=by decide +kernel
theorem c33:ck Z d33 ["switches"] (top 45)=true:=by decide +kernel
theorem c34:ck Z d34 ["house"] (top 46)=true:=by decide +kernel
theorem c35:ck Z d35 ["_law_script","_law_k","_law_many"] (top 48)=true:=by decide +kernel
theorem c36:ck Z d36 ["_law_found","_law_due"] (top 49)=true:=by decide +kernel
theorem c37:ck Z d37 ["_law_thing"] (top 50)=true:=by decide +kernel
theorem c38:ck Z d38 ["_law_script","_law_many"] (top 51)=true:=by decide +kernel
theorem c39:ck Z d39 ["_law_script","_law_names","_law_ring"] (top 52)=true:=by decide +kernel
theorem c40:ck Z d40 ["_law_script"] (top 53)=true:=by decide +kernel
theorem c41:ck Z d41 ["_law_switches_here"] (top 54)=true:=by decide +kernel
theorem c42:ck Z d42 ["_law_switches_here","_law_ring"] (top 55)=true:=by decide +kernel
theorem c43:ck Z d43 ["_law_script"] (top 56)=true:=by decide +kernel
theorem A5:(j6 Z (fnI "self" "ring") ["self","ring"] (cst (top 12))&&inb (cst (top 12)) "self" "ring" "ring")=true:=by decide +kernel
theorem wZ:∀ n x,Z.name n=some x->x≠"__name__"/\(x == ("__debug__" : Str))=false:=by
 have h:(cN++Z.nm).all (fun x=>!(x == "__name__")&&!(x == "__debug__"))=true:=by decide +kernel
 intro n x hx
 have:=List.all_eq_true.mp h x (List.mem_of_getElem? hx)
 simpa using this
@[elab_as_elim] theorem lnS {P:List Value->Prop}{n:Nat} (us:List Value) (e:us.length=n+1) (h:∀ (x:Value) (us:List Value),us.length=n->P (x::us)):P us:=by
 cases us with
 | nil=>cases e
 | cons x us=>exact h x us (Nat.succ.inj e)
@[elab_as_elim] theorem lnZ {P:List Value->Prop} (us:List Value) (e:us.length=0) (h:P []):P us:=by
 cases us with
 | nil=>exact h
 | cons x us=>cases e
theorem ln1 {fd:FuncData}{ps:List Str}(h:∀ x0:Value,bindArgs fd ⟨[x0],[]⟩=pure (ps.zip [x0]))(us:List Value)(e:us.length=1):bindArgs fd ⟨us,[]⟩=pure (ps.zip us):=lnS us e fun x0 us e=>lnZ us e (h x0)
theorem ln2 {fd:FuncData}{ps:List Str}(h:∀ x0 x1:Value,bindArgs fd ⟨[x0,x1],[]⟩=pure (ps.zip [x0,x1]))(us:List Value)(e:us.length=2):bindArgs fd ⟨us,[]⟩=pure (ps.zip us):=lnS us e fun x0 us e=>lnS us e fun x1 us e=>lnZ us e (h x0 x1)
theorem ln3 {fd:FuncData}{ps:List Str}(h:∀ x0 x1 x2:Value,bindArgs fd ⟨[x0,x1,x2],[]⟩=pure (ps.zip [x0,x1,x2]))(us:List Value)(e:us.length=3):bindArgs fd ⟨us,[]⟩=pure (ps.zip us):=lnS us e fun x0 us e=>lnS us e fun x1 us e=>lnS us e fun x2 us e=>lnZ us e (h x0 x1 x2)
theorem ln4 {fd:FuncData}{ps:List Str}(h:∀ x0 x1 x2 x3:Value,bindArgs fd ⟨[x0,x1,x2,x3],[]⟩=pure (ps.zip [x0,x1,x2,x3]))(us:List Value)(e:us.length=4):bindArgs fd ⟨us,[]⟩=pure (ps.zip us):=lnS us e fun x0 us e=>lnS us e fun x1 us e=>lnS us e fun x2 us e=>lnS us e fun x3 us e=>lnZ us e (h x0 x1 x2 x3)
theorem dfo {f:Nat}{x:Str}{fn:Fn}{st:Stmt}{fa:Addr}{ps:List Str}{K:W.Frag}{h:Heap}{mg:Str->Option Value}{oc:Value}{od an:Option Addr}{sl:Array (Option Value)}{kV dc pm cd ct:Value}(c:ck Z fn ps st=true)(hT:T f=some fn)(b:∀ (kV dc pm:Value)(an:Option Addr)(cd ct:Value)(us:List Value),us.length=ps.length->bindArgs (W.fnOf x x (dA st) (cE st) (bP st) .none kV dc pm an cd ct) ⟨us,[]⟩=pure (ps.zip us))(X:K.In h)(G:h.Ns mainGlobals mg)
  (a:W.nsIn K mainGlobals x=some (some (.ref fa))) (l:K.lookup fa=some ⟨oc,od,.func (W.fnOf x x (dA st) (cE st) (bP st) .none kV dc pm an cd ct),sl⟩) (e:W.codeIn K cd x=true) (k:W.keepIn K (.ref fa)=true):DefOk K mg Z T f x:=⟨fn,st,fa,_,ps,hT,gq l e k,W.mg_of X G a,(gq l e k).binds b,j8 c⟩
noncomputable def w4:Nat:=43
noncomputable def sR:Str:="_law_script"
theorem all_mk {l:PySem.W.OpenLaw}{w:World}{fa:Addr}{fi44:Addr}{odi44 ani44:Option Addr}{sli44:Array (Option Value)}{oci44 kVi44 dci44 pmi44 cdi44 cti44:Value}{w44 w45 w47 w48 w49:Addr}{K:W.Frag}{h:Heap}{mg:Str->Option Value}{f43:Addr}{od43 an43:Option Addr}{sl43:Array (Option Value)}{oc43 kV43 dc43 pm43 cd43 ct43:Value}{t21:Tok}{t22:Tok}(X:K.In h)(G:h.Ns mainGlobals mg)(hfa:mg "law" = some (.ref fa))
  (t23:DefOk K mg Z T 23 "is_text_of")
  (t24:DefOk K mg Z T 24 "check_salt")
  (t25:DefOk K mg Z T 25 "switch_checked")
  (t26:DefOk K mg Z T 26 "check_new")
  (t27:DefOk K mg Z T 27 "check_switch_there")
  (t28:DefOk K mg Z T 28 "check_groups")
  (t29:DefOk K mg Z T 29 "check_holdouts")
  (t30:DefOk K mg Z T 30 "check_switches")
  (t31:DefOk K mg Z T 31 "tied_names")
  (t32:DefOk K mg Z T 32 "ring_from")
  (t33:DefOk K mg Z T 33 "check_rings")
  (t34:DefOk K mg Z T 34 "house_checked")
  (t35:DefOk K mg Z T 35 "_law_draw")
  (t36:DefOk K mg Z T 36 "_law_same")
  (t37:DefOk K mg Z T 37 "_law_copy")
  (t38:DefOk K mg Z T 38 "_law_names_of")
  (t39:DefOk K mg Z T 39 "_law_needs")
  (t40:DefOk K mg Z T 40 "_law_switches")
  (t41:DefOk K mg Z T 41 "_law_ringed")
  (t42:DefOk K mg Z T 42 "_law_is_ring")
  (a43:W.nsIn K mainGlobals "law" = some (some (.ref f43))) (l43:K.lookup f43=some ⟨oc43,od43,.func (W.fnOf "law" "law" (dA (top 56)) (cE (top 56)) (bP (top 56)) .none kV43 dc43 pm43 an43 cd43 ct43),sl43⟩) (e43:W.codeIn K cd43 "law" = true) (k43:W.keepIn K (.ref f43)=true)
  (q21:W.nsIn K mainGlobals "LETTERS" = some (some (.str "abcdefghijklmnopqrstuvwxyz" t21)))
  (q22:W.nsIn K mainGlobals "SALT_LENGTH" = some (some (.int 12 t22)))
  (u44:W.nsIn K mainGlobals "Ringed" = some (some (.ref w44)))
  (u45:W.nsIn K mainGlobals "RollError" = some (some (.ref w45)))
  (u47:W.nsIn K mainGlobals "Twice" = some (some (.ref w47)))
  (u48:W.nsIn K mainGlobals "NoSwitch" = some (some (.ref w48)))
  (u49:W.nsIn K mainGlobals "TooMuch" = some (some (.ref w49)))
  (u46:W.nsIn K mainGlobals "ValueError" = some none)
  (i44:W.findIn K (.ref w44) "__init__" = some (some (.ref fi44))) (il44:K.lookup fi44=some ⟨oci44,odi44,.func (W.fnOf "__init__" "Ringed.__init__" (dA (cst (top 12))) (cE (cst (top 12))) (bP (cst (top 12))) .none kVi44 dci44 pmi44 ani44 cdi44 cti44),sli44⟩) (ie44:W.codeIn K cdi44 "Ringed.__init__" = true) (ik44:W.keepIn K (.ref fi44)=true)
  (vn44:nameIn K w44=some "Ringed")
  (vg44:W.findIn K (.ref w44) "__getattribute__" = some (some (.builtin "BaseException.__getattribute__")))
  (vo44:W.findIn K (.ref w44) "__getattr__" = some none)
  (vc44:W.findIn K (.ref w44) "__class__" = some (some (.builtin "object.__class__")))
  (vb44:W.mroIn K w44 (.type "BaseException")=some true)
  (vj44:W.mroIn K w44 (.type "object")=some true)
  (vi44:(W.clsIn K w44).isSome=true)
  (vx44:nG K w44=true)
  (vs44:W.findIn K (.ref w44) "__setattr__" = some (some (.builtin "object.__setattr__")))
  (va44:W.findIn K (.ref w44) "ring" = some none)
  (vd44:W.hasDictIn K w44=true)
  (vl44:((W.clsIn K w44).any fun cd=>i8 cd.mro)=true)
  (it44:W.typeIn K (.ref fi44)=some (.type "function"))
  (y44_45:W.kitOne K (.ref w44) (.ref w45)=some true)
  (y44_46:W.kitOne K (.ref w44) (.type "ValueError")=some true)
  (y44_47:W.kitOne K (.ref w44) (.ref w47)=some false)
  (y44_48:W.kitOne K (.ref w44) (.ref w48)=some false)
  (y44_49:W.kitOne K (.ref w44) (.ref w49)=some false)
  (m44_44:W.exmOne K (.ref w44) (.ref w44)=some true)
  (z0:W.nsIn K mainGlobals "len" = some none)
  (z1:W.nsIn K mainGlobals "sum" = some none)
  (z2:W.nsIn K mainGlobals "min" = some none)
  (z3:W.nsIn K mainGlobals "max" = some none)
  (z4:W.nsIn K mainGlobals "sorted" = some none)
  (z5:W.nsIn K mainGlobals "list" = some none)
  (z6:W.nsIn K mainGlobals "tuple" = some none)
  (z7:W.nsIn K mainGlobals "ord" = some none)
  (z8:W.nsIn K mainGlobals "int" = some none)
  (z9:W.nsIn K mainGlobals "all" = some none)
  (z10:W.nsIn K mainGlobals "any" = some none)
  (z11:W.nsIn K mainGlobals "str" = some none)
  (z12:W.nsIn K mainGlobals "set" = some none)
  (z13:W.nsIn K mainGlobals "abs" = some none)
  (z14:W.nsIn K mainGlobals "isinstance" = some none)
  (z15:W.nsIn K mainGlobals "range" = some none)
  (z16:W.nsIn K mainGlobals "bool" = some none)
  (z17:W.nsIn K mainGlobals "zip" = some none)
  (z18:W.nsIn K mainGlobals "reversed" = some none)
  (z19:W.nsIn K mainGlobals "dict" = some none)
  (z20:W.nsIn K mainGlobals "enumerate" = some none) :
  ∃ fd:FuncData,(∀ (s:Shared) (v:Value),BindsTo s fd ⟨[v],[]⟩ [(sR,v)])/\∀ base:Heap,K.In base->base.Ns mainGlobals mg->FnOk l.prog w K mg base (CX1 l.prog w) (16+2+1) fa fd [sR] (spL K (ag T (16+1)) w4 [sR]):=by
 have e:=hfa.symm.trans (PySem.W.mg_of X G a43)
 cases e
 have t:TopOk K mg Z T:=by
  constructor
  case nam=>
   exact wZ
  case blt=>
   exact fun n x hx=>by
    have key:∀ y∈cN,mg y=none:=by
     intro y hy
     simp only[cN,List.mem_cons,List.not_mem_nil,or_false] at hy
     rcases hy with rfl|rfl|rfl|rfl|rfl|rfl|rfl|rfl|rfl|rfl|rfl|rfl|rfl|rfl|rfl|rfl|rfl|rfl|rfl|rfl|rfl
     ·exact W.mg_none_of X G z0
     ·exact W.mg_none_of X G z1
     ·exact W.mg_none_of X G z2
     ·exact W.mg_none_of X G z3
     ·exact W.mg_none_of X G z4
     ·exact W.mg_none_of X G z5
     ·exact W.mg_none_of X G z6
     ·exact W.mg_none_of X G z7
     ·exact W.mg_none_of X G z8
     ·exact W.mg_none_of X G z9
     ·exact W.mg_none_of X G z10
     ·exact W.mg_none_of X G z11
     ·exact W.mg_none_of X G z12
     ·exact W.mg_none_of X G z13
     ·exact W.mg_none_of X G z14
     ·exact W.mg_none_of X G z15
     ·exact W.mg_none_of X G z16
     ·exact W.mg_none_of X G z17
     ·exact W.mg_none_of X G z18
     ·exact W.mg_none_of X G z19
     ·exact W.mg_none_of X G z20
    exact key x (List.mem_of_getElem? hx)
  case cst=>
   exact fun n d x hm hx=>by
    have hm':(n,d)∈([(21,(.str "abcdefghijklmnopqrstuvwxyz")),(22,(.int 12))]:List (Nat×D)):=hm
    simp only[List.mem_cons,List.not_mem_nil,or_false,Prod.mk.injEq] at hm'
    rcases hm' with ⟨rfl,rfl⟩|⟨rfl,rfl⟩
    ·cases hx;exact⟨_,.str _,PySem.W.mg_of X G q21,⟨_,rfl⟩,fun _ _=>.str _⟩
    ·cases hx;exact⟨_,.int _,PySem.W.mg_of X G q22,⟨_,rfl⟩,fun _ _=>.int _⟩
  case fns=>
   exact fun f hf x hx=>by
    have hf':f∈([23,24,25,26,27,28,29,30,31,32,33,34,35,36,37,38,39,40,41,42,43]:List Nat):=hf
    simp only[List.mem_cons,List.not_mem_nil,or_false] at hf'
    rcases hf' with rfl|rfl|rfl|rfl|rfl|rfl|rfl|rfl|rfl|rfl|rfl|rfl|rfl|rfl|rfl|rfl|rfl|rfl|rfl|rfl|rfl
    ·cases hx;exact t23
    ·cases hx;exact t24
    ·cases hx;exact t25
    ·cases hx;exact t26
    ·cases hx;exact t27
    ·cases hx;exact t28
    ·cases hx;exact t29
    ·cases hx;exact t30
    ·cases hx;exact t31
    ·cases hx;exact t32
    ·cases hx;exact t33
    ·cases hx;exact t34
    ·cases hx;exact t35
    ·cases hx;exact t36
    ·cases hx;exact t37
    ·cases hx;exact t38
    ·cases hx;exact t39
    ·cases hx;exact t40
    ·cases hx;exact t41
    ·cases hx;exact t42
    ·cases hx;exact dfo c43 rfl (fun _ _ _ _ _ _=>ln1 fun _=>rfl) X G a43 l43 e43 k43
  case fio=>
   exact fun f hf=>absurd (show f∈([]:List Nat) from hf) (by simp)
  case plc=>
   exact fun f hf=>absurd (show f∈([]:List Nat) from hf) (by simp)
  case xcv=>
   exact fun n hn x hx=>by
    have hn':n∈([45,46,47,48,49]:List Nat):=hn
    simp only[List.mem_cons,List.not_mem_nil,or_false] at hn'
    rcases hn' with rfl|rfl|rfl|rfl|rfl
    ·cases hx;exact⟨_,(.inl ⟨w45,rfl,PySem.W.mg_of X G u45⟩)⟩
    ·cases hx;exact⟨_,(.inr ⟨"ValueError",rfl,W.mg_none_of X G u46,by decide +kernel⟩)⟩
    ·cases hx;exact⟨_,(.inl ⟨w47,rfl,PySem.W.mg_of X G u47⟩)⟩
    ·cases hx;exact⟨_,(.inl ⟨w48,rfl,PySem.W.mg_of X G u48⟩)⟩
    ·cases hx;exact⟨_,(.inl ⟨w49,rfl,PySem.W.mg_of X G u49⟩)⟩
  case xcl=>
   exact fun c n b x hm hx=>by
    have hm':(c,n,b)∈([(Str.ofString "Ringed",45,true),(Str.ofString "Ringed",46,true),(Str.ofString "Ringed",47,false),(Str.ofString "Ringed",48,false),(Str.ofString "Ringed",49,false)]:List (Str×Nat×Bool)):=hm
    simp only[List.mem_cons,List.not_mem_nil,or_false,Prod.mk.injEq] at hm'
    rcases hm' with ⟨rfl,rfl,rfl⟩|⟨rfl,rfl,rfl⟩|⟨rfl,rfl,rfl⟩|⟨rfl,rfl,rfl⟩|⟨rfl,rfl,rfl⟩
    ·cases hx;exact⟨w44,u44,⟨vg44,vo44,vc44,vb44,vj44,vi44⟩,fun v hv=>by rw[CVk.fn hv (.inl ⟨w45,rfl,PySem.W.mg_of X G u45⟩)];exact y44_45⟩
    ·cases hx;exact⟨w44,u44,⟨vg44,vo44,vc44,vb44,vj44,vi44⟩,fun v hv=>by rw[CVk.fn hv (.inr ⟨"ValueError",rfl,W.mg_none_of X G u46,by decide +kernel⟩)];exact y44_46⟩
    ·cases hx;exact⟨w44,u44,⟨vg44,vo44,vc44,vb44,vj44,vi44⟩,fun v hv=>by rw[CVk.fn hv (.inl ⟨w47,rfl,PySem.W.mg_of X G u47⟩)];exact y44_47⟩
    ·cases hx;exact⟨w44,u44,⟨vg44,vo44,vc44,vb44,vj44,vi44⟩,fun v hv=>by rw[CVk.fn hv (.inl ⟨w48,rfl,PySem.W.mg_of X G u48⟩)];exact y44_48⟩
    ·cases hx;exact⟨w44,u44,⟨vg44,vo44,vc44,vb44,vj44,vi44⟩,fun v hv=>by rw[CVk.fn hv (.inl ⟨w49,rfl,PySem.W.mg_of X G u49⟩)];exact y44_49⟩
  case xmt=>
   exact fun c n x hm hx=>by
    have hm':(c,n)∈([(Str.ofString "Ringed",44)]:List (Str×Nat)):=hm
    simp only[List.mem_cons,List.not_mem_nil,or_false,Prod.mk.injEq] at hm'
    rcases hm' with ⟨rfl,rfl⟩
    ·cases hx;exact⟨w44,w44,u44,u44,vn44,PySem.W.mg_of X G u44,m44_44⟩
  case xrs=>
   exact fun n c x hm=>by
    have hm':(n,c,x)∈([(44,"Ringed","ring")]:List (Nat×Str×Str)):=hm
    simp only[List.mem_cons,List.not_mem_nil,or_false,Prod.mk.injEq] at hm'
    rcases hm' with ⟨rfl,rfl,rfl⟩
    ·exact⟨w44,fi44,PySem.W.mg_of X G u44,u44,vx44,⟨⟨vg44,vo44,vc44,vb44,vj44,vi44⟩,vs44,va44,vd44,vl44,i44,it44⟩,nQ (Z:=Z) A5 (gq il44 ie44 ik44) (Fun.binds (gq il44 ie44 ik44) fun _ _ _ _ _ _=>ln2 fun _ _=>rfl)⟩
 exact⟨PySem.W.fnOf "law" "law" (dA (top 56)) (cE (top 56)) (bP (top 56)) .none kV43 dc43 pm43 an43 cd43 ct43,fun s v=>.of_eq rfl,fun base _ _=>wC t 16 (by decide) (f:=43) (fn:=d43) rfl (gq (st:=top 56) l43 e43 k43) (j8 c43)⟩
end Law
namespace L2
open PySem PySem.Spec PyProof.Rows PySem.SeqAt
namespace Fr
noncomputable def one (c:Nat):Str:=⟨#[c]⟩
noncomputable def sal (cs:List Nat):Str:=⟨cs.toArray⟩
def low (c:Nat):Prop:=97<=c/\c<=122
theorem qM:(Str.ofString "abcdefghijklmnopqrstuvwxyz").cps.toList=List.range' 97 26:=by decide +kernel
theorem mB:(Str.ofString "abcdefghijklmnopqrstuvwxyz").length=26:=by decide +kernel
theorem w8 {i:Int}(h0:0<=i)(h1:i < 26):cX (.str "abcdefghijklmnopqrstuvwxyz") (.int i)=.ok (.str (one (97+i.toNat))):=by
 rw[Ev.x_c h0 (by rw[mB];exact h1) (by rw[mB];decide),qM]
 have:(List.range' 97 26).getD i.toNat 0=97+i.toNat:=by
  rw[List.getD_eq_getElem?_getD,List.getElem?_range' (by omega)]
  show 97+1*i.toNat=_
  omega
 rw[this]
 rfl
theorem fD (cs:List Nat):(sal cs).length=cs.length:=by unfold sal Str.length;simp
theorem km {cs:List Nat}{j:Int}(h0:0<=j)(h1:j<=cs.length):Txt.slice (sal cs) none (some j)=sal (cs.take j.toNat):=by
 have:=StrLaws.sliceText_to (x:=sal cs) (j:=j) ⟨h0,by show j<=(cs.toArray.toList.length:Nat);simpa using h1⟩
 refine this.trans ?_
 show (⟨((cs.toArray.toList.drop 0).take (j - 0).toNat).toArray⟩:Str)=⟨(cs.take j.toNat).toArray⟩
 rw[List.toList_toArray,List.drop_zero,Int.sub_zero]
theorem lh {cs:List Nat}{i:Int}(h0:0<=i)(h1:i<=cs.length):Txt.slice (sal cs) (some i) none=sal (cs.drop i.toNat):=by
 have:=StrLaws.sliceText_from (x:=sal cs) (i:=i) ⟨h0,by show i<=(cs.toArray.toList.length:Nat);simpa using h1⟩
 refine this.trans ?_
 show (⟨((cs.toArray.toList.drop i.toNat).take ((cs.toArray.toList.length:Int) - i).toNat).toArray⟩:Str)=⟨(cs.drop i.toNat).toArray⟩
 rw[List.toList_toArray,List.take_of_length_le (by rw[List.length_drop];omega)]
theorem sS (a b:List Nat):sal a++sal b=sal (a++b):=by
 show (⟨a.toArray++b.toArray⟩:Str)=⟨(a++b).toArray⟩
 rw[List.append_toArray]
theorem sT (c:Nat):one c=sal [c]:=rfl
theorem mC {a b:List Nat}(h:a.length+b.length<=1000):opB .add (.str (sal a)) (.str (sal b))=.ok (.str (sal (a++b))):=by
 rw[Ev.la,Ev.jr (by rw[fD,fD];omega),sS]
 rfl
theorem iO (cs:List Nat):dm (sal cs)=(cs.map one).map .str:=by
 unfold dm sal one
 rw[List.map_map]
 rfl
theorem w9 {c:Nat}(h:low c):jI "abcdefghijklmnopqrstuvwxyz" (one c)=true:=by
 have:∀ k,k < 26->jI "abcdefghijklmnopqrstuvwxyz" (one (97+k))=true:=by decide +kernel
 obtain⟨h1,h2⟩:=h
 rw[show c=97+(c - 97) by omega]
 exact this _ (by omega)
end Fr
end L2
namespace Law
open PySem PySem.Spec L2 L2.Fr PyProof.Rows
theorem gx {n:Nat}{ds:List D}(f:Nat)(fn:Fn)(m k:Nat)(body:List IS)(h:T f=some fn)(h0:fn.io=false)(h1:fn.np=m)(h2:fn.G.N.length=k)(h3:fn.body=body)(hl:ds.length=m):ag T (n+1) f ds=bnd (cb (ag T n) body (ds.map some++List.replicate (k - m) none)) Ev.qD:=Ev.go h h0 h1 h2 h3 hl
noncomputable def cel (ns:List Int)(k:Int):Int:=if 0 < ns.length then ns.getD (k % (ns.length:Int)).toNat 0 % 2147483647 else 0
noncomputable def dr (ns:List Int)(k m:Int):Int:=(cel ns k*(742938285+9973*k*k)+k*630360016) % 2147483647 / 97 % m
theorem An (ns:List Int)(k:Int):0<=cel ns k/\cel ns k < 2147483647:=by
 unfold cel
 split
 ·exact⟨Int.emod_nonneg _ (by decide),Int.emod_lt_of_pos _ (by decide)⟩
 ·decide
theorem qN (ns:List Int)(k:Int){m:Int}(h:0 < m):0<=dr ns k m:=Int.emod_nonneg _ (by omega)
theorem qO (ns:List Int)(k:Int){m:Int}(h:0 < m):dr ns k m < m:=Int.emod_lt_of_pos _ h
theorem kn (n:Nat)(ns:List Int)(k m:Int)(h0:0<=k)(h1:k<=2000)(hm:0 < m):ag T (n+1) 35 [.lst false (ns.map .int),.int k,.int m]=.ok (.int (dr ns k m)):=by
 rw[gx 35 d35 3 5 b35 rfl rfl rfl rfl rfl rfl];unfold b35
 obtain⟨b0,b1⟩:=An ns k
 unfold dr
 have lm:(ns.map D.int).length=ns.length:=List.length_map _
 by_cases h:0 < ns.length
 ·have hd:decide ((0:Int) < (ns.length:Int))=true:=decide_eq_true (by omega)
  have c0:=Int.emod_nonneg k (show (ns.length:Int)≠0 by omega)
  have c1:=Int.emod_lt_of_pos k (show (0:Int) < (ns.length:Int) by omega)
  have ec:ns.getD (k % (ns.length:Int)).toNat 0 % 2147483647=cel ns k:=by unfold cel;rw[if_pos h]
  simp(disch:=omega) only[ev0,Nat.reduceBEq,Nat.reduceSub,Nat.reduceAdd,reduceIte,Ev.rs0,Ev.rss,Ev.bF,Ev.bG,↓Ev.fzI,↓Ev.fzS,↓Ev.fzN,Ev.rfn,Ev.rct,Ev.rcn,cond_true,cond_false,List.map_cons,List.map_nil,List.cons_append,List.nil_append,Bool.true_or,Bool.false_or,Ev.bT,Ev.bU,Ev.bV,Ev.bW,Ev.bX,Ev.ers_n,Ev.bI,Ev.bY,Ev.bZ,Ev.bf,Ev.aC,Ev.bK,Ev.bL,Ev.bg,Ev.bh,Ev.bJ,Ev.bj,↓Ev.ti1,↓Ev.ti2,↓Ev.ti3,↓Ev.ti4,↓Ev.ti5,↓Ev.ti6,↓Ev.ti7,↓Ev.ti8,Ev.aF,Ev.bp,Ev.ah,Ev.aG,Ev.aH,Ev.aI,Ev.bq,Ev.ai,Ev.aJ,Ev.aK,Ev.br,Ev.aj,Ev.aL,Ev.aM,Ev.aO,Ev.aP,Ev.aQ,Ev.bt,Ev.ak,Ev.aR,Ev.ao,Ev.bu,Ev.aq,Ev.aT,Ev.ar,Ev.au,Ev.bw,Ev.bx,Ev.aU,Ev.av,Ev.aw,Ev.aa,Ev.af,Ev.ay,Ev.aV,Ev.bz,Ev.bA,Ev.aW,Ev.bB,Ev.bC,Ev.aX,Ev.aY,Ev.aZ,Ev.a8,Ev.bD,Ev.bE,Ev.az,Ev.aA,Ev.a9,Ev.ba,Ev.aB,Ev.bb,Ev.bc,Ev.bH,Ev.bM,lm,hd,ec]
 ·have hd:decide ((0:Int) < (ns.length:Int))=false:=decide_eq_false (by omega)
  have ec:cel ns k=0:=by unfold cel;rw[if_neg h]
  rw[ec]
  simp(disch:=omega) only[ev0,Nat.reduceBEq,Nat.reduceSub,Nat.reduceAdd,reduceIte,Ev.rs0,Ev.rss,Ev.bF,Ev.bG,↓Ev.fzI,↓Ev.fzS,↓Ev.fzN,Ev.rfn,Ev.rct,Ev.rcn,cond_true,cond_false,List.map_cons,List.map_nil,List.cons_append,List.nil_append,Bool.true_or,Bool.false_or,Ev.bT,Ev.bU,Ev.bV,Ev.bW,Ev.bX,Ev.ers_n,Ev.bI,Ev.bY,Ev.bZ,Ev.bf,Ev.aC,Ev.bK,Ev.bL,Ev.bg,Ev.bh,Ev.bJ,Ev.bj,↓Ev.ti1,↓Ev.ti2,↓Ev.ti3,↓Ev.ti4,↓Ev.ti5,↓Ev.ti6,↓Ev.ti7,↓Ev.ti8,Ev.aF,Ev.bp,Ev.ah,Ev.aG,Ev.aH,Ev.aI,Ev.bq,Ev.ai,Ev.aJ,Ev.aK,Ev.br,Ev.aj,Ev.aL,Ev.aM,Ev.aO,Ev.aP,Ev.aQ,Ev.bt,Ev.ak,Ev.aR,Ev.ao,Ev.bu,Ev.aq,Ev.aT,Ev.ar,Ev.au,Ev.bw,Ev.bx,Ev.aU,Ev.av,Ev.aw,Ev.aa,Ev.af,Ev.ay,Ev.aV,Ev.bz,Ev.bA,Ev.aW,Ev.bB,Ev.bC,Ev.aX,Ev.aY,Ev.aZ,Ev.a8,Ev.bD,Ev.bE,Ev.az,Ev.aA,Ev.a9,Ev.ba,Ev.aB,Ev.bb,Ev.bc,Ev.bH,Ev.bM,lm,hd]
theorem drx (n:Nat)(ns:List Int)(k m:Int)(h0:0<=k)(h1:k<=2000)(hm:0 < m):∃ r:Int,ag T (n+1) 35 [.lst false (ns.map .int),.int k,.int m]=.ok (.int r)/\0<=r/\r < m:=⟨_,kn n ns k m h0 h1 hm,qN ns k hm,qO ns k hm⟩
def Sl (cs:List Nat):Prop:=1<=cs.length/\cs.length<=12/\∀ c∈cs,low c
theorem sU (n:Nat){cs:List Nat}(h:Sl cs):ag T (n+1) 23 [.str (sal cs),.str "abcdefghijklmnopqrstuvwxyz",.int 1,.int 12]=.ok (.bl true):=by
 rw[gx 23 d23 4 4 b23 rfl rfl rfl rfl rfl rfl];unfold b23
 obtain⟨h1,h2,h3⟩:=h
 have e1:cy (cR (ag T n) (.nm 1) [] (.cmp .in_ (.v 1) (.v 0)) [some (.str "abcdefghijklmnopqrstuvwxyz"),none]) (dm (sal cs))=.ok ((cs.map fun c=>true).map .bl):=by
  rw[iO,List.map_map]
  refine Ev.c7 (fun c:Nat=>D.str (one c)) (fun c=>true) .bl _ fun c hc=>?_
  have:=w9 (h3 c hc)
  simp(disch:=omega) only[ev0,Nat.reduceBEq,Nat.reduceSub,Nat.reduceAdd,reduceIte,Ev.rs0,Ev.rss,Ev.bF,Ev.bG,↓Ev.fzI,↓Ev.fzS,↓Ev.fzN,Ev.rfn,Ev.rct,Ev.rcn,cond_true,cond_false,List.map_cons,List.map_nil,List.cons_append,List.nil_append,Bool.true_or,Bool.false_or,Ev.bT,Ev.bU,Ev.bV,Ev.bW,Ev.bX,Ev.ers_n,Ev.bI,Ev.bY,Ev.bZ,Ev.bf,Ev.aC,Ev.bK,Ev.bL,Ev.bg,Ev.bh,Ev.bJ,Ev.bj,↓Ev.ti1,↓Ev.ti2,↓Ev.ti3,↓Ev.ti4,↓Ev.ti5,↓Ev.ti6,↓Ev.ti7,↓Ev.ti8,Ev.aF,Ev.bp,Ev.ah,Ev.aG,Ev.aH,Ev.aI,Ev.bq,Ev.ai,Ev.aJ,Ev.aK,Ev.br,Ev.aj,Ev.aL,Ev.aM,Ev.aO,Ev.aP,Ev.aQ,Ev.bt,Ev.ak,Ev.aR,Ev.ao,Ev.bu,Ev.aq,Ev.aT,Ev.ar,Ev.au,Ev.bw,Ev.bx,Ev.aU,Ev.av,Ev.aw,Ev.aa,Ev.af,Ev.ay,Ev.aV,Ev.bz,Ev.bA,Ev.aW,Ev.bB,Ev.bC,Ev.aX,Ev.aY,Ev.aZ,Ev.a8,Ev.bD,Ev.bE,Ev.az,Ev.aA,Ev.a9,Ev.ba,Ev.aB,Ev.bb,Ev.bc,Ev.bH,Ev.bM,this]
 have ea:(cs.map fun _=>true).all id=true:=by rw[List.all_map];simp
 have lc:(dm (sal cs)).length=cs.length:=by rw[iO,List.length_map,List.length_map]
 have d1:decide ((1:Int)<=(cs.length:Int))=true:=decide_eq_true (by omega)
 have d2:decide ((cs.length:Int)<=12)=true:=decide_eq_true (by omega)
 have sl:=fD cs
 simp(disch:=omega) only[ev0,Nat.reduceBEq,Nat.reduceSub,Nat.reduceAdd,reduceIte,Ev.rs0,Ev.rss,Ev.bF,Ev.bG,↓Ev.fzI,↓Ev.fzS,↓Ev.fzN,Ev.rfn,Ev.rct,Ev.rcn,cond_true,cond_false,List.map_cons,List.map_nil,List.cons_append,List.nil_append,Bool.true_or,Bool.false_or,Ev.bT,Ev.bU,Ev.bV,Ev.bW,Ev.bX,Ev.ers_n,Ev.bI,Ev.bY,Ev.bZ,Ev.bf,Ev.aC,Ev.bK,Ev.bL,Ev.bg,Ev.bh,Ev.bJ,Ev.bj,↓Ev.ti1,↓Ev.ti2,↓Ev.ti3,↓Ev.ti4,↓Ev.ti5,↓Ev.ti6,↓Ev.ti7,↓Ev.ti8,Ev.aF,Ev.bp,Ev.ah,Ev.aG,Ev.aH,Ev.aI,Ev.bq,Ev.ai,Ev.aJ,Ev.aK,Ev.br,Ev.aj,Ev.aL,Ev.aM,Ev.aO,Ev.aP,Ev.aQ,Ev.bt,Ev.ak,Ev.aR,Ev.ao,Ev.bu,Ev.aq,Ev.aT,Ev.ar,Ev.au,Ev.bw,Ev.bx,Ev.aU,Ev.av,Ev.aw,Ev.aa,Ev.af,Ev.ay,Ev.aV,Ev.bz,Ev.bA,Ev.aW,Ev.bB,Ev.bC,Ev.aX,Ev.aY,Ev.aZ,Ev.a8,Ev.bD,Ev.bE,Ev.az,Ev.aA,Ev.a9,Ev.ba,Ev.aB,Ev.bb,Ev.bc,Ev.bH,Ev.bM,d1,d2,e1,ea,lc,sl]
theorem lj (n:Nat){cs:List Nat}(h:Sl cs):ag T (n+2) 24 [.str (sal cs)]=.ok .non:=by
 have e:=sU n h
 rw[gx 24 d24 1 1 b24 rfl rfl rfl rfl rfl rfl];unfold b24
 simp(disch:=omega) only[ev0,Nat.reduceBEq,Nat.reduceSub,Nat.reduceAdd,reduceIte,Ev.rs0,Ev.rss,Ev.bF,Ev.bG,↓Ev.fzI,↓Ev.fzS,↓Ev.fzN,Ev.rfn,Ev.rct,Ev.rcn,cond_true,cond_false,List.map_cons,List.map_nil,List.cons_append,List.nil_append,Bool.true_or,Bool.false_or,Ev.bT,Ev.bU,Ev.bV,Ev.bW,Ev.bX,Ev.ers_n,Ev.bI,Ev.bY,Ev.bZ,Ev.bf,Ev.aC,Ev.bK,Ev.bL,Ev.bg,Ev.bh,Ev.bJ,Ev.bj,↓Ev.ti1,↓Ev.ti2,↓Ev.ti3,↓Ev.ti4,↓Ev.ti5,↓Ev.ti6,↓Ev.ti7,↓Ev.ti8,Ev.aF,Ev.bp,Ev.ah,Ev.aG,Ev.aH,Ev.aI,Ev.bq,Ev.ai,Ev.aJ,Ev.aK,Ev.br,Ev.aj,Ev.aL,Ev.aM,Ev.aO,Ev.aP,Ev.aQ,Ev.bt,Ev.ak,Ev.aR,Ev.ao,Ev.bu,Ev.aq,Ev.aT,Ev.ar,Ev.au,Ev.bw,Ev.bx,Ev.aU,Ev.av,Ev.aw,Ev.aa,Ev.af,Ev.ay,Ev.aV,Ev.bz,Ev.bA,Ev.aW,Ev.bB,Ev.bC,Ev.aX,Ev.aY,Ev.aZ,Ev.a8,Ev.bD,Ev.bE,Ev.az,Ev.aA,Ev.a9,Ev.ba,Ev.aB,Ev.bb,Ev.bc,Ev.bH,Ev.bM,e]
end Law
namespace L2
open PySem PySem.Spec PyProof.Rows PySem.SeqAt
namespace Fr
variable {T:Tb}
mutual
noncomputable def pl:Nat->D->Bool
 | n+1,.tup ds=>pls n ds&&decide (ds.length < 1000)
 | n+1,.lst o ds=>!o&&(pls n ds&&decide (ds.length < 1000))
 | _+1,.dct _ _ _=>false
 | _+1,.exc _=>false
 | 0,_=>false
 | _+1,_=>true
noncomputable def pls:Nat->List D->Bool
 | _,[]=>true
 | n,d::ds=>pl n d&&pls n ds
end
theorem jt {n:Nat}:∀ {ds:List D},pls n ds=true->∀ d∈ds,pl n d=true
 | [],_,d,hd=>by simp at hd
 | e::ds,h,d,hd=>by
  have h':=Bool.and_eq_true_iff.mp (show (pl n e&&pls n ds)=true from h)
  rcases List.mem_cons.mp hd with rfl|hd
  ·exact h'.1
  ·exact jt h'.2 d hd
theorem qP:∀ (n:Nat) (d:D),pl n d=true->er d=d:=by
 intro n
 induction n with
 | zero=>intro d h;cases d<;>cases h
 | succ n ih=>
  have all:∀ ds:List D,pls n ds=true->ers ds=ds:=by
   intro ds
   induction ds with
   | nil=>intro _;rfl
   | cons e ds ih2=>
    intro h
    have h':=Bool.and_eq_true_iff.mp (show (pl n e&&pls n ds)=true from h)
    show er e::ers ds=_
    rw[ih e h'.1,ih2 h'.2]
  intro d h
  cases d with
  | tup ds=>
   have h':=Bool.and_eq_true_iff.mp (show (pls n ds&&decide (ds.length < 1000))=true from h)
   rw[er,all ds h'.1]
  | lst o ds=>
   have h':=Bool.and_eq_true_iff.mp (show (!o&&(pls n ds&&decide (ds.length < 1000)))=true from h)
   have h2:=Bool.and_eq_true_iff.mp h'.2
   have ho:o=false:=by simpa using h'.1
   subst ho
   rw[er,all ds h2.1]
  | dct _ _ _=>cases h
  | exc _=>cases h
  | _=>rfl
theorem qQ {n:Nat}:∀ {ds:List D},pls n ds=true->ers ds=ds
 | [],_=>rfl
 | e::ds,h=>by
  have h':=Bool.and_eq_true_iff.mp (show (pl n e&&pls n ds)=true from h)
  show er e::ers ds=_
  rw[qP n e h'.1,qQ h'.2]
theorem gZ (ds:List D):fM ds ds=ds.map fun a=>.tup [a,a]:=by
 unfold fM
 induction ds with
 | nil=>rfl
 | cons d ds ih=>rw[List.zipWith_cons_cons,ih];rfl
theorem ko:∀ n:Nat,dq (List.replicate n (D.bl true))=some (List.replicate n true)
 | 0=>rfl
 | n+1=>by
  rw[List.replicate_succ,List.replicate_succ]
  show (dq _).map _=_
  rw[ko n]
  rfl
theorem all_true (o:Bool)(n:Nat):dG .all [.lst o (List.replicate n (D.bl true))]=.ok (.bl true):=by
 show (match dq (List.replicate n (D.bl true)) with|some bs=>.ok (.bl (bs.all id))|none=>stk:Res D)=_
 rw[ko]
 simp
theorem sV {f:Nat}{fn:Fn}(hT:T f=some fn)(hio:fn.io=false)(h1:fn.np=2)(h2:fn.G.N.length=2)(h3:fn.body=bSame f):∀ (n k:Nat) (d:D),pl n d=true->ag T (n+k) f [d,d]=.ok (.bl true):=by
 intro n
 induction n with
 | zero=>intro k d h;cases d<;>cases h
 | succ n ih=>
  intro k d h
  have fm:∀ ds:List D,pls n ds=true->cy (cR (ag T (n+k)) (.tp [(.nm 0),(.nm 1)]) [] (.call f [(.v 0),(.v 1)]) [none,none]) (fM ds ds)=.ok (List.replicate ds.length (D.bl true)):=by
   intro ds hp
   rw[gZ]
   refine(Ev.c7 (fun a:D=>D.tup [a,a]) (fun _=>D.bl true) id ds fun x hx=>?_).trans (by rw[List.map_id,List.map_const'])
   have hx':=jt hp x hx
   have hc:=ih k x hx'
   have he:=qP n x hx'
   have e2:ers [x,x]=[x,x]:=by show [er x,er x]=_;rw[he]
   simp(disch:=omega) only[ev0,Nat.reduceBEq,Nat.reduceSub,Nat.reduceAdd,reduceIte,Ev.rs0,Ev.rss,Ev.bF,Ev.bG,↓Ev.fzI,↓Ev.fzS,↓Ev.fzN,Ev.rfn,Ev.rct,Ev.rcn,cond_true,cond_false,List.map_cons,List.map_nil,List.cons_append,List.nil_append,Bool.true_or,Bool.false_or,Ev.bT,Ev.bU,Ev.bV,Ev.bW,Ev.bX,Ev.ers_n,Ev.bI,Ev.bY,Ev.bZ,Ev.bf,Ev.aC,Ev.bK,Ev.bL,Ev.bg,Ev.bh,Ev.bJ,Ev.bj,↓Ev.ti1,↓Ev.ti2,↓Ev.ti3,↓Ev.ti4,↓Ev.ti5,↓Ev.ti6,↓Ev.ti7,↓Ev.ti8,Ev.aF,Ev.bp,Ev.ah,Ev.aG,Ev.aH,Ev.aI,Ev.bq,Ev.ai,Ev.aJ,Ev.aK,Ev.br,Ev.aj,Ev.aL,Ev.aM,Ev.aO,Ev.aP,Ev.aQ,Ev.bt,Ev.ak,Ev.aR,Ev.ao,Ev.bu,Ev.aq,Ev.aT,Ev.ar,Ev.au,Ev.bw,Ev.bx,Ev.aU,Ev.av,Ev.aw,Ev.aa,Ev.af,Ev.ay,Ev.aV,Ev.bz,Ev.bA,Ev.aW,Ev.bB,Ev.bC,Ev.aX,Ev.aY,Ev.aZ,Ev.a8,Ev.bD,Ev.bE,Ev.az,Ev.aA,Ev.a9,Ev.ba,Ev.aB,Ev.bb,Ev.bc,Ev.bH,Ev.bM,Ev.cP,hc,e2,he,id]
  rw[show n+1+k=(n+k)+1 by omega,Ev.go hT hio h1 h2 h3 rfl]
  unfold bSame
  cases d with
  | non=>rfl
  | bl b=>exact congrArg (fun z:Bool=>(Except.ok (D.bl z):Res D)) (beq_self_eq_true b)
  | int i=>exact congrArg (fun z:Bool=>(Except.ok (D.bl z):Res D)) (beq_self_eq_true i)
  | str x=>exact congrArg (fun z:Bool=>(Except.ok (D.bl z):Res D)) (beq_self_eq_true x)
  | tup ds=>
   have h':=Bool.and_eq_true_iff.mp (show (pls n ds&&decide (ds.length < 1000))=true from h)
   have hl:ds.length < 1000:=of_decide_eq_true h'.2
   have hz:(fM ds ds).length=ds.length:=by rw[gZ,List.length_map]
   have e:=fm ds h'.1
   have ea:=all_true true ds.length
   unfold qL
   simp(disch:=omega) only[ev0,Nat.reduceBEq,Nat.reduceSub,Nat.reduceAdd,reduceIte,Ev.rs0,Ev.rss,Ev.bF,Ev.bG,↓Ev.fzI,↓Ev.fzS,↓Ev.fzN,Ev.rfn,Ev.rct,Ev.rcn,cond_true,cond_false,List.map_cons,List.map_nil,List.cons_append,List.nil_append,Bool.true_or,Bool.false_or,Ev.bT,Ev.bU,Ev.bV,Ev.bW,Ev.bX,Ev.ers_n,Ev.bI,Ev.bY,Ev.bZ,Ev.bf,Ev.aC,Ev.bK,Ev.bL,Ev.bg,Ev.bh,Ev.bJ,Ev.bj,↓Ev.ti1,↓Ev.ti2,↓Ev.ti3,↓Ev.ti4,↓Ev.ti5,↓Ev.ti6,↓Ev.ti7,↓Ev.ti8,Ev.aF,Ev.bp,Ev.ah,Ev.aG,Ev.aH,Ev.aI,Ev.bq,Ev.ai,Ev.aJ,Ev.aK,Ev.br,Ev.aj,Ev.aL,Ev.aM,Ev.aO,Ev.aP,Ev.aQ,Ev.bt,Ev.ak,Ev.aR,Ev.ao,Ev.bu,Ev.aq,Ev.aT,Ev.ar,Ev.au,Ev.bw,Ev.bx,Ev.aU,Ev.av,Ev.aw,Ev.aa,Ev.af,Ev.ay,Ev.aV,Ev.bz,Ev.bA,Ev.aW,Ev.bB,Ev.bC,Ev.aX,Ev.aY,Ev.aZ,Ev.a8,Ev.bD,Ev.bE,Ev.az,Ev.aA,Ev.a9,Ev.ba,Ev.aB,Ev.bb,Ev.bc,Ev.bH,Ev.bM,e,ea,hz]
  | lst o ds=>
   have h0:=Bool.and_eq_true_iff.mp (show (!o&&(pls n ds&&decide (ds.length < 1000)))=true from h)
   have h':=Bool.and_eq_true_iff.mp h0.2
   have hl:ds.length < 1000:=of_decide_eq_true h'.2
   have hz:(fM ds ds).length=ds.length:=by rw[gZ,List.length_map]
   have e:=fm ds h'.1
   have ea:=all_true true ds.length
   unfold qL
   simp(disch:=omega) only[ev0,Nat.reduceBEq,Nat.reduceSub,Nat.reduceAdd,reduceIte,Ev.rs0,Ev.rss,Ev.bF,Ev.bG,↓Ev.fzI,↓Ev.fzS,↓Ev.fzN,Ev.rfn,Ev.rct,Ev.rcn,cond_true,cond_false,List.map_cons,List.map_nil,List.cons_append,List.nil_append,Bool.true_or,Bool.false_or,Ev.bT,Ev.bU,Ev.bV,Ev.bW,Ev.bX,Ev.ers_n,Ev.bI,Ev.bY,Ev.bZ,Ev.bf,Ev.aC,Ev.bK,Ev.bL,Ev.bg,Ev.bh,Ev.bJ,Ev.bj,↓Ev.ti1,↓Ev.ti2,↓Ev.ti3,↓Ev.ti4,↓Ev.ti5,↓Ev.ti6,↓Ev.ti7,↓Ev.ti8,Ev.aF,Ev.bp,Ev.ah,Ev.aG,Ev.aH,Ev.aI,Ev.bq,Ev.ai,Ev.aJ,Ev.aK,Ev.br,Ev.aj,Ev.aL,Ev.aM,Ev.aO,Ev.aP,Ev.aQ,Ev.bt,Ev.ak,Ev.aR,Ev.ao,Ev.bu,Ev.aq,Ev.aT,Ev.ar,Ev.au,Ev.bw,Ev.bx,Ev.aU,Ev.av,Ev.aw,Ev.aa,Ev.af,Ev.ay,Ev.aV,Ev.bz,Ev.bA,Ev.aW,Ev.bB,Ev.bC,Ev.aX,Ev.aY,Ev.aZ,Ev.a8,Ev.bD,Ev.bE,Ev.az,Ev.aA,Ev.a9,Ev.ba,Ev.aB,Ev.bb,Ev.bc,Ev.bH,Ev.bM,e,ea,hz]
  | dct _ _ _=>cases h
  | exc _=>cases h
theorem ers_ers:∀ ds:List D,ers (ers ds)=ers ds:=by
 intro ds
 rw[cO,cO,List.map_map]
 exact List.map_congr_left fun d _=>tM d
theorem mD {g:D->Res (Option D)}:∀ (xs:List D),(∀ x∈xs,∃ y,g x=.ok (some y)/\er y=er x)->∃ ys,cy g xs=.ok ys/\ers ys=ers xs/\ys.length=xs.length
 | [],_=>⟨[],rfl,rfl,rfl⟩
 | x::xs,h=>by
  obtain⟨y,h1,h2⟩:=h x (by simp)
  obtain⟨ys,h3,h4,h5⟩:=mD xs fun z hz=>h z (List.mem_cons_of_mem _ hz)
  refine⟨y::ys,?_,by show er y::ers ys=er x::ers xs;rw[h2,h4],by rw[List.length_cons,List.length_cons,h5]⟩
  show bnd (g x) _=_
  rw[h1]
  show bnd (cy g xs) _=_
  rw[h3]
  rfl
theorem sW {f:Nat}{fn:Fn}{x:Str}(hT:T f=some fn)(hio:fn.io=false)(h1:fn.np=1)(h2:fn.G.N.length=1)(h3:fn.body=bCopy f x):∀ (n k:Nat) (d:D),pl n d=true->∃ d',ag T (n+k) f [d]=.ok d'/\er d'=d:=by
 intro n
 induction n with
 | zero=>intro k d h;cases d<;>cases h
 | succ n ih=>
  intro k d h
  have fm:∀ ds:List D,pls n ds=true->∃ ys,cy (cR (ag T (n+k)) (.nm 0) [] (.call f [(.v 0)]) [none]) ds=.ok ys/\ers ys=ds/\ys.length=ds.length:=by
   intro ds hp
   obtain⟨ys,h1,h2,h3⟩:=mD (g:=cR (ag T (n+k)) (.nm 0) [] (.call f [(.v 0)]) [none]) ds fun x hx=>by
    have hx':=jt hp x hx
    obtain⟨y,hc,hy⟩:=ih k x hx'
    have he:=qP n x hx'
    have e2:ers [x]=[x]:=by show [er x]=_;rw[he]
    refine⟨y,?_,hy.trans he.symm⟩
    simp(disch:=omega) only[ev0,Nat.reduceBEq,Nat.reduceSub,Nat.reduceAdd,reduceIte,Ev.rs0,Ev.rss,Ev.bF,Ev.bG,↓Ev.fzI,↓Ev.fzS,↓Ev.fzN,Ev.rfn,Ev.rct,Ev.rcn,cond_true,cond_false,List.map_cons,List.map_nil,List.cons_append,List.nil_append,Bool.true_or,Bool.false_or,Ev.bT,Ev.bU,Ev.bV,Ev.bW,Ev.bX,Ev.ers_n,Ev.bI,Ev.bY,Ev.bZ,Ev.bf,Ev.aC,Ev.bK,Ev.bL,Ev.bg,Ev.bh,Ev.bJ,Ev.bj,↓Ev.ti1,↓Ev.ti2,↓Ev.ti3,↓Ev.ti4,↓Ev.ti5,↓Ev.ti6,↓Ev.ti7,↓Ev.ti8,Ev.aF,Ev.bp,Ev.ah,Ev.aG,Ev.aH,Ev.aI,Ev.bq,Ev.ai,Ev.aJ,Ev.aK,Ev.br,Ev.aj,Ev.aL,Ev.aM,Ev.aO,Ev.aP,Ev.aQ,Ev.bt,Ev.ak,Ev.aR,Ev.ao,Ev.bu,Ev.aq,Ev.aT,Ev.ar,Ev.au,Ev.bw,Ev.bx,Ev.aU,Ev.av,Ev.aw,Ev.aa,Ev.af,Ev.ay,Ev.aV,Ev.bz,Ev.bA,Ev.aW,Ev.bB,Ev.bC,Ev.aX,Ev.aY,Ev.aZ,Ev.a8,Ev.bD,Ev.bE,Ev.az,Ev.aA,Ev.a9,Ev.ba,Ev.aB,Ev.bb,Ev.bc,Ev.bH,Ev.bM,Ev.cP,hc,e2,he]
   exact⟨ys,h1,h2.trans (qQ hp),h3⟩
  rw[show n+1+k=(n+k)+1 by omega,Ev.go hT hio h1 h2 h3 rfl]
  unfold bCopy
  cases d with
  | non=>exact⟨.non,rfl,rfl⟩
  | bl b=>exact⟨.bl b,rfl,rfl⟩
  | int i=>exact⟨.int i,rfl,rfl⟩
  | str z=>exact⟨.str z,rfl,rfl⟩
  | tup ds=>
   have h':=Bool.and_eq_true_iff.mp (show (pls n ds&&decide (ds.length < 1000))=true from h)
   have hl:ds.length < 1000:=of_decide_eq_true h'.2
   obtain⟨ys,e,hy,hyl⟩:=fm ds h'.1
   unfold mz
   cases lf:bR ys with
   | true=>
    refine⟨.tup ys,?_,by rw[er,hy]⟩
    simp(disch:=omega) only[ev0,Nat.reduceBEq,Nat.reduceSub,Nat.reduceAdd,reduceIte,Ev.rs0,Ev.rss,Ev.bF,Ev.bG,↓Ev.fzI,↓Ev.fzS,↓Ev.fzN,Ev.rfn,Ev.rct,Ev.rcn,cond_true,cond_false,List.map_cons,List.map_nil,List.cons_append,List.nil_append,Bool.true_or,Bool.false_or,Ev.bT,Ev.bU,Ev.bV,Ev.bW,Ev.bX,Ev.ers_n,Ev.bI,Ev.bY,Ev.bZ,Ev.bf,Ev.aC,Ev.bK,Ev.bL,Ev.bg,Ev.bh,Ev.bJ,Ev.bj,↓Ev.ti1,↓Ev.ti2,↓Ev.ti3,↓Ev.ti4,↓Ev.ti5,↓Ev.ti6,↓Ev.ti7,↓Ev.ti8,Ev.aF,Ev.bp,Ev.ah,Ev.aG,Ev.aH,Ev.aI,Ev.bq,Ev.ai,Ev.aJ,Ev.aK,Ev.br,Ev.aj,Ev.aL,Ev.aM,Ev.aO,Ev.aP,Ev.aQ,Ev.bt,Ev.ak,Ev.aR,Ev.ao,Ev.bu,Ev.aq,Ev.aT,Ev.ar,Ev.au,Ev.bw,Ev.bx,Ev.aU,Ev.av,Ev.aw,Ev.aa,Ev.af,Ev.ay,Ev.aV,Ev.bz,Ev.bA,Ev.aW,Ev.bB,Ev.bC,Ev.aX,Ev.aY,Ev.aZ,Ev.a8,Ev.bD,Ev.bE,Ev.az,Ev.aA,Ev.a9,Ev.ba,Ev.aB,Ev.bb,Ev.bc,Ev.bH,Ev.bM,e,lf]
   | false=>
    refine⟨.tup (ers ys),?_,by rw[er,ers_ers,hy]⟩
    simp(disch:=omega) only[ev0,Nat.reduceBEq,Nat.reduceSub,Nat.reduceAdd,reduceIte,Ev.rs0,Ev.rss,Ev.bF,Ev.bG,↓Ev.fzI,↓Ev.fzS,↓Ev.fzN,Ev.rfn,Ev.rct,Ev.rcn,cond_true,cond_false,List.map_cons,List.map_nil,List.cons_append,List.nil_append,Bool.true_or,Bool.false_or,Ev.bT,Ev.bU,Ev.bV,Ev.bW,Ev.bX,Ev.ers_n,Ev.bI,Ev.bY,Ev.bZ,Ev.bf,Ev.aC,Ev.bK,Ev.bL,Ev.bg,Ev.bh,Ev.bJ,Ev.bj,↓Ev.ti1,↓Ev.ti2,↓Ev.ti3,↓Ev.ti4,↓Ev.ti5,↓Ev.ti6,↓Ev.ti7,↓Ev.ti8,Ev.aF,Ev.bp,Ev.ah,Ev.aG,Ev.aH,Ev.aI,Ev.bq,Ev.ai,Ev.aJ,Ev.aK,Ev.br,Ev.aj,Ev.aL,Ev.aM,Ev.aO,Ev.aP,Ev.aQ,Ev.bt,Ev.ak,Ev.aR,Ev.ao,Ev.bu,Ev.aq,Ev.aT,Ev.ar,Ev.au,Ev.bw,Ev.bx,Ev.aU,Ev.av,Ev.aw,Ev.aa,Ev.af,Ev.ay,Ev.aV,Ev.bz,Ev.bA,Ev.aW,Ev.bB,Ev.bC,Ev.aX,Ev.aY,Ev.aZ,Ev.a8,Ev.bD,Ev.bE,Ev.az,Ev.aA,Ev.a9,Ev.ba,Ev.aB,Ev.bb,Ev.bc,Ev.bH,Ev.bM,e,lf]
  | lst o ds=>
   have h0:=Bool.and_eq_true_iff.mp (show (!o&&(pls n ds&&decide (ds.length < 1000)))=true from h)
   have h':=Bool.and_eq_true_iff.mp h0.2
   have ho:o=false:=by simpa using h0.1
   subst ho
   have hl:ds.length < 1000:=of_decide_eq_true h'.2
   obtain⟨ys,e,hy,hyl⟩:=fm ds h'.1
   unfold mz
   cases lf:bR ys with
   | true=>
    refine⟨.lst true ys,?_,by rw[er,hy]⟩
    simp(disch:=omega) only[ev0,Nat.reduceBEq,Nat.reduceSub,Nat.reduceAdd,reduceIte,Ev.rs0,Ev.rss,Ev.bF,Ev.bG,↓Ev.fzI,↓Ev.fzS,↓Ev.fzN,Ev.rfn,Ev.rct,Ev.rcn,cond_true,cond_false,List.map_cons,List.map_nil,List.cons_append,List.nil_append,Bool.true_or,Bool.false_or,Ev.bT,Ev.bU,Ev.bV,Ev.bW,Ev.bX,Ev.ers_n,Ev.bI,Ev.bY,Ev.bZ,Ev.bf,Ev.aC,Ev.bK,Ev.bL,Ev.bg,Ev.bh,Ev.bJ,Ev.bj,↓Ev.ti1,↓Ev.ti2,↓Ev.ti3,↓Ev.ti4,↓Ev.ti5,↓Ev.ti6,↓Ev.ti7,↓Ev.ti8,Ev.aF,Ev.bp,Ev.ah,Ev.aG,Ev.aH,Ev.aI,Ev.bq,Ev.ai,Ev.aJ,Ev.aK,Ev.br,Ev.aj,Ev.aL,Ev.aM,Ev.aO,Ev.aP,Ev.aQ,Ev.bt,Ev.ak,Ev.aR,Ev.ao,Ev.bu,Ev.aq,Ev.aT,Ev.ar,Ev.au,Ev.bw,Ev.bx,Ev.aU,Ev.av,Ev.aw,Ev.aa,Ev.af,Ev.ay,Ev.aV,Ev.bz,Ev.bA,Ev.aW,Ev.bB,Ev.bC,Ev.aX,Ev.aY,Ev.aZ,Ev.a8,Ev.bD,Ev.bE,Ev.az,Ev.aA,Ev.a9,Ev.ba,Ev.aB,Ev.bb,Ev.bc,Ev.bH,Ev.bM,e,lf]
   | false=>
    refine⟨.lst true (ers ys),?_,by rw[er,ers_ers,hy]⟩
    simp(disch:=omega) only[ev0,Nat.reduceBEq,Nat.reduceSub,Nat.reduceAdd,reduceIte,Ev.rs0,Ev.rss,Ev.bF,Ev.bG,↓Ev.fzI,↓Ev.fzS,↓Ev.fzN,Ev.rfn,Ev.rct,Ev.rcn,cond_true,cond_false,List.map_cons,List.map_nil,List.cons_append,List.nil_append,Bool.true_or,Bool.false_or,Ev.bT,Ev.bU,Ev.bV,Ev.bW,Ev.bX,Ev.ers_n,Ev.bI,Ev.bY,Ev.bZ,Ev.bf,Ev.aC,Ev.bK,Ev.bL,Ev.bg,Ev.bh,Ev.bJ,Ev.bj,↓Ev.ti1,↓Ev.ti2,↓Ev.ti3,↓Ev.ti4,↓Ev.ti5,↓Ev.ti6,↓Ev.ti7,↓Ev.ti8,Ev.aF,Ev.bp,Ev.ah,Ev.aG,Ev.aH,Ev.aI,Ev.bq,Ev.ai,Ev.aJ,Ev.aK,Ev.br,Ev.aj,Ev.aL,Ev.aM,Ev.aO,Ev.aP,Ev.aQ,Ev.bt,Ev.ak,Ev.aR,Ev.ao,Ev.bu,Ev.aq,Ev.aT,Ev.ar,Ev.au,Ev.bw,Ev.bx,Ev.aU,Ev.av,Ev.aw,Ev.aa,Ev.af,Ev.ay,Ev.aV,Ev.bz,Ev.bA,Ev.aW,Ev.bB,Ev.bC,Ev.aX,Ev.aY,Ev.aZ,Ev.a8,Ev.bD,Ev.bE,Ev.az,Ev.aA,Ev.a9,Ev.ba,Ev.aB,Ev.bb,Ev.bc,Ev.bH,Ev.bM,e,lf]
  | dct _ _ _=>cases h
  | exc _=>cases h
end Fr
end L2
namespace Law
open PySem PySem.Spec L2 L2.Fr
theorem same (n k:Nat){d:D}(h:pl n d=true):ag T (n+k) 36 [d,d]=.ok (.bl true):=sV (fn:=d36) rfl rfl rfl rfl rfl n k d h
theorem copy (n k:Nat){d:D}(h:pl n d=true):∃ d',ag T (n+k) 37 [d]=.ok d'/\er d'=d:=sW (fn:=d37) (x:="_law_part") rfl rfl rfl rfl rfl n k d h
open PyProof.Rows
theorem ju {α:Type}{g:D->Res (Option D)}(emb:α->D)(p:α->Bool)(out:α->D):∀ xs:List α,(∀ x∈xs,g (emb x)=.ok (if p x=true then some (out x) else none))->cy g (xs.map emb)=.ok ((xs.filter p).map out)
 | [],_=>rfl
 | x::xs,h=>by
  have ih:=ju emb p out xs fun y hy=>h y (List.mem_cons_of_mem _ hy)
  rw[List.map_cons,List.filter_cons]
  show bnd (g (emb x)) _=_
  rw[h x (.head _)]
  cases p x with
  | true=>
   show bnd (cy _ _) _=_
   rw[ih]
   rfl
  | false=>exact ih
theorem qR (w:Str):∀ ws:List Str,anyN (.str w) (ws.map .str)=.ok (decide (w∈ws))
 | []=>rfl
 | x::ws=>by
  show bnd (.ok (x == w)) (fun a=>bnd (anyN (.str w) (ws.map .str)) fun b=>.ok (a||b))=_
  rw[qR w ws]
  show (Except.ok (x == w||decide (w∈ws)):Res Bool)=_
  congr 1
  rw[Bool.eq_iff_iff]
  simp only[Bool.or_eq_true,beq_iff_eq,decide_eq_true_eq,List.mem_cons]
  exact⟨fun h=>h.imp Eq.symm id,fun h=>h.imp Eq.symm id⟩
theorem qS (o:Bool)(w:Str)(ws:List Str):opC .in_ (.str w) (.lst o (ws.map .str))=.ok (decide (w∈ws)):=qR w ws
theorem mE (o:Bool)(w:Str)(ws:List Str):opC .nin (.str w) (.lst o (ws.map .str))=.ok (!decide (w∈ws)):=by
 show bnd (anyN (.str w) (ws.map .str)) _=_
 rw[qR w ws]
 rfl
abbrev Ps:=List (Str×Str)
abbrev Sw:=Str×Ps
noncomputable def pD (p:Str×Str):D:=.tup [.str p.1,.str p.2]
noncomputable def sD:D:=.tup [.str "ab",.str "off",.lst false [],.tup [.lst false [],.lst false [.tup [.int 0,.int 10007]]]]
noncomputable def eD (ps:Ps):D:=.tup [sD,.lst false (ps.map pD),.bl false]
noncomputable def wD (q:Sw):D:=.tup [.str q.1,eD q.2]
noncomputable def nms (L:List Sw):List Str:=L.map (·.1)
structure Good (L:List Sw):Prop where
 nd:(nms L).Nodup
 inn:∀ q∈L,∀ p∈q.2,p.1∈nms L
 len:L.length<=20
 few:∀ q∈L,q.2.length<=3
theorem A6 (ps:Ps):bR (ps.map pD)=true:=by
 rw[dU,List.all_map,List.all_eq_true]
 intro p _
 rfl
theorem g6 (ps:Ps):ers (ps.map pD)=ps.map pD:=cM (A6 ps)
theorem A7 (q:Sw):er (wD q)=wD q:=by
 show D.tup [.str q.1,.tup [_,.lst false (ers (q.2.map pD)),.bl false]]=_
 rw[g6]
 rfl
theorem fE (L:List Sw):ers (L.map wD)=L.map wD:=by
 rw[cO,List.map_map]
 exact List.map_congr_left fun q _=>A7 q
theorem fF (L:List Sw):(nms L).length=L.length:=List.length_map _
theorem at0 {a:D}{l:List D}:atI (a::l) 0=some a:=(Ev.eE (xs:=a::l) (i:=0) .non (by decide) (by rw[List.length_cons];omega)).trans rfl
theorem at1 {a b:D}{l:List D}:atI (a::b::l) 1=some b:=(Ev.eE (xs:=a::b::l) (i:=1) .non (by decide) (by rw[List.length_cons,List.length_cons];omega)).trans rfl
theorem at2 {a b c:D}{l:List D}:atI (a::b::c::l) 2=some c:=(Ev.eE (xs:=a::b::c::l) (i:=2) .non (by decide) (by rw[List.length_cons,List.length_cons,List.length_cons];omega)).trans rfl
theorem xa:Str.ofString "ab" = sal [97,98]:=by decide +kernel
theorem Ao (n:Nat)(gn:D)(hg:er gn=gn):ag T (n+3) 25 [gn,sD]=.ok (.bl true):=by
 have e:=lj n (cs:=[97,98]) ⟨by decide,by decide,fun c hc=>by rcases List.mem_cons.mp hc with rfl|hc;(constructor<;>decide);rw[List.mem_singleton.mp hc];constructor<;>decide⟩
 rw[<- xa] at e
 unfold sD
 rw[gx 25 d25 2 5 b25 rfl rfl rfl rfl rfl rfl];unfold b25
 simp(disch:=omega) only[ev0,Nat.reduceBEq,Nat.reduceSub,Nat.reduceAdd,reduceIte,Ev.rs0,Ev.rss,Ev.bF,Ev.bG,↓Ev.fzI,↓Ev.fzS,↓Ev.fzN,Ev.rfn,Ev.rct,Ev.rcn,cond_true,cond_false,List.map_cons,List.map_nil,List.cons_append,List.nil_append,Bool.true_or,Bool.false_or,Ev.bT,Ev.bU,Ev.bV,Ev.bW,Ev.bX,Ev.ers_n,Ev.bI,Ev.bY,Ev.bZ,Ev.bf,Ev.aC,Ev.bK,Ev.bL,Ev.bg,Ev.bh,Ev.bJ,Ev.bj,↓Ev.ti1,↓Ev.ti2,↓Ev.ti3,↓Ev.ti4,↓Ev.ti5,↓Ev.ti6,↓Ev.ti7,↓Ev.ti8,Ev.aF,Ev.bp,Ev.ah,Ev.aG,Ev.aH,Ev.aI,Ev.bq,Ev.ai,Ev.aJ,Ev.aK,Ev.br,Ev.aj,Ev.aL,Ev.aM,Ev.aO,Ev.aP,Ev.aQ,Ev.bt,Ev.ak,Ev.aR,Ev.ao,Ev.bu,Ev.aq,Ev.aT,Ev.ar,Ev.au,Ev.bw,Ev.bx,Ev.aU,Ev.av,Ev.aw,Ev.aa,Ev.af,Ev.ay,Ev.aV,Ev.bz,Ev.bA,Ev.aW,Ev.bB,Ev.bC,Ev.aX,Ev.aY,Ev.aZ,Ev.a8,Ev.bD,Ev.bE,Ev.az,Ev.aA,Ev.a9,Ev.ba,Ev.aB,Ev.bb,Ev.bc,Ev.bH,Ev.bM,e,hg,at0,at2]
theorem xb (n:Nat){o:Bool}{x:Str}{xs:List Str}(h:x∉xs):ag T (n+1) 26 [.str x,.lst o (xs.map .str)]=.ok .non:=by
 have e:opC .in_ (.str x) (.lst o (xs.map .str))=.ok false:=by rw[qS,decide_eq_false h]
 rw[gx 26 d26 2 2 b26 rfl rfl rfl rfl rfl rfl];unfold b26
 simp(disch:=omega) only[ev0,Nat.reduceBEq,Nat.reduceSub,Nat.reduceAdd,reduceIte,Ev.rs0,Ev.rss,Ev.bF,Ev.bG,↓Ev.fzI,↓Ev.fzS,↓Ev.fzN,Ev.rfn,Ev.rct,Ev.rcn,cond_true,cond_false,List.map_cons,List.map_nil,List.cons_append,List.nil_append,Bool.true_or,Bool.false_or,Ev.bT,Ev.bU,Ev.bV,Ev.bW,Ev.bX,Ev.ers_n,Ev.bI,Ev.bY,Ev.bZ,Ev.bf,Ev.aC,Ev.bK,Ev.bL,Ev.bg,Ev.bh,Ev.bJ,Ev.bj,↓Ev.ti1,↓Ev.ti2,↓Ev.ti3,↓Ev.ti4,↓Ev.ti5,↓Ev.ti6,↓Ev.ti7,↓Ev.ti8,Ev.aF,Ev.bp,Ev.ah,Ev.aG,Ev.aH,Ev.aI,Ev.bq,Ev.ai,Ev.aJ,Ev.aK,Ev.br,Ev.aj,Ev.aL,Ev.aM,Ev.aO,Ev.aP,Ev.aQ,Ev.bt,Ev.ak,Ev.aR,Ev.ao,Ev.bu,Ev.aq,Ev.aT,Ev.ar,Ev.au,Ev.bw,Ev.bx,Ev.aU,Ev.av,Ev.aw,Ev.aa,Ev.af,Ev.ay,Ev.aV,Ev.bz,Ev.bA,Ev.aW,Ev.bB,Ev.bC,Ev.aX,Ev.aY,Ev.aZ,Ev.a8,Ev.bD,Ev.bE,Ev.az,Ev.aA,Ev.a9,Ev.ba,Ev.aB,Ev.bb,Ev.bc,Ev.bH,Ev.bM,e]
theorem qT (n:Nat){o:Bool}{x:Str}{xs:List Str}(h:x∈xs):ag T (n+1) 27 [.str x,.lst o (xs.map .str)]=.ok .non:=by
 have e:opC .nin (.str x) (.lst o (xs.map .str))=.ok false:=by rw[mE,decide_eq_true h];rfl
 rw[gx 27 d27 2 2 b27 rfl rfl rfl rfl rfl rfl];unfold b27
 simp(disch:=omega) only[ev0,Nat.reduceBEq,Nat.reduceSub,Nat.reduceAdd,reduceIte,Ev.rs0,Ev.rss,Ev.bF,Ev.bG,↓Ev.fzI,↓Ev.fzS,↓Ev.fzN,Ev.rfn,Ev.rct,Ev.rcn,cond_true,cond_false,List.map_cons,List.map_nil,List.cons_append,List.nil_append,Bool.true_or,Bool.false_or,Ev.bT,Ev.bU,Ev.bV,Ev.bW,Ev.bX,Ev.ers_n,Ev.bI,Ev.bY,Ev.bZ,Ev.bf,Ev.aC,Ev.bK,Ev.bL,Ev.bg,Ev.bh,Ev.bJ,Ev.bj,↓Ev.ti1,↓Ev.ti2,↓Ev.ti3,↓Ev.ti4,↓Ev.ti5,↓Ev.ti6,↓Ev.ti7,↓Ev.ti8,Ev.aF,Ev.bp,Ev.ah,Ev.aG,Ev.aH,Ev.aI,Ev.bq,Ev.ai,Ev.aJ,Ev.aK,Ev.br,Ev.aj,Ev.aL,Ev.aM,Ev.aO,Ev.aP,Ev.aQ,Ev.bt,Ev.ak,Ev.aR,Ev.ao,Ev.bu,Ev.aq,Ev.aT,Ev.ar,Ev.au,Ev.bw,Ev.bx,Ev.aU,Ev.av,Ev.aw,Ev.aa,Ev.af,Ev.ay,Ev.aV,Ev.bz,Ev.bA,Ev.aW,Ev.bB,Ev.bC,Ev.aX,Ev.aY,Ev.aZ,Ev.a8,Ev.bD,Ev.bE,Ev.az,Ev.aA,Ev.a9,Ev.ba,Ev.aB,Ev.bb,Ev.bc,Ev.bH,Ev.bM,e]
theorem iP (n:Nat):ag T (n+1) 28 [.lst false []]=.ok .non:=by
 rw[gx 28 d28 1 6 b28 rfl rfl rfl rfl rfl rfl];unfold b28
 rfl
theorem kq (n:Nat)(d:D):ag T (n+1) 29 [.lst false [],d]=.ok .non:=by
 rw[gx 29 d29 2 9 b29 rfl rfl rfl rfl rfl rfl];unfold b29
 rfl
theorem Ap (ps:Ps):er (eD ps)=eD ps:=by
 show D.tup [_,.lst false (ers (ps.map pD)),.bl false]=_
 rw[g6]
 rfl
theorem Aq:er sD=sD:=rfl
theorem Ar (ps:Ps):cX (eD ps) (.int 0)=.ok sD:=by unfold eD;rw[Ev.x_t,at0]
theorem mF (ps:Ps):cX (eD ps) (.int 1)=.ok (.lst false (ps.map pD)):=by unfold eD;rw[Ev.x_t,at1]
noncomputable def tNd:List IS:=[(.exp (.call 27 [(.v 6),(.v 2)]))]
noncomputable def tSw:List IS:=[(.exp (.call 26 [(.v 4),(.v 3)])),(.app 3 (.v 4)),(.exp (.call 25 [(.v 1),(.idx (.v 5) (.c (.int 0)))])),(.for_ (.tp [(.nm 6),(.nm 7)]) (.val (.idx (.v 5) (.c (.int 1)))) tNd)]
theorem sX (n:Nat){xs:List Str}{ps:Ps}(h:∀ p∈ps,p.1∈xs)(a b c d e x6 x7:Option D):∃ y6 y7,forM (Ev.turn (ag T (n+3)) (.tp [(.nm 6),(.nm 7)]) tNd) (ps.map pD) [a,b,some (.lst false (xs.map .str)),c,d,e,x6,x7]=.ok (.nx [a,b,some (.lst false (xs.map .str)),c,d,e,y6,y7]):=by
 obtain⟨τ',e1,y6,y7,rfl⟩:=Ev.dB (body:=Ev.turn (ag T (n+3)) (.tp [(.nm 6),(.nm 7)]) tNd) (its:=ps.map pD) (τ:=[a,b,some (.lst false (xs.map .str)),c,d,e,x6,x7])
  (fun _ τ=>∃ y6 y7,τ=[a,b,some (.lst false (xs.map .str)),c,d,e,y6,y7]) ⟨x6,x7,rfl⟩ (by
   rintro i x τ hx ⟨z6,z7,rfl⟩
   rw[List.getElem?_map] at hx
   obtain⟨p,hp,rfl⟩:=Option.map_eq_some_iff.mp hx
   have t:=qT (n+2) (o:=false) (h p (List.mem_of_getElem? hp))
   refine⟨_,?_,some (.str p.1),some (.str p.2),rfl⟩
   have er1:=cM (ds:=xs.map D.str) (Ev.nR _)
   unfold tNd pD
   simp(disch:=omega) only[ev0,Nat.reduceBEq,Nat.reduceSub,Nat.reduceAdd,reduceIte,Ev.rs0,Ev.rss,Ev.bF,Ev.bG,↓Ev.fzI,↓Ev.fzS,↓Ev.fzN,Ev.rfn,Ev.rct,Ev.rcn,cond_true,cond_false,List.map_cons,List.map_nil,List.cons_append,List.nil_append,Bool.true_or,Bool.false_or,Ev.bT,Ev.bU,Ev.bV,Ev.bW,Ev.bX,Ev.ers_n,Ev.bI,Ev.bY,Ev.bZ,Ev.bf,Ev.aC,Ev.bK,Ev.bL,Ev.bg,Ev.bh,Ev.bJ,Ev.bj,↓Ev.ti1,↓Ev.ti2,↓Ev.ti3,↓Ev.ti4,↓Ev.ti5,↓Ev.ti6,↓Ev.ti7,↓Ev.ti8,Ev.aF,Ev.bp,Ev.ah,Ev.aG,Ev.aH,Ev.aI,Ev.bq,Ev.ai,Ev.aJ,Ev.aK,Ev.br,Ev.aj,Ev.aL,Ev.aM,Ev.aO,Ev.aP,Ev.aQ,Ev.bt,Ev.ak,Ev.aR,Ev.ao,Ev.bu,Ev.aq,Ev.aT,Ev.ar,Ev.au,Ev.bw,Ev.bx,Ev.aU,Ev.av,Ev.aw,Ev.aa,Ev.af,Ev.ay,Ev.aV,Ev.bz,Ev.bA,Ev.aW,Ev.bB,Ev.bC,Ev.aX,Ev.aY,Ev.aZ,Ev.a8,Ev.bD,Ev.bE,Ev.az,Ev.aA,Ev.a9,Ev.ba,Ev.aB,Ev.bb,Ev.bc,Ev.bH,Ev.bM,Ev.cP,t,er1])
 exact⟨y6,y7,e1⟩
theorem qU (n:Nat){L:List Sw}(h:Good L){gn:D}(hg:er gn=gn):ag T (n+4) 30 [.lst false (L.map wD),gn,.lst false ((nms L).map .str)]=.ok .non:=by
 obtain⟨τ',e,x4,x5,x6,x7,rfl⟩:=Ev.dB (body:=Ev.turn (ag T (n+3)) (.tp [(.nm 4),(.nm 5)]) tSw) (its:=L.map wD) (τ:=[some (.lst false (L.map wD)),some gn,some (.lst false ((nms L).map .str)),some (.lst true []),none,none,none,none])
  (fun i τ=>∃ x4 x5 x6 x7,τ=[some (.lst false (L.map wD)),some gn,some (.lst false ((nms L).map .str)),some (.lst true (((nms L).take i).map .str)),x4,x5,x6,x7]) ⟨none,none,none,none,rfl⟩ (by
   rintro i x τ hx ⟨z4,z5,z6,z7,rfl⟩
   rw[List.getElem?_map] at hx
   obtain⟨q,hq,rfl⟩:=Option.map_eq_some_iff.mp hx
   have hi:i < L.length:=(List.getElem?_eq_some_iff.mp hq).1
   have hn:(nms L)[i]? = some q.1:=by unfold nms;rw[List.getElem?_map,hq];rfl
   have htk:(nms L).take (i+1)=(nms L).take i++[q.1]:=by rw[List.take_succ,hn];rfl
   have nin:q.1∉(nms L).take i:=fun z=>by
    have nd:=h.nd
    rw[<- List.take_append_drop (i+1) (nms L),htk,List.append_assoc] at nd
    exact(List.nodup_append.mp nd).2.2 q.1 z q.1 (by simp) rfl
   have t1:=xb (n+2) (o:=false) nin
   have t2:=Ao n gn hg
   obtain⟨y6,y7,e3⟩:=sX n (xs:=nms L) (h.inn q (List.mem_of_getElem? hq)) (some (.lst false (L.map wD))) (some gn) (some (.lst true (((nms L).take i++[q.1]).map .str))) (some (.str q.1)) (some (eD q.2)) z6 z7
   refine⟨_,?_,some (.str q.1),some (eD q.2),y6,y7,by rw[htk]⟩
   have er1:=cM (ds:=((nms L).take i).map D.str) (Ev.nR _)
   have i0:=Ar q.2
   have i1:=mF q.2
   have ee:=Ap q.2
   have ep:=g6 q.2
   have hlen:(((nms L).take i).map D.str).length < 16777216:=by rw[List.length_map,List.length_take];have:=h.len;omega
   have happ:((nms L).take i).map D.str++[D.str q.1]=((nms L).take i++[q.1]).map .str:=by rw[List.map_append];rfl
   have es:=Aq
   have hw:wD q=.tup [.str q.1,eD q.2]:=rfl
   unfold tSw
   simp(disch:=omega) only[ev0,Nat.reduceBEq,Nat.reduceSub,Nat.reduceAdd,reduceIte,Ev.rs0,Ev.rss,Ev.bF,Ev.bG,↓Ev.fzI,↓Ev.fzS,↓Ev.fzN,Ev.rfn,Ev.rct,Ev.rcn,cond_true,cond_false,List.map_cons,List.map_nil,List.cons_append,List.nil_append,Bool.true_or,Bool.false_or,Ev.bT,Ev.bU,Ev.bV,Ev.bW,Ev.bX,Ev.ers_n,Ev.bI,Ev.bY,Ev.bZ,Ev.bf,Ev.aC,Ev.bK,Ev.bL,Ev.bg,Ev.bh,Ev.bJ,Ev.bj,↓Ev.ti1,↓Ev.ti2,↓Ev.ti3,↓Ev.ti4,↓Ev.ti5,↓Ev.ti6,↓Ev.ti7,↓Ev.ti8,Ev.aF,Ev.bp,Ev.ah,Ev.aG,Ev.aH,Ev.aI,Ev.bq,Ev.ai,Ev.aJ,Ev.aK,Ev.br,Ev.aj,Ev.aL,Ev.aM,Ev.aO,Ev.aP,Ev.aQ,Ev.bt,Ev.ak,Ev.aR,Ev.ao,Ev.bu,Ev.aq,Ev.aT,Ev.ar,Ev.au,Ev.bw,Ev.bx,Ev.aU,Ev.av,Ev.aw,Ev.aa,Ev.af,Ev.ay,Ev.aV,Ev.bz,Ev.bA,Ev.aW,Ev.bB,Ev.bC,Ev.aX,Ev.aY,Ev.aZ,Ev.a8,Ev.bD,Ev.bE,Ev.az,Ev.aA,Ev.a9,Ev.ba,Ev.aB,Ev.bb,Ev.bc,Ev.bH,Ev.bM,Ev.cP,hw,t1,t2,er1,i0,i1,ee,ep,hlen,happ,hg,es,e3])
 have lw:=fE L
 unfold tSw tNd at e
 rw[gx 30 d30 3 8 b30 rfl rfl rfl rfl rfl rfl];unfold b30
 simp(disch:=omega) only[ev0,Nat.reduceBEq,Nat.reduceSub,Nat.reduceAdd,reduceIte,Ev.rs0,Ev.rss,Ev.bF,Ev.bG,↓Ev.fzI,↓Ev.fzS,↓Ev.fzN,Ev.rfn,Ev.rct,Ev.rcn,cond_true,cond_false,List.map_cons,List.map_nil,List.cons_append,List.nil_append,Bool.true_or,Bool.false_or,Ev.bT,Ev.bU,Ev.bV,Ev.bW,Ev.bX,Ev.ers_n,Ev.bI,Ev.bY,Ev.bZ,Ev.bf,Ev.aC,Ev.bK,Ev.bL,Ev.bg,Ev.bh,Ev.bJ,Ev.bj,↓Ev.ti1,↓Ev.ti2,↓Ev.ti3,↓Ev.ti4,↓Ev.ti5,↓Ev.ti6,↓Ev.ti7,↓Ev.ti8,Ev.aF,Ev.bp,Ev.ah,Ev.aG,Ev.aH,Ev.aI,Ev.bq,Ev.ai,Ev.aJ,Ev.aK,Ev.br,Ev.aj,Ev.aL,Ev.aM,Ev.aO,Ev.aP,Ev.aQ,Ev.bt,Ev.ak,Ev.aR,Ev.ao,Ev.bu,Ev.aq,Ev.aT,Ev.ar,Ev.au,Ev.bw,Ev.bx,Ev.aU,Ev.av,Ev.aw,Ev.aa,Ev.af,Ev.ay,Ev.aV,Ev.bz,Ev.bA,Ev.aW,Ev.bB,Ev.bC,Ev.aX,Ev.aY,Ev.aZ,Ev.a8,Ev.bD,Ev.bE,Ev.az,Ev.aA,Ev.a9,Ev.ba,Ev.aB,Ev.bb,Ev.bc,Ev.bH,Ev.bM,lw,e]
noncomputable def dE:List Sw->Str->List Str
 | [],_=>[]
 | q::L,x=>if q.1=x then q.2.map (·.1) else dE L x
noncomputable def sfp (L:List Sw)(S:List Str)(x:Str):Bool:=(dE L x).any fun y=>decide (y∈S)
noncomputable def sf (L:List Sw)(S:List Str):List Str:=S.filter (sfp L S)
noncomputable def fV (L:List Sw):Nat->List Str->List Str
 | 0,S=>S
 | k+1,S=>if sf L S=S then S else fV L k (sf L S)
noncomputable def itr (L:List Sw):Nat->List Str->List Str
 | 0,S=>S
 | k+1,S=>itr L k (sf L S)
theorem qV {L:List Sw}{S:List Str}{x:Str}(h:x∈sf L S):x∈S:=(List.mem_filter.mp h).1
theorem lq {L:List Sw}{S:List Str}(h:sf L S≠S):(sf L S).length < S.length:=by
 refine Nat.lt_of_le_of_ne (List.length_filter_le _ _) fun z=>h ?_
 exact List.filter_eq_self.mpr (List.length_filter_eq_length_iff.mp z)
theorem kr {L:List Sw}:∀ {k:Nat}{S:List Str},S.length<=k->sf L (fV L k S)=fV L k S
 | 0,S,h=>by
  have:S=[]:=List.length_eq_zero_iff.mp (by omega)
  subst this
  rfl
 | k+1,S,h=>by
  unfold fV
  by_cases e:sf L S=S
  ·rw[if_pos e];exact e
  ·rw[if_neg e]
   have:=lq e
   exact kr (by omega)
theorem ku {L:List Sw}{x:Str}:∀ {k:Nat}{S:List Str},x∈fV L k S->x∈S
 | 0,S,h=>h
 | k+1,S,h=>by
  unfold fV at h
  by_cases e:sf L S=S
  ·rw[if_pos e] at h;exact h
  ·rw[if_neg e] at h
   exact qV (ku h)
theorem g7 {L:List Sw}{S:List Str}(h:sf L S=S):∀ m:Nat,itr L m S=S
 | 0=>rfl
 | m+1=>by unfold itr;rw[h];exact g7 h m
theorem mG {L:List Sw}:∀ {k m:Nat}{S:List Str},S.length<=k->S.length<=m->itr L m S=fV L k S
 | 0,m,S,h,h'=>by
  have:S=[]:=List.length_eq_zero_iff.mp (by omega)
  subst this
  exact g7 rfl m
 | k+1,m,S,h,h'=>by
  unfold fV
  by_cases e:sf L S=S
  ·rw[if_pos e];exact g7 e m
  ·rw[if_neg e]
   have:=lq e
   cases m with
   | zero=>omega
   | succ m=>
    show itr L m (sf L S)=_
    exact mG (by omega) (by omega)
noncomputable def dK (L:List Sw):List Key:=(nms L).map Sum.inr
noncomputable def dV (L:List Sw):List D:=L.map fun q=>.lst false ((q.2.map (·.1)).map .str)
theorem mH:∀ {L:List Sw}{x:Str},x∈nms L->look (dK L) (dV L) (.inr x)=some (.lst false ((dE L x).map .str))
 | q::L,x,h=>by
  show (if (Sum.inr q.1:Key)=.inr x then some _ else look (dK L) (dV L) (.inr x))=_
  unfold dE
  by_cases e:q.1=x
  ·rw[if_pos e,if_pos (congrArg _ e)]
  ·rw[if_neg e,if_neg (fun z=>e (Sum.inr.inj z))]
   exact mH ((List.mem_cons.mp h).resolve_left fun z=>e z.symm)
 | [],x,h=>by simp[nms] at h
theorem fG (xs:List Str):ers (xs.map .str)=xs.map .str:=cM (Ev.nR _)
theorem xg:∀ xs ys:List Str,dj (eqN 39) (xs.map .str) (ys.map .str)=.ok (decide (xs=ys))
 | [],[]=>rfl
 | [],y::ys=>rfl
 | x::xs,[]=>rfl
 | x::xs,y::ys=>by
  show bnd (.ok (x == y)) (fun a=>bnd (dj (eqN 39) (xs.map .str) (ys.map .str)) fun b=>.ok (a&&b))=_
  rw[xg xs ys]
  show (Except.ok (x == y&&decide (xs=ys)):Res Bool)=_
  congr 1
  rw[Bool.eq_iff_iff]
  simp
theorem A8 {o o':Bool}(xs ys:List Str):opC .eq (.lst o (xs.map .str)) (.lst o' (ys.map .str))=.ok (decide (xs=ys)):=xg xs ys
noncomputable def dcN (L:List Sw):D:=.dct false (dK L) (dV L)
theorem qW {L:List Sw}(h:∀ q∈L,q.2.length<=3)(x:Str):(dE L x).length<=3:=by
 induction L with
 | nil=>exact Nat.zero_le _
 | cons q L ih=>
  unfold dE
  by_cases e:q.1=x
  ·rw[if_pos e,List.length_map];exact h q (.head _)
  ·rw[if_neg e];exact ih fun p hp=>h p (.tail _ hp)
theorem mI {L:List Sw}{x:Str}(h:x∈nms L):jK (dcN L) (.str x)=.ok (.lst false ((dE L x).map .str)):=by
 show (match look (dK L) (dV L) (.inr x) with|some d=>.ok d|none=>stk:Res D)=_
 rw[mH h]
noncomputable def gI:Gm:={N:=["tied","needed"],kd:=[.cell,.local],gl:=[],df:=false}
noncomputable def cI (f:IR):IR:=.comp gI [1] (.nm 1) (.val (.dget (.v 0) f)) [] (.cmp .in_ (.v 1) (.v 0))
theorem inner (n:Nat)(o:Bool)(S ys:List Str):cy (cR (ag T n) (.nm 1) [] (.cmp .in_ (.v 1) (.v 0)) [some (.lst o (S.map .str)),none]) (ys.map .str)=.ok ((ys.map fun y=>decide (y∈S)).map .bl):=by
 refine Ev.c7 (fun y:Str=>D.str y) (fun y=>decide (y∈S)) .bl _ fun y hy=>?_
 have e:=qS o y S
 simp(disch:=omega) only[ev0,Nat.reduceBEq,Nat.reduceSub,Nat.reduceAdd,reduceIte,Ev.rs0,Ev.rss,Ev.bF,Ev.bG,↓Ev.fzI,↓Ev.fzS,↓Ev.fzN,Ev.rfn,Ev.rct,Ev.rcn,cond_true,cond_false,List.map_cons,List.map_nil,List.cons_append,List.nil_append,Bool.true_or,Bool.false_or,Ev.bT,Ev.bU,Ev.bV,Ev.bW,Ev.bX,Ev.ers_n,Ev.bI,Ev.bY,Ev.bZ,Ev.bf,Ev.aC,Ev.bK,Ev.bL,Ev.bg,Ev.bh,Ev.bJ,Ev.bj,↓Ev.ti1,↓Ev.ti2,↓Ev.ti3,↓Ev.ti4,↓Ev.ti5,↓Ev.ti6,↓Ev.ti7,↓Ev.ti8,Ev.aF,Ev.bp,Ev.ah,Ev.aG,Ev.aH,Ev.aI,Ev.bq,Ev.ai,Ev.aJ,Ev.aK,Ev.br,Ev.aj,Ev.aL,Ev.aM,Ev.aO,Ev.aP,Ev.aQ,Ev.bt,Ev.ak,Ev.aR,Ev.ao,Ev.bu,Ev.aq,Ev.aT,Ev.ar,Ev.au,Ev.bw,Ev.bx,Ev.aU,Ev.av,Ev.aw,Ev.aa,Ev.af,Ev.ay,Ev.aV,Ev.bz,Ev.bA,Ev.aW,Ev.bB,Ev.bC,Ev.aX,Ev.aY,Ev.aZ,Ev.a8,Ev.bD,Ev.bE,Ev.az,Ev.aA,Ev.a9,Ev.ba,Ev.aB,Ev.bb,Ev.bc,Ev.bH,Ev.bM,e]
theorem xh (p:Str->Bool)(xs:List Str):(xs.map p).any id=xs.any p:=by rw[List.any_map];rfl
theorem outer (n:Nat){L:List Sw}(h:Good L)(o:Bool){S:List Str}(hS:∀ x∈S,x∈nms L):cy (cR (ag T n) (.nm 2) [(.bi .any [cI (.v 2)])] (.v 2) [some (dcN L),some (.lst o (S.map .str)),none]) (S.map .str)=.ok ((sf L S).map .str):=by
 refine ju (fun x:Str=>D.str x) (sfp L S) D.str S fun x hx=>?_
 have e1:=mI (hS x hx)
 have e2:=inner n o S (dE L x)
 have hl:=qW h.few x
 have hlen:((dE L x).map D.str).length < 16777216:=by rw[List.length_map];omega
 have ea:=xh (fun y=>decide (y∈S)) (dE L x)
 have es:(dE L x).any (fun y=>decide (y∈S))=sfp L S x:=rfl
 rw[es] at ea
 unfold cI gI
 cases hp:sfp L S x<;>rw[hp] at ea<;>simp(disch:=omega) only[ev0,Nat.reduceBEq,Nat.reduceSub,Nat.reduceAdd,reduceIte,Ev.rs0,Ev.rss,Ev.bF,Ev.bG,↓Ev.fzI,↓Ev.fzS,↓Ev.fzN,Ev.rfn,Ev.rct,Ev.rcn,cond_true,cond_false,List.map_cons,List.map_nil,List.cons_append,List.nil_append,Bool.true_or,Bool.false_or,Ev.bT,Ev.bU,Ev.bV,Ev.bW,Ev.bX,Ev.ers_n,Ev.bI,Ev.bY,Ev.bZ,Ev.bf,Ev.aC,Ev.bK,Ev.bL,Ev.bg,Ev.bh,Ev.bJ,Ev.bj,↓Ev.ti1,↓Ev.ti2,↓Ev.ti3,↓Ev.ti4,↓Ev.ti5,↓Ev.ti6,↓Ev.ti7,↓Ev.ti8,Ev.aF,Ev.bp,Ev.ah,Ev.aG,Ev.aH,Ev.aI,Ev.bq,Ev.ai,Ev.aJ,Ev.aK,Ev.br,Ev.aj,Ev.aL,Ev.aM,Ev.aO,Ev.aP,Ev.aQ,Ev.bt,Ev.ak,Ev.aR,Ev.ao,Ev.bu,Ev.aq,Ev.aT,Ev.ar,Ev.au,Ev.bw,Ev.bx,Ev.aU,Ev.av,Ev.aw,Ev.aa,Ev.af,Ev.ay,Ev.aV,Ev.bz,Ev.bA,Ev.aW,Ev.bB,Ev.bC,Ev.aX,Ev.aY,Ev.aZ,Ev.a8,Ev.bD,Ev.bE,Ev.az,Ev.aA,Ev.a9,Ev.ba,Ev.aB,Ev.bb,Ev.bc,Ev.bH,Ev.bM,e1,e2,hlen,ea]
noncomputable def wK (t:Ev->Res Bool)(b:Ev->Res Fl)(n:Nat):Fl->Res Fl
 | .nx τ'=>cK t b n τ'
 | .ct τ'=>cK t b n τ'
 | .bk τ'=>.ok (.nx τ')
 | .rt d=>.ok (.rt d)
 | .ri d ks vs=>.ok (.ri d ks vs)
theorem sY {t:Ev->Res Bool}{b:Ev->Res Fl}{n:Nat}{τ:Ev}(h:t τ=.ok true):cK t b (n+1) τ=bnd (b τ) (wK t b n):=by
 unfold cK
 rw[h]
 have e:(fun x=>match x with|Fl.nx τ'=>cK t b n τ'|Fl.ct τ'=>cK t b n τ'|Fl.bk τ'=>Except.ok (Fl.nx τ')|Fl.rt d=>Except.ok (Fl.rt d)|Fl.ri d ks vs=>Except.ok (Fl.ri d ks vs))=wK t b n:=by
  funext fl
  cases fl<;>rfl
 rw[<- e]
 rfl
theorem As {t:Ev->Res Bool}{b:Ev->Res Fl}{n:Nat}{τ:Ev}(h:t τ=.ok false):cK t b (n+1) τ=.ok (.nx τ):=by
 unfold cK
 rw[h]
 rfl
noncomputable def gO:Gm:={N:=["needs","tied","name"],kd:=[.cell,.cell,.local],gl:=[10],df:=false}
noncomputable def tTd:List IS:=[(.asg (.nm 2) (.comp gO [0,1] (.nm 2) (.val (.v 1)) [(.bi .any [cI (.v 2)])] (.v 2))),(.if_ (.cmp .eq (.v 2) (.v 1)) [(.ret (.v 1))] []),(.asg (.nm 1) (.v 2))]
theorem mJ (n:Nat){L:List Sw}(h:Good L)(o:Bool){S:List Str}(hS:∀ x∈S,x∈nms L)(hl:S.length<=20)(x2:Option D) :
  cb (ag T n) tTd [some (dcN L),some (.lst o (S.map .str)),x2]=.ok (if sf L S=S then .rt (.lst o (S.map .str)) else .nx [some (dcN L),some (.lst false ((sf L S).map .str)),some (.lst false ((sf L S).map .str))]):=by
 have e1:=outer n h o hS
 have hlen:(S.map D.str).length < 16777216:=by rw[List.length_map];omega
 have e2:=A8 (o:=true) (o':=o) (sf L S) S
 have es:=fG (sf L S)
 unfold tTd gO
 by_cases z:sf L S=S
 ·rw[if_pos z]
  rw[decide_eq_true z] at e2
  simp(disch:=omega) only[ev0,Nat.reduceBEq,Nat.reduceSub,Nat.reduceAdd,reduceIte,Ev.rs0,Ev.rss,Ev.bF,Ev.bG,↓Ev.fzI,↓Ev.fzS,↓Ev.fzN,Ev.rfn,Ev.rct,Ev.rcn,cond_true,cond_false,List.map_cons,List.map_nil,List.cons_append,List.nil_append,Bool.true_or,Bool.false_or,Ev.bT,Ev.bU,Ev.bV,Ev.bW,Ev.bX,Ev.ers_n,Ev.bI,Ev.bY,Ev.bZ,Ev.bf,Ev.aC,Ev.bK,Ev.bL,Ev.bg,Ev.bh,Ev.bJ,Ev.bj,↓Ev.ti1,↓Ev.ti2,↓Ev.ti3,↓Ev.ti4,↓Ev.ti5,↓Ev.ti6,↓Ev.ti7,↓Ev.ti8,Ev.aF,Ev.bp,Ev.ah,Ev.aG,Ev.aH,Ev.aI,Ev.bq,Ev.ai,Ev.aJ,Ev.aK,Ev.br,Ev.aj,Ev.aL,Ev.aM,Ev.aO,Ev.aP,Ev.aQ,Ev.bt,Ev.ak,Ev.aR,Ev.ao,Ev.bu,Ev.aq,Ev.aT,Ev.ar,Ev.au,Ev.bw,Ev.bx,Ev.aU,Ev.av,Ev.aw,Ev.aa,Ev.af,Ev.ay,Ev.aV,Ev.bz,Ev.bA,Ev.aW,Ev.bB,Ev.bC,Ev.aX,Ev.aY,Ev.aZ,Ev.a8,Ev.bD,Ev.bE,Ev.az,Ev.aA,Ev.a9,Ev.ba,Ev.aB,Ev.bb,Ev.bc,Ev.bH,Ev.bM,e1,hlen,e2]
 ·rw[if_neg z]
  rw[decide_eq_false z] at e2
  simp(disch:=omega) only[ev0,Nat.reduceBEq,Nat.reduceSub,Nat.reduceAdd,reduceIte,Ev.rs0,Ev.rss,Ev.bF,Ev.bG,↓Ev.fzI,↓Ev.fzS,↓Ev.fzN,Ev.rfn,Ev.rct,Ev.rcn,cond_true,cond_false,List.map_cons,List.map_nil,List.cons_append,List.nil_append,Bool.true_or,Bool.false_or,Ev.bT,Ev.bU,Ev.bV,Ev.bW,Ev.bX,Ev.ers_n,Ev.bI,Ev.bY,Ev.bZ,Ev.bf,Ev.aC,Ev.bK,Ev.bL,Ev.bg,Ev.bh,Ev.bJ,Ev.bj,↓Ev.ti1,↓Ev.ti2,↓Ev.ti3,↓Ev.ti4,↓Ev.ti5,↓Ev.ti6,↓Ev.ti7,↓Ev.ti8,Ev.aF,Ev.bp,Ev.ah,Ev.aG,Ev.aH,Ev.aI,Ev.bq,Ev.ai,Ev.aJ,Ev.aK,Ev.br,Ev.aj,Ev.aL,Ev.aM,Ev.aO,Ev.aP,Ev.aQ,Ev.bt,Ev.ak,Ev.aR,Ev.ao,Ev.bu,Ev.aq,Ev.aT,Ev.ar,Ev.au,Ev.bw,Ev.bx,Ev.aU,Ev.av,Ev.aw,Ev.aa,Ev.af,Ev.ay,Ev.aV,Ev.bz,Ev.bA,Ev.aW,Ev.bB,Ev.bC,Ev.aX,Ev.aY,Ev.aZ,Ev.a8,Ev.bD,Ev.bE,Ev.az,Ev.aA,Ev.a9,Ev.ba,Ev.aB,Ev.bb,Ev.bc,Ev.bH,Ev.bM,e1,hlen,e2,es]
theorem qX (n:Nat){L:List Sw}(h:Good L):∀ (k:Nat) (S:List Str) (o:Bool) (x2:Option D) (m:Nat),S.length<=k->S.length<=20->(∀ x∈S,x∈nms L)->
  ∃ o',cK (evT (ag T n) (.c (.bl true))) (cb (ag T n) tTd) (k+1+m) [some (dcN L),some (.lst o (S.map .str)),x2]=.ok (.rt (.lst o' ((fV L k S).map .str))):=by
 intro k
 induction k with
 | zero=>
  intro S o x2 m hk hl hS
  have e:=mJ n h o hS hl x2
  have:S=[]:=List.length_eq_zero_iff.mp (by omega)
  subst this
  rw[if_pos (show sf L []=[] from rfl)] at e
  refine⟨o,?_⟩
  rw[show 0+1+m=m+1 by omega]
  rw[sY rfl,e]
  rfl
 | succ k ih=>
  intro S o x2 m hk hl hS
  have e:=mJ n h o hS hl x2
  rw[show k+1+1+m=(k+1+m)+1 by omega]
  unfold fV
  by_cases z:sf L S=S
  ·rw[if_pos z] at e ⊢
   refine⟨o,?_⟩
   rw[sY rfl,e]
   rfl
  ·rw[if_neg z] at e ⊢
   have hlt:=lq z
   obtain⟨o',h'⟩:=ih (sf L S) false (some (.lst false ((sf L S).map .str))) m (by omega) (by omega) fun x hx=>hS x (qV hx)
   refine⟨o',?_⟩
   rw[sY rfl,e]
   exact h'
noncomputable def eF (L:List Sw):List Str:=fV L 20 (nms L)
theorem xj (L:List Sw):(dK L).map rX=(nms L).map .str:=by
 unfold dK
 rw[List.map_map]
 rfl
theorem mK (n:Nat){L:List Sw}(h:Good L):∃ o,ag T (n+1) 31 [dcN L]=.ok (.lst o ((eF L).map .str)):=by
 have hl:=h.len
 have hn:=fF L
 obtain⟨o,e⟩:=qX n h 20 (nms L) true none 999979 (by omega) (by omega) fun x hx=>hx
 refine⟨o,?_⟩
 have hk:=xj L
 have e':cK (evT (ag T n) (.c (.bl true))) (cb (ag T n) tTd) jM [some (dcN L),some (.lst true ((nms L).map .str)),none]=.ok (.rt (.lst o ((eF L).map .str))):=e
 unfold tTd gO cI gI at e'
 unfold dcN at e' ⊢
 rw[gx 31 d31 1 3 b31 rfl rfl rfl rfl rfl rfl];unfold b31
 simp(disch:=omega) only[ev0,Nat.reduceBEq,Nat.reduceSub,Nat.reduceAdd,reduceIte,Ev.rs0,Ev.rss,Ev.bF,Ev.bG,↓Ev.fzI,↓Ev.fzS,↓Ev.fzN,Ev.rfn,Ev.rct,Ev.rcn,cond_true,cond_false,List.map_cons,List.map_nil,List.cons_append,List.nil_append,Bool.true_or,Bool.false_or,Ev.bT,Ev.bU,Ev.bV,Ev.bW,Ev.bX,Ev.ers_n,Ev.bI,Ev.bY,Ev.bZ,Ev.bf,Ev.aC,Ev.bK,Ev.bL,Ev.bg,Ev.bh,Ev.bJ,Ev.bj,↓Ev.ti1,↓Ev.ti2,↓Ev.ti3,↓Ev.ti4,↓Ev.ti5,↓Ev.ti6,↓Ev.ti7,↓Ev.ti8,Ev.aF,Ev.bp,Ev.ah,Ev.aG,Ev.aH,Ev.aI,Ev.bq,Ev.ai,Ev.aJ,Ev.aK,Ev.br,Ev.aj,Ev.aL,Ev.aM,Ev.aO,Ev.aP,Ev.aQ,Ev.bt,Ev.ak,Ev.aR,Ev.ao,Ev.bu,Ev.aq,Ev.aT,Ev.ar,Ev.au,Ev.bw,Ev.bx,Ev.aU,Ev.av,Ev.aw,Ev.aa,Ev.af,Ev.ay,Ev.aV,Ev.bz,Ev.bA,Ev.aW,Ev.bB,Ev.bC,Ev.aX,Ev.aY,Ev.aZ,Ev.a8,Ev.bD,Ev.bE,Ev.az,Ev.aA,Ev.a9,Ev.ba,Ev.aB,Ev.bb,Ev.bc,Ev.bH,Ev.bM,hk,e']
noncomputable def nxt (L:List Sw)(S:List Str)(x:Str):Str:=((dE L x).filter fun y=>decide (y∈S)).headD x
theorem lu {L:List Sw}{S:List Str}(h:sf L S=S){x:Str}(hx:x∈S):∃ r,(dE L x).filter (fun y=>decide (y∈S))=nxt L S x::r/\nxt L S x∈S/\nxt L S x∈dE L x:=by
 rw[<- h] at hx
 have hp:=(List.mem_filter.mp hx).2
 obtain⟨y,hy1,hy2⟩:=List.any_eq_true.mp hp
 have hm:y∈(dE L x).filter (fun y=>decide (y∈S)):=List.mem_filter.mpr ⟨hy1,hy2⟩
 cases e:(dE L x).filter (fun y=>decide (y∈S)) with
 | nil=>rw[e] at hm;simp at hm
 | cons z r=>
  have hz:nxt L S x=z:=by unfold nxt;rw[e];rfl
  have hz':z∈(dE L x).filter (fun y=>decide (y∈S)):=by rw[e];exact .head _
  refine⟨r,by rw[hz],?_⟩
  rw[hz]
  obtain⟨h1,h2⟩:=List.mem_filter.mp hz'
  exact⟨of_decide_eq_true h2,h1⟩
def Pth (L:List Sw)(S:List Str)(a:Str):List Str->Str->Prop
 | [],x=>x=a
 | p::ps,x=>p=a/\Pth L S (nxt L S a) ps x
theorem kx {L:List Sw}{S:List Str}:∀ {ps:List Str}{a x:Str},Pth L S a ps x->Pth L S a (ps++[x]) (nxt L S x)
 | [],a,x,h=>by
  have h:x=a:=h
  subst h
  exact⟨rfl,rfl⟩
 | p::ps,a,x,h=>⟨h.1,kx h.2⟩
theorem ky {L:List Sw}{S:List Str}:∀ {ps:List Str}{a x:Str}{j:Nat}{b:Str},Pth L S a ps x->ps[j]? = some b->Pth L S b (ps.drop j) x
 | p::ps,a,x,0,b,h,e=>by
  have e:p=b:=Option.some.inj e
  have h1:=h.1
  subst e h1
  exact h
 | p::ps,a,x,j+1,b,h,e=>ky (ps:=ps) h.2 e
theorem qY {L:List Sw}{S:List Str}:∀ {ps:List Str}{a x:Str},Pth L S a ps x->∀ (i:Nat) (u:Str),ps[i]? = some u->(ps[i+1]? = some (nxt L S u)∨(i+1=ps.length/\x=nxt L S u))
 | p::ps,a,x,h,0,u,e=>by
  have e:p=u:=Option.some.inj e
  have h1:=h.1
  subst e h1
  cases ps with
  | nil=>exact .inr ⟨rfl,h.2⟩
  | cons q qs=>exact .inl (congrArg some h.2.1)
 | p::ps,a,x,h,i+1,u,e=>by
  rcases qY h.2 i u e with z|⟨z1,z2⟩
  ·exact .inl z
  ·exact .inr ⟨by rw[List.length_cons];omega,z2⟩
noncomputable def gR:Gm:={N:=["tied","needed"],kd:=[.cell,.local],gl:=[],df:=false}
noncomputable def tRf:List IS:=[(.app 2 (.v 3)),(.asg (.nm 3) (.idx (.comp gR [1] (.nm 1) (.val (.dget (.v 0) (.v 3))) [(.cmp .in_ (.v 1) (.v 0))] (.v 1)) (.c (.int 0))))]
theorem xk (n:Nat)(o:Bool)(S ys:List Str):cy (cR (ag T n) (.nm 1) [(.cmp .in_ (.v 1) (.v 0))] (.v 1) [some (.lst o (S.map .str)),none]) (ys.map .str)=.ok ((ys.filter fun y=>decide (y∈S)).map .str):=by
 refine ju (fun x:Str=>D.str x) (fun y=>decide (y∈S)) D.str ys fun x hx=>?_
 have e:=qS o x S
 cases z:decide (x∈S)<;>rw[z] at e<;>simp(disch:=omega) only[ev0,Nat.reduceBEq,Nat.reduceSub,Nat.reduceAdd,reduceIte,Ev.rs0,Ev.rss,Ev.bF,Ev.bG,↓Ev.fzI,↓Ev.fzS,↓Ev.fzN,Ev.rfn,Ev.rct,Ev.rcn,cond_true,cond_false,List.map_cons,List.map_nil,List.cons_append,List.nil_append,Bool.true_or,Bool.false_or,Ev.bT,Ev.bU,Ev.bV,Ev.bW,Ev.bX,Ev.ers_n,Ev.bI,Ev.bY,Ev.bZ,Ev.bf,Ev.aC,Ev.bK,Ev.bL,Ev.bg,Ev.bh,Ev.bJ,Ev.bj,↓Ev.ti1,↓Ev.ti2,↓Ev.ti3,↓Ev.ti4,↓Ev.ti5,↓Ev.ti6,↓Ev.ti7,↓Ev.ti8,Ev.aF,Ev.bp,Ev.ah,Ev.aG,Ev.aH,Ev.aI,Ev.bq,Ev.ai,Ev.aJ,Ev.aK,Ev.br,Ev.aj,Ev.aL,Ev.aM,Ev.aO,Ev.aP,Ev.aQ,Ev.bt,Ev.ak,Ev.aR,Ev.ao,Ev.bu,Ev.aq,Ev.aT,Ev.ar,Ev.au,Ev.bw,Ev.bx,Ev.aU,Ev.av,Ev.aw,Ev.aa,Ev.af,Ev.ay,Ev.aV,Ev.bz,Ev.bA,Ev.aW,Ev.bB,Ev.bC,Ev.aX,Ev.aY,Ev.aZ,Ev.a8,Ev.bD,Ev.bE,Ev.az,Ev.aA,Ev.a9,Ev.ba,Ev.aB,Ev.bb,Ev.bc,Ev.bH,Ev.bM,e]
theorem sZ (n:Nat){L:List Sw}(h:Good L){S:List Str}(hf:sf L S=S)(hS:∀ x∈S,x∈nms L){ps:List Str}(hp:ps.length<=20){x:Str}(hx:x∈S) :
  cb (ag T n) tRf [some (dcN L),some (.lst false (S.map .str)),some (.lst true (ps.map .str)),some (.str x)]=.ok (.nx [some (dcN L),some (.lst false (S.map .str)),some (.lst true ((ps++[x]).map .str)),some (.str (nxt L S x))]):=by
 obtain⟨r,h1,h2,h3⟩:=lu hf hx
 have e1:=mI (hS x hx)
 have e2:=xk n false S (dE L x)
 rw[h1] at e2
 have hl:=qW h.few x
 have hlen:((dE L x).map D.str).length < 16777216:=by rw[List.length_map];omega
 have hlp:(ps.map D.str).length < 16777216:=by rw[List.length_map];omega
 have happ:ps.map D.str++[D.str x]=(ps++[x]).map .str:=by rw[List.map_append];rfl
 have ix:cX (.lst true ((nxt L S x::r).map D.str)) (.int 0)=.ok (.str (nxt L S x)):=by
  show (match atI ((nxt L S x::r).map D.str) 0 with|some d=>.ok d|none=>stk:Res D)=_
  rw[List.map_cons,at0]
 rw[List.map_cons] at ix
 unfold tRf gR
 simp(disch:=omega) only[ev0,Nat.reduceBEq,Nat.reduceSub,Nat.reduceAdd,reduceIte,Ev.rs0,Ev.rss,Ev.bF,Ev.bG,↓Ev.fzI,↓Ev.fzS,↓Ev.fzN,Ev.rfn,Ev.rct,Ev.rcn,cond_true,cond_false,List.map_cons,List.map_nil,List.cons_append,List.nil_append,Bool.true_or,Bool.false_or,Ev.bT,Ev.bU,Ev.bV,Ev.bW,Ev.bX,Ev.ers_n,Ev.bI,Ev.bY,Ev.bZ,Ev.bf,Ev.aC,Ev.bK,Ev.bL,Ev.bg,Ev.bh,Ev.bJ,Ev.bj,↓Ev.ti1,↓Ev.ti2,↓Ev.ti3,↓Ev.ti4,↓Ev.ti5,↓Ev.ti6,↓Ev.ti7,↓Ev.ti8,Ev.aF,Ev.bp,Ev.ah,Ev.aG,Ev.aH,Ev.aI,Ev.bq,Ev.ai,Ev.aJ,Ev.aK,Ev.br,Ev.aj,Ev.aL,Ev.aM,Ev.aO,Ev.aP,Ev.aQ,Ev.bt,Ev.ak,Ev.aR,Ev.ao,Ev.bu,Ev.aq,Ev.aT,Ev.ar,Ev.au,Ev.bw,Ev.bx,Ev.aU,Ev.av,Ev.aw,Ev.aa,Ev.af,Ev.ay,Ev.aV,Ev.bz,Ev.bA,Ev.aW,Ev.bB,Ev.bC,Ev.aX,Ev.aY,Ev.aZ,Ev.a8,Ev.bD,Ev.bE,Ev.az,Ev.aA,Ev.a9,Ev.ba,Ev.aB,Ev.bb,Ev.bc,Ev.bH,Ev.bM,hlp,happ,e1,hlen,e2,ix]
theorem eJ:∀ {ps S:List Str},ps.Nodup->(∀ p∈ps,p∈S)->ps.length<=S.length
 | [],S,_,_=>Nat.zero_le _
 | p::ps,S,nd,h=>by
  obtain⟨n1,n2⟩:=List.nodup_cons.mp nd
  have hp:=h p (.head _)
  have ih:=eJ (ps:=ps) (S:=S.erase p) n2 fun q hq=>(List.mem_erase_of_ne (show q≠p from fun z=>n1 (z ▸ hq))).mpr (h q (.tail _ hq))
  have:=List.length_erase_of_mem hp
  have:=List.length_pos_of_mem hp
  rw[List.length_cons]
  omega
theorem qZ (n:Nat){L:List Sw}(h:Good L){S:List Str}(hf:sf L S=S)(hS:∀ x∈S,x∈nms L)(hl:S.length<=20)(a:Str):∀ (k:Nat) (ps:List Str) (x:Str) (m:Nat),S.length<=ps.length+k->ps.Nodup->(∀ p∈ps,p∈S)->Pth L S a ps x->x∈S->
  ∃ ps' x',cK (evT (ag T n) (.cmp .nin (.v 3) (.v 2))) (cb (ag T n) tRf) (k+1+m) [some (dcN L),some (.lst false (S.map .str)),some (.lst true (ps.map .str)),some (.str x)]=.ok (.nx [some (dcN L),some (.lst false (S.map .str)),some (.lst true (ps'.map .str)),some (.str x')])/\
   ps'.Nodup/\(∀ p∈ps',p∈S)/\Pth L S a ps' x'/\x'∈ps':=by
 intro k
 induction k with
 | zero=>
  intro ps x m hk nd sub hp hx
  by_cases z:x∈ps
  ·refine⟨ps,x,?_,nd,sub,hp,z⟩
   have e:=mE true x ps
   rw[decide_eq_true z] at e
   rw[show 0+1+m=m+1 by omega,As (by simp(disch:=omega) only[ev0,Nat.reduceBEq,Nat.reduceSub,Nat.reduceAdd,reduceIte,Ev.rs0,Ev.rss,Ev.bF,Ev.bG,↓Ev.fzI,↓Ev.fzS,↓Ev.fzN,Ev.rfn,Ev.rct,Ev.rcn,cond_true,cond_false,List.map_cons,List.map_nil,List.cons_append,List.nil_append,Bool.true_or,Bool.false_or,Ev.bT,Ev.bU,Ev.bV,Ev.bW,Ev.bX,Ev.ers_n,Ev.bI,Ev.bY,Ev.bZ,Ev.bf,Ev.aC,Ev.bK,Ev.bL,Ev.bg,Ev.bh,Ev.bJ,Ev.bj,↓Ev.ti1,↓Ev.ti2,↓Ev.ti3,↓Ev.ti4,↓Ev.ti5,↓Ev.ti6,↓Ev.ti7,↓Ev.ti8,Ev.aF,Ev.bp,Ev.ah,Ev.aG,Ev.aH,Ev.aI,Ev.bq,Ev.ai,Ev.aJ,Ev.aK,Ev.br,Ev.aj,Ev.aL,Ev.aM,Ev.aO,Ev.aP,Ev.aQ,Ev.bt,Ev.ak,Ev.aR,Ev.ao,Ev.bu,Ev.aq,Ev.aT,Ev.ar,Ev.au,Ev.bw,Ev.bx,Ev.aU,Ev.av,Ev.aw,Ev.aa,Ev.af,Ev.ay,Ev.aV,Ev.bz,Ev.bA,Ev.aW,Ev.bB,Ev.bC,Ev.aX,Ev.aY,Ev.aZ,Ev.a8,Ev.bD,Ev.bE,Ev.az,Ev.aA,Ev.a9,Ev.ba,Ev.aB,Ev.bb,Ev.bc,Ev.bH,Ev.bM,e])]
  ·exfalso
   have:=eJ (ps:=x::ps) (S:=S) (List.nodup_cons.mpr ⟨z,nd⟩) fun q hq=>(List.mem_cons.mp hq).elim (fun e=>e ▸ hx) (sub q)
   rw[List.length_cons] at this
   omega
 | succ k ih=>
  intro ps x m hk nd sub hp hx
  by_cases z:x∈ps
  ·refine⟨ps,x,?_,nd,sub,hp,z⟩
   have e:=mE true x ps
   rw[decide_eq_true z] at e
   rw[show k+1+1+m=(k+1+m)+1 by omega,As (by simp(disch:=omega) only[ev0,Nat.reduceBEq,Nat.reduceSub,Nat.reduceAdd,reduceIte,Ev.rs0,Ev.rss,Ev.bF,Ev.bG,↓Ev.fzI,↓Ev.fzS,↓Ev.fzN,Ev.rfn,Ev.rct,Ev.rcn,cond_true,cond_false,List.map_cons,List.map_nil,List.cons_append,List.nil_append,Bool.true_or,Bool.false_or,Ev.bT,Ev.bU,Ev.bV,Ev.bW,Ev.bX,Ev.ers_n,Ev.bI,Ev.bY,Ev.bZ,Ev.bf,Ev.aC,Ev.bK,Ev.bL,Ev.bg,Ev.bh,Ev.bJ,Ev.bj,↓Ev.ti1,↓Ev.ti2,↓Ev.ti3,↓Ev.ti4,↓Ev.ti5,↓Ev.ti6,↓Ev.ti7,↓Ev.ti8,Ev.aF,Ev.bp,Ev.ah,Ev.aG,Ev.aH,Ev.aI,Ev.bq,Ev.ai,Ev.aJ,Ev.aK,Ev.br,Ev.aj,Ev.aL,Ev.aM,Ev.aO,Ev.aP,Ev.aQ,Ev.bt,Ev.ak,Ev.aR,Ev.ao,Ev.bu,Ev.aq,Ev.aT,Ev.ar,Ev.au,Ev.bw,Ev.bx,Ev.aU,Ev.av,Ev.aw,Ev.aa,Ev.af,Ev.ay,Ev.aV,Ev.bz,Ev.bA,Ev.aW,Ev.bB,Ev.bC,Ev.aX,Ev.aY,Ev.aZ,Ev.a8,Ev.bD,Ev.bE,Ev.az,Ev.aA,Ev.a9,Ev.ba,Ev.aB,Ev.bb,Ev.bc,Ev.bH,Ev.bM,e])]
  ·have e:=mE true x ps
   rw[decide_eq_false z] at e
   have lp:=eJ nd sub
   have e1:=sZ n h hf hS (ps:=ps) (by omega) hx
   obtain⟨r,_,h2,_⟩:=lu hf hx
   have nd':(ps++[x]).Nodup:=List.nodup_append.mpr ⟨nd,by simp,fun p h1 q h2 e=>z (by rw[List.mem_singleton.mp h2] at e;exact e ▸ h1)⟩
   obtain⟨ps',x',e2,g1,g2,g3,g4⟩:=ih (ps++[x]) (nxt L S x) m (by rw[List.length_append,List.length_singleton];omega) nd' (fun p hp'=>(List.mem_append.mp hp').elim (sub p) fun e=>by rw[List.mem_singleton.mp e];exact hx) (kx hp) h2
   refine⟨ps',x',?_,g1,g2,g3,g4⟩
   rw[show k+1+1+m=(k+1+m)+1 by omega,sY (by simp(disch:=omega) only[ev0,Nat.reduceBEq,Nat.reduceSub,Nat.reduceAdd,reduceIte,Ev.rs0,Ev.rss,Ev.bF,Ev.bG,↓Ev.fzI,↓Ev.fzS,↓Ev.fzN,Ev.rfn,Ev.rct,Ev.rcn,cond_true,cond_false,List.map_cons,List.map_nil,List.cons_append,List.nil_append,Bool.true_or,Bool.false_or,Ev.bT,Ev.bU,Ev.bV,Ev.bW,Ev.bX,Ev.ers_n,Ev.bI,Ev.bY,Ev.bZ,Ev.bf,Ev.aC,Ev.bK,Ev.bL,Ev.bg,Ev.bh,Ev.bJ,Ev.bj,↓Ev.ti1,↓Ev.ti2,↓Ev.ti3,↓Ev.ti4,↓Ev.ti5,↓Ev.ti6,↓Ev.ti7,↓Ev.ti8,Ev.aF,Ev.bp,Ev.ah,Ev.aG,Ev.aH,Ev.aI,Ev.bq,Ev.ai,Ev.aJ,Ev.aK,Ev.br,Ev.aj,Ev.aL,Ev.aM,Ev.aO,Ev.aP,Ev.aQ,Ev.bt,Ev.ak,Ev.aR,Ev.ao,Ev.bu,Ev.aq,Ev.aT,Ev.ar,Ev.au,Ev.bw,Ev.bx,Ev.aU,Ev.av,Ev.aw,Ev.aa,Ev.af,Ev.ay,Ev.aV,Ev.bz,Ev.bA,Ev.aW,Ev.bB,Ev.bC,Ev.aX,Ev.aY,Ev.aZ,Ev.a8,Ev.bD,Ev.bE,Ev.az,Ev.aA,Ev.a9,Ev.ba,Ev.aB,Ev.bb,Ev.bc,Ev.bH,Ev.bM,e]),e1]
   exact e2
theorem ra {α:Type}(xs:List α){m:Int}(h:0<=m):kN xs (some m) none=xs.drop m.toNat:=by
 unfold kN HT.sIx
 simp only
 rw[if_neg (by omega)]
 by_cases hm:m.toNat<=xs.length
 ·rw[show min m.toNat xs.length=m.toNat from Nat.min_eq_left hm,List.take_of_length_le (by rw[List.length_drop];omega)]
 ·rw[show min m.toNat xs.length=xs.length from Nat.min_eq_right (by omega),List.drop_length,List.take_nil,List.drop_of_length_le (by omega)]
structure Rg (L:List Sw)(r:List Str):Prop where
 ne:r≠[]
 nd:r.Nodup
 len:r.length<=20
 nx:∀ (i:Nat) (u:Str),r[i]? = some u->u∈nms L/\∃ v,r[(i+1) % r.length]? = some v/\v∈dE L u
theorem kz {y:Str}:∀ {ns:List Str},y∈ns->∃ j,f7 y ns=some j
 | x::r,h=>by
  unfold f7
  by_cases e:x=y
  ·exact⟨0,if_pos e⟩
  ·obtain⟨j,hj⟩:=kz ((List.mem_cons.mp h).resolve_left fun z=>e z.symm)
   exact⟨j+1,by rw[if_neg e,hj];rfl⟩
 | [],h=>by simp at h
theorem tf (n:Nat){L:List Sw}(h:Good L){S:List Str}(hf:sf L S=S)(hS:∀ x∈S,x∈nms L)(hl:S.length<=20)(hne:S≠[]):∃ r,ag T (n+1) 32 [dcN L,.lst false (S.map .str)]=.ok (.tup (r.map .str))/\Rg L r:=by
 cases hs:S with
 | nil=>exact absurd hs hne
 | cons a S'=>
 rw[<- hs]
 have ha:a∈S:=by rw[hs];exact .head _
 obtain⟨ps,x,e,g1,g2,g3,g4⟩:=qZ n h hf hS hl a 20 [] a 999979 (by rw[List.length_nil];omega) List.nodup_nil (fun p hp=>by simp at hp) rfl ha
 have e':cK (evT (ag T n) (.cmp .nin (.v 3) (.v 2))) (cb (ag T n) tRf) jM [some (dcN L),some (.lst false (S.map .str)),some (.lst true []),some (.str a)]=_:=e
 obtain⟨j,hj⟩:=kz g4
 obtain⟨hx,_⟩:=i5 hj
 have hjl:j < ps.length:=(List.getElem?_eq_some_iff.mp hx).1
 have lp:=eJ g1 g2
 refine⟨ps.drop j,?_,?_⟩
 ·have i0:cX (.lst false (S.map D.str)) (.int 0)=.ok (.str a):=by
   show (match atI (S.map D.str) 0 with|some d=>.ok d|none=>stk:Res D)=_
   rw[hs,List.map_cons,at0]
  have hx1:jL (.lst true (ps.map .str)) (.str x)=.ok (.int j):=by
   show (match cJ (ps.map D.str) with|some ns=>(match f7 x ns with|some j=>.ok (.int j)|none=>stk)|none=>stk:Res D)=_
   rw[Ev.gX]
   show (match f7 x ps with|some j=>.ok (.int j)|none=>stk:Res D)=_
   rw[hj]
  have cf:kN (ps.map D.str) (some (j:Int)) none=(ps.drop j).map .str:=by rw[ra _ (by omega),List.map_drop];rfl
  unfold tRf gR at e'
  rw[gx 32 d32 2 4 b32 rfl rfl rfl rfl rfl rfl];unfold b32
  simp(disch:=omega) only[ev0,Nat.reduceBEq,Nat.reduceSub,Nat.reduceAdd,reduceIte,Ev.rs0,Ev.rss,Ev.bF,Ev.bG,↓Ev.fzI,↓Ev.fzS,↓Ev.fzN,Ev.rfn,Ev.rct,Ev.rcn,cond_true,cond_false,List.map_cons,List.map_nil,List.cons_append,List.nil_append,Bool.true_or,Bool.false_or,Ev.bT,Ev.bU,Ev.bV,Ev.bW,Ev.bX,Ev.ers_n,Ev.bI,Ev.bY,Ev.bZ,Ev.bf,Ev.aC,Ev.bK,Ev.bL,Ev.bg,Ev.bh,Ev.bJ,Ev.bj,↓Ev.ti1,↓Ev.ti2,↓Ev.ti3,↓Ev.ti4,↓Ev.ti5,↓Ev.ti6,↓Ev.ti7,↓Ev.ti8,Ev.aF,Ev.bp,Ev.ah,Ev.aG,Ev.aH,Ev.aI,Ev.bq,Ev.ai,Ev.aJ,Ev.aK,Ev.br,Ev.aj,Ev.aL,Ev.aM,Ev.aO,Ev.aP,Ev.aQ,Ev.bt,Ev.ak,Ev.aR,Ev.ao,Ev.bu,Ev.aq,Ev.aT,Ev.ar,Ev.au,Ev.bw,Ev.bx,Ev.aU,Ev.av,Ev.aw,Ev.aa,Ev.af,Ev.ay,Ev.aV,Ev.bz,Ev.bA,Ev.aW,Ev.bB,Ev.bC,Ev.aX,Ev.aY,Ev.aZ,Ev.a8,Ev.bD,Ev.bE,Ev.az,Ev.aA,Ev.a9,Ev.ba,Ev.aB,Ev.bb,Ev.bc,Ev.bH,Ev.bM,i0,e',hx1,cf]
 ·have hd:(ps.drop j).length=ps.length - j:=List.length_drop
  have pt:=ky g3 hx
  refine⟨fun z=>?_,(List.drop_sublist j ps).nodup g1,by omega,fun i u hu=>?_⟩
  ·rw[z,List.length_nil] at hd;omega
  ·have hui:i < (ps.drop j).length:=(List.getElem?_eq_some_iff.mp hu).1
   have hm:u∈S:=g2 u (List.mem_of_mem_drop (List.mem_of_getElem? hu))
   obtain⟨_,_,q1,q2⟩:=lu hf hm
   refine⟨hS u hm,nxt L S u,?_,q2⟩
   rcases qY pt i u hu with z|⟨z1,z2⟩
   ·have:=(List.getElem?_eq_some_iff.mp z).1
    rw[Nat.mod_eq_of_lt this]
    exact z
   ·rw[z1,Nat.mod_self,List.getElem?_drop,Nat.add_zero,hx,z2]
theorem rb {M:List Sw}{x:Str}(h:x∉nms M):jJ (dK M) (.inr x)=false:=by
 unfold jJ dK
 rw[List.any_map,List.any_eq_false]
 intro y hy
 have:y≠x:=fun z=>h (z ▸ hy)
 simpa using this
theorem put_k {M:List Sw}{q:Sw}(h:q.1∉nms M):e9 (dK M) (.inr q.1)=dK (M++[q]):=by
 unfold e9
 rw[if_neg (by rw[rb h];exact Bool.false_ne_true)]
 unfold dK nms
 rw[List.map_append,List.map_append]
 rfl
theorem lA (M:List Sw):ers (dV M)=dV M:=by
 unfold dV
 rw[cO,List.map_map]
 refine List.map_congr_left fun q _=>?_
 show D.lst false (ers _)=_
 rw[fG]
theorem Au {M:List Sw}{q:Sw}(h:q.1∉nms M):ers (ff (dK M) (dV M) (.inr q.1) (.lst true ((q.2.map (·.1)).map .str)))=dV (M++[q]):=by
 unfold ff
 rw[if_neg (by rw[rb h];exact Bool.false_ne_true),cO,List.map_append,<- cO,lA]
 unfold dV
 rw[List.map_append]
 show _++[D.lst false (ers _)]=_
 rw[fG]
 rfl
theorem uQ:∀ xs:List Str,dt (xs.map .str)=true
 | []=>rfl
 | x::xs=>uQ xs
theorem uR:∀ M:List Sw,dt (dV M)=true
 | []=>rfl
 | q::M=>by
  show ((!false&&dt ((q.2.map (·.1)).map .str))&&dt (dV M))=true
  rw[uQ,uR M]
  rfl
noncomputable def gN:Gm:={N:=["needed","face"],kd:=[.local,.local],gl:=[],df:=false}
noncomputable def tDc:List IS:=[(.dsetx 1 (.v 2) (.comp gN [] (.tp [(.nm 0),(.nm 1)]) (.val (.idx (.v 3) (.c (.int 1)))) [] (.v 0)))]
theorem uS (n:Nat)(ps:Ps):cy (cR (ag T n) (.tp [(.nm 0),(.nm 1)]) [] (.v 0) [none,none]) (ps.map pD)=.ok ((ps.map (·.1)).map .str):=by
 refine Ev.c7 pD (fun p=>p.1) .str ps fun p _=>?_
 unfold pD
 simp(disch:=omega) only[ev0,Nat.reduceBEq,Nat.reduceSub,Nat.reduceAdd,reduceIte,Ev.rs0,Ev.rss,Ev.bF,Ev.bG,↓Ev.fzI,↓Ev.fzS,↓Ev.fzN,Ev.rfn,Ev.rct,Ev.rcn,cond_true,cond_false,List.map_cons,List.map_nil,List.cons_append,List.nil_append,Bool.true_or,Bool.false_or,Ev.bT,Ev.bU,Ev.bV,Ev.bW,Ev.bX,Ev.ers_n,Ev.bI,Ev.bY,Ev.bZ,Ev.bf,Ev.aC,Ev.bK,Ev.bL,Ev.bg,Ev.bh,Ev.bJ,Ev.bj,↓Ev.ti1,↓Ev.ti2,↓Ev.ti3,↓Ev.ti4,↓Ev.ti5,↓Ev.ti6,↓Ev.ti7,↓Ev.ti8,Ev.aF,Ev.bp,Ev.ah,Ev.aG,Ev.aH,Ev.aI,Ev.bq,Ev.ai,Ev.aJ,Ev.aK,Ev.br,Ev.aj,Ev.aL,Ev.aM,Ev.aO,Ev.aP,Ev.aQ,Ev.bt,Ev.ak,Ev.aR,Ev.ao,Ev.bu,Ev.aq,Ev.aT,Ev.ar,Ev.au,Ev.bw,Ev.bx,Ev.aU,Ev.av,Ev.aw,Ev.aa,Ev.af,Ev.ay,Ev.aV,Ev.bz,Ev.bA,Ev.aW,Ev.bB,Ev.bC,Ev.aX,Ev.aY,Ev.aZ,Ev.a8,Ev.bD,Ev.bE,Ev.az,Ev.aA,Ev.a9,Ev.ba,Ev.aB,Ev.bb,Ev.bc,Ev.bH,Ev.bM]
theorem ne_nil {o o':Bool}(xs:List Str):opC .ne (.lst o (xs.map .str)) (.lst o' [])=.ok (!decide (xs=[])):=by
 show bnd (dj (eqN 39) (xs.map .str) (([]:List Str).map .str)) _=_
 rw[xg]
 rfl
theorem A9 (c x:Str)(ts:List Str):nj c x (.tup (ts.map .str))=.error (.exc ⟨c,x,ts⟩):=by
 show (match cJ (ts.map D.str) with|some ts=>.error (.exc ⟨c,x,ts⟩)|none=>stk:Res Fl)=_
 rw[Ev.gX]
theorem xl {cl:Nat->List D->Res D}{e:IR}(hv:vars e=[3]){A z:Option D}{ks:List Key}{ds:List D}{x:Str}{ent d:D}(hw:dt ds=true)(hl:ks.length < 16777216) :
  Ev.zB cl 1 (.v 2) e [A,some (.dct true ks ds),some (.str x),some ent,z] d=.ok (.nx [A,some (.dct true (e9 ks (.inr x)) (ers (ff ks ds (.inr x) d))),some (.str x),some (er ent),z]):=by
 show bnd (evR cl (.v 2) (frz (vars e) [A,some (.dct true ks ds),some (.str x),some ent,z])) (fun y=>Ev.sQ 1 e [A,some (.dct true ks ds),some (.str x),some ent,z] d ks ds (ib y))=_
 rw[hv]
 show Ev.sQ 1 e [A,some (.dct true ks ds),some (.str x),some ent,z] d ks ds (some (.inr x))=_
 unfold Ev.sQ
 rw[hv,hw,Ev.lb hl]
 rfl
theorem iQ (n:Nat){L:List Sw}(h:Good L):∃ x2 x3,forM (Ev.turn (ag T n) (.tp [(.nm 2),(.nm 3)]) tDc) (L.map wD) [some (.lst false (L.map wD)),some (.dct true [] []),none,none,none]=.ok (.nx [some (.lst false (L.map wD)),some (.dct true (dK L) (dV L)),x2,x3,none]):=by
 obtain⟨τ',e,x2,x3,rfl⟩:=Ev.dB (body:=Ev.turn (ag T n) (.tp [(.nm 2),(.nm 3)]) tDc) (its:=L.map wD) (τ:=[some (.lst false (L.map wD)),some (.dct true [] []),none,none,none])
  (fun i τ=>∃ x2 x3,τ=[some (.lst false (L.map wD)),some (.dct true (dK (L.take i)) (dV (L.take i))),x2,x3,none]) ⟨none,none,rfl⟩ (by
   rintro i x τ hx ⟨z2,z3,rfl⟩
   rw[List.getElem?_map] at hx
   obtain⟨q,hq,rfl⟩:=Option.map_eq_some_iff.mp hx
   have hi:i < L.length:=(List.getElem?_eq_some_iff.mp hq).1
   have htk:L.take (i+1)=L.take i++[q]:=by rw[List.take_succ,hq];rfl
   have nin:q.1∉nms (L.take i):=fun z=>by
    have nd:=h.nd
    rw[<- List.take_append_drop (i+1) L,htk] at nd
    unfold nms at nd z
    rw[List.append_assoc,List.map_append] at nd
    exact(List.nodup_append.mp nd).2.2 q.1 z q.1 (by simp) rfl
   refine⟨_,?_,some (.str q.1),some (eD q.2),by rw[htk]⟩
   have i1:=mF q.2
   have ee:=Ap q.2
   have e1:=uS n q.2
   have hw:wD q=.tup [.str q.1,eD q.2]:=rfl
   have pk:=put_k nin
   have pd:=Au nin
   have nw:=uR (L.take i)
   have few:=h.few q (List.mem_of_getElem? hq)
   have l1:(q.2.map pD).length < 16777216:=by rw[List.length_map];omega
   have l2:(dK (L.take i)).length < 16777216:=by
    unfold dK nms
    rw[List.length_map,List.length_map,List.length_take]
    have:=h.len
    omega
   have vr:vars (.comp gN [] (.tp [(.nm 0),(.nm 1)]) (.val (.idx (.v 3) (.c (.int 1)))) [] (.v 0))=[3]:=rfl
   have dx:=xl (cl:=ag T n) vr (A:=some (.lst false (L.map wD))) (z:=none) (x:=q.1) (ent:=eD q.2) (d:=.lst true ((q.2.map (·.1)).map .str)) nw l2
   rw[pk,pd,ee] at dx
   unfold tDc
   unfold gN at dx ⊢
   simp(disch:=omega) only[ev0,Nat.reduceBEq,Nat.reduceSub,Nat.reduceAdd,reduceIte,Ev.rs0,Ev.rss,Ev.bF,Ev.bG,↓Ev.fzI,↓Ev.fzS,↓Ev.fzN,Ev.rfn,Ev.rct,Ev.rcn,cond_true,cond_false,List.map_cons,List.map_nil,List.cons_append,List.nil_append,Bool.true_or,Bool.false_or,Ev.bT,Ev.bU,Ev.bV,Ev.bW,Ev.bX,Ev.ers_n,Ev.bI,Ev.bY,Ev.bZ,Ev.bf,Ev.aC,Ev.bK,Ev.bL,Ev.bg,Ev.bh,Ev.bJ,Ev.bj,↓Ev.ti1,↓Ev.ti2,↓Ev.ti3,↓Ev.ti4,↓Ev.ti5,↓Ev.ti6,↓Ev.ti7,↓Ev.ti8,Ev.aF,Ev.bp,Ev.ah,Ev.aG,Ev.aH,Ev.aI,Ev.bq,Ev.ai,Ev.aJ,Ev.aK,Ev.br,Ev.aj,Ev.aL,Ev.aM,Ev.aO,Ev.aP,Ev.aQ,Ev.bt,Ev.ak,Ev.aR,Ev.ao,Ev.bu,Ev.aq,Ev.aT,Ev.ar,Ev.au,Ev.bw,Ev.bx,Ev.aU,Ev.av,Ev.aw,Ev.aa,Ev.af,Ev.ay,Ev.aV,Ev.bz,Ev.bA,Ev.aW,Ev.bB,Ev.bC,Ev.aX,Ev.aY,Ev.aZ,Ev.a8,Ev.bD,Ev.bE,Ev.az,Ev.aA,Ev.a9,Ev.ba,Ev.aB,Ev.bb,Ev.bc,Ev.bH,Ev.bM,Ev.cP,hw,i1,e1,l1,dx])
 refine⟨x2,x3,?_⟩
 rw[e]
 have:L.take (L.map wD).length=L:=by rw[List.length_map];exact List.take_length
 rw[this]
theorem xn {L:List Sw}(h:Good L):sf L (eF L)=eF L:=kr (by rw[fF];exact h.len)
theorem xq {L:List Sw}:∀ x∈eF L,x∈nms L:=fun x hx=>ku hx
theorem kA {L:List Sw}:∀ {k:Nat}{S:List Str},(fV L k S).length<=S.length
 | 0,S=>Nat.le_refl _
 | k+1,S=>by
  unfold fV
  by_cases e:sf L S=S
  ·rw[if_pos e];exact Nat.le_refl _
  ·rw[if_neg e];exact Nat.le_trans kA (List.length_filter_le _ _)
theorem xr {L:List Sw}(h:Good L):(eF L).length<=20:=Nat.le_trans kA (by rw[fF];exact h.len)
theorem mL {o:Bool}{xs:List D}:b9 (.lst o xs)=false:=rfl
theorem ti (n:Nat){L:List Sw}(h:Good L)(ht:eF L=[]):ag T (n+2) 33 [.lst false (L.map wD)]=.ok .non:=by
 obtain⟨x2,x3,e1⟩:=iQ (n+1) h
 obtain⟨o,e2⟩:=mK n h
 unfold dcN at e2
 have e3:=ne_nil (o:=o) (o':=true) (eF L)
 rw[decide_eq_true ht] at e3
 have lw:=fE L
 have ld:=lA L
 unfold tDc gN at e1
 rw[gx 33 d33 1 5 b33 rfl rfl rfl rfl rfl rfl];unfold b33
 simp(disch:=omega) only[ev0,Nat.reduceBEq,Nat.reduceSub,Nat.reduceAdd,reduceIte,Ev.rs0,Ev.rss,Ev.bF,Ev.bG,↓Ev.fzI,↓Ev.fzS,↓Ev.fzN,Ev.rfn,Ev.rct,Ev.rcn,cond_true,cond_false,List.map_cons,List.map_nil,List.cons_append,List.nil_append,Bool.true_or,Bool.false_or,Ev.bT,Ev.bU,Ev.bV,Ev.bW,Ev.bX,Ev.ers_n,Ev.bI,Ev.bY,Ev.bZ,Ev.bf,Ev.aC,Ev.bK,Ev.bL,Ev.bg,Ev.bh,Ev.bJ,Ev.bj,↓Ev.ti1,↓Ev.ti2,↓Ev.ti3,↓Ev.ti4,↓Ev.ti5,↓Ev.ti6,↓Ev.ti7,↓Ev.ti8,Ev.aF,Ev.bp,Ev.ah,Ev.aG,Ev.aH,Ev.aI,Ev.bq,Ev.ai,Ev.aJ,Ev.aK,Ev.br,Ev.aj,Ev.aL,Ev.aM,Ev.aO,Ev.aP,Ev.aQ,Ev.bt,Ev.ak,Ev.aR,Ev.ao,Ev.bu,Ev.aq,Ev.aT,Ev.ar,Ev.au,Ev.bw,Ev.bx,Ev.aU,Ev.av,Ev.aw,Ev.aa,Ev.af,Ev.ay,Ev.aV,Ev.bz,Ev.bA,Ev.aW,Ev.bB,Ev.bC,Ev.aX,Ev.aY,Ev.aZ,Ev.a8,Ev.bD,Ev.bE,Ev.az,Ev.aA,Ev.a9,Ev.ba,Ev.aB,Ev.bb,Ev.bc,Ev.bH,Ev.bM,lw,e1,ld,e2,e3,mL,er,ers]
theorem tq (n:Nat){L:List Sw}(h:Good L)(ht:eF L≠[]):∃ r,ag T (n+2) 33 [.lst false (L.map wD)]=.error (.exc ⟨"Ringed","ring",r⟩)/\Rg L r:=by
 obtain⟨x2,x3,e1⟩:=iQ (n+1) h
 obtain⟨o,e2⟩:=mK n h
 obtain⟨r,e4,hr⟩:=tf n h (xn h) xq (xr h) ht
 refine⟨r,?_,hr⟩
 unfold dcN at e2 e4
 have e3:=ne_nil (o:=o) (o':=true) (eF L)
 rw[decide_eq_false ht] at e3
 have lw:=fE L
 have ld:=lA L
 have es:=fG (eF L)
 have e5:=A9 "Ringed" "ring" r
 unfold tDc gN at e1
 rw[gx 33 d33 1 5 b33 rfl rfl rfl rfl rfl rfl];unfold b33
 simp(disch:=omega) only[ev0,Nat.reduceBEq,Nat.reduceSub,Nat.reduceAdd,reduceIte,Ev.rs0,Ev.rss,Ev.bF,Ev.bG,↓Ev.fzI,↓Ev.fzS,↓Ev.fzN,Ev.rfn,Ev.rct,Ev.rcn,cond_true,cond_false,List.map_cons,List.map_nil,List.cons_append,List.nil_append,Bool.true_or,Bool.false_or,Ev.bT,Ev.bU,Ev.bV,Ev.bW,Ev.bX,Ev.ers_n,Ev.bI,Ev.bY,Ev.bZ,Ev.bf,Ev.aC,Ev.bK,Ev.bL,Ev.bg,Ev.bh,Ev.bJ,Ev.bj,↓Ev.ti1,↓Ev.ti2,↓Ev.ti3,↓Ev.ti4,↓Ev.ti5,↓Ev.ti6,↓Ev.ti7,↓Ev.ti8,Ev.aF,Ev.bp,Ev.ah,Ev.aG,Ev.aH,Ev.aI,Ev.bq,Ev.ai,Ev.aJ,Ev.aK,Ev.br,Ev.aj,Ev.aL,Ev.aM,Ev.aO,Ev.aP,Ev.aQ,Ev.bt,Ev.ak,Ev.aR,Ev.ao,Ev.bu,Ev.aq,Ev.aT,Ev.ar,Ev.au,Ev.bw,Ev.bx,Ev.aU,Ev.av,Ev.aw,Ev.aa,Ev.af,Ev.ay,Ev.aV,Ev.bz,Ev.bA,Ev.aW,Ev.bB,Ev.bC,Ev.aX,Ev.aY,Ev.aZ,Ev.a8,Ev.bD,Ev.bE,Ev.az,Ev.aA,Ev.a9,Ev.ba,Ev.aB,Ev.bb,Ev.bc,Ev.bH,Ev.bM,lw,e1,ld,e2,e3,mL,er,ers,es,e4,e5]
theorem Av {g:D->Res (Option D)}:cy g []=.ok []:=rfl
noncomputable def hD (L:List Sw):D:=.tup [.lst false [],.lst false [],.lst false (L.map wD)]
theorem rf (n:Nat)(L:List Sw):cy (cR (ag T n) (.tp [(.nm 0),(.nm 1)]) [] (.v 0) [none,none]) (L.map wD)=.ok ((nms L).map .str):=by
 refine Ev.c7 wD (fun p=>p.1) .str L fun q _=>?_
 unfold wD
 simp(disch:=omega) only[ev0,Nat.reduceBEq,Nat.reduceSub,Nat.reduceAdd,reduceIte,Ev.rs0,Ev.rss,Ev.bF,Ev.bG,↓Ev.fzI,↓Ev.fzS,↓Ev.fzN,Ev.rfn,Ev.rct,Ev.rcn,cond_true,cond_false,List.map_cons,List.map_nil,List.cons_append,List.nil_append,Bool.true_or,Bool.false_or,Ev.bT,Ev.bU,Ev.bV,Ev.bW,Ev.bX,Ev.ers_n,Ev.bI,Ev.bY,Ev.bZ,Ev.bf,Ev.aC,Ev.bK,Ev.bL,Ev.bg,Ev.bh,Ev.bJ,Ev.bj,↓Ev.ti1,↓Ev.ti2,↓Ev.ti3,↓Ev.ti4,↓Ev.ti5,↓Ev.ti6,↓Ev.ti7,↓Ev.ti8,Ev.aF,Ev.bp,Ev.ah,Ev.aG,Ev.aH,Ev.aI,Ev.bq,Ev.ai,Ev.aJ,Ev.aK,Ev.br,Ev.aj,Ev.aL,Ev.aM,Ev.aO,Ev.aP,Ev.aQ,Ev.bt,Ev.ak,Ev.aR,Ev.ao,Ev.bu,Ev.aq,Ev.aT,Ev.ar,Ev.au,Ev.bw,Ev.bx,Ev.aU,Ev.av,Ev.aw,Ev.aa,Ev.af,Ev.ay,Ev.aV,Ev.bz,Ev.bA,Ev.aW,Ev.bB,Ev.bC,Ev.aX,Ev.aY,Ev.aZ,Ev.a8,Ev.bD,Ev.bE,Ev.az,Ev.aA,Ev.a9,Ev.ba,Ev.aB,Ev.bb,Ev.bc,Ev.bH,Ev.bM]
theorem uT {L:List Sw}(h:Good L):(L.map wD).length < 16777216:=by
 rw[List.length_map]
 have:=h.len
 omega
theorem tu (n:Nat){L:List Sw}(h:Good L)(ht:eF L=[]):ag T (n+5) 34 [hD L]=.ok (.bl true):=by
 have e1:=rf (n+4) L
 have e2:=iP (n+3)
 have e3:=kq (n+3) (.lst false ((nms L).map .str))
 have e4:=qU n h (gn:=.lst false []) rfl
 have e5:=ti (n+2) h ht
 have l1:=uT h
 have lw:=fE L
 have ln:=fG (nms L)
 unfold hD
 rw[gx 34 d34 1 2 b34 rfl rfl rfl rfl rfl rfl];unfold b34
 simp(disch:=omega) only[ev0,Nat.reduceBEq,Nat.reduceSub,Nat.reduceAdd,reduceIte,Ev.rs0,Ev.rss,Ev.bF,Ev.bG,↓Ev.fzI,↓Ev.fzS,↓Ev.fzN,Ev.rfn,Ev.rct,Ev.rcn,cond_true,cond_false,List.map_cons,List.map_nil,List.cons_append,List.nil_append,Bool.true_or,Bool.false_or,Ev.bT,Ev.bU,Ev.bV,Ev.bW,Ev.bX,Ev.ers_n,Ev.bI,Ev.bY,Ev.bZ,Ev.bf,Ev.aC,Ev.bK,Ev.bL,Ev.bg,Ev.bh,Ev.bJ,Ev.bj,↓Ev.ti1,↓Ev.ti2,↓Ev.ti3,↓Ev.ti4,↓Ev.ti5,↓Ev.ti6,↓Ev.ti7,↓Ev.ti8,Ev.aF,Ev.bp,Ev.ah,Ev.aG,Ev.aH,Ev.aI,Ev.bq,Ev.ai,Ev.aJ,Ev.aK,Ev.br,Ev.aj,Ev.aL,Ev.aM,Ev.aO,Ev.aP,Ev.aQ,Ev.bt,Ev.ak,Ev.aR,Ev.ao,Ev.bu,Ev.aq,Ev.aT,Ev.ar,Ev.au,Ev.bw,Ev.bx,Ev.aU,Ev.av,Ev.aw,Ev.aa,Ev.af,Ev.ay,Ev.aV,Ev.bz,Ev.bA,Ev.aW,Ev.bB,Ev.bC,Ev.aX,Ev.aY,Ev.aZ,Ev.a8,Ev.bD,Ev.bE,Ev.az,Ev.aA,Ev.a9,Ev.ba,Ev.aB,Ev.bb,Ev.bc,Ev.bH,Ev.bM,at0,at1,at2,l1,e1,e2,e3,ln,lw,Av,e4,e5]
theorem tw (n:Nat){L:List Sw}(h:Good L)(ht:eF L≠[]):∃ r,ag T (n+5) 34 [hD L]=.error (.exc ⟨"Ringed","ring",r⟩)/\Rg L r:=by
 have e1:=rf (n+4) L
 have e2:=iP (n+3)
 have e3:=kq (n+3) (.lst false ((nms L).map .str))
 have e4:=qU n h (gn:=.lst false []) rfl
 obtain⟨r,e5,hr⟩:=tq (n+2) h ht
 refine⟨r,?_,hr⟩
 have l1:=uT h
 have lw:=fE L
 have ln:=fG (nms L)
 unfold hD
 rw[gx 34 d34 1 2 b34 rfl rfl rfl rfl rfl rfl];unfold b34
 simp(disch:=omega) only[ev0,Nat.reduceBEq,Nat.reduceSub,Nat.reduceAdd,reduceIte,Ev.rs0,Ev.rss,Ev.bF,Ev.bG,↓Ev.fzI,↓Ev.fzS,↓Ev.fzN,Ev.rfn,Ev.rct,Ev.rcn,cond_true,cond_false,List.map_cons,List.map_nil,List.cons_append,List.nil_append,Bool.true_or,Bool.false_or,Ev.bT,Ev.bU,Ev.bV,Ev.bW,Ev.bX,Ev.ers_n,Ev.bI,Ev.bY,Ev.bZ,Ev.bf,Ev.aC,Ev.bK,Ev.bL,Ev.bg,Ev.bh,Ev.bJ,Ev.bj,↓Ev.ti1,↓Ev.ti2,↓Ev.ti3,↓Ev.ti4,↓Ev.ti5,↓Ev.ti6,↓Ev.ti7,↓Ev.ti8,Ev.aF,Ev.bp,Ev.ah,Ev.aG,Ev.aH,Ev.aI,Ev.bq,Ev.ai,Ev.aJ,Ev.aK,Ev.br,Ev.aj,Ev.aL,Ev.aM,Ev.aO,Ev.aP,Ev.aQ,Ev.bt,Ev.ak,Ev.aR,Ev.ao,Ev.bu,Ev.aq,Ev.aT,Ev.ar,Ev.au,Ev.bw,Ev.bx,Ev.aU,Ev.av,Ev.aw,Ev.aa,Ev.af,Ev.ay,Ev.aV,Ev.bz,Ev.bA,Ev.aW,Ev.bB,Ev.bC,Ev.aX,Ev.aY,Ev.aZ,Ev.a8,Ev.bD,Ev.bE,Ev.az,Ev.aA,Ev.a9,Ev.ba,Ev.aB,Ev.bb,Ev.bc,Ev.bH,Ev.bM,at0,at1,at2,l1,e1,e2,e3,ln,lw,Av,e4,e5]
theorem jv:∀ {L:List Sw},(nms L).Nodup->∀ {q:Sw},q∈L->dE L q.1=q.2.map (·.1)
 | p::L,nd,q,h=>by
  unfold dE
  obtain⟨n1,n2⟩:=List.nodup_cons.mp (show (p.1::nms L).Nodup from nd)
  rcases List.mem_cons.mp h with rfl|h
  ·rw[if_pos rfl]
  ·rw[if_neg (fun z:p.1=q.1=>n1 (by rw[z];exact List.mem_map.mpr ⟨q,h,rfl⟩))]
   exact jv n2 h
noncomputable def mfp (S:List Str)(q:Sw):Bool:=(q.2.map (·.1)).any fun y=>decide (y∈S)
noncomputable def mf (M:List Sw):List Sw:=M.filter (mfp (nms M))
theorem eS {α β:Type}(f:α->β)(p:α->Bool)(p':β->Bool):∀ M:List α,(∀ q∈M,p q=p' (f q))->(M.filter p).map f=(M.map f).filter p'
 | [],_=>rfl
 | q::M,h=>by
  have ih:=eS f p p' M fun x hx=>h x (.tail _ hx)
  rw[List.map_cons,List.filter_cons,List.filter_cons,<- h q (.head _)]
  cases p q with
  | true=>
   show f q::(M.filter p).map f=f q::(M.map f).filter p'
   rw[ih]
  | false=>exact ih
theorem xu {L M:List Sw}(h:Good L)(hM:∀ q∈M,q∈L):nms (mf M)=sf L (nms M):=by
 refine eS (fun q:Sw=>q.1) _ _ M fun q hq=>?_
 unfold mfp sfp
 rw[jv h.nd (hM q hq)]
theorem kC {L:List Sw}:∀ (k:Nat) (S:List Str),itr L (k+1) S=sf L (itr L k S)
 | 0,S=>rfl
 | k+1,S=>kC k (sf L S)
noncomputable def gA:Gm:={N:=["_law_name","_law_entry"],kd:=[.local,.local],gl:=[],df:=false}
noncomputable def gB:Gm:={N:=["_law_names","_law_name","_law_entry"],kd:=[.cell,.local,.local],gl:=[10],df:=false}
noncomputable def gC:Gm:={N:=["_law_names","_law_other","_law_face"],kd:=[.cell,.local,.local],gl:=[],df:=false}
noncomputable def cC:IR:=.comp gC [0] (.tp [(.nm 1),(.nm 2)]) (.val (.idx (.v 2) (.c (.int 1)))) [] (.cmp .in_ (.v 1) (.v 0))
noncomputable def cB:IR:=.comp gB [3] (.tp [(.nm 1),(.nm 2)]) (.val (.v 1)) [(.bi .any [cC])] (.tup [(.v 1),(.v 2)])
noncomputable def tRg:List IS:=[(.asg (.nm 3) (.comp gA [] (.tp [(.nm 0),(.nm 1)]) (.val (.v 1)) [] (.v 0))),(.asg (.nm 1) cB)]
theorem Ba (n:Nat)(o:Bool)(S:List Str)(ps:Ps):cy (cR (ag T n) (.tp [(.nm 1),(.nm 2)]) [] (.cmp .in_ (.v 1) (.v 0)) [some (.lst o (S.map .str)),none,none]) (ps.map pD)=.ok ((ps.map fun p=>decide (p.1∈S)).map .bl):=by
 refine Ev.c7 pD (fun p=>decide (p.1∈S)) .bl ps fun p _=>?_
 have e:=qS o p.1 S
 unfold pD
 simp(disch:=omega) only[ev0,Nat.reduceBEq,Nat.reduceSub,Nat.reduceAdd,reduceIte,Ev.rs0,Ev.rss,Ev.bF,Ev.bG,↓Ev.fzI,↓Ev.fzS,↓Ev.fzN,Ev.rfn,Ev.rct,Ev.rcn,cond_true,cond_false,List.map_cons,List.map_nil,List.cons_append,List.nil_append,Bool.true_or,Bool.false_or,Ev.bT,Ev.bU,Ev.bV,Ev.bW,Ev.bX,Ev.ers_n,Ev.bI,Ev.bY,Ev.bZ,Ev.bf,Ev.aC,Ev.bK,Ev.bL,Ev.bg,Ev.bh,Ev.bJ,Ev.bj,↓Ev.ti1,↓Ev.ti2,↓Ev.ti3,↓Ev.ti4,↓Ev.ti5,↓Ev.ti6,↓Ev.ti7,↓Ev.ti8,Ev.aF,Ev.bp,Ev.ah,Ev.aG,Ev.aH,Ev.aI,Ev.bq,Ev.ai,Ev.aJ,Ev.aK,Ev.br,Ev.aj,Ev.aL,Ev.aM,Ev.aO,Ev.aP,Ev.aQ,Ev.bt,Ev.ak,Ev.aR,Ev.ao,Ev.bu,Ev.aq,Ev.aT,Ev.ar,Ev.au,Ev.bw,Ev.bx,Ev.aU,Ev.av,Ev.aw,Ev.aa,Ev.af,Ev.ay,Ev.aV,Ev.bz,Ev.bA,Ev.aW,Ev.bB,Ev.bC,Ev.aX,Ev.aY,Ev.aZ,Ev.a8,Ev.bD,Ev.bE,Ev.az,Ev.aA,Ev.a9,Ev.ba,Ev.aB,Ev.bb,Ev.bc,Ev.bH,Ev.bM,e]
theorem Bb (n:Nat)(o:Bool){M:List Sw}(hM:∀ q∈M,q.2.length<=3)(S:List Str):cy (cR (ag T n) (.tp [(.nm 1),(.nm 2)]) [(.bi .any [cC])] (.tup [(.v 1),(.v 2)]) [some (.lst o (S.map .str)),none,none]) (M.map wD)=.ok ((M.filter (mfp S)).map wD):=by
 refine ju wD (mfp S) wD M fun q hq=>?_
 have i1:=mF q.2
 have e:=Ba n o S q.2
 have l1:(q.2.map pD).length < 16777216:=by rw[List.length_map];have:=hM q hq;omega
 have hw:wD q=.tup [.str q.1,eD q.2]:=rfl
 have ea:(q.2.map fun p=>decide (p.1∈S)).any id=mfp S q:=by unfold mfp;rw[List.any_map,List.any_map];rfl
 unfold cC gC
 cases hp:mfp S q<;>rw[hp] at ea<;>simp(disch:=omega) only[ev0,Nat.reduceBEq,Nat.reduceSub,Nat.reduceAdd,reduceIte,Ev.rs0,Ev.rss,Ev.bF,Ev.bG,↓Ev.fzI,↓Ev.fzS,↓Ev.fzN,Ev.rfn,Ev.rct,Ev.rcn,cond_true,cond_false,List.map_cons,List.map_nil,List.cons_append,List.nil_append,Bool.true_or,Bool.false_or,Ev.bT,Ev.bU,Ev.bV,Ev.bW,Ev.bX,Ev.ers_n,Ev.bI,Ev.bY,Ev.bZ,Ev.bf,Ev.aC,Ev.bK,Ev.bL,Ev.bg,Ev.bh,Ev.bJ,Ev.bj,↓Ev.ti1,↓Ev.ti2,↓Ev.ti3,↓Ev.ti4,↓Ev.ti5,↓Ev.ti6,↓Ev.ti7,↓Ev.ti8,Ev.aF,Ev.bp,Ev.ah,Ev.aG,Ev.aH,Ev.aI,Ev.bq,Ev.ai,Ev.aJ,Ev.aK,Ev.br,Ev.aj,Ev.aL,Ev.aM,Ev.aO,Ev.aP,Ev.aQ,Ev.bt,Ev.ak,Ev.aR,Ev.ao,Ev.bu,Ev.aq,Ev.aT,Ev.ar,Ev.au,Ev.bw,Ev.bx,Ev.aU,Ev.av,Ev.aw,Ev.aa,Ev.af,Ev.ay,Ev.aV,Ev.bz,Ev.bA,Ev.aW,Ev.bB,Ev.bC,Ev.aX,Ev.aY,Ev.aZ,Ev.a8,Ev.bD,Ev.bE,Ev.az,Ev.aA,Ev.a9,Ev.ba,Ev.aB,Ev.bb,Ev.bc,Ev.bH,Ev.bM,hw,i1,l1,e,ea]
theorem Bc {o o':Bool}(M:List Sw):opC .ne (.lst o (M.map wD)) (.lst o' [])=.ok (!decide (M=[])):=by cases M<;>rfl
theorem tx (n:Nat){L M:List Sw}(h:Good L)(hM:∀ q∈M,q∈L)(hl:M.length<=20)(A:D)(o:Bool)(x2 x3:Option D):∃ x3',cb (ag T n) tRg [some A,some (.lst o (M.map wD)),x2,x3]=.ok (.nx [some A,some (.lst true ((mf M).map wD)),x2,x3']):=by
 have e1:=rf n M
 have e2:=Bb n true (fun q hq=>h.few q (hM q hq)) (nms M)
 have l1:(M.map wD).length < 16777216:=by rw[List.length_map];omega
 have lw:=fE (mf M)
 have vr:vars cB=[3,1]:=rfl
 have lm:bR ((mf M).map wD)=true∨bR ((mf M).map wD)=false:=by cases bR ((mf M).map wD)<;>simp
 have em:M.filter (mfp (nms M))=mf M:=rfl
 rw[em] at e2
 unfold tRg gA
 rcases lm with lm|lm
 ·refine⟨some (.lst true ((nms M).map .str)),?_⟩
  unfold cB gB at vr ⊢
  simp(disch:=omega) only[ev0,Nat.reduceBEq,Nat.reduceSub,Nat.reduceAdd,reduceIte,Ev.rs0,Ev.rss,Ev.bF,Ev.bG,↓Ev.fzI,↓Ev.fzS,↓Ev.fzN,Ev.rfn,Ev.rct,Ev.rcn,cond_true,cond_false,List.map_cons,List.map_nil,List.cons_append,List.nil_append,Bool.true_or,Bool.false_or,Ev.bT,Ev.bU,Ev.bV,Ev.bW,Ev.bX,Ev.ers_n,Ev.bI,Ev.bY,Ev.bZ,Ev.bf,Ev.aC,Ev.bK,Ev.bL,Ev.bg,Ev.bh,Ev.bJ,Ev.bj,↓Ev.ti1,↓Ev.ti2,↓Ev.ti3,↓Ev.ti4,↓Ev.ti5,↓Ev.ti6,↓Ev.ti7,↓Ev.ti8,Ev.aF,Ev.bp,Ev.ah,Ev.aG,Ev.aH,Ev.aI,Ev.bq,Ev.ai,Ev.aJ,Ev.aK,Ev.br,Ev.aj,Ev.aL,Ev.aM,Ev.aO,Ev.aP,Ev.aQ,Ev.bt,Ev.ak,Ev.aR,Ev.ao,Ev.bu,Ev.aq,Ev.aT,Ev.ar,Ev.au,Ev.bw,Ev.bx,Ev.aU,Ev.av,Ev.aw,Ev.aa,Ev.af,Ev.ay,Ev.aV,Ev.bz,Ev.bA,Ev.aW,Ev.bB,Ev.bC,Ev.aX,Ev.aY,Ev.aZ,Ev.a8,Ev.bD,Ev.bE,Ev.az,Ev.aA,Ev.a9,Ev.ba,Ev.aB,Ev.bb,Ev.bc,Ev.bH,Ev.bM,l1,e1,e2,lm,vr]
 ·refine⟨some (.lst false ((nms M).map .str)),?_⟩
  have ls:=fG (nms M)
  have eA:er A=er A:=rfl
  unfold cB gB at vr ⊢
  simp(disch:=omega) only[ev0,Nat.reduceBEq,Nat.reduceSub,Nat.reduceAdd,reduceIte,Ev.rs0,Ev.rss,Ev.bF,Ev.bG,↓Ev.fzI,↓Ev.fzS,↓Ev.fzN,Ev.rfn,Ev.rct,Ev.rcn,cond_true,cond_false,List.map_cons,List.map_nil,List.cons_append,List.nil_append,Bool.true_or,Bool.false_or,Ev.bT,Ev.bU,Ev.bV,Ev.bW,Ev.bX,Ev.ers_n,Ev.bI,Ev.bY,Ev.bZ,Ev.bf,Ev.aC,Ev.bK,Ev.bL,Ev.bg,Ev.bh,Ev.bJ,Ev.bj,↓Ev.ti1,↓Ev.ti2,↓Ev.ti3,↓Ev.ti4,↓Ev.ti5,↓Ev.ti6,↓Ev.ti7,↓Ev.ti8,Ev.aF,Ev.bp,Ev.ah,Ev.aG,Ev.aH,Ev.aI,Ev.bq,Ev.ai,Ev.aJ,Ev.aK,Ev.br,Ev.aj,Ev.aL,Ev.aM,Ev.aO,Ev.aP,Ev.aQ,Ev.bt,Ev.ak,Ev.aR,Ev.ao,Ev.bu,Ev.aq,Ev.aT,Ev.ar,Ev.au,Ev.bw,Ev.bx,Ev.aU,Ev.av,Ev.aw,Ev.aa,Ev.af,Ev.ay,Ev.aV,Ev.bz,Ev.bA,Ev.aW,Ev.bB,Ev.bC,Ev.aX,Ev.aY,Ev.aZ,Ev.a8,Ev.bD,Ev.bE,Ev.az,Ev.aA,Ev.a9,Ev.ba,Ev.aB,Ev.bb,Ev.bc,Ev.bH,Ev.bM,l1,e1,e2,lm,vr,lw,ls]
theorem g9 {i:Nat}{r:Int}{x:D}(h:(dy 0 r)[i]? = some x):x=.int (i:Nat)/\i < r.toNat:=by
 have hi:i < r.toNat:=by
  have:=(List.getElem?_eq_some_iff.mp h).1
  rw[dv] at this
  omega
 unfold dy at h
 rw[List.getElem?_map,List.getElem?_range (by omega)] at h
 have h':D.int (0+(i:Nat))=x:=Option.some.inj h
 exact⟨by rw[<- h',Int.zero_add],hi⟩
theorem xw {M:List Sw}{q:Sw}(h:q∈mf M):q∈M:=(List.mem_filter.mp h).1
theorem xx (M:List Sw):(mf M).length<=M.length:=List.length_filter_le _ _
theorem nS (n:Nat){L:List Sw}(h:Good L):ag T (n+1) 41 [.lst false (L.map wD)]=.ok (.bl (!decide (eF L=[]))):=by
 have hl:=h.len
 obtain⟨τ',e,o,M,x2,x3,rfl,hM,hml,hn⟩:=Ev.dB (body:=Ev.turn (ag T n) (.nm 2) tRg) (its:=dy 0 (L.length:Nat)) (τ:=[some (.lst false (L.map wD)),some (.lst true (L.map wD)),none,none])
  (fun i τ=>∃ o M x2 x3,τ=[some (.lst false (L.map wD)),some (.lst o (M.map wD)),x2,x3]/\(∀ q∈M,q∈L)/\M.length<=20/\nms M=itr L i (nms L)) ⟨true,L,none,none,rfl,fun q hq=>hq,hl,rfl⟩ (by
   rintro i x τ hx ⟨o,M,z2,z3,rfl,hM,hml,hn⟩
   obtain⟨rfl,hi⟩:=g9 hx
   obtain⟨x3',e⟩:=tx n h hM hml (.lst false (L.map wD)) o (some (.int (i:Nat))) z3
   refine⟨_,?_,true,mf M,some (.int (i:Nat)),x3',rfl,fun q hq=>hM q (xw hq),Nat.le_trans (xx M) hml,by rw[xu h hM,hn,kC]⟩
   simp(disch:=omega) only[ev0,Nat.reduceBEq,Nat.reduceSub,Nat.reduceAdd,reduceIte,Ev.rs0,Ev.rss,Ev.bF,Ev.bG,↓Ev.fzI,↓Ev.fzS,↓Ev.fzN,Ev.rfn,Ev.rct,Ev.rcn,cond_true,cond_false,List.map_cons,List.map_nil,List.cons_append,List.nil_append,Bool.true_or,Bool.false_or,Ev.bT,Ev.bU,Ev.bV,Ev.bW,Ev.bX,Ev.ers_n,Ev.bI,Ev.bY,Ev.bZ,Ev.bf,Ev.aC,Ev.bK,Ev.bL,Ev.bg,Ev.bh,Ev.bJ,Ev.bj,↓Ev.ti1,↓Ev.ti2,↓Ev.ti3,↓Ev.ti4,↓Ev.ti5,↓Ev.ti6,↓Ev.ti7,↓Ev.ti8,Ev.aF,Ev.bp,Ev.ah,Ev.aG,Ev.aH,Ev.aI,Ev.bq,Ev.ai,Ev.aJ,Ev.aK,Ev.br,Ev.aj,Ev.aL,Ev.aM,Ev.aO,Ev.aP,Ev.aQ,Ev.bt,Ev.ak,Ev.aR,Ev.ao,Ev.bu,Ev.aq,Ev.aT,Ev.ar,Ev.au,Ev.bw,Ev.bx,Ev.aU,Ev.av,Ev.aw,Ev.aa,Ev.af,Ev.ay,Ev.aV,Ev.bz,Ev.bA,Ev.aW,Ev.bB,Ev.bC,Ev.aX,Ev.aY,Ev.aZ,Ev.a8,Ev.bD,Ev.bE,Ev.az,Ev.aA,Ev.a9,Ev.ba,Ev.aB,Ev.bb,Ev.bc,Ev.bH,Ev.bM,Ev.cP,e])
 rw[dv] at hn
 have hlen:((L.length:Nat):Int).toNat=L.length:=rfl
 have ht:nms M=eF L:=by
  rw[hn]
  exact mG (by rw[fF];exact hl) (by rw[fF];omega)
 have hM0:decide (M=[])=decide (eF L=[]):=by
  rw[<- ht]
  cases M with
  | nil=>rfl
  | cons q M=>rfl
 have e2:=Bc (o:=o) (o':=true) M
 rw[hM0] at e2
 have lw:=fE L
 have ll:(L.map wD).length=L.length:=List.length_map _
 have vr:vars (.bi .list [(.v 0)])=[0]:=rfl
 unfold tRg cB gA gB cC gC at e
 rw[gx 41 d41 1 4 b41 rfl rfl rfl rfl rfl rfl];unfold b41
 cases lf:bR (L.map wD)<;>simp(disch:=omega) only[ev0,Nat.reduceBEq,Nat.reduceSub,Nat.reduceAdd,reduceIte,Ev.rs0,Ev.rss,Ev.bF,Ev.bG,↓Ev.fzI,↓Ev.fzS,↓Ev.fzN,Ev.rfn,Ev.rct,Ev.rcn,cond_true,cond_false,List.map_cons,List.map_nil,List.cons_append,List.nil_append,Bool.true_or,Bool.false_or,Ev.bT,Ev.bU,Ev.bV,Ev.bW,Ev.bX,Ev.ers_n,Ev.bI,Ev.bY,Ev.bZ,Ev.bf,Ev.aC,Ev.bK,Ev.bL,Ev.bg,Ev.bh,Ev.bJ,Ev.bj,↓Ev.ti1,↓Ev.ti2,↓Ev.ti3,↓Ev.ti4,↓Ev.ti5,↓Ev.ti6,↓Ev.ti7,↓Ev.ti8,Ev.aF,Ev.bp,Ev.ah,Ev.aG,Ev.aH,Ev.aI,Ev.bq,Ev.ai,Ev.aJ,Ev.aK,Ev.br,Ev.aj,Ev.aL,Ev.aM,Ev.aO,Ev.aP,Ev.aQ,Ev.bt,Ev.ak,Ev.aR,Ev.ao,Ev.bu,Ev.aq,Ev.aT,Ev.ar,Ev.au,Ev.bw,Ev.bx,Ev.aU,Ev.av,Ev.aw,Ev.aa,Ev.af,Ev.ay,Ev.aV,Ev.bz,Ev.bA,Ev.aW,Ev.bB,Ev.bC,Ev.aX,Ev.aY,Ev.aZ,Ev.a8,Ev.bD,Ev.bE,Ev.az,Ev.aA,Ev.a9,Ev.ba,Ev.aB,Ev.bb,Ev.bc,Ev.bH,Ev.bM,lf,lw,ll,e,e2]
theorem kD:∀ (l σ:List Str),(σ++l).Nodup->l.foldl Sx.dd σ=σ++l
 | [],σ,_=>by rw[List.append_nil];rfl
 | v::l,σ,h=>by
  have hv:¬ (σ.any (· == v)=true):=fun z=>by
   obtain⟨u,hu,e⟩:=List.any_eq_true.mp z
   have e:u=v:=eq_of_beq e
   exact(List.nodup_append.mp h).2.2 u hu v (.head _) e
  rw[List.foldl_cons]
  have:Sx.dd σ v=σ++[v]:=by unfold Sx.dd;rw[if_neg hv]
  rw[this,kD l (σ++[v]) (by rw[List.append_assoc];exact h),List.append_assoc]
  rfl
theorem tB {r:List Str}(nd:r.Nodup)(hl:r.length<=20):lL (.tup (r.map .str))=.ok (.int (r.length:Nat)):=by
 show (match cJ (r.map D.str) with|some ns=>grd (decide (ns.length < 1000)) (.ok (.int ((ns.foldl Sx.dd []).length:Nat)))|none=>stk:Res D)=_
 rw[Ev.gX]
 show grd (decide (r.length < 1000)) _=_
 rw[decide_eq_true (by omega),kD r [] nd]
 rfl
theorem uU {r:List Str}{i:Nat}{u:Str}(h:r[i]? = some u){z:Int}(hz:z=(i:Nat)):cX (.tup (r.map .str)) (.int z)=.ok (.str u):=by
 subst hz
 have hi:i < r.length:=(List.getElem?_eq_some_iff.mp h).1
 rw[Ev.x_t,Ev.gh,Ev.eE (d:=u) (by omega) (by omega)]
 show (match (some (D.str (r.getD i u)):Option D) with|some d=>.ok d|none=>stk:Res D)=_
 rw[List.getD_eq_getElem?_getD,h]
 rfl
noncomputable def gE:Gm:={N:=["_law_other","_law_face"],kd:=[.local,.local],gl:=[],df:=false}
noncomputable def nT:List IS:=[(.if_ (.cmp .eq (.v 5) (.idx (.v 1) (.v 2))) [(.asg (.nm 4) (.cmp .in_ (.v 3) (.comp gE [] (.tp [(.nm 0),(.nm 1)]) (.val (.idx (.v 6) (.c (.int 1)))) [] (.v 0))))] [])]
theorem Bd (x y:Str):opC .eq (.str x) (.str y)=.ok (decide (x=y)):=by
 show (Except.ok (x == y):Res Bool)=_
 congr 1
theorem lC (n:Nat){L:List Sw}(h:Good L){r:List Str}{i:Nat}{u v:Str}(hu:r[i]? = some u)(hv:v∈dE L u)(hm:u∈nms L)(A x5 x6:Option D) :
  ∃ y5 y6,forM (Ev.turn (ag T n) (.tp [(.nm 5),(.nm 6)]) nT) (L.map wD) [A,some (.tup (r.map .str)),some (.int (i:Nat)),some (.str v),some (.bl false),x5,x6]=.ok (.nx [A,some (.tup (r.map .str)),some (.int (i:Nat)),some (.str v),some (.bl true),y5,y6]):=by
 obtain⟨τ',e,y5,y6,rfl⟩:=Ev.dB (body:=Ev.turn (ag T n) (.tp [(.nm 5),(.nm 6)]) nT) (its:=L.map wD) (τ:=[A,some (.tup (r.map .str)),some (.int (i:Nat)),some (.str v),some (.bl false),x5,x6])
  (fun j τ=>∃ y5 y6,τ=[A,some (.tup (r.map .str)),some (.int (i:Nat)),some (.str v),some (.bl (decide (u∈nms (L.take j)))),y5,y6]) ⟨x5,x6,rfl⟩ (by
   rintro j x τ hx ⟨z5,z6,rfl⟩
   rw[List.getElem?_map] at hx
   obtain⟨q,hq,rfl⟩:=Option.map_eq_some_iff.mp hx
   have hqL:=List.mem_of_getElem? hq
   have htk:nms (L.take (j+1))=nms (L.take j)++[q.1]:=by unfold nms;rw[List.take_succ,hq,List.map_append];rfl
   have ix:=uU hu (z:=(i:Nat)) rfl
   have e1:=Bd q.1 u
   have hw:wD q=.tup [.str q.1,eD q.2]:=rfl
   by_cases z:q.1=u
   ·rw[decide_eq_true z] at e1
    have hin:v∈q.2.map (·.1):=by rw[<- jv h.nd hqL,z];exact hv
    have e2:=qS true v (q.2.map (·.1))
    rw[decide_eq_true hin] at e2
    have i1:=mF q.2
    have e3:=uS n q.2
    have l1:(q.2.map pD).length < 16777216:=by rw[List.length_map];have:=h.few q hqL;omega
    have hd:decide (u∈nms (L.take (j+1)))=true:=decide_eq_true (by rw[htk,<- z];simp)
    refine⟨_,?_,some (.str q.1),some (eD q.2),by rw[hd]⟩
    unfold nT gE
    simp(disch:=omega) only[ev0,Nat.reduceBEq,Nat.reduceSub,Nat.reduceAdd,reduceIte,Ev.rs0,Ev.rss,Ev.bF,Ev.bG,↓Ev.fzI,↓Ev.fzS,↓Ev.fzN,Ev.rfn,Ev.rct,Ev.rcn,cond_true,cond_false,List.map_cons,List.map_nil,List.cons_append,List.nil_append,Bool.true_or,Bool.false_or,Ev.bT,Ev.bU,Ev.bV,Ev.bW,Ev.bX,Ev.ers_n,Ev.bI,Ev.bY,Ev.bZ,Ev.bf,Ev.aC,Ev.bK,Ev.bL,Ev.bg,Ev.bh,Ev.bJ,Ev.bj,↓Ev.ti1,↓Ev.ti2,↓Ev.ti3,↓Ev.ti4,↓Ev.ti5,↓Ev.ti6,↓Ev.ti7,↓Ev.ti8,Ev.aF,Ev.bp,Ev.ah,Ev.aG,Ev.aH,Ev.aI,Ev.bq,Ev.ai,Ev.aJ,Ev.aK,Ev.br,Ev.aj,Ev.aL,Ev.aM,Ev.aO,Ev.aP,Ev.aQ,Ev.bt,Ev.ak,Ev.aR,Ev.ao,Ev.bu,Ev.aq,Ev.aT,Ev.ar,Ev.au,Ev.bw,Ev.bx,Ev.aU,Ev.av,Ev.aw,Ev.aa,Ev.af,Ev.ay,Ev.aV,Ev.bz,Ev.bA,Ev.aW,Ev.bB,Ev.bC,Ev.aX,Ev.aY,Ev.aZ,Ev.a8,Ev.bD,Ev.bE,Ev.az,Ev.aA,Ev.a9,Ev.ba,Ev.aB,Ev.bb,Ev.bc,Ev.bH,Ev.bM,Ev.cP,hw,ix,e1,i1,l1,e3,e2]
   ·rw[decide_eq_false z] at e1
    have hd:decide (u∈nms (L.take (j+1)))=decide (u∈nms (L.take j)):=by
     rw[htk]
     have:¬ u=q.1:=fun e=>z e.symm
     simp[this]
    refine⟨_,?_,some (.str q.1),some (eD q.2),by rw[hd]⟩
    unfold nT
    simp(disch:=omega) only[ev0,Nat.reduceBEq,Nat.reduceSub,Nat.reduceAdd,reduceIte,Ev.rs0,Ev.rss,Ev.bF,Ev.bG,↓Ev.fzI,↓Ev.fzS,↓Ev.fzN,Ev.rfn,Ev.rct,Ev.rcn,cond_true,cond_false,List.map_cons,List.map_nil,List.cons_append,List.nil_append,Bool.true_or,Bool.false_or,Ev.bT,Ev.bU,Ev.bV,Ev.bW,Ev.bX,Ev.ers_n,Ev.bI,Ev.bY,Ev.bZ,Ev.bf,Ev.aC,Ev.bK,Ev.bL,Ev.bg,Ev.bh,Ev.bJ,Ev.bj,↓Ev.ti1,↓Ev.ti2,↓Ev.ti3,↓Ev.ti4,↓Ev.ti5,↓Ev.ti6,↓Ev.ti7,↓Ev.ti8,Ev.aF,Ev.bp,Ev.ah,Ev.aG,Ev.aH,Ev.aI,Ev.bq,Ev.ai,Ev.aJ,Ev.aK,Ev.br,Ev.aj,Ev.aL,Ev.aM,Ev.aO,Ev.aP,Ev.aQ,Ev.bt,Ev.ak,Ev.aR,Ev.ao,Ev.bu,Ev.aq,Ev.aT,Ev.ar,Ev.au,Ev.bw,Ev.bx,Ev.aU,Ev.av,Ev.aw,Ev.aa,Ev.af,Ev.ay,Ev.aV,Ev.bz,Ev.bA,Ev.aW,Ev.bB,Ev.bC,Ev.aX,Ev.aY,Ev.aZ,Ev.a8,Ev.bD,Ev.bE,Ev.az,Ev.aA,Ev.a9,Ev.ba,Ev.aB,Ev.bb,Ev.bc,Ev.bH,Ev.bM,Ev.cP,hw,ix,e1])
 refine⟨y5,y6,?_⟩
 rw[e]
 have:L.take (L.map wD).length=L:=by rw[List.length_map];exact List.take_length
 rw[this,decide_eq_true hm]
noncomputable def tAt:List IS:=[(.asg (.nm 3) (.idx (.v 1) (.bin .mod (.bin .add (.v 2) (.c (.int 1))) (.bi .len [(.v 1)])))),(.asg (.nm 4) (.c (.bl false))),(.for_ (.tp [(.nm 5),(.nm 6)]) (.val (.v 0)) nT),(.if_ (.not_ (.v 4)) [(.ret (.c (.bl false)))] [])]
theorem xy (n:Nat)(r:List Str):cy (cR (ag T n) (.nm 0) [] (.isi (.v 0) .str) [none]) (r.map .str)=.ok ((r.map fun _=>true).map .bl):=by
 refine Ev.c7 (fun x:Str=>D.str x) (fun _=>true) .bl r fun x _=>?_
 simp(disch:=omega) only[ev0,Nat.reduceBEq,Nat.reduceSub,Nat.reduceAdd,reduceIte,Ev.rs0,Ev.rss,Ev.bF,Ev.bG,↓Ev.fzI,↓Ev.fzS,↓Ev.fzN,Ev.rfn,Ev.rct,Ev.rcn,cond_true,cond_false,List.map_cons,List.map_nil,List.cons_append,List.nil_append,Bool.true_or,Bool.false_or,Ev.bT,Ev.bU,Ev.bV,Ev.bW,Ev.bX,Ev.ers_n,Ev.bI,Ev.bY,Ev.bZ,Ev.bf,Ev.aC,Ev.bK,Ev.bL,Ev.bg,Ev.bh,Ev.bJ,Ev.bj,↓Ev.ti1,↓Ev.ti2,↓Ev.ti3,↓Ev.ti4,↓Ev.ti5,↓Ev.ti6,↓Ev.ti7,↓Ev.ti8,Ev.aF,Ev.bp,Ev.ah,Ev.aG,Ev.aH,Ev.aI,Ev.bq,Ev.ai,Ev.aJ,Ev.aK,Ev.br,Ev.aj,Ev.aL,Ev.aM,Ev.aO,Ev.aP,Ev.aQ,Ev.bt,Ev.ak,Ev.aR,Ev.ao,Ev.bu,Ev.aq,Ev.aT,Ev.ar,Ev.au,Ev.bw,Ev.bx,Ev.aU,Ev.av,Ev.aw,Ev.aa,Ev.af,Ev.ay,Ev.aV,Ev.bz,Ev.bA,Ev.aW,Ev.bB,Ev.bC,Ev.aX,Ev.aY,Ev.aZ,Ev.a8,Ev.bD,Ev.bE,Ev.az,Ev.aA,Ev.a9,Ev.ba,Ev.aB,Ev.bb,Ev.bc,Ev.bH,Ev.bM]
theorem tD (n:Nat){L:List Sw}(h:Good L){r:List Str}(g:Rg L r):ag T (n+1) 42 [.lst false (L.map wD),.tup (r.map .str)]=.ok (.bl true):=by
 have hl:=g.len
 have hp:0 < r.length:=List.length_pos_iff.mpr g.ne
 have lr:(r.map D.str).length=r.length:=List.length_map _
 obtain⟨τ',e,x2,x3,x4,x5,x6,rfl⟩:=Ev.dB (body:=Ev.turn (ag T n) (.nm 2) tAt) (its:=dy 0 (r.length:Nat)) (τ:=[some (.lst false (L.map wD)),some (.tup (r.map .str)),none,none,none,none,none])
  (fun _ τ=>∃ x2 x3 x4 x5 x6,τ=[some (.lst false (L.map wD)),some (.tup (r.map .str)),x2,x3,x4,x5,x6]) ⟨none,none,none,none,none,rfl⟩ (by
   rintro i x τ hx ⟨z2,z3,z4,z5,z6,rfl⟩
   obtain⟨rfl,hi⟩:=g9 hx
   have hi:i < r.length:=hi
   have hu:r[i]? = some r[i]:=List.getElem?_eq_getElem hi
   obtain⟨hm,v,h1,h2⟩:=g.nx i r[i] hu
   have ix:=uU h1 (z:=((i:Nat)+1:Int) % (r.length:Nat)) (by rw[Int.natCast_emod];rfl)
   obtain⟨y5,y6,e1⟩:=lC n h hu h2 hm (some (.lst false (L.map wD))) z5 z6
   have lw:=fE L
   refine⟨_,?_,some (.int (i:Nat)),some (.str v),some (.bl true),y5,y6,rfl⟩
   unfold tAt
   simp(disch:=omega) only[ev0,Nat.reduceBEq,Nat.reduceSub,Nat.reduceAdd,reduceIte,Ev.rs0,Ev.rss,Ev.bF,Ev.bG,↓Ev.fzI,↓Ev.fzS,↓Ev.fzN,Ev.rfn,Ev.rct,Ev.rcn,cond_true,cond_false,List.map_cons,List.map_nil,List.cons_append,List.nil_append,Bool.true_or,Bool.false_or,Ev.bT,Ev.bU,Ev.bV,Ev.bW,Ev.bX,Ev.ers_n,Ev.bI,Ev.bY,Ev.bZ,Ev.bf,Ev.aC,Ev.bK,Ev.bL,Ev.bg,Ev.bh,Ev.bJ,Ev.bj,↓Ev.ti1,↓Ev.ti2,↓Ev.ti3,↓Ev.ti4,↓Ev.ti5,↓Ev.ti6,↓Ev.ti7,↓Ev.ti8,Ev.aF,Ev.bp,Ev.ah,Ev.aG,Ev.aH,Ev.aI,Ev.bq,Ev.ai,Ev.aJ,Ev.aK,Ev.br,Ev.aj,Ev.aL,Ev.aM,Ev.aO,Ev.aP,Ev.aQ,Ev.bt,Ev.ak,Ev.aR,Ev.ao,Ev.bu,Ev.aq,Ev.aT,Ev.ar,Ev.au,Ev.bw,Ev.bx,Ev.aU,Ev.av,Ev.aw,Ev.aa,Ev.af,Ev.ay,Ev.aV,Ev.bz,Ev.bA,Ev.aW,Ev.bB,Ev.bC,Ev.aX,Ev.aY,Ev.aZ,Ev.a8,Ev.bD,Ev.bE,Ev.az,Ev.aA,Ev.a9,Ev.ba,Ev.aB,Ev.bb,Ev.bc,Ev.bH,Ev.bM,Ev.cP,lr,ix,lw,e1])
 have e2:=xy n r
 have ea:(r.map fun _=>true).all id=true:=by rw[List.all_map];simp
 have e3:=tB g.nd hl
 have d0:((r.length:Nat):Int)≠0:=by omega
 have e4:((((r.length:Nat):Int) == 0):Bool)=false:=by simpa using d0
 have l1:(r.map D.str).length < 16777216:=by rw[lr];omega
 unfold tAt nT gE at e
 rw[gx 42 d42 2 7 b42 rfl rfl rfl rfl rfl rfl];unfold b42
 simp(disch:=omega) only[ev0,Nat.reduceBEq,Nat.reduceSub,Nat.reduceAdd,reduceIte,Ev.rs0,Ev.rss,Ev.bF,Ev.bG,↓Ev.fzI,↓Ev.fzS,↓Ev.fzN,Ev.rfn,Ev.rct,Ev.rcn,cond_true,cond_false,List.map_cons,List.map_nil,List.cons_append,List.nil_append,Bool.true_or,Bool.false_or,Ev.bT,Ev.bU,Ev.bV,Ev.bW,Ev.bX,Ev.ers_n,Ev.bI,Ev.bY,Ev.bZ,Ev.bf,Ev.aC,Ev.bK,Ev.bL,Ev.bg,Ev.bh,Ev.bJ,Ev.bj,↓Ev.ti1,↓Ev.ti2,↓Ev.ti3,↓Ev.ti4,↓Ev.ti5,↓Ev.ti6,↓Ev.ti7,↓Ev.ti8,Ev.aF,Ev.bp,Ev.ah,Ev.aG,Ev.aH,Ev.aI,Ev.bq,Ev.ai,Ev.aJ,Ev.aK,Ev.br,Ev.aj,Ev.aL,Ev.aM,Ev.aO,Ev.aP,Ev.aQ,Ev.bt,Ev.ak,Ev.aR,Ev.ao,Ev.bu,Ev.aq,Ev.aT,Ev.ar,Ev.au,Ev.bw,Ev.bx,Ev.aU,Ev.av,Ev.aw,Ev.aa,Ev.af,Ev.ay,Ev.aV,Ev.bz,Ev.bA,Ev.aW,Ev.bB,Ev.bC,Ev.aX,Ev.aY,Ev.aZ,Ev.a8,Ev.bD,Ev.bE,Ev.az,Ev.aA,Ev.a9,Ev.ba,Ev.aB,Ev.bb,Ev.bc,Ev.bH,Ev.bM,lr,l1,e4,e2,ea,e3,e]
theorem bri:Str.ofString "bridges" = sal [98,114,105,100,103,101,115]:=by decide +kernel
theorem iR {α β:Type}{f:α->β}:∀ {l:List α},l.Nodup->(∀ a∈l,∀ b∈l,f a=f b->a=b)->(l.map f).Nodup
 | [],_,_=>List.nodup_nil
 | x::l,nd,inj=>by
  obtain⟨n1,n2⟩:=List.nodup_cons.mp nd
  rw[List.map_cons,List.nodup_cons]
  refine⟨fun z=>?_,iR n2 fun a ha b hb=>inj a (.tail _ ha) b (.tail _ hb)⟩
  obtain⟨y,hy,e⟩:=List.mem_map.mp z
  exact n1 (inj y (.tail _ hy) x (.head _) e ▸ hy)
noncomputable def nmF (A B:List Nat)(s t:Int)(j:Nat):Str:=sal (A++[97+((s+t*(j:Nat)) % 26).toNat]++B)
theorem tE {A B:List Nat}{s t:Int}(ht:t=1∨t=7∨t=25∨t=11){a b:Nat}(ha:a < 20)(hb:b < 20)(h:nmF A B s t a=nmF A B s t b):a=b:=by
 have h1:A++[97+((s+t*(a:Nat)) % 26).toNat]++B=A++[97+((s+t*(b:Nat)) % 26).toNat]++B:=by
  have:=congrArg (fun x:Str=>x.cps.toList) h
  simpa[nmF,sal] using this
 have h2:=List.append_cancel_left (List.append_cancel_right h1)
 have h3:97+((s+t*(a:Nat)) % 26).toNat=97+((s+t*(b:Nat)) % 26).toNat:=(List.cons.inj h2).1
 have a0:=Int.emod_nonneg (s+t*(a:Nat)) (show (26:Int)≠0 by decide)
 have b0:=Int.emod_nonneg (s+t*(b:Nat)) (show (26:Int)≠0 by decide)
 have h4:(s+t*(a:Nat)) % 26=(s+t*(b:Nat)) % 26:=by omega
 rcases ht with rfl|rfl|rfl|rfl<;>omega
noncomputable def eNm:IR:=.bin .add (.bin .add (.sl (.v 0) none (some (.v 1))) (.idx (.v 2) (.bin .mod (.bin .add (.v 3) (.bin .mul (.v 4) (.v 5))) (.c (.int 26))))) (.sl (.v 0) (some (.v 1)) none)
theorem xA (n:Nat){cs:List Nat}(hc:cs.length<=7){t s u:Int}(t0:0<=t)(t1:t<=cs.length)(s0:0<=s)(s1:s < 26)(hu:u=1∨u=7∨u=25∨u=11){m:Nat} :
  cy (cR (ag T n) (.nm 5) [] eNm [some (.str (sal cs)),some (.int t),some (.str "abcdefghijklmnopqrstuvwxyz"),some (.int s),some (.int u),none]) (dy 0 (m:Nat))=.ok (((List.range m).map (nmF (cs.take t.toNat) (cs.drop t.toNat) s u)).map .str):=by
 have er:dy 0 (m:Nat)=(List.range m).map fun j:Nat=>D.int (0+(j:Nat)):=rfl
 rw[er]
 refine Ev.c7 (fun j:Nat=>D.int (0+(j:Nat))) (nmF (cs.take t.toNat) (cs.drop t.toNat) s u) .str (List.range m) fun j hj=>?_
 have e0:(0+(j:Int))=(j:Int):=Int.zero_add _
 have b0:=Int.emod_nonneg (s+u*(j:Nat)) (show (26:Int)≠0 by decide)
 have b1:=Int.emod_lt_of_pos (s+u*(j:Nat)) (show (0:Int) < 26 by decide)
 have ab:=w8 b0 b1
 rw[sT] at ab
 have s1:=km (cs:=cs) (j:=t) t0 t1
 have s2:=lh (cs:=cs) (i:=t) t0 t1
 have l1:(cs.take t.toNat).length<=7:=by rw[List.length_take];omega
 have l2:(cs.drop t.toNat).length<=7:=by rw[List.length_drop];omega
 have sl:=fD cs
 have p1:=mC (a:=cs.take t.toNat) (b:=[97+((s+u*(j:Nat)) % 26).toNat]) (by rw[List.length_singleton];omega)
 have p2:=mC (a:=cs.take t.toNat++[97+((s+u*(j:Nat)) % 26).toNat]) (b:=cs.drop t.toNat) (by rw[List.length_append,List.length_singleton];omega)
 have u0 : -18446744073709551616 < u:=by omega
 have u1:u < 18446744073709551616:=by omega
 unfold eNm nmF
 simp(disch:=omega) only[ev0,Nat.reduceBEq,Nat.reduceSub,Nat.reduceAdd,reduceIte,Ev.rs0,Ev.rss,Ev.bF,Ev.bG,↓Ev.fzI,↓Ev.fzS,↓Ev.fzN,Ev.rfn,Ev.rct,Ev.rcn,cond_true,cond_false,List.map_cons,List.map_nil,List.cons_append,List.nil_append,Bool.true_or,Bool.false_or,Ev.bT,Ev.bU,Ev.bV,Ev.bW,Ev.bX,Ev.ers_n,Ev.bI,Ev.bY,Ev.bZ,Ev.bf,Ev.aC,Ev.bK,Ev.bL,Ev.bg,Ev.bh,Ev.bJ,Ev.bj,↓Ev.ti1,↓Ev.ti2,↓Ev.ti3,↓Ev.ti4,↓Ev.ti5,↓Ev.ti6,↓Ev.ti7,↓Ev.ti8,Ev.aF,Ev.bp,Ev.ah,Ev.aG,Ev.aH,Ev.aI,Ev.bq,Ev.ai,Ev.aJ,Ev.aK,Ev.br,Ev.aj,Ev.aL,Ev.aM,Ev.aO,Ev.aP,Ev.aQ,Ev.bt,Ev.ak,Ev.aR,Ev.ao,Ev.bu,Ev.aq,Ev.aT,Ev.ar,Ev.au,Ev.bw,Ev.bx,Ev.aU,Ev.av,Ev.aw,Ev.aa,Ev.af,Ev.ay,Ev.aV,Ev.bz,Ev.bA,Ev.aW,Ev.bB,Ev.bC,Ev.aX,Ev.aY,Ev.aZ,Ev.a8,Ev.bD,Ev.bE,Ev.az,Ev.aA,Ev.a9,Ev.ba,Ev.aB,Ev.bb,Ev.bc,Ev.bH,Ev.bM,e0,sl,s1,s2,ab,p1,p2]
structure NmOk (xs:List Str)(m:Nat):Prop where
 nd:xs.Nodup
 len:xs.length=m
theorem rg (n:Nat)(ns:List Int){m:Nat}(hm:m<=20):∃ xs,ag T (n+2) 38 [.lst false (ns.map .int),.int (m:Nat)]=.ok (.lst true (xs.map .str))/\NmOk xs m:=by
 obtain⟨s,d0,s0,s1⟩:=drx n ns 0 26 (by decide) (by decide) (by decide)
 obtain⟨a,d1,a0,a1⟩:=drx n ns 1 8 (by decide) (by decide) (by decide)
 have sb:=km (cs:=[98,114,105,100,103,101,115]) (j:=a) a0 (by show a<=7;omega)
 have lc:([98,114,105,100,103,101,115].take a.toNat:List Nat).length<=7:=by rw[List.length_take];exact Nat.min_le_right _ _
 generalize ([98,114,105,100,103,101,115].take a.toNat:List Nat)=cs at *
 obtain⟨t,d2,t0,t1⟩:=drx n ns 2 ((cs.length:Nat)+1) (by decide) (by decide) (by omega)
 obtain⟨b,d3,b0,b1⟩:=drx n ns 3 4 (by decide) (by decide) (by decide)
 obtain⟨u,eu,hu⟩:∃ u:Int,cX (.lst true [.int 1,.int 7,.int 25,.int 11]) (.int b)=.ok (.int u)/\(u=1∨u=7∨u=25∨u=11):=by
  have hb:b=0∨b=1∨b=2∨b=3:=by omega
  rcases hb with rfl|rfl|rfl|rfl
  ·exact⟨1,rfl,.inl rfl⟩
  ·exact⟨7,rfl,.inr (.inl rfl)⟩
  ·exact⟨25,rfl,.inr (.inr (.inl rfl))⟩
  ·exact⟨11,rfl,.inr (.inr (.inr rfl))⟩
 have e:=xA (n+1) lc t0 (by omega) s0 s1 hu (m:=m)
 refine⟨(List.range m).map (nmF (cs.take t.toNat) (cs.drop t.toNat) s u),?_,?_,by rw[List.length_map,List.length_range]⟩
 ·have sl:=fD cs
  have lr:(dy 0 (m:Nat)).length=m:=by rw[dv];omega
  have bs:(sal [98,114,105,100,103,101,115]).length=7:=rfl
  unfold eNm at e
  rw[gx 38 d38 2 7 b38 rfl rfl rfl rfl rfl rfl];unfold b38
  simp(disch:=omega) only[ev0,Nat.reduceBEq,Nat.reduceSub,Nat.reduceAdd,reduceIte,Ev.rs0,Ev.rss,Ev.bF,Ev.bG,↓Ev.fzI,↓Ev.fzS,↓Ev.fzN,Ev.rfn,Ev.rct,Ev.rcn,cond_true,cond_false,List.map_cons,List.map_nil,List.cons_append,List.nil_append,Bool.true_or,Bool.false_or,Ev.bT,Ev.bU,Ev.bV,Ev.bW,Ev.bX,Ev.ers_n,Ev.bI,Ev.bY,Ev.bZ,Ev.bf,Ev.aC,Ev.bK,Ev.bL,Ev.bg,Ev.bh,Ev.bJ,Ev.bj,↓Ev.ti1,↓Ev.ti2,↓Ev.ti3,↓Ev.ti4,↓Ev.ti5,↓Ev.ti6,↓Ev.ti7,↓Ev.ti8,Ev.aF,Ev.bp,Ev.ah,Ev.aG,Ev.aH,Ev.aI,Ev.bq,Ev.ai,Ev.aJ,Ev.aK,Ev.br,Ev.aj,Ev.aL,Ev.aM,Ev.aO,Ev.aP,Ev.aQ,Ev.bt,Ev.ak,Ev.aR,Ev.ao,Ev.bu,Ev.aq,Ev.aT,Ev.ar,Ev.au,Ev.bw,Ev.bx,Ev.aU,Ev.av,Ev.aw,Ev.aa,Ev.af,Ev.ay,Ev.aV,Ev.bz,Ev.bA,Ev.aW,Ev.bB,Ev.bC,Ev.aX,Ev.aY,Ev.aZ,Ev.a8,Ev.bD,Ev.bE,Ev.az,Ev.aA,Ev.a9,Ev.ba,Ev.aB,Ev.bb,Ev.bc,Ev.bH,Ev.bM,bri,bs,d0,d1,sb,sl,d2,d3,eu,lr,e]
 ·refine iR List.nodup_range fun x hx y hy h=>?_
  rw[List.mem_range] at hx hy
  exact tE hu (by omega) (by omega) h
noncomputable def nD (ps:Ps):D:=.lst false (ps.map pD)
noncomputable def tJ:List IS:=[(.if_ (.cmp .lt (.bin .add (.v 4) (.c (.int 1))) (.bi .len [(.v 1)])) [(.app 5 (.tup [(.idx (.v 1) (.bin .add (.bin .add (.v 4) (.c (.int 1))) (.call 35 [(.v 0),(.bin .add (.bin .add (.c (.int 80)) (.bin .mul (.c (.int 2)) (.v 4))) (.v 6)),(.bin .sub (.bin .sub (.bi .len [(.v 1)]) (.v 4)) (.c (.int 1)))]))),(.idx (.lst [(.c (.str "on")),(.c (.str "off"))]) (.v 6))]))] [])]
def Inn (xs:List Str)(ps:Ps):Prop:=∀ p∈ps,p.1∈xs
theorem getD_mem {xs:List Str}{i:Nat}(h:i < xs.length):xs.getD i ⟨#[]⟩∈xs:=by
 rw[List.getD_eq_getElem?_getD,List.getElem?_eq_getElem h]
 exact List.getElem_mem h
theorem xB (n:Nat)(ns:List Int){xs:List Str}(hl:xs.length<=20){s:Nat}(hs:s < xs.length){c:Int}(c0:0<=c)(c1:c<=2)(R H x6 x7:Option D) :
  ∃ ps y6,forM (Ev.turn (ag T (n+1)) (.nm 6) tJ) (dy 0 c) [some (.lst false (ns.map .int)),some (.lst false (xs.map .str)),R,H,some (.int (s:Nat)),some (.lst true []),x6,x7]=.ok (.nx [some (.lst false (ns.map .int)),some (.lst false (xs.map .str)),R,H,some (.int (s:Nat)),some (.lst true (ps.map pD)),y6,x7])/\ps.length<=2/\Inn xs ps:=by
 obtain⟨τ',e,ps,y6,rfl,h1,h2⟩:=Ev.dB (body:=Ev.turn (ag T (n+1)) (.nm 6) tJ) (its:=dy 0 c) (τ:=[some (.lst false (ns.map .int)),some (.lst false (xs.map .str)),R,H,some (.int (s:Nat)),some (.lst true []),x6,x7])
  (fun j τ=>∃ ps y6,τ=[some (.lst false (ns.map .int)),some (.lst false (xs.map .str)),R,H,some (.int (s:Nat)),some (.lst true (ps.map pD)),y6,x7]/\ps.length<=j/\Inn xs ps) ⟨[],x6,rfl,Nat.le_refl _,fun p hp=>by simp at hp⟩ (by
   rintro j x τ hx ⟨ps,z6,rfl,h1,h2⟩
   obtain⟨rfl,hj⟩:=g9 hx
   have lx:(xs.map D.str).length=xs.length:=List.length_map _
   by_cases hlt:s+1 < xs.length
   ·have dl:decide (((s:Nat)+1:Int) < (xs.length:Nat))=true:=decide_eq_true (by omega)
    obtain⟨q,d,q0,q1⟩:=drx n ns (80+2*(s:Nat)+(j:Nat)) ((xs.length:Nat) - (s:Nat) - 1) (by omega) (by omega) (by omega)
    obtain⟨w,ew⟩:∃ w:Str,cX (.lst true [.str "on",.str "off"]) (.int (j:Nat))=.ok (.str w):=by
     have:j=0∨j=1:=by omega
     rcases this with rfl|rfl
     ·exact⟨_,rfl⟩
     ·exact⟨_,rfl⟩
    have ex:=Ev.qI (o:=false) (xs:=xs) (i:=(s:Nat)+1+q) (by omega) (by omega)
    have hm:=getD_mem (xs:=xs) (i:=((s:Nat)+1+q).toNat) (by omega)
    refine⟨_,?_,ps++[(xs.getD ((s:Nat)+1+q).toNat ⟨#[]⟩,w)],some (.int (j:Nat)),rfl,by rw[List.length_append,List.length_singleton];omega,fun p hp=>?_⟩
    ·have lp:(ps.map pD).length < 16777216:=by rw[List.length_map];omega
     have ha:ps.map pD++[.tup [.str (xs.getD ((s:Nat)+1+q).toNat ⟨#[]⟩),.str w]]=(ps++[(xs.getD ((s:Nat)+1+q).toNat ⟨#[]⟩,w)]).map pD:=by rw[List.map_append];rfl
     unfold tJ
     simp(disch:=omega) only[ev0,Nat.reduceBEq,Nat.reduceSub,Nat.reduceAdd,reduceIte,Ev.rs0,Ev.rss,Ev.bF,Ev.bG,↓Ev.fzI,↓Ev.fzS,↓Ev.fzN,Ev.rfn,Ev.rct,Ev.rcn,cond_true,cond_false,List.map_cons,List.map_nil,List.cons_append,List.nil_append,Bool.true_or,Bool.false_or,Ev.bT,Ev.bU,Ev.bV,Ev.bW,Ev.bX,Ev.ers_n,Ev.bI,Ev.bY,Ev.bZ,Ev.bf,Ev.aC,Ev.bK,Ev.bL,Ev.bg,Ev.bh,Ev.bJ,Ev.bj,↓Ev.ti1,↓Ev.ti2,↓Ev.ti3,↓Ev.ti4,↓Ev.ti5,↓Ev.ti6,↓Ev.ti7,↓Ev.ti8,Ev.aF,Ev.bp,Ev.ah,Ev.aG,Ev.aH,Ev.aI,Ev.bq,Ev.ai,Ev.aJ,Ev.aK,Ev.br,Ev.aj,Ev.aL,Ev.aM,Ev.aO,Ev.aP,Ev.aQ,Ev.bt,Ev.ak,Ev.aR,Ev.ao,Ev.bu,Ev.aq,Ev.aT,Ev.ar,Ev.au,Ev.bw,Ev.bx,Ev.aU,Ev.av,Ev.aw,Ev.aa,Ev.af,Ev.ay,Ev.aV,Ev.bz,Ev.bA,Ev.aW,Ev.bB,Ev.bC,Ev.aX,Ev.aY,Ev.aZ,Ev.a8,Ev.bD,Ev.bE,Ev.az,Ev.aA,Ev.a9,Ev.ba,Ev.aB,Ev.bb,Ev.bc,Ev.bH,Ev.bM,Ev.cP,lx,dl,d,ex,ew,lp,ha]
    ·rcases List.mem_append.mp hp with hp|hp
     ·exact h2 p hp
     ·rw[List.mem_singleton.mp hp];exact hm
   ·have dl:decide (((s:Nat)+1:Int) < (xs.length:Nat))=false:=decide_eq_false (by omega)
    refine⟨_,?_,ps,some (.int (j:Nat)),rfl,by omega,h2⟩
    unfold tJ
    simp(disch:=omega) only[ev0,Nat.reduceBEq,Nat.reduceSub,Nat.reduceAdd,reduceIte,Ev.rs0,Ev.rss,Ev.bF,Ev.bG,↓Ev.fzI,↓Ev.fzS,↓Ev.fzN,Ev.rfn,Ev.rct,Ev.rcn,cond_true,cond_false,List.map_cons,List.map_nil,List.cons_append,List.nil_append,Bool.true_or,Bool.false_or,Ev.bT,Ev.bU,Ev.bV,Ev.bW,Ev.bX,Ev.ers_n,Ev.bI,Ev.bY,Ev.bZ,Ev.bf,Ev.aC,Ev.bK,Ev.bL,Ev.bg,Ev.bh,Ev.bJ,Ev.bj,↓Ev.ti1,↓Ev.ti2,↓Ev.ti3,↓Ev.ti4,↓Ev.ti5,↓Ev.ti6,↓Ev.ti7,↓Ev.ti8,Ev.aF,Ev.bp,Ev.ah,Ev.aG,Ev.aH,Ev.aI,Ev.bq,Ev.ai,Ev.aJ,Ev.aK,Ev.br,Ev.aj,Ev.aL,Ev.aM,Ev.aO,Ev.aP,Ev.aQ,Ev.bt,Ev.ak,Ev.aR,Ev.ao,Ev.bu,Ev.aq,Ev.aT,Ev.ar,Ev.au,Ev.bw,Ev.bx,Ev.aU,Ev.av,Ev.aw,Ev.aa,Ev.af,Ev.ay,Ev.aV,Ev.bz,Ev.bA,Ev.aW,Ev.bB,Ev.bC,Ev.aX,Ev.aY,Ev.aZ,Ev.a8,Ev.bD,Ev.bE,Ev.az,Ev.aA,Ev.a9,Ev.ba,Ev.aB,Ev.bb,Ev.bc,Ev.bH,Ev.bM,Ev.cP,lx,dl])
 rw[dv] at h1
 exact⟨ps,y6,e,by omega,h2⟩
theorem Aw (ps:Ps):er (nD ps)=nD ps:=by
 show D.lst false (ers _)=_
 rw[g6]
 rfl
theorem ers_n (N:List Ps):ers (N.map nD)=N.map nD:=by
 rw[cO,List.map_map]
 exact List.map_congr_left fun q _=>Aw q
noncomputable def tF:List IS:=[(.asg (.nm 7) (.call 35 [(.v 0),(.bin .add (.c (.int 130)) (.v 4)),(.bin .add (.bi .len [(.v 5)]) (.c (.int 1)))])),(.ins 5 (.v 7) (.tup [(.idx (.v 1) (.bin .mod (.bin .add (.v 4) (.c (.int 1))) (.v 2))),(.c (.str "on"))]))]
noncomputable def eC:IR:=.bi .min2 [(.call 35 [(.v 0),(.bin .add (.c (.int 60)) (.v 4)),(.c (.int 3))]),(.bin .add (.c (.int 1)) (.bi .int [(.cmp .lt (.bi .len [(.v 1)]) (.c (.int 7)))]))]
noncomputable def tS:List IS:=[(.asg (.nm 5) (.lst [])),(.for_ (.nm 6) (.rng1 eC) tJ),(.if_ (.cmp .lt (.v 4) (.v 2)) tF []),(.app 3 (.v 5))]
theorem xC (n:Nat)(ns:List Int){xs:List Str}(hl:xs.length<=20){s:Nat}{r:Int}(hs:(s:Nat) < r)(hr:r<=(xs.length:Nat)){ps:Ps}(hp:ps.length<=2)(hi:Inn xs ps)(H x6 x7:Option D) :
  ∃ ps' x7',cb (ag T (n+1)) tF [some (.lst false (ns.map .int)),some (.lst false (xs.map .str)),some (.int r),H,some (.int (s:Nat)),some (.lst true (ps.map pD)),x6,x7]=.ok (.nx [some (.lst false (ns.map .int)),some (.lst false (xs.map .str)),some (.int r),H,some (.int (s:Nat)),some (.lst true (ps'.map pD)),x6,x7'])/\ps'.length<=3/\Inn xs ps':=by
 have lp:(ps.map pD).length=ps.length:=List.length_map _
 obtain⟨q,d,q0,q1⟩:=drx n ns (130+(s:Nat)) ((ps.length:Nat)+1) (by omega) (by omega) (by omega)
 have m0:=Int.emod_nonneg ((s:Nat)+1:Int) (show r≠0 by omega)
 have m1:=Int.emod_lt_of_pos ((s:Nat)+1:Int) (show 0 < r by omega)
 have ex:=Ev.qI (o:=false) (xs:=xs) (i:=((s:Nat)+1) % r) m0 (by omega)
 have hm:=getD_mem (xs:=xs) (i:=(((s:Nat)+1) % r).toNat) (by omega)
 generalize xs.getD (((s:Nat)+1) % r).toNat ⟨#[]⟩=y at *
 refine⟨ps.take q.toNat++(y,Str.ofString "on")::ps.drop q.toNat,some (.int q),?_,?_,fun p hp'=>?_⟩
 ·have gd:decide (0<=q/\q.toNat<=ps.length)=true:=decide_eq_true ⟨q0,by omega⟩
  have l2:ps.length < 16777216:=by omega
  have ha:(ps.map pD).take q.toNat++.tup [.str y,.str "on"]::(ps.map pD).drop q.toNat=(ps.take q.toNat++(y,Str.ofString "on")::ps.drop q.toNat).map pD:=by rw[List.map_append,List.map_cons,List.map_take,List.map_drop];rfl
  have rp:0 < r:=by omega
  unfold tF
  simp(disch:=omega) only[ev0,Nat.reduceBEq,Nat.reduceSub,Nat.reduceAdd,reduceIte,Ev.rs0,Ev.rss,Ev.bF,Ev.bG,↓Ev.fzI,↓Ev.fzS,↓Ev.fzN,Ev.rfn,Ev.rct,Ev.rcn,cond_true,cond_false,List.map_cons,List.map_nil,List.cons_append,List.nil_append,Bool.true_or,Bool.false_or,Ev.bT,Ev.bU,Ev.bV,Ev.bW,Ev.bX,Ev.ers_n,Ev.bI,Ev.bY,Ev.bZ,Ev.bf,Ev.aC,Ev.bK,Ev.bL,Ev.bg,Ev.bh,Ev.bJ,Ev.bj,↓Ev.ti1,↓Ev.ti2,↓Ev.ti3,↓Ev.ti4,↓Ev.ti5,↓Ev.ti6,↓Ev.ti7,↓Ev.ti8,Ev.aF,Ev.bp,Ev.ah,Ev.aG,Ev.aH,Ev.aI,Ev.bq,Ev.ai,Ev.aJ,Ev.aK,Ev.br,Ev.aj,Ev.aL,Ev.aM,Ev.aO,Ev.aP,Ev.aQ,Ev.bt,Ev.ak,Ev.aR,Ev.ao,Ev.bu,Ev.aq,Ev.aT,Ev.ar,Ev.au,Ev.bw,Ev.bx,Ev.aU,Ev.av,Ev.aw,Ev.aa,Ev.af,Ev.ay,Ev.aV,Ev.bz,Ev.bA,Ev.aW,Ev.bB,Ev.bC,Ev.aX,Ev.aY,Ev.aZ,Ev.a8,Ev.bD,Ev.bE,Ev.az,Ev.aA,Ev.a9,Ev.ba,Ev.aB,Ev.bb,Ev.bc,Ev.bH,Ev.bM,lp,d,ex,gd,ha]
 ·rw[List.length_append,List.length_cons,List.length_take,List.length_drop];omega
 ·rcases List.mem_append.mp hp' with h|h
  ·exact hi p (List.mem_of_mem_take h)
  ·rcases List.mem_cons.mp h with rfl|h
   ·exact hm
   ·exact hi p (List.mem_of_mem_drop h)
theorem xD (n:Nat)(ns:List Int){xs:List Str}(hl:xs.length<=20){s:Nat}(hs:s < xs.length){r:Int}(hr:r<=(xs.length:Nat)){N:List Ps}(hN:N.length<=20)(x5 x6 x7:Option D) :
  ∃ ps y5 y6 y7,cb (ag T (n+1)) tS [some (.lst false (ns.map .int)),some (.lst false (xs.map .str)),some (.int r),some (.lst true (N.map nD)),some (.int (s:Nat)),x5,x6,x7]=.ok (.nx [some (.lst false (ns.map .int)),some (.lst false (xs.map .str)),some (.int r),some (.lst true ((N++[ps]).map nD)),some (.int (s:Nat)),y5,y6,y7])/\ps.length<=3/\Inn xs ps:=by
 have lx:(xs.map D.str).length=xs.length:=List.length_map _
 obtain⟨q,d,q0,q1⟩:=drx n ns (60+(s:Nat)) 3 (by omega) (by omega) (by decide)
 obtain⟨c,ec,c0,c1⟩:∃ c:Int,evR (ag T (n+1)) eC [some (.lst false (ns.map .int)),some (.lst false (xs.map .str)),some (.int r),some (.lst true (N.map nD)),some (.int (s:Nat)),some (.lst true []),x6,x7]=.ok (.int c)/\0<=c/\c<=2:=by
  refine⟨if 1+(if decide (((xs.length:Nat):Int) < 7)=true then 1 else 0) < q then 1+(if decide (((xs.length:Nat):Int) < 7)=true then 1 else 0) else q,?_,?_⟩
  ·unfold eC
   simp(disch:=omega) only[ev0,Nat.reduceBEq,Nat.reduceSub,Nat.reduceAdd,reduceIte,Ev.rs0,Ev.rss,Ev.bF,Ev.bG,↓Ev.fzI,↓Ev.fzS,↓Ev.fzN,Ev.rfn,Ev.rct,Ev.rcn,cond_true,cond_false,List.map_cons,List.map_nil,List.cons_append,List.nil_append,Bool.true_or,Bool.false_or,Ev.bT,Ev.bU,Ev.bV,Ev.bW,Ev.bX,Ev.ers_n,Ev.bI,Ev.bY,Ev.bZ,Ev.bf,Ev.aC,Ev.bK,Ev.bL,Ev.bg,Ev.bh,Ev.bJ,Ev.bj,↓Ev.ti1,↓Ev.ti2,↓Ev.ti3,↓Ev.ti4,↓Ev.ti5,↓Ev.ti6,↓Ev.ti7,↓Ev.ti8,Ev.aF,Ev.bp,Ev.ah,Ev.aG,Ev.aH,Ev.aI,Ev.bq,Ev.ai,Ev.aJ,Ev.aK,Ev.br,Ev.aj,Ev.aL,Ev.aM,Ev.aO,Ev.aP,Ev.aQ,Ev.bt,Ev.ak,Ev.aR,Ev.ao,Ev.bu,Ev.aq,Ev.aT,Ev.ar,Ev.au,Ev.bw,Ev.bx,Ev.aU,Ev.av,Ev.aw,Ev.aa,Ev.af,Ev.ay,Ev.aV,Ev.bz,Ev.bA,Ev.aW,Ev.bB,Ev.bC,Ev.aX,Ev.aY,Ev.aZ,Ev.a8,Ev.bD,Ev.bE,Ev.az,Ev.aA,Ev.a9,Ev.ba,Ev.aB,Ev.bb,Ev.bc,Ev.bH,Ev.bM,lx,d]
  ·split<;>split<;>omega
 obtain⟨ps,y6,e1,h1,h2⟩:=xB n ns hl hs c0 c1 (some (.int r)) (some (.lst true (N.map nD))) x6 x7
 have lN:(N.map nD).length < 16777216:=by rw[List.length_map];omega
 by_cases hlt:(s:Nat) < r
 ·have dl:decide (((s:Nat):Int) < r)=true:=decide_eq_true hlt
  obtain⟨ps',y7,e2,h3,h4⟩:=xC n ns hl hlt hr h1 h2 (some (.lst true (N.map nD))) y6 x7
  have ep:=g6 ps'
  have ha:N.map nD++[.lst false (ps'.map pD)]=(N++[ps']).map nD:=by rw[List.map_append];rfl
  refine⟨ps',some (.lst false (ps'.map pD)),y6,y7,?_,h3,h4⟩
  unfold tS
  simp(disch:=omega) only[ev0,Nat.reduceBEq,Nat.reduceSub,Nat.reduceAdd,reduceIte,Ev.rs0,Ev.rss,Ev.bF,Ev.bG,↓Ev.fzI,↓Ev.fzS,↓Ev.fzN,Ev.rfn,Ev.rct,Ev.rcn,cond_true,cond_false,List.map_cons,List.map_nil,List.cons_append,List.nil_append,Bool.true_or,Bool.false_or,Ev.bT,Ev.bU,Ev.bV,Ev.bW,Ev.bX,Ev.ers_n,Ev.bI,Ev.bY,Ev.bZ,Ev.bf,Ev.aC,Ev.bK,Ev.bL,Ev.bg,Ev.bh,Ev.bJ,Ev.bj,↓Ev.ti1,↓Ev.ti2,↓Ev.ti3,↓Ev.ti4,↓Ev.ti5,↓Ev.ti6,↓Ev.ti7,↓Ev.ti8,Ev.aF,Ev.bp,Ev.ah,Ev.aG,Ev.aH,Ev.aI,Ev.bq,Ev.ai,Ev.aJ,Ev.aK,Ev.br,Ev.aj,Ev.aL,Ev.aM,Ev.aO,Ev.aP,Ev.aQ,Ev.bt,Ev.ak,Ev.aR,Ev.ao,Ev.bu,Ev.aq,Ev.aT,Ev.ar,Ev.au,Ev.bw,Ev.bx,Ev.aU,Ev.av,Ev.aw,Ev.aa,Ev.af,Ev.ay,Ev.aV,Ev.bz,Ev.bA,Ev.aW,Ev.bB,Ev.bC,Ev.aX,Ev.aY,Ev.aZ,Ev.a8,Ev.bD,Ev.bE,Ev.az,Ev.aA,Ev.a9,Ev.ba,Ev.aB,Ev.bb,Ev.bc,Ev.bH,Ev.bM,ec,e1,dl,e2,ep,lN,ha]
 ·have dl:decide (((s:Nat):Int) < r)=false:=decide_eq_false hlt
  have ep:=g6 ps
  have ha:N.map nD++[.lst false (ps.map pD)]=(N++[ps]).map nD:=by rw[List.map_append];rfl
  refine⟨ps,some (.lst false (ps.map pD)),y6,x7,?_,by omega,h2⟩
  unfold tS
  simp(disch:=omega) only[ev0,Nat.reduceBEq,Nat.reduceSub,Nat.reduceAdd,reduceIte,Ev.rs0,Ev.rss,Ev.bF,Ev.bG,↓Ev.fzI,↓Ev.fzS,↓Ev.fzN,Ev.rfn,Ev.rct,Ev.rcn,cond_true,cond_false,List.map_cons,List.map_nil,List.cons_append,List.nil_append,Bool.true_or,Bool.false_or,Ev.bT,Ev.bU,Ev.bV,Ev.bW,Ev.bX,Ev.ers_n,Ev.bI,Ev.bY,Ev.bZ,Ev.bf,Ev.aC,Ev.bK,Ev.bL,Ev.bg,Ev.bh,Ev.bJ,Ev.bj,↓Ev.ti1,↓Ev.ti2,↓Ev.ti3,↓Ev.ti4,↓Ev.ti5,↓Ev.ti6,↓Ev.ti7,↓Ev.ti8,Ev.aF,Ev.bp,Ev.ah,Ev.aG,Ev.aH,Ev.aI,Ev.bq,Ev.ai,Ev.aJ,Ev.aK,Ev.br,Ev.aj,Ev.aL,Ev.aM,Ev.aO,Ev.aP,Ev.aQ,Ev.bt,Ev.ak,Ev.aR,Ev.ao,Ev.bu,Ev.aq,Ev.aT,Ev.ar,Ev.au,Ev.bw,Ev.bx,Ev.aU,Ev.av,Ev.aw,Ev.aa,Ev.af,Ev.ay,Ev.aV,Ev.bz,Ev.bA,Ev.aW,Ev.bB,Ev.bC,Ev.aX,Ev.aY,Ev.aZ,Ev.a8,Ev.bD,Ev.bE,Ev.az,Ev.aA,Ev.a9,Ev.ba,Ev.aB,Ev.bb,Ev.bc,Ev.bH,Ev.bM,ec,e1,dl,ep,lN,ha]
theorem rh (n:Nat)(ns:List Int){xs:List Str}(hl:xs.length<=20){r:Int}(hr:r<=(xs.length:Nat)):∃ N:List Ps,ag T (n+2) 39 [.lst false (ns.map .int),.lst false (xs.map .str),.int r]=.ok (.lst true (N.map nD))/\N.length=xs.length/\∀ ps∈N,ps.length<=3/\Inn xs ps:=by
 obtain⟨τ',e,N,x4,x5,x6,x7,rfl,h1,h2⟩:=Ev.dB (body:=Ev.turn (ag T (n+1)) (.nm 4) tS) (its:=dy 0 (xs.length:Nat)) (τ:=[some (.lst false (ns.map .int)),some (.lst false (xs.map .str)),some (.int r),some (.lst true []),none,none,none,none])
  (fun i τ=>∃ N x4 x5 x6 x7,τ=[some (.lst false (ns.map .int)),some (.lst false (xs.map .str)),some (.int r),some (.lst true (N.map nD)),x4,x5,x6,x7]/\N.length=i/\∀ ps∈N,ps.length<=3/\Inn xs ps) ⟨[],none,none,none,none,rfl,rfl,fun p hp=>by simp at hp⟩ (by
   rintro i x τ hx ⟨N,z4,z5,z6,z7,rfl,h1,h2⟩
   obtain⟨rfl,hi⟩:=g9 hx
   have hi:i < xs.length:=hi
   obtain⟨ps,y5,y6,y7,e,h3,h4⟩:=xD n ns hl hi hr (N:=N) (by omega) z5 z6 z7
   refine⟨_,?_,N++[ps],some (.int (i:Nat)),y5,y6,y7,rfl,by rw[List.length_append,h1];rfl,fun p hp=>?_⟩
   ·simp(disch:=omega) only[ev0,Nat.reduceBEq,Nat.reduceSub,Nat.reduceAdd,reduceIte,Ev.rs0,Ev.rss,Ev.bF,Ev.bG,↓Ev.fzI,↓Ev.fzS,↓Ev.fzN,Ev.rfn,Ev.rct,Ev.rcn,cond_true,cond_false,List.map_cons,List.map_nil,List.cons_append,List.nil_append,Bool.true_or,Bool.false_or,Ev.bT,Ev.bU,Ev.bV,Ev.bW,Ev.bX,Ev.ers_n,Ev.bI,Ev.bY,Ev.bZ,Ev.bf,Ev.aC,Ev.bK,Ev.bL,Ev.bg,Ev.bh,Ev.bJ,Ev.bj,↓Ev.ti1,↓Ev.ti2,↓Ev.ti3,↓Ev.ti4,↓Ev.ti5,↓Ev.ti6,↓Ev.ti7,↓Ev.ti8,Ev.aF,Ev.bp,Ev.ah,Ev.aG,Ev.aH,Ev.aI,Ev.bq,Ev.ai,Ev.aJ,Ev.aK,Ev.br,Ev.aj,Ev.aL,Ev.aM,Ev.aO,Ev.aP,Ev.aQ,Ev.bt,Ev.ak,Ev.aR,Ev.ao,Ev.bu,Ev.aq,Ev.aT,Ev.ar,Ev.au,Ev.bw,Ev.bx,Ev.aU,Ev.av,Ev.aw,Ev.aa,Ev.af,Ev.ay,Ev.aV,Ev.bz,Ev.bA,Ev.aW,Ev.bB,Ev.bC,Ev.aX,Ev.aY,Ev.aZ,Ev.a8,Ev.bD,Ev.bE,Ev.az,Ev.aA,Ev.a9,Ev.ba,Ev.aB,Ev.bb,Ev.bc,Ev.bH,Ev.bM,Ev.cP,e]
   ·rcases List.mem_append.mp hp with hp|hp
    ·exact h2 p hp
    ·rw[List.mem_singleton.mp hp];exact⟨h3,h4⟩)
 rw[dv] at h1
 have lx:(xs.map D.str).length=xs.length:=List.length_map _
 refine⟨N,?_,by omega,h2⟩
 unfold tS eC tJ tF at e
 rw[gx 39 d39 3 8 b39 rfl rfl rfl rfl rfl rfl];unfold b39
 simp(disch:=omega) only[ev0,Nat.reduceBEq,Nat.reduceSub,Nat.reduceAdd,reduceIte,Ev.rs0,Ev.rss,Ev.bF,Ev.bG,↓Ev.fzI,↓Ev.fzS,↓Ev.fzN,Ev.rfn,Ev.rct,Ev.rcn,cond_true,cond_false,List.map_cons,List.map_nil,List.cons_append,List.nil_append,Bool.true_or,Bool.false_or,Ev.bT,Ev.bU,Ev.bV,Ev.bW,Ev.bX,Ev.ers_n,Ev.bI,Ev.bY,Ev.bZ,Ev.bf,Ev.aC,Ev.bK,Ev.bL,Ev.bg,Ev.bh,Ev.bJ,Ev.bj,↓Ev.ti1,↓Ev.ti2,↓Ev.ti3,↓Ev.ti4,↓Ev.ti5,↓Ev.ti6,↓Ev.ti7,↓Ev.ti8,Ev.aF,Ev.bp,Ev.ah,Ev.aG,Ev.aH,Ev.aI,Ev.bq,Ev.ai,Ev.aJ,Ev.aK,Ev.br,Ev.aj,Ev.aL,Ev.aM,Ev.aO,Ev.aP,Ev.aQ,Ev.bt,Ev.ak,Ev.aR,Ev.ao,Ev.bu,Ev.aq,Ev.aT,Ev.ar,Ev.au,Ev.bw,Ev.bx,Ev.aU,Ev.av,Ev.aw,Ev.aa,Ev.af,Ev.ay,Ev.aV,Ev.bz,Ev.bA,Ev.aW,Ev.bB,Ev.bC,Ev.aX,Ev.aY,Ev.aZ,Ev.a8,Ev.bD,Ev.bE,Ev.az,Ev.aA,Ev.a9,Ev.ba,Ev.aB,Ev.bb,Ev.bc,Ev.bH,Ev.bM,lx,e]
noncomputable def tW:List IS:=[(.asg (.nm 7) (.tup [(.tup [(.c (.str "ab")),(.c (.str "off")),(.lst []),(.tup [(.lst []),(.lst [(.tup [(.c (.int 0)),(.c (.int 10007))])])])]),(.idx (.v 4) (.v 6)),(.c (.bl false))])),(.ins 5 (.call 35 [(.v 0),(.bin .add (.c (.int 30)) (.v 6)),(.bin .add (.v 6) (.c (.int 1)))]) (.tup [(.idx (.v 2) (.v 6)),(.v 7)]))]
theorem Be {o:Bool}{N:List Ps}{i:Nat}{ps:Ps}(h:N[i]? = some ps):cX (.lst o (N.map nD)) (.int (i:Nat))=.ok (.lst false (ps.map pD)):=by
 have hi:i < N.length:=(List.getElem?_eq_some_iff.mp h).1
 show (match atI (N.map nD) (i:Nat) with|some d=>.ok d|none=>stk:Res D)=_
 rw[Ev.gh,Ev.eE (d:=ps) (by omega) (by omega)]
 show (match (some (nD (N.getD i ps)):Option D) with|some d=>.ok d|none=>stk:Res D)=_
 rw[List.getD_eq_getElem?_getD,h]
 rfl
theorem xE (n:Nat)(ns:List Int){xs:List Str}{N:List Ps}{i:Nat}{x:Str}{ps:Ps}(hx:xs[i]? = some x)(hp:N[i]? = some ps)(hi:i < 20){M:List Sw}(hM:M.length=i)(A B:Option D)(o:Bool)(x7:Option D) :
  ∃ M' y7,cb (ag T (n+1)) tW [some (.lst false (ns.map .int)),A,some (.lst false (xs.map .str)),B,some (.lst o (N.map nD)),some (.lst true (M.map wD)),some (.int (i:Nat)),x7]=.ok (.nx [some (.lst false (ns.map .int)),A,some (.lst false (xs.map .str)),B,some (.lst false (N.map nD)),some (.lst true (M'.map wD)),some (.int (i:Nat)),y7])/\M'.length=i+1/\(nms M').Perm (nms M++[x])/\∀ q∈M',q∈M∨q=(x,ps):=by
 have hxi:i < xs.length:=(List.getElem?_eq_some_iff.mp hx).1
 obtain⟨q,d,q0,q1⟩:=drx n ns (30+(i:Nat)) ((i:Nat)+1) (by omega) (by omega) (by omega)
 have ex:=Ev.qI (o:=false) (xs:=xs) (i:=(i:Nat)) (by omega) (by omega)
 have ey:xs.getD ((i:Nat):Int).toNat ⟨#[]⟩=x:=by
  show xs.getD i _=x
  rw[List.getD_eq_getElem?_getD,hx]
  rfl
 rw[ey] at ex
 have en:=Be (o:=o) hp
 have ep:=g6 ps
 have eN:=ers_n N
 refine⟨M.take q.toNat++(x,ps)::M.drop q.toNat,some (eD ps),?_,?_,?_,fun p hp'=>?_⟩
 ·have lm:(M.map wD).length=i:=by rw[List.length_map,hM]
  have gd:decide (0<=q/\q.toNat<=i)=true:=decide_eq_true ⟨q0,by omega⟩
  have ha:(M.map wD).take q.toNat++.tup [.str x,.tup [.tup [.str "ab",.str "off",.lst false [],.tup [.lst false [],.lst false [.tup [.int 0,.int 10007]]]],.lst false (ps.map pD),.bl false]]::(M.map wD).drop q.toNat=(M.take q.toNat++(x,ps)::M.drop q.toNat).map wD:=by rw[List.map_append,List.map_cons,List.map_take,List.map_drop];rfl
  have he:eD ps=.tup [.tup [.str "ab",.str "off",.lst false [],.tup [.lst false [],.lst false [.tup [.int 0,.int 10007]]]],.lst false (ps.map pD),.bl false]:=rfl
  unfold tW
  simp(disch:=omega) only[ev0,Nat.reduceBEq,Nat.reduceSub,Nat.reduceAdd,reduceIte,Ev.rs0,Ev.rss,Ev.bF,Ev.bG,↓Ev.fzI,↓Ev.fzS,↓Ev.fzN,Ev.rfn,Ev.rct,Ev.rcn,cond_true,cond_false,List.map_cons,List.map_nil,List.cons_append,List.nil_append,Bool.true_or,Bool.false_or,Ev.bT,Ev.bU,Ev.bV,Ev.bW,Ev.bX,Ev.ers_n,Ev.bI,Ev.bY,Ev.bZ,Ev.bf,Ev.aC,Ev.bK,Ev.bL,Ev.bg,Ev.bh,Ev.bJ,Ev.bj,↓Ev.ti1,↓Ev.ti2,↓Ev.ti3,↓Ev.ti4,↓Ev.ti5,↓Ev.ti6,↓Ev.ti7,↓Ev.ti8,Ev.aF,Ev.bp,Ev.ah,Ev.aG,Ev.aH,Ev.aI,Ev.bq,Ev.ai,Ev.aJ,Ev.aK,Ev.br,Ev.aj,Ev.aL,Ev.aM,Ev.aO,Ev.aP,Ev.aQ,Ev.bt,Ev.ak,Ev.aR,Ev.ao,Ev.bu,Ev.aq,Ev.aT,Ev.ar,Ev.au,Ev.bw,Ev.bx,Ev.aU,Ev.av,Ev.aw,Ev.aa,Ev.af,Ev.ay,Ev.aV,Ev.bz,Ev.bA,Ev.aW,Ev.bB,Ev.bC,Ev.aX,Ev.aY,Ev.aZ,Ev.a8,Ev.bD,Ev.bE,Ev.az,Ev.aA,Ev.a9,Ev.ba,Ev.aB,Ev.bb,Ev.bc,Ev.bH,Ev.bM,d,ex,en,ep,eN,lm,gd,ha,he]
 ·rw[List.length_append,List.length_cons,List.length_take,List.length_drop];omega
 ·unfold nms
  have h1:(M.take q.toNat++(x,ps)::M.drop q.toNat).Perm (M++[(x,ps)]):=by
   have e:M++[(x,ps)]=(M.take q.toNat++M.drop q.toNat)++[(x,ps)]:=by rw[List.take_append_drop]
   rw[e]
   exact List.perm_middle.trans (List.perm_append_comm (l₁:=[(x,ps)]))
  have:=h1.map (fun q:Sw=>q.1)
  rw[List.map_append (l₁:=M)] at this
  exact this
 ·rcases List.mem_append.mp hp' with h|h
  ·exact .inl (List.mem_of_mem_take h)
  ·rcases List.mem_cons.mp h with rfl|h
   ·exact .inr rfl
   ·exact .inl (List.mem_of_mem_drop h)
theorem tG (n:Nat)(ns:List Int):∃ m:Nat,1<=m/\m<=20/\∃ k:Int,cX (.lst true [.int 4,.int 20]) (.int (dr ns 5 2))=.ok (.int k)/\0 < k/\(m:Int)=1+dr ns 4 k:=by
 have b0:=qN ns 5 (m:=2) (by decide)
 have b1:=qO ns 5 (m:=2) (by decide)
 have hb:dr ns 5 2=0∨dr ns 5 2=1:=by omega
 rcases hb with e|e
 ·have c0:=qN ns 4 (m:=4) (by decide)
  have c1:=qO ns 4 (m:=4) (by decide)
  exact⟨(1+dr ns 4 4).toNat,by omega,by omega,4,by rw[e];rfl,by decide,by omega⟩
 ·have c0:=qN ns 4 (m:=20) (by decide)
  have c1:=qO ns 4 (m:=20) (by decide)
  exact⟨(1+dr ns 4 20).toNat,by omega,by omega,20,by rw[e];rfl,by decide,by omega⟩
theorem xF (n:Nat)(ns:List Int):∃ L:List Sw,ag T (n+3) 40 [.lst false (ns.map .int)]=.ok (.lst true (L.map wD))/\Good L:=by
 have d5:=kn (n+1) ns 5 2 (by decide) (by decide) (by decide)
 obtain⟨m,m1,m2,k,ek,k0,em⟩:=tG n ns
 have d4:=kn (n+1) ns 4 k (by decide) (by decide) k0
 generalize dr ns 5 2=b at *
 generalize dr ns 4 k=c at *
 obtain⟨xs,ex,nok⟩:=rg n ns m2
 have d6:=kn (n+1) ns 6 3 (by decide) (by decide) (by decide)
 have d7:=kn (n+1) ns 7 (m:Nat) (by decide) (by decide) (by omega)
 have r0:=qN ns 7 (m:=(m:Nat)) (by omega)
 have r1:=qO ns 7 (m:=(m:Nat)) (by omega)
 generalize dr ns 6 3=g at *
 generalize dr ns 7 (m:Nat)=r at *
 have hlx:=nok.len
 have go:∀ (R:Int),R<=(xs.length:Nat)->∃ (N:List Ps) (L:List Sw) (τ':Ev) ,ag T (n+2) 39 [.lst false (ns.map .int),.lst false (xs.map .str),.int R]=.ok (.lst true (N.map nD))/\
   (∃ o x6 x7,τ'=[some (.lst false (ns.map .int)),some (.int (m:Nat)),some (.lst false (xs.map .str)),some (.int R),some (.lst o (N.map nD)),some (.lst true (L.map wD)),x6,x7])/\
   forM (Ev.turn (ag T (n+2)) (.nm 6) tW) (dy 0 (m:Nat)) [some (.lst false (ns.map .int)),some (.int (m:Nat)),some (.lst false (xs.map .str)),some (.int R),some (.lst true (N.map nD)),some (.lst true []),none,none]=.ok (.nx τ')/\Good L:=by
  intro R hR
  obtain⟨N,eN,lN,hN⟩:=rh n ns (xs:=xs) (by omega) hR
  obtain⟨τ',e,o,L,x6,x7,rfl,h1,h2,h3⟩:=Ev.dB (body:=Ev.turn (ag T (n+2)) (.nm 6) tW) (its:=dy 0 (m:Nat)) (τ:=[some (.lst false (ns.map .int)),some (.int (m:Nat)),some (.lst false (xs.map .str)),some (.int R),some (.lst true (N.map nD)),some (.lst true []),none,none])
   (fun i τ=>∃ o M x6 x7,τ=[some (.lst false (ns.map .int)),some (.int (m:Nat)),some (.lst false (xs.map .str)),some (.int R),some (.lst o (N.map nD)),some (.lst true (M.map wD)),x6,x7]/\M.length=i/\(nms M).Perm (xs.take i)/\∀ q∈M,q.2∈N) ⟨true,[],none,none,rfl,rfl,.refl _,fun q hq=>by simp at hq⟩ (by
    rintro i x τ hx ⟨o,M,z6,z7,rfl,h1,h2,h3⟩
    obtain⟨rfl,hi⟩:=g9 hx
    have hi:i < m:=hi
    have ax:xs[i]? = some xs[i]:=List.getElem?_eq_getElem (by omega)
    have aN:N[i]? = some N[i]:=List.getElem?_eq_getElem (by omega)
    obtain⟨M',y7,e,g1,g2,g3⟩:=xE (n+1) ns ax aN (by omega) h1 (some (.int (m:Nat))) (some (.int R)) o z7
    refine⟨_,?_,false,M',some (.int (i:Nat)),y7,rfl,g1,?_,fun q hq=>?_⟩
    ·simp(disch:=omega) only[ev0,Nat.reduceBEq,Nat.reduceSub,Nat.reduceAdd,reduceIte,Ev.rs0,Ev.rss,Ev.bF,Ev.bG,↓Ev.fzI,↓Ev.fzS,↓Ev.fzN,Ev.rfn,Ev.rct,Ev.rcn,cond_true,cond_false,List.map_cons,List.map_nil,List.cons_append,List.nil_append,Bool.true_or,Bool.false_or,Ev.bT,Ev.bU,Ev.bV,Ev.bW,Ev.bX,Ev.ers_n,Ev.bI,Ev.bY,Ev.bZ,Ev.bf,Ev.aC,Ev.bK,Ev.bL,Ev.bg,Ev.bh,Ev.bJ,Ev.bj,↓Ev.ti1,↓Ev.ti2,↓Ev.ti3,↓Ev.ti4,↓Ev.ti5,↓Ev.ti6,↓Ev.ti7,↓Ev.ti8,Ev.aF,Ev.bp,Ev.ah,Ev.aG,Ev.aH,Ev.aI,Ev.bq,Ev.ai,Ev.aJ,Ev.aK,Ev.br,Ev.aj,Ev.aL,Ev.aM,Ev.aO,Ev.aP,Ev.aQ,Ev.bt,Ev.ak,Ev.aR,Ev.ao,Ev.bu,Ev.aq,Ev.aT,Ev.ar,Ev.au,Ev.bw,Ev.bx,Ev.aU,Ev.av,Ev.aw,Ev.aa,Ev.af,Ev.ay,Ev.aV,Ev.bz,Ev.bA,Ev.aW,Ev.bB,Ev.bC,Ev.aX,Ev.aY,Ev.aZ,Ev.a8,Ev.bD,Ev.bE,Ev.az,Ev.aA,Ev.a9,Ev.ba,Ev.aB,Ev.bb,Ev.bc,Ev.bH,Ev.bM,Ev.cP,e]
    ·rw[List.take_succ,ax]
     exact g2.trans (h2.append_right _)
    ·rcases g3 q hq with h|rfl
     ·exact h3 q h
     ·exact List.getElem_mem _)
  rw[dv] at h1 h2
  have hm:((m:Nat) - 0:Int).toNat=m:=by omega
  rw[hm] at h1 h2
  rw[List.take_of_length_le (by omega)] at h2
  refine⟨N,L,_,eN,⟨o,x6,x7,rfl⟩,e,h2.nodup_iff.mpr nok.nd,fun q hq p hp=>h2.mem_iff.mpr ((hN q.2 (h3 q hq)).2 p hp),by omega,fun q hq=>(hN q.2 (h3 q hq)).1⟩
 have es:ers (xs.map .str)=xs.map .str:=fG xs
 by_cases hg:0 < g
 ·have dg:decide ((0:Int) < g)=true:=decide_eq_true hg
  obtain⟨N,L,τ',e1,⟨o,x6,x7,rfl⟩,e2,hG⟩:=go (1+r) (by omega)
  refine⟨L,?_,hG⟩
  unfold tW at e2
  rw[gx 40 d40 1 8 b40 rfl rfl rfl rfl rfl rfl];unfold b40
  simp(disch:=omega) only[ev0,Nat.reduceBEq,Nat.reduceSub,Nat.reduceAdd,reduceIte,Ev.rs0,Ev.rss,Ev.bF,Ev.bG,↓Ev.fzI,↓Ev.fzS,↓Ev.fzN,Ev.rfn,Ev.rct,Ev.rcn,cond_true,cond_false,List.map_cons,List.map_nil,List.cons_append,List.nil_append,Bool.true_or,Bool.false_or,Ev.bT,Ev.bU,Ev.bV,Ev.bW,Ev.bX,Ev.ers_n,Ev.bI,Ev.bY,Ev.bZ,Ev.bf,Ev.aC,Ev.bK,Ev.bL,Ev.bg,Ev.bh,Ev.bJ,Ev.bj,↓Ev.ti1,↓Ev.ti2,↓Ev.ti3,↓Ev.ti4,↓Ev.ti5,↓Ev.ti6,↓Ev.ti7,↓Ev.ti8,Ev.aF,Ev.bp,Ev.ah,Ev.aG,Ev.aH,Ev.aI,Ev.bq,Ev.ai,Ev.aJ,Ev.aK,Ev.br,Ev.aj,Ev.aL,Ev.aM,Ev.aO,Ev.aP,Ev.aQ,Ev.bt,Ev.ak,Ev.aR,Ev.ao,Ev.bu,Ev.aq,Ev.aT,Ev.ar,Ev.au,Ev.bw,Ev.bx,Ev.aU,Ev.av,Ev.aw,Ev.aa,Ev.af,Ev.ay,Ev.aV,Ev.bz,Ev.bA,Ev.aW,Ev.bB,Ev.bC,Ev.aX,Ev.aY,Ev.aZ,Ev.a8,Ev.bD,Ev.bE,Ev.az,Ev.aA,Ev.a9,Ev.ba,Ev.aB,Ev.bb,Ev.bc,Ev.bH,Ev.bM,d5,ek,d4,<- em,ex,d6,dg,d7,es,e1,e2]
 ·have dg:decide ((0:Int) < g)=false:=decide_eq_false hg
  obtain⟨N,L,τ',e1,⟨o,x6,x7,rfl⟩,e2,hG⟩:=go 0 (by omega)
  refine⟨L,?_,hG⟩
  unfold tW at e2
  rw[gx 40 d40 1 8 b40 rfl rfl rfl rfl rfl rfl];unfold b40
  simp(disch:=omega) only[ev0,Nat.reduceBEq,Nat.reduceSub,Nat.reduceAdd,reduceIte,Ev.rs0,Ev.rss,Ev.bF,Ev.bG,↓Ev.fzI,↓Ev.fzS,↓Ev.fzN,Ev.rfn,Ev.rct,Ev.rcn,cond_true,cond_false,List.map_cons,List.map_nil,List.cons_append,List.nil_append,Bool.true_or,Bool.false_or,Ev.bT,Ev.bU,Ev.bV,Ev.bW,Ev.bX,Ev.ers_n,Ev.bI,Ev.bY,Ev.bZ,Ev.bf,Ev.aC,Ev.bK,Ev.bL,Ev.bg,Ev.bh,Ev.bJ,Ev.bj,↓Ev.ti1,↓Ev.ti2,↓Ev.ti3,↓Ev.ti4,↓Ev.ti5,↓Ev.ti6,↓Ev.ti7,↓Ev.ti8,Ev.aF,Ev.bp,Ev.ah,Ev.aG,Ev.aH,Ev.aI,Ev.bq,Ev.ai,Ev.aJ,Ev.aK,Ev.br,Ev.aj,Ev.aL,Ev.aM,Ev.aO,Ev.aP,Ev.aQ,Ev.bt,Ev.ak,Ev.aR,Ev.ao,Ev.bu,Ev.aq,Ev.aT,Ev.ar,Ev.au,Ev.bw,Ev.bx,Ev.aU,Ev.av,Ev.aw,Ev.aa,Ev.af,Ev.ay,Ev.aV,Ev.bz,Ev.bA,Ev.aW,Ev.bB,Ev.bC,Ev.aX,Ev.aY,Ev.aZ,Ev.a8,Ev.bD,Ev.bE,Ev.az,Ev.aA,Ev.a9,Ev.ba,Ev.aB,Ev.bb,Ev.bc,Ev.bH,Ev.bM,d5,ek,d4,<- em,ex,d6,dg,es,e1,e2]
theorem rj {α:Type}(f:α->D)(k:Nat):∀ xs:List α,(∀ x∈xs,pl k (f x)=true)->pls k (xs.map f)=true
 | [],_=>by cases k<;>rfl
 | x::xs,h=>by
  show (pl k (f x)&&pls k (xs.map f))=true
  rw[h x (.head _),rj f k xs fun y hy=>h y (.tail _ hy)]
  rfl
theorem Bf {q:Sw}(h:q.2.length<=3):pl 7 (wD q)=true:=by
 have h1:pls 4 (q.2.map pD)=true:=rj pD 4 q.2 fun p _=>rfl
 have h2:decide ((q.2.map pD).length < 1000)=true:=decide_eq_true (by rw[List.length_map];omega)
 have h3:pl 5 (.lst false (q.2.map pD))=true:=by
  show (!false&&(pls 4 (q.2.map pD)&&decide ((q.2.map pD).length < 1000)))=true
  rw[h1,h2]
  rfl
 have h4:pl 6 (eD q.2)=true:=by
  show ((pl 5 sD&&(pl 5 (.lst false (q.2.map pD))&&(pl 5 (.bl false)&&true)))&&decide (3 < 1000))=true
  rw[h3]
  rfl
 show ((pl 6 (.str q.1)&&(pl 6 (eD q.2)&&true))&&decide (2 < 1000))=true
 rw[h4]
 rfl
theorem Ax {L:List Sw}(h:Good L):pl 9 (hD L)=true:=by
 have h1:pls 7 (L.map wD)=true:=rj wD 7 L fun q hq=>Bf (h.few q hq)
 have h2:decide ((L.map wD).length < 1000)=true:=decide_eq_true (by rw[List.length_map];have:=h.len;omega)
 have h3:pl 8 (.lst false (L.map wD))=true:=by
  show (!false&&(pls 7 (L.map wD)&&decide ((L.map wD).length < 1000)))=true
  rw[h1,h2]
  rfl
 show ((pl 8 (.lst false [])&&(pl 8 (.lst false [])&&(pl 8 (.lst false (L.map wD))&&true)))&&decide (3 < 1000))=true
 rw[h3]
 rfl
theorem rk:opC .eq (.lst true [.bl true,.bl true,.bl false,.bl false,.bl false]) (.lst true [.bl true,.bl true,.bl false,.bl false,.bl false])=.ok true:=rfl
theorem Bg (r:List Str)(b:Bool):oR [(Str.ofString "Ringed",b)] (.exc ⟨"Ringed","ring",r⟩)=.ok (.bl b):=rfl
theorem Bj:[Str.ofString "Ringed"].contains (Str.ofString "Ringed")=true:=by decide +kernel
theorem Ay {cl:Nat->List D->Res D}{a:IR}{ns:List Nat}{tb:List (Str×Bool)}{τ:Ev}:evR cl (.isx a ns tb) τ=bnd (evR cl a τ) (oR tb):=rfl
theorem Az {cl:Nat->List D->Res D}{mv:Bool}{a:IR}{ns:List Nat}{tb:List (Str×Bool)}{τ:Ev}:evO cl mv (.isx a ns tb) τ=bnd (evR cl (.isx a ns tb) τ) (Ev.eB (.isx a ns tb) τ):=rfl
theorem Bl (r:List Str):oS "ring" [Str.ofString "Ringed"] (.exc ⟨"Ringed","ring",r⟩)=.ok (.tup (r.map .str)):=rfl
theorem xG (ns:List Int):ag T (16+1) 43 [.lst false (ns.map .int)]=.ok (.bl true):=by
 obtain⟨L,e1,h⟩:=xF 13 ns
 obtain⟨d,e2,hd⟩:=copy 9 7 (Ax h)
 have e3:=same 9 7 (Ax h)
 have e4:=nS 15 h
 have lw:=fE L
 have lfd:b9 d=false:=by
  cases z:b9 d with
  | false=>rfl
  | true=>
   rw[jG z] at hd
   rw[hd] at z
   cases z
 have es:=same 1 15 (d:=.bl true) rfl
 by_cases ht:eF L=[]
 ·have e5:=tu 11 h ht
  rw[decide_eq_true ht] at e4
  unfold hD at hd e2 e3 e5
  rw[gx 43 d43 1 8 b43 rfl rfl rfl rfl rfl rfl];unfold b43
  simp(disch:=omega) only[ev0,Nat.reduceBEq,Nat.reduceSub,Nat.reduceAdd,reduceIte,Ev.rs0,Ev.rss,Ev.bF,Ev.bG,↓Ev.fzI,↓Ev.fzS,↓Ev.fzN,Ev.rfn,Ev.rct,Ev.rcn,cond_true,cond_false,List.map_cons,List.map_nil,List.cons_append,List.nil_append,Bool.true_or,Bool.false_or,Ev.bT,Ev.bU,Ev.bV,Ev.bW,Ev.bX,Ev.ers_n,Ev.bI,Ev.bY,Ev.bZ,Ev.bf,Ev.aC,Ev.bK,Ev.bL,Ev.bg,Ev.bh,Ev.bJ,Ev.bj,↓Ev.ti1,↓Ev.ti2,↓Ev.ti3,↓Ev.ti4,↓Ev.ti5,↓Ev.ti6,↓Ev.ti7,↓Ev.ti8,Ev.aF,Ev.bp,Ev.ah,Ev.aG,Ev.aH,Ev.aI,Ev.bq,Ev.ai,Ev.aJ,Ev.aK,Ev.br,Ev.aj,Ev.aL,Ev.aM,Ev.aO,Ev.aP,Ev.aQ,Ev.bt,Ev.ak,Ev.aR,Ev.ao,Ev.bu,Ev.aq,Ev.aT,Ev.ar,Ev.au,Ev.bw,Ev.bx,Ev.aU,Ev.av,Ev.aw,Ev.aa,Ev.af,Ev.ay,Ev.aV,Ev.bz,Ev.bA,Ev.aW,Ev.bB,Ev.bC,Ev.aX,Ev.aY,Ev.aZ,Ev.a8,Ev.bD,Ev.bE,Ev.az,Ev.aA,Ev.a9,Ev.ba,Ev.aB,Ev.bb,Ev.bc,Ev.bH,Ev.bM,e1,mL,er,ers,Ev.wY,lw,e2,lfd,hd,e5,e3,e4,es]
 ·obtain⟨r,e5,hr⟩:=tw 11 h ht
  have e6:=tD 15 h hr
  rw[decide_eq_false ht] at e4
  unfold hD at hd e2 e3 e5
  have er1:=fG r
  rw[gx 43 d43 1 8 b43 rfl rfl rfl rfl rfl rfl];unfold b43
  simp(disch:=omega) only[ev0,Nat.reduceBEq,Nat.reduceSub,Nat.reduceAdd,reduceIte,Ev.rs0,Ev.rss,Ev.bF,Ev.bG,↓Ev.fzI,↓Ev.fzS,↓Ev.fzN,Ev.rfn,Ev.rct,Ev.rcn,cond_true,cond_false,List.map_cons,List.map_nil,List.cons_append,List.nil_append,Bool.true_or,Bool.false_or,Ev.bT,Ev.bU,Ev.bV,Ev.bW,Ev.bX,Ev.ers_n,Ev.bI,Ev.bY,Ev.bZ,Ev.bf,Ev.aC,Ev.bK,Ev.bL,Ev.bg,Ev.bh,Ev.bJ,Ev.bj,↓Ev.ti1,↓Ev.ti2,↓Ev.ti3,↓Ev.ti4,↓Ev.ti5,↓Ev.ti6,↓Ev.ti7,↓Ev.ti8,Ev.aF,Ev.bp,Ev.ah,Ev.aG,Ev.aH,Ev.aI,Ev.bq,Ev.ai,Ev.aJ,Ev.aK,Ev.br,Ev.aj,Ev.aL,Ev.aM,Ev.aO,Ev.aP,Ev.aQ,Ev.bt,Ev.ak,Ev.aR,Ev.ao,Ev.bu,Ev.aq,Ev.aT,Ev.ar,Ev.au,Ev.bw,Ev.bx,Ev.aU,Ev.av,Ev.aw,Ev.aa,Ev.af,Ev.ay,Ev.aV,Ev.bz,Ev.bA,Ev.aW,Ev.bB,Ev.bC,Ev.aX,Ev.aY,Ev.aZ,Ev.a8,Ev.bD,Ev.bE,Ev.az,Ev.aA,Ev.a9,Ev.ba,Ev.aB,Ev.bb,Ev.bc,Ev.bH,Ev.bM,e1,mL,er,ers,Ev.wY,lw,e2,lfd,hd,e5,Bj,Ay,Az,Bl,Bg,e3,e4,rk,er1,e6]
theorem holds (ns:List Int)(h:ns.length<=63):ag T (16+1) w4 [.lst false (ns.map .int)]=.ok (.bl true):=xG ns
end Law
namespace PySem.W.Fast
theorem tw17968335399072417673:True:=⟨⟩
theorem tw17808305468272365714:True:=⟨⟩
theorem tw1057444327190112473:True:=⟨⟩
theorem tw3092124479277343133:True:=⟨⟩
theorem tw12476578159769384476:True:=⟨⟩
theorem tw729673934560407174:True:=⟨⟩
theorem tw15767544593896910823:True:=⟨⟩
theorem tw17880002526186255709:True:=⟨⟩
theorem tw1122776945558549560:True:=⟨⟩
theorem tw10781288359003017082:True:=⟨⟩
theorem tw13137812516597195132:True:=⟨⟩
theorem tw1410400438224092598:True:=⟨⟩
theorem tw2420555273655869704:True:=⟨⟩
theorem tw2557637526042604397:True:=⟨⟩
theorem tw5162531033270903996:True:=⟨⟩
theorem tw5822361008585522569:True:=⟨⟩
theorem tw8699966860408230376:True:=⟨⟩
theorem tw6797738183104998704:True:=⟨⟩
theorem tw2973106065302973448:True:=⟨⟩
theorem tw12508316788044436977:True:=⟨⟩
theorem tw15831868348926129191:True:=⟨⟩
theorem tw4952161604893525384:True:=⟨⟩
theorem tw12188664064005835176:True:=⟨⟩
theorem tw9346826509580500878:True:=⟨⟩
theorem tw8819998967415298960:True:=⟨⟩
theorem tw16651477355471555022:True:=⟨⟩
theorem tw2782642265384691830:True:=⟨⟩
theorem tw11496458352885410624:True:=⟨⟩
theorem tw13985264788210320634:True:=⟨⟩
theorem tw258991979245592088:True:=⟨⟩
theorem tw5701326477634327918:True:=⟨⟩
theorem tw14711503207471673058:True:=⟨⟩
theorem tw16739223758011063772:True:=⟨⟩
theorem tw17600855318367396895:True:=⟨⟩
theorem tw385977595151664715:True:=⟨⟩
theorem tw18025001142067458620:True:=⟨⟩
theorem tw9524793516248656336:True:=⟨⟩
theorem tw7777862750421846363:True:=⟨⟩
theorem tw3668688437764497466:True:=⟨⟩
theorem tw4558590290469459148:True:=⟨⟩
theorem tw7708226611527842195:True:=⟨⟩
theorem tw4622982008647154392:True:=⟨⟩
theorem tw5649185167621438557:True:=⟨⟩
theorem tw16069393815110469564:True:=⟨⟩
theorem tw18392071648843810517:True:=⟨⟩
theorem tw2328813387135027407:True:=⟨⟩
theorem tw6273471176352718107:True:=⟨⟩
theorem tw6374275902121447946:True:=⟨⟩
theorem tw10955036044460826330:True:=⟨⟩
theorem tw14812603238127569479:True:=⟨⟩
theorem tw9916436312402340702:True:=⟨⟩
theorem tw17670755753445762287:True:=⟨⟩
theorem tw6373509133585719714:True:=⟨⟩
theorem tw16207219936163616330:True:=⟨⟩
theorem tw2831512633552632962:True:=⟨⟩
theorem tw12616501123251519678:True:=⟨⟩
theorem tw2288753664406682327:True:=⟨⟩
theorem tw6410616393671022601:True:=⟨⟩
theorem tw3149000237813681214:True:=⟨⟩
theorem tw17402390763436315756:True:=⟨⟩
theorem tw6013893161018503913:True:=⟨⟩
theorem tw3425544071972889456:True:=⟨⟩
theorem tw5664794441394613792:True:=⟨⟩
theorem tw18296935268728401449:True:=⟨⟩
theorem tw5343776158293955089:True:=⟨⟩
theorem tw5269065058161895419:True:=⟨⟩
theorem tw16648831408804831190:True:=⟨⟩
theorem tw3401166211391747619:True:=⟨⟩
theorem tw18101186489688205532:True:=⟨⟩
theorem tw6330952793325442590:True:=⟨⟩
theorem tw3074222545830738182:True:=⟨⟩
theorem tw15453731004314420637:True:=⟨⟩
theorem tw9544071934342523684:True:=⟨⟩
theorem tw1407067348022890365:True:=⟨⟩
theorem tw9152210961718134925:True:=⟨⟩
theorem tw1272897028851415252:True:=⟨⟩
theorem tw6173725775622873383:True:=⟨⟩
theorem tw11805818055859566986:True:=⟨⟩
theorem tw9781460484382428333:True:=⟨⟩
theorem tw5451200230007560225:True:=⟨⟩
theorem tw6767245709301364240:True:=⟨⟩
theorem tw8677924619242943642:True:=⟨⟩
theorem tw13122803367020021181:True:=⟨⟩
theorem tw10102075125664546871:True:=⟨⟩
theorem tw5211699448391969515:True:=⟨⟩
theorem tw6460188865709326125:True:=⟨⟩
theorem tw3514897928443685432:True:=⟨⟩
theorem tw300283505865179966:True:=⟨⟩
theorem tw10762301175167216670:True:=⟨⟩
theorem tw14159075314082221238:True:=⟨⟩
theorem tw436228525639377946:True:=⟨⟩
theorem tw15372011352482549320:True:=⟨⟩
theorem tw12504326962434427640:True:=⟨⟩
theorem tw11422672095593833460:True:=⟨⟩
theorem tw7093882476026321773:True:=⟨⟩
theorem tw5170834898736531681:True:=⟨⟩
theorem tw5255568832874529269:True:=⟨⟩
theorem tw13022822732146945310:True:=⟨⟩
theorem tw8262087240738282801:True:=⟨⟩
theorem tw14117252475324718715:True:=⟨⟩
theorem tw1182445175799937905:True:=⟨⟩
theorem tw10670311321386706982:True:=⟨⟩
theorem tw15348933645217306950:True:=⟨⟩
theorem tw10460773076713075845:True:=⟨⟩
theorem tw1653000208424678981:True:=⟨⟩
theorem tw298167403747626264:True:=⟨⟩
theorem tw9429991226001005264:True:=⟨⟩
theorem tw17631932070817171284:True:=⟨⟩
theorem tw35796099503091607:True:=⟨⟩
theorem tw18236067756610416100:True:=⟨⟩
theorem tw2480777585759362638:True:=⟨⟩
theorem tw18346699091334901209:True:=⟨⟩
theorem tw169862856882492641:True:=⟨⟩
theorem tw3654916711272990674:True:=⟨⟩
theorem tw8594990352335092441:True:=⟨⟩
theorem tw7945642318367604810:True:=⟨⟩
theorem tw4868282609273409341:True:=⟨⟩
theorem tw2750799611275340736:True:=⟨⟩
theorem tw2925869546751366151:True:=⟨⟩
theorem tw3873569707816125385:True:=⟨⟩
theorem tw17403447017636552289:True:=⟨⟩
theorem tw18274120778576256734:True:=⟨⟩
theorem tw7701064178026165168:True:=⟨⟩
theorem tw7270934715593395272:True:=⟨⟩
theorem tw1473829849571832351:True:=⟨⟩
theorem tw13273742216628211758:True:=⟨⟩
theorem tw13303857414032486907:True:=⟨⟩
theorem tw16421820345628691021:True:=⟨⟩
theorem tw6076084913363002561:True:=⟨⟩
theorem tw13580875446808096065:True:=⟨⟩
theorem tw5430101591029181936:True:=⟨⟩
theorem tw7897800940222235035:True:=⟨⟩
theorem tw2719499273895521580:True:=⟨⟩
theorem tw1733248680327285092:True:=⟨⟩
theorem tw1930886660885498893:True:=⟨⟩
theorem tw6687062301396246018:True:=⟨⟩
theorem tw11218464639659710806:True:=⟨⟩
theorem tw16264413526268313499:True:=⟨⟩
theorem tw13251771356602617883:True:=⟨⟩
theorem tw6337574459369688265:True:=⟨⟩
theorem tw16569326475570997729:True:=⟨⟩
theorem tw14199587524434619007:True:=⟨⟩
theorem tw6545536995078935878:True:=⟨⟩
theorem tw18013881117447133882:True:=⟨⟩
theorem tw18263722295478353500:True:=⟨⟩
theorem tw1538393904002469397:True:=⟨⟩
theorem tw5068364504082700476:True:=⟨⟩
theorem tw9867293176841092481:True:=⟨⟩
theorem tw15741899993349790528:True:=⟨⟩
theorem tw5054482223402107297:True:=⟨⟩
theorem tw6708011526344317615:True:=⟨⟩
theorem tw4089437022354841153:True:=⟨⟩
theorem tw9310861643282109545:True:=⟨⟩
theorem tw2220456248151611815:True:=⟨⟩
theorem tw1864189716898014708:True:=⟨⟩
theorem tw12568547426575172448:True:=⟨⟩
theorem tw13251371940256309373:True:=⟨⟩
theorem tw18253025424741892753:True:=⟨⟩
theorem tw5257974464974914856:True:=⟨⟩
theorem tw10323867940839539148:True:=⟨⟩
theorem tw8952765185822028256:True:=⟨⟩
theorem tw14510158929466740923:True:=⟨⟩
theorem tw10868908918280595453:True:=⟨⟩
theorem tw16849988218572731062:True:=⟨⟩
theorem tw12619696578770638555:True:=⟨⟩
theorem tw15814302149778278688:True:=⟨⟩
theorem tw9303337476474125390:True:=⟨⟩
theorem tw54597021472083457:True:=⟨⟩
theorem tw17112306330573764802:True:=⟨⟩
theorem tw16970374353835389208:True:=⟨⟩
theorem tw17704821760156768979:True:=⟨⟩
theorem tw12763272397252912694:True:=⟨⟩
theorem tw4807931714105473739:True:=⟨⟩
theorem tw4390424881314483133:True:=⟨⟩
theorem tw7868244308716131802:True:=⟨⟩
theorem tw16183466957165279024:True:=⟨⟩
theorem tw15415983201703746981:True:=⟨⟩
theorem tw1547269635652307183:True:=⟨⟩
theorem tw10585712902226500104:True:=⟨⟩
theorem tw8262538103667074243:True:=⟨⟩
theorem tw4939371261575965165:True:=⟨⟩
theorem tw7266900283844748415:True:=⟨⟩
theorem tw13146049527969796699:True:=⟨⟩
theorem tw18335500566255129917:True:=⟨⟩
theorem tw15805580524334751415:True:=⟨⟩
theorem tw14705119022308045923:True:=⟨⟩
theorem tw11501905380483569554:True:=⟨⟩
theorem tw17337646235170513369:True:=⟨⟩
theorem tw183598213058839327:True:=⟨⟩
theorem tw13942125509660330074:True:=⟨⟩
theorem tw1633521761501557526:True:=⟨⟩
theorem tw11291925287420811233:True:=⟨⟩
theorem tw10639889274392209834:True:=⟨⟩
theorem tw9507691301575526514:True:=⟨⟩
theorem tw15634167327748736303:True:=⟨⟩
theorem tw13071798685166613466:True:=⟨⟩
theorem tw12556257586668748298:True:=⟨⟩
theorem tw2090552041221989752:True:=⟨⟩
theorem tw8162372600351280760:True:=⟨⟩
theorem tw14882578336481954562:True:=⟨⟩
theorem tw5023081526956551720:True:=⟨⟩
theorem tw9616350623719987501:True:=⟨⟩
theorem tw10485689072138173026:True:=⟨⟩
theorem tw6624915379169844546:True:=⟨⟩
theorem tw15629358399152705333:True:=⟨⟩
theorem tw16137215950595170843:True:=⟨⟩
theorem tw3705332812343789350:True:=⟨⟩
theorem tw5159983664925143526:True:=⟨⟩
theorem tw17291948562861046519:True:=⟨⟩
theorem tw8466558997471020648:True:=⟨⟩
theorem tw13379406665890384720:True:=⟨⟩
theorem tw15259539939424881608:True:=⟨⟩
theorem tw2289569413381619270:True:=⟨⟩
theorem tw2819608355970341774:True:=⟨⟩
theorem tw10555766681232349557:True:=⟨⟩
theorem tw9483252809560987606:True:=⟨⟩
theorem tw16666504888823775211:True:=⟨⟩
theorem tw17980314656790846244:True:=⟨⟩
theorem tw7282910521847853072:True:=⟨⟩
theorem tw4914720821072371250:True:=⟨⟩
theorem tw10854905752333730533:True:=⟨⟩
theorem tw5562330242898056126:True:=⟨⟩
theorem tw7297869012938862907:True:=⟨⟩
theorem tw16876267616932483955:True:=⟨⟩
theorem tw4342784560052602417:True:=⟨⟩
theorem tw1791035569323098094:True:=⟨⟩
theorem tw16643379805522288085:True:=⟨⟩
theorem tw12105631682970835767:True:=⟨⟩
theorem tw8113386514020279327:True:=⟨⟩
theorem tw6920547715506349030:True:=⟨⟩
theorem tw14489342535330925235:True:=⟨⟩
theorem tw8609655338457578985:True:=⟨⟩
theorem tw16789293930416762448:True:=⟨⟩
theorem tw16912268663681831739:True:=⟨⟩
theorem tw3648395752589778161:True:=⟨⟩
theorem tw1344236526458898448:True:=⟨⟩
theorem tw10626896197420318140:True:=⟨⟩
theorem tw4271109076278512463:True:=⟨⟩
theorem tw13765097483680849320:True:=⟨⟩
theorem tw10807922645582282916:True:=⟨⟩
theorem tw15622068414048267568:True:=⟨⟩
theorem tw3936681494472130748:True:=⟨⟩
theorem tw17978592301117897659:True:=⟨⟩
theorem tw12754773276904134629:True:=⟨⟩
theorem tw1869641534310262197:True:=⟨⟩
theorem tw18351122220844176592:True:=⟨⟩
theorem tw4638372992406395782:True:=⟨⟩
theorem tw11294137084836992019:True:=⟨⟩
theorem tw3088435753909186555:True:=⟨⟩
theorem tw15675675758575293529:True:=⟨⟩
theorem tw11470447574196483763:True:=⟨⟩
theorem tw10762329842255638603:True:=⟨⟩
theorem tw12396846207434721317:True:=⟨⟩
theorem tw13066828637376412156:True:=⟨⟩
theorem tw1315004544133500:True:=⟨⟩
theorem tw16877389659831596145:True:=⟨⟩
theorem tw7582629642759822404:True:=⟨⟩
theorem tw3119460750281104042:True:=⟨⟩
theorem tw3869590103720096659:True:=⟨⟩
theorem tw3925570784985050140:True:=⟨⟩
theorem tw2478637342284583351:True:=⟨⟩
theorem tw5889320798137552480:True:=⟨⟩
theorem tw3332396234953138202:True:=⟨⟩
theorem tw17934596586514294134:True:=⟨⟩
theorem tw11727442344433009241:True:=⟨⟩
theorem tw13980971122159231599:True:=⟨⟩
theorem tw5918235448234244967:True:=⟨⟩
theorem tw13593182937208228726:True:=⟨⟩
theorem tw217909719641995766:True:=⟨⟩
theorem tw10568885347756929122:True:=⟨⟩
theorem tw17786158521125167502:True:=⟨⟩
theorem tw7106102118423948860:True:=⟨⟩
theorem tw4962296622658180086:True:=⟨⟩
theorem tw4591502799139644529:True:=⟨⟩
theorem tw10811146846215561701:True:=⟨⟩
theorem tw444292226375725073:True:=⟨⟩
theorem tw12831390115975009192:True:=⟨⟩
theorem tw10339057882064223145:True:=⟨⟩
theorem tw4482978026649172634:True:=⟨⟩
theorem tw17189028134744236732:True:=⟨⟩
theorem tw8161785815634024648:True:=⟨⟩
theorem tw6633726867317589665:True:=⟨⟩
theorem tw1496762269347000378:True:=⟨⟩
theorem tw9531940833933375361:True:=⟨⟩
theorem tw6784788547853583060:True:=⟨⟩
theorem tw5527807851223745032:True:=⟨⟩
theorem tw17064029543913225154:True:=⟨⟩
theorem tw3106924385745341167:True:=⟨⟩
theorem tw13222702443923929018:True:=⟨⟩
theorem tw854844331909410939:True:=⟨⟩
theorem tw4979248159664606298:True:=⟨⟩
theorem tw16413989123939011014:True:=⟨⟩
theorem tw17006147518615732259:True:=⟨⟩
theorem tw3779161524924044090:True:=⟨⟩
theorem tw10761143563814650435:True:=⟨⟩
theorem tw15627868670380407097:True:=⟨⟩
theorem tw18402010850054858702:True:=⟨⟩
theorem tw9734876490918738733:True:=⟨⟩
theorem tw4835847717780540002:True:=⟨⟩
theorem tw14428268589073717811:True:=⟨⟩
theorem tw8916443277242051584:True:=⟨⟩
theorem tw8033112228123082445:True:=⟨⟩
theorem tw1077322975550374741:True:=⟨⟩
theorem tw4167579808767844352:True:=⟨⟩
theorem tw6900938703941587752:True:=⟨⟩
theorem tw16171507108031938169:True:=⟨⟩
theorem tw1173736193411319221:True:=⟨⟩
theorem tw10908312746323097002:True:=⟨⟩
theorem tw4331763026577611115:True:=⟨⟩
theorem tw702192319389399409:True:=⟨⟩
theorem tw7625159997050873682:True:=⟨⟩
theorem tw16085326289759789654:True:=⟨⟩
theorem tw17470010318647816619:True:=⟨⟩
theorem tw8236766887328610504:True:=⟨⟩
theorem tw1621038741607918649:True:=⟨⟩
theorem tw6046900495322927844:True:=⟨⟩
theorem tw4142508661479891723:True:=⟨⟩
theorem tw7296628208237367406:True:=⟨⟩
theorem tw6110236965125215892:True:=⟨⟩
theorem tw14803396724211311144:True:=⟨⟩
theorem tw2746113585346773689:True:=⟨⟩
theorem tw14537418108771458670:True:=⟨⟩
theorem tw2475667017340111609:True:=⟨⟩
theorem tw9942440537472522780:True:=⟨⟩
theorem tw10343274825980241886:True:=⟨⟩
theorem tw17357992261523638845:True:=⟨⟩
theorem tw15784960964726480439:True:=⟨⟩
theorem tw11791939801848147333:True:=⟨⟩
theorem tw7553185287575258513:True:=⟨⟩
theorem tw15175730322132055606:True:=⟨⟩
theorem tw16544422557305027032:True:=⟨⟩
theorem tw8947868726680611582:True:=⟨⟩
theorem tw8685140925463520042:True:=⟨⟩
theorem tw10490149683839077417:True:=⟨⟩
theorem tw15770511134693686951:True:=⟨⟩
theorem tw3673605762810101814:True:=⟨⟩
theorem tw15467737233788286454:True:=⟨⟩
theorem tw3626568133044178346:True:=⟨⟩
theorem tw1421770584889657874:True:=⟨⟩
theorem tw4128180218785514294:True:=⟨⟩
theorem tw159631264557806477:True:=⟨⟩
theorem tw5099685684442558070:True:=⟨⟩
theorem tw6461475312643752576:True:=⟨⟩
theorem tw12204545019747298093:True:=⟨⟩
theorem tw13541278977811419891:True:=⟨⟩
theorem tw17784548303146888782:True:=⟨⟩
theorem tw9111690568442810572:True:=⟨⟩
theorem tw16870688278326310263:True:=⟨⟩
theorem tw1848042668504220096:True:=⟨⟩
theorem tw240602253783387353:True:=⟨⟩
theorem tw8312228871368687389:True:=⟨⟩
theorem tw15171350298256528933:True:=⟨⟩
theorem tw2637063183920359049:True:=⟨⟩
theorem tw17817830670240571972:True:=⟨⟩
theorem tw1814534929757307452:True:=⟨⟩
theorem tw7551711597788240456:True:=⟨⟩
theorem tw14057399583935250735:True:=⟨⟩
theorem tw11454188548484194518:True:=⟨⟩
theorem tw9429587076387920687:True:=⟨⟩
theorem tw11137849778044707441:True:=⟨⟩
end PySem.W.Fast
open PySem PySem.W PyProof.Rows
set_option maxRecDepth 100000 in
set_option maxHeartbeats 0 in
theorem PySem.Challenge.cw_flagroll_k37_rings_holds : PySem.Challenge.rw_flagroll_k37_rings.Holds := by
  w_on; o_law; k_head; (case hw => w_witness2)
  k_fill
  refine L2.pZ (l := PySem.Challenge.rw_flagroll_k37_rings) (T := Law.T) (n := 16) (f := Law.w4) (x := Law.sR) rfl rfl ⟨fun _ => rfl, by decide, by decide⟩ (fun w h Y => PySem.W.kIn_of Y) ?F Law.holds
  case F =>
    intro w mg fa h KX G hmg
    refine' Law.all_mk KX G hmg (Law.dfo Law.c23 rfl (fun _ _ _ _ _ _ => Law.ln4 fun _ _ _ _ => rfl) KX G ?a23 ?l23 ?e23 ?k23) (Law.dfo Law.c24 rfl (fun _ _ _ _ _ _ => Law.ln1 fun _ => rfl) KX G ?a24 ?l24 ?e24 ?k24) (Law.dfo Law.c25 rfl (fun _ _ _ _ _ _ => Law.ln2 fun _ _ => rfl) KX G ?a25 ?l25 ?e25 ?k25) (Law.dfo Law.c26 rfl (fun _ _ _ _ _ _ => Law.ln2 fun _ _ => rfl) KX G ?a26 ?l26 ?e26 ?k26) (Law.dfo Law.c27 rfl (fun _ _ _ _ _ _ => Law.ln2 fun _ _ => rfl) KX G ?a27 ?l27 ?e27 ?k27) (Law.dfo Law.c28 rfl (fun _ _ _ _ _ _ => Law.ln1 fun _ => rfl) KX G ?a28 ?l28 ?e28 ?k28) (Law.dfo Law.c29 rfl (fun _ _ _ _ _ _ => Law.ln2 fun _ _ => rfl) KX G ?a29 ?l29 ?e29 ?k29) (Law.dfo Law.c30 rfl (fun _ _ _ _ _ _ => Law.ln3 fun _ _ _ => rfl) KX G ?a30 ?l30 ?e30 ?k30) (Law.dfo Law.c31 rfl (fun _ _ _ _ _ _ => Law.ln1 fun _ => rfl) KX G ?a31 ?l31 ?e31 ?k31) (Law.dfo Law.c32 rfl (fun _ _ _ _ _ _ => Law.ln2 fun _ _ => rfl) KX G ?a32 ?l32 ?e32 ?k32) (Law.dfo Law.c33 rfl (fun _ _ _ _ _ _ => Law.ln1 fun _ => rfl) KX G ?a33 ?l33 ?e33 ?k33) (Law.dfo Law.c34 rfl (fun _ _ _ _ _ _ => Law.ln1 fun _ => rfl) KX G ?a34 ?l34 ?e34 ?k34) (Law.dfo Law.c35 rfl (fun _ _ _ _ _ _ => Law.ln3 fun _ _ _ => rfl) KX G ?a35 ?l35 ?e35 ?k35) (Law.dfo Law.c36 rfl (fun _ _ _ _ _ _ => Law.ln2 fun _ _ => rfl) KX G ?a36 ?l36 ?e36 ?k36) (Law.dfo Law.c37 rfl (fun _ _ _ _ _ _ => Law.ln1 fun _ => rfl) KX G ?a37 ?l37 ?e37 ?k37) (Law.dfo Law.c38 rfl (fun _ _ _ _ _ _ => Law.ln2 fun _ _ => rfl) KX G ?a38 ?l38 ?e38 ?k38) (Law.dfo Law.c39 rfl (fun _ _ _ _ _ _ => Law.ln3 fun _ _ _ => rfl) KX G ?a39 ?l39 ?e39 ?k39) (Law.dfo Law.c40 rfl (fun _ _ _ _ _ _ => Law.ln1 fun _ => rfl) KX G ?a40 ?l40 ?e40 ?k40) (Law.dfo Law.c41 rfl (fun _ _ _ _ _ _ => Law.ln1 fun _ => rfl) KX G ?a41 ?l41 ?e41 ?k41) (Law.dfo Law.c42 rfl (fun _ _ _ _ _ _ => Law.ln2 fun _ _ => rfl) KX G ?a42 ?l42 ?e42 ?k42) ?a43 ?l43 ?e43 ?k43 ?q21 ?q22 ?u44 ?u45 ?u47 ?u48 ?u49 ?u46 ?i44 ?il44 ?ie44 ?ik44 ?vn44 ?vg44 ?vo44 ?vc44 ?vb44 ?vj44 ?vi44 ?vx44 ?vs44 ?va44 ?vd44 ?vl44 ?it44 ?y44_45 ?y44_46 ?y44_47 ?y44_48 ?y44_49 ?m44_44 ?z0 ?z1 ?z2 ?z3 ?z4 ?z5 ?z6 ?z7 ?z8 ?z9 ?z10 ?z11 ?z12 ?z13 ?z14 ?z15 ?z16 ?z17 ?z18 ?z19 ?z20
    (case a23 => k_is)
    (case l23 => k_is)
    (case e23 => k_is)
    (case k23 => k_is)
    (case a24 => k_is)
    (case l24 => k_is)
    (case e24 => k_is)
    (case k24 => k_is)
    (case a25 => k_is)
    (case l25 => k_is)
    (case e25 => k_is)
    (case k25 => k_is)
    (case a26 => k_is)
    (case l26 => k_is)
    (case e26 => k_is)
    (case k26 => k_is)
    (case a27 => k_is)
    (case l27 => k_is)
    (case e27 => k_is)
    (case k27 => k_is)
    (case a28 => k_is)
    (case l28 => k_is)
    (case e28 => k_is)
    (case k28 => k_is)
    (case a29 => k_is)
    (case l29 => k_is)
    (case e29 => k_is)
    (case k29 => k_is)
    (case a30 => k_is)
    (case l30 => k_is)
    (case e30 => k_is)
    (case k30 => k_is)
    (case a31 => k_is)
    (case l31 => k_is)
    (case e31 => k_is)
    (case k31 => k_is)
    (case a32 => k_is)
    (case l32 => k_is)
    (case e32 => k_is)
    (case k32 => k_is)
    (case a33 => k_is)
    (case l33 => k_is)
    (case e33 => k_is)
    (case k33 => k_is)
    (case a34 => k_is)
    (case l34 => k_is)
    (case e34 => k_is)
    (case k34 => k_is)
    (case a35 => k_is)
    (case l35 => k_is)
    (case e35 => k_is)
    (case k35 => k_is)
    (case a36 => k_is)
    (case l36 => k_is)
    (case e36 => k_is)
    (case k36 => k_is)
    (case a37 => k_is)
    (case l37 => k_is)
    (case e37 => k_is)
    (case k37 => k_is)
    (case a38 => k_is)
    (case l38 => k_is)
    (case e38 => k_is)
    (case k38 => k_is)
    (case a39 => k_is)
    (case l39 => k_is)
    (case e39 => k_is)
    (case k39 => k_is)
    (case a40 => k_is)
    (case l40 => k_is)
    (case e40 => k_is)
    (case k40 => k_is)
    (case a41 => k_is)
    (case l41 => k_is)
    (case e41 => k_is)
    (case k41 => k_is)
    (case a42 => k_is)
    (case l42 => k_is)
    (case e42 => k_is)
    (case k42 => k_is)
    (case a43 => k_is)
    (case l43 => k_is)
    (case e43 => k_is)
    (case k43 => k_is)
    (case q21 => k_is)
    (case q22 => k_is)
    (case u44 => k_is)
    (case u45 => k_is)
    (case u47 => k_is)
    (case u48 => k_is)
    (case u49 => k_is)
    (case u46 => k_is)
    (case i44 => k_is)
    (case il44 => k_is)
    (case ie44 => k_is)
    (case ik44 => k_is)
    (case vn44 => kernel_rfl)
    (case vg44 => kernel_rfl)
    (case vo44 => kernel_rfl)
    (case vc44 => kernel_rfl)
    (case vb44 => kernel_rfl)
    (case vj44 => kernel_rfl)
    (case vi44 => kernel_rfl)
    (case vx44 => kernel_rfl)
    (case vs44 => kernel_rfl)
    (case va44 => kernel_rfl)
    (case vd44 => kernel_rfl)
    (case vl44 => kernel_rfl)
    (case it44 => kernel_rfl)
    (case y44_45 => kernel_rfl)
    (case y44_46 => kernel_rfl)
    (case y44_47 => kernel_rfl)
    (case y44_48 => kernel_rfl)
    (case y44_49 => kernel_rfl)
    (case m44_44 => kernel_rfl)
    (case z0 => k_is)
    (case z1 => k_is)
    (case z2 => k_is)
    (case z3 => k_is)
    (case z4 => k_is)
    (case z5 => k_is)
    (case z6 => k_is)
    (case z7 => k_is)
    (case z8 => k_is)
    (case z9 => k_is)
    (case z10 => k_is)
    (case z11 => k_is)
    (case z12 => k_is)
    (case z13 => k_is)
    (case z14 => k_is)
    (case z15 => k_is)
    (case z16 => k_is)
    (case z17 => k_is)
    (case z18 => k_is)
    (case z19 => k_is)
    (case z20 => k_is)
#print axioms PySem.Challenge.cw_flagroll_k37_rings_holds
